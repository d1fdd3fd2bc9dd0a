/- DiskFull: a disk takes what it has room for, whatever the room and the texts. -/
import Derived.Test.YtdpcajkbhgcehaaDiskTake
import Derived.SizedLaws

import Derived.Test.YtdpcajkbhgcehaaLawEnd

import Derived.Test.YtdpcajkbhgcehaaPlainKit

namespace Go.Proofs.Ytdpcajkbhgcehaa.fnDiskFull
open Go.ChangeShapes Go.WideShapes Go.ChangeAt Go.RowKit Go.WideMaps Go.WideElems
open Go.ChangeMaps (open_string)

open Go.Maps
def sAf : ByteArray := ⟨#[97]⟩
def sBf : ByteArray := ⟨#[98]⟩
theorem ab_ne : ¬ sk sBf = sk sAf := fun h => by simp [sk, sAf, sBf] at h
theorem bel_tch {w0 w w' : World} {S : Nat → Prop} (hb : Below w0.heap.size w0 w) (t : Tch w w' S) (h : ∀ i, S i → w0.heap.size ≤ i) : Below w0.heap.size w0 w' :=
  ⟨t.os.trans hb.os, t.tape.trans hb.tape, t.output.trans hb.output, Nat.le_trans hb.size t.size, fun i hi => (t.block i (Nat.lt_of_lt_of_le hi hb.size) (fun e => by have := h i e; omega)).trans (hb.block i hi)⟩
/-- "a" alone is there -/
def StA (w0 w : World) (p : Nat) (M : Int) (n : Nat) : Prop :=
  ∃ (L m : Nat) (v chg : Value) (xs cs : List Value), DiskAt w p M (.map (some L)) chg (.map (some m)) (n : Int) ∧ FM w m 1 (empF.put (sk sAf) (hd v)) ∧ w.ownsRow w0.heap.size 5 1 v n xs ∧ w.ownsRow w0.heap.size 81 1 chg 1 cs ∧ w0.heap.size ≤ m ∧ w0.heap.size ≤ p ∧ Below w0.heap.size w0 w
/-- "a" was there -/
def StD (w0 w : World) (p : Nat) (M : Int) : Prop :=
  ∃ (L m : Nat) (d : DataW Unit) (chg : Value) (cs : List Value), DiskAt w p M (.map (some L)) chg (.map (some m)) 0 ∧ FM w m 1 ((empF.put (sk sAf) d).del (sk sAf)) ∧ w.ownsRow w0.heap.size 81 1 chg 2 cs ∧ w0.heap.size ≤ m ∧ w0.heap.size ≤ p ∧ Below w0.heap.size w0 w
theorem step_a (w0 w : World) (p : Nat) (M : Int) (a : ByteArray) (hb : Below w0.heap.size w0 w) (hp : w0.heap.size ≤ p) (hk : DiskAt w p M (.map none) (.slice none 0 0) (.map none) 0) (ha : a.size ≤ 140737488351232) (hM : M ≤ 9223372036854775807) (hfit : (a.size : Int) ≤ M) :
    Calls Try.prog 17 #[.pointer (some ⟨p, 0, none⟩), .string sAf, .string a] w fun e w' => e = .returned (.int .i64 0) ∧ StA w0 w' p M a.size := by
  refine (append_first p w0.heap.size M sAf a w hk (by decide) (by decide) hb.size ha hfit hM).mono ?_
  rintro e w' ⟨he, L, m, v, chg, q1, q2, q3, q4, _, t, hL⟩
  rw [Nat.zero_add] at q3
  exact ⟨he, L, m, v, chg, _, _, q1, q2, q3, q4, Nat.le_trans hb.size hL.2, hp, bel_tch hb t (fun i e => by omega)⟩
theorem step_b0 (w0 w : World) (p : Nat) (M : Int) (b : ByteArray) (hb : Below w0.heap.size w0 w) (hp : w0.heap.size ≤ p) (hk : DiskAt w p M (.map none) (.slice none 0 0) (.map none) 0) (hbs : b.size ≤ 140737488351232) (hM : M ≤ 9223372036854775807) (hfit : (b.size : Int) ≤ M) :
    Calls Try.prog 17 #[.pointer (some ⟨p, 0, none⟩), .string sBf, .string b] w fun e w' => e = .returned (.int .i64 0) ∧ Below w0.heap.size w0 w' := by
  refine (append_first p w0.heap.size M sBf b w hk (by decide) (by decide) hb.size hbs hfit hM).mono ?_
  rintro e w' ⟨he, L, m, v, chg, q1, q2, q3, q4, _, t, hL⟩
  exact ⟨he, bel_tch hb t (fun i e => by omega)⟩
theorem step_ab (w0 w : World) (p : Nat) (M : Int) (n : Nat) (b : ByteArray) (h : StA w0 w p M n) (hbs : b.size ≤ 140737488351232) (hM : M ≤ 9223372036854775807) (hfit : (b.size : Int) ≤ M - n) :
    Calls Try.prog 17 #[.pointer (some ⟨p, 0, none⟩), .string sBf, .string b] w fun e w' => e = .returned (.int .i64 0) ∧ Below w0.heap.size w0 w' := by
  obtain ⟨L, m, v, chg, xs, cs, hk, hf, hr, hc, hm, hp, hb⟩ := h
  refine (append_some p L m 1 w0.heap.size 0 M n chg (.slice none 0 0) [] cs 1 _ sBf b w hk hf (by unfold maxLen; omega) (by rw [Maps.atKey_put_other ab_ne]; rfl) (row_nil _ _ _) (by omega) hc (by omega) (by omega) (by decide) (by decide) hb.size hbs hfit hM).mono ?_
  rintro e w' ⟨he, v3, chg3, q1, q2, q3, q4, t, _⟩
  refine ⟨he, bel_tch hb t (fun i e => ?_)⟩
  rcases e with e | e | e | e
  · omega
  · omega
  · cases e
  · exact (hc.lt i e.symm).1
theorem step_no (w0 w : World) (p : Nat) (M : Int) (n : Nat) (b : ByteArray) (h : StA w0 w p M n) (hM : M ≤ 9223372036854775807) (hn : (n : Int) ≤ M) (hfit : ¬ (b.size : Int) ≤ M - n) :
    Calls Try.prog 17 #[.pointer (some ⟨p, 0, none⟩), .string sBf, .string b] w fun e w' => e = .returned (.int .i64 40) ∧ StA w0 w' p M n := by
  obtain ⟨L, m, v, chg, xs, cs, hk, hf, hr, hc, hm, hp, hb⟩ := h
  refine (append_no p M n _ _ _ sBf b w hk (by decide) (by decide) ⟨by omega, hn⟩ hfit hM).mono ?_
  rintro e w' ⟨he, hb2⟩
  have t := tch_below (fun _ => False) hb2
  exact ⟨he, L, m, v, chg, xs, cs, hk.tch t (fun e => e), fm_tch hf t (fun e => e), row_tch hr t (fun _ _ e => e), row_tch hc t (fun _ _ e => e), hm, hp, hb.trans (hb2.mono hb.size)⟩
theorem step_read (w0 w : World) (p : Nat) (M : Int) (n : Nat) (h : StA w0 w p M n) :
    Calls Try.prog 14 #[.pointer (some ⟨p, 0, none⟩), .string sBf] w fun e w' => e = .returned (.tuple #[.string ⟨#[]⟩, .int .i64 41]) ∧ w = w' := by
  obtain ⟨L, m, v, chg, xs, cs, hk, hf, hr, hc, hm, hp, hb⟩ := h
  exact read_not p sBf w (holds_any p m 1 M n _ chg (.slice none 0 0) _ sBf w hk hf (by decide) false (by rw [Maps.has_put_other ab_ne]; rfl) (by rw [Maps.atKey_put_other ab_ne]; rfl))
theorem step_used (w0 w : World) (p : Nat) (M : Int) (n : Nat) (h : StA w0 w p M n) : Calls Try.prog 22 #[.pointer (some ⟨p, 0, none⟩)] w fun e w' => e = .returned (.int .i64 n) ∧ w = w' := by
  obtain ⟨L, m, v, chg, xs, cs, hk, _⟩ := h
  exact used_at p M n _ _ _ w hk
theorem step_del (w0 w : World) (p : Nat) (M : Int) (n : Nat) (h : StA w0 w p M n) (hn : n ≤ 140737488351232) :
    Calls Try.prog 19 #[.pointer (some ⟨p, 0, none⟩), .string sAf] w fun e w' => e = .returned (.int .i64 0) ∧ StD w0 w' p M := by
  obtain ⟨L, m, v, chg, xs, cs, hk, hf, hr, hc, hm, hp, hb⟩ := h
  refine (delete_yes p L m 1 w0.heap.size n M n chg v xs cs 1 _ sAf w hk hf (by decide) (Maps.has_put_same ⟨[], rfl⟩ (sk_key sAf) _) (by rw [put_at]; exact hdr_row hr) hr hb.size hc (by omega) ⟨by omega, by omega⟩).mono ?_
  rintro e w' ⟨he, chg', q1, q2, q3, t⟩
  rw [Int.sub_self] at q1
  refine ⟨he, L, m, hd v, chg', _, q1, q2, q3, hm, hp, bel_tch hb t (fun i e => ?_)⟩
  rcases e with e | e | e
  · omega
  · omega
  · exact (hc.lt i e.symm).1
theorem step_none (w0 w : World) (p : Nat) (M : Int) (a name : ByteArray) (h1 : 1 ≤ name.size) (h2 : name.size ≤ 64) (hb : Below w0.heap.size w0 w) (hp : w0.heap.size ≤ p) (hk : DiskAt w p M (.map none) (.slice none 0 0) (.map none) 0) (hM : 0 ≤ M ∧ M ≤ 9223372036854775807) (hfit : ¬ (a.size : Int) ≤ M) :
    Calls Try.prog 17 #[.pointer (some ⟨p, 0, none⟩), .string name, .string a] w fun e w' => e = .returned (.int .i64 40) ∧ Below w0.heap.size w0 w' ∧ w0.heap.size ≤ p ∧ DiskAt w' p M (.map none) (.slice none 0 0) (.map none) 0 := by
  refine (append_no p M 0 _ _ _ name a w hk h1 h2 ⟨by omega, by omega⟩ (by omega) hM.2).mono ?_
  rintro e w' ⟨he, hb2⟩
  exact ⟨he, hb.trans (hb2.mono hb.size), hp, hk.tch (tch_below (fun _ => False) hb2) (fun e => e)⟩
theorem step_again (w0 w : World) (p : Nat) (M : Int) (b : ByteArray) (h : StD w0 w p M) (hbs : b.size ≤ 140737488351232) (hM : 0 ≤ M ∧ M ≤ 9223372036854775807) :
    Calls Try.prog 17 #[.pointer (some ⟨p, 0, none⟩), .string sBf, .string b] w fun e w' => e = .returned (.int .i64 (if (b.size : Int) ≤ M then 0 else 40)) ∧ Below w0.heap.size w0 w' := by
  obtain ⟨L, m, d, chg, cs, hk, hf, hc, hm, hp, hb⟩ := h
  by_cases hfit : (b.size : Int) ≤ M
  · rw [if_pos hfit]
    refine (append_some p L m 1 w0.heap.size 0 M 0 chg (.slice none 0 0) [] cs 2 _ sBf b w hk hf (by unfold maxLen; omega) (by rw [Maps.atKey_del_other ab_ne, Maps.atKey_put_other ab_ne]; rfl) (row_nil _ _ _) (by omega) hc (by omega) (by omega) (by decide) (by decide) hb.size hbs (by omega) hM.2).mono ?_
    rintro e w' ⟨he, v3, chg3, q1, q2, q3, q4, t, _⟩
    refine ⟨he, bel_tch hb t (fun i e => ?_)⟩
    rcases e with e | e | e | e
    · omega
    · omega
    · cases e
    · exact (hc.lt i e.symm).1
  · rw [if_neg hfit]
    refine (append_no p M 0 _ _ _ sBf b w hk (by decide) (by decide) ⟨by omega, by omega⟩ (by omega) hM.2).mono ?_
    rintro e w' ⟨he, hb2⟩
    exact ⟨he, hb.trans (hb2.mono hb.size)⟩
theorem empty_no {b : ByteArray} (h : ¬ b = ByteArray.empty) : ¬ (b.size : Int) ≤ 0 := fun hle => h (ByteArray.ext (Array.eq_empty_of_size_eq_zero (by have : b.data.size = b.size := rfl; omega)))
set_option maxRecDepth 100000 in
set_option maxHeartbeats 4000000 in
theorem walk (room : Int) (a b : ByteArray) (W : World) (hroom : -9223372036854775808 ≤ room ∧ room ≤ 9223372036854775807) (ha : a.size ≤ 140737488351232) (hb : b.size ≤ 140737488351232) :
    Calls Try.prog 6 #[.int .i64 room, .string a, .string b] W fun e w' => e = .returned (.bool true) ∧ Below W.heap.size W w' := by
  go_enter Try.func6, Try.ntmps6
  go_wp2_with (fail)
  refine (dspeaks W).mono ?_
  rintro e w1 ⟨rfl, hb1⟩
  have HB1 := Lib.hid hb1
  clear hb1
  go_wp2_with (fail)
  refine (dnew_any room w1).mono ?_
  rintro e w2 ⟨rfl, hk2, hb2⟩
  have HB2 : Hid (Below W.heap.size W w2 ∧ W.heap.size ≤ w1.heap.size) := Lib.hid ⟨HB1.out.trans (hb2.mono HB1.out.size), HB1.out.size⟩
  obtain ⟨M, hM⟩ : ∃ M : Int, M = max room 0 := ⟨_, rfl⟩
  rw [← hM] at hk2
  have HM : 0 ≤ M ∧ M ≤ 9223372036854775807 := by omega
  have HK2 := Lib.hid hk2
  clear hk2 hb2
  obtain ⟨p, hp⟩ : ∃ p, p = w1.heap.size := ⟨_, rfl⟩
  rw [← hp] at HK2 HB2 ⊢
  clear hp HB1
  rcases Int.lt_or_le room 0 with hr | hr
  · obtain rfl : M = 0 := by omega
    clear hM
    by_cases hea : a = ByteArray.empty
    · subst hea
      have hfa : ((ByteArray.empty.size : Nat) : Int) ≤ 0 := by decide
      have hx := step_a W w2 p 0 ByteArray.empty HB2.out.1 HB2.out.2 HK2.out ha HM.2 hfa
      go_wp2_with (fail)
      refine hx.mono ?_
      rintro e w3 ⟨rfl, hA⟩
      have HA := Lib.hid hA
      clear hA hx HK2 HB2
      by_cases heb : b = ByteArray.empty
      · subst heb
        have hfb : ((ByteArray.empty.size : Nat) : Int) ≤ 0 - ((ByteArray.empty.size : Nat) : Int) := by decide
        have hy := step_ab W w3 p 0 ByteArray.empty.size ByteArray.empty HA.out hb HM.2 hfb
        go_wp2_with (fail)
        refine hy.mono ?_
        rintro e w4 ⟨rfl, h4⟩
        have H4 := Lib.hid h4
        clear h4 hy HA
        go_wp2
        go_ret
        exact ⟨rfl, H4.out⟩
      · have hnb := empty_no heb
        have hy := step_no W w3 p 0 ByteArray.empty.size b HA.out HM.2 hfa (by rw [show ((ByteArray.empty.size : Nat) : Int) = 0 by decide, Int.sub_zero]; exact hnb)
        go_wp2_with (fail)
        refine hy.mono ?_
        rintro e w4 ⟨rfl, h4⟩
        have H4 := Lib.hid h4
        have hrd := step_read W w4 p 0 ByteArray.empty.size h4
        clear h4 hy HA
        go_wp2_with (fail)
        refine hrd.mono ?_
        rintro e w5 ⟨rfl, rfl⟩
        have hus := step_used W w4 p 0 ByteArray.empty.size H4.out
        clear hrd
        go_wp2_with (fail)
        refine hus.mono ?_
        rintro e w5 ⟨rfl, rfl⟩
        have hde := step_del W w4 p 0 ByteArray.empty.size H4.out ha
        clear hus H4
        go_wp2_with (fail)
        refine hde.mono ?_
        rintro e w6 ⟨rfl, h6⟩
        have hag := step_again W w6 p 0 b h6 hb HM
        clear h6 hde
        rw [if_neg (show ¬ (b.size : Int) ≤ 0 by omega)] at hag
        go_wp2_with (fail)
        refine hag.mono ?_
        rintro e w7 ⟨rfl, h7⟩
        have H7 := Lib.hid h7
        clear h7 hag
        go_wp2
        go_ret
        exact ⟨rfl, H7.out⟩
    · have hna := empty_no hea
      have hx := step_none W w2 p 0 a sAf (by decide) (by decide) HB2.out.1 HB2.out.2 HK2.out HM hna
      go_wp2_with (fail)
      refine hx.mono ?_
      rintro e w3 ⟨rfl, hA⟩
      have HA := Lib.hid hA
      clear hA hx HK2 HB2
      by_cases heb : b = ByteArray.empty
      · subst heb
        have hy := step_b0 W w3 p 0 ByteArray.empty HA.out.1 HA.out.2.1 HA.out.2.2 hb HM.2 (by decide)
        go_wp2_with (fail)
        refine hy.mono ?_
        rintro e w4 ⟨rfl, h4⟩
        have H4 := Lib.hid h4
        clear h4 hy HA
        go_wp2
        go_ret
        exact ⟨rfl, H4.out⟩
      · have hnb := empty_no heb
        have hy := step_none W w3 p 0 b sBf (by decide) (by decide) HA.out.1 HA.out.2.1 HA.out.2.2 HM hnb
        go_wp2_with (fail)
        refine hy.mono ?_
        rintro e w4 ⟨rfl, h4⟩
        have H4 := Lib.hid h4
        have hrd := read_not p sBf w4 (holds_nil p 0 0 _ _ sBf w4 h4.2.2 (by decide))
        clear h4 hy HA
        go_wp2_with (fail)
        refine hrd.mono ?_
        rintro e w5 ⟨rfl, rfl⟩
        have hus := used_at p 0 0 _ _ _ w4 H4.out.2.2
        clear hrd
        go_wp2_with (fail)
        refine hus.mono ?_
        rintro e w5 ⟨rfl, rfl⟩
        clear hus
        go_wp2
        go_ret
        exact ⟨rfl, H4.out.1⟩
  · obtain rfl : M = room := by omega
    clear hM
    have hlo : ¬ M < 0 := by omega
    by_cases hfa : (a.size : Int) ≤ M
    · have hx := step_a W w2 p M a HB2.out.1 HB2.out.2 HK2.out ha HM.2 hfa
      have hw1 : wrap64 (M - (a.size : Int)) = M - (a.size : Int) := IntWalk.wrap64_in _ ⟨by omega, by omega⟩
      go_wp2_with (fail)
      refine hx.mono ?_
      rintro e w3 ⟨rfl, hA⟩
      have HA := Lib.hid hA
      clear hA hx HK2 HB2
      by_cases hfb : (b.size : Int) ≤ M - (a.size : Int)
      · have hy := step_ab W w3 p M a.size b HA.out hb HM.2 hfb
        go_wp2_with (fail)
        refine hy.mono ?_
        rintro e w4 ⟨rfl, h4⟩
        have H4 := Lib.hid h4
        clear h4 hy HA
        go_wp2
        go_ret
        exact ⟨rfl, H4.out⟩
      · have hy := step_no W w3 p M a.size b HA.out HM.2 hfa hfb
        go_wp2_with (fail)
        refine hy.mono ?_
        rintro e w4 ⟨rfl, h4⟩
        have H4 := Lib.hid h4
        have hrd := step_read W w4 p M a.size h4
        clear h4 hy HA
        go_wp2_with (fail)
        refine hrd.mono ?_
        rintro e w5 ⟨rfl, rfl⟩
        have hus := step_used W w4 p M a.size H4.out
        clear hrd
        go_wp2_with (fail)
        refine hus.mono ?_
        rintro e w5 ⟨rfl, rfl⟩
        have hde := step_del W w4 p M a.size H4.out ha
        clear hus H4
        go_wp2_with (fail)
        refine hde.mono ?_
        rintro e w6 ⟨rfl, h6⟩
        have hag := step_again W w6 p M b h6 hb HM
        clear h6 hde
        by_cases hbM : (b.size : Int) ≤ M
        · rw [if_pos hbM] at hag
          go_wp2_with (fail)
          refine hag.mono ?_
          rintro e w7 ⟨rfl, h7⟩
          have H7 := Lib.hid h7
          clear h7 hag
          go_wp2
          go_ret
          exact ⟨rfl, H7.out⟩
        · rw [if_neg hbM] at hag
          go_wp2_with (fail)
          refine hag.mono ?_
          rintro e w7 ⟨rfl, h7⟩
          have H7 := Lib.hid h7
          clear h7 hag
          go_wp2
          go_ret
          exact ⟨rfl, H7.out⟩
    · have hx := step_none W w2 p M a sAf (by decide) (by decide) HB2.out.1 HB2.out.2 HK2.out HM hfa
      have hw1 : wrap64 M = M := IntWalk.wrap64_in _ ⟨by omega, by omega⟩
      go_wp2_with (fail)
      refine hx.mono ?_
      rintro e w3 ⟨rfl, hA⟩
      have HA := Lib.hid hA
      clear hA hx HK2 HB2
      by_cases hfb : (b.size : Int) ≤ M
      · have hy := step_b0 W w3 p M b HA.out.1 HA.out.2.1 HA.out.2.2 hb HM.2 hfb
        go_wp2_with (fail)
        refine hy.mono ?_
        rintro e w4 ⟨rfl, h4⟩
        have H4 := Lib.hid h4
        clear h4 hy HA
        go_wp2
        go_ret
        exact ⟨rfl, H4.out⟩
      · have hy := step_none W w3 p M b sBf (by decide) (by decide) HA.out.1 HA.out.2.1 HA.out.2.2 HM hfb
        go_wp2_with (fail)
        refine hy.mono ?_
        rintro e w4 ⟨rfl, h4⟩
        have H4 := Lib.hid h4
        have hrd := read_not p sBf w4 (holds_nil p M 0 _ _ sBf w4 h4.2.2 (by decide))
        clear h4 hy HA
        go_wp2_with (fail)
        refine hrd.mono ?_
        rintro e w5 ⟨rfl, rfl⟩
        have hus := used_at p M 0 _ _ _ w4 H4.out.2.2
        clear hrd
        go_wp2_with (fail)
        refine hus.mono ?_
        rintro e w5 ⟨rfl, rfl⟩
        clear hus
        go_wp2
        go_ret
        exact ⟨rfl, H4.out.1⟩

set_option maxRecDepth 100000 in
theorem contract (H : Type) (enc : TypeId × Value → H) (W : World) (base : Nat) (args : Array Value) (ds gs : List (DataW H)) (before : List MemPlace)
    (hval : ∀ (j : Nat) t v, Try.f6.params[j]? = some t → args[j]? = some v → Value.okWide Try.prog W .any base t v)
    (hW : DataW.Whole enc Try.prog Try.f6.params.toList Rows.diskFullSpec.vars false W args.toList ds gs before)
    (hz : (DataW.weightsEach Try.prog (Try.f6.params.toList ++ []) (ds ++ gs)).all (· ≤ reachBytes) = true) :
    Calls Try.prog 6 args W fun e W' => ∃ v, e = .returned v ∧ Rows.diskFullSpec.post enc Try.prog Try.f6 false true false false W args v W' := by
  have hW' := hW
  obtain ⟨p, q, hA0, hV, rfl, hfz, hnd⟩ := hW
  have hA : DataW.TrodAll enc Try.prog W 0 (fun _ => true) true Try.f6.params.toList args.toList ds p := hA0
  rw [Try.params6] at hA hval hz
  obtain ⟨v0, vs0, d0, ds0, p0, q0, hargs, rfl, rfl, h0, r0⟩ := trodAll_cons hA
  obtain ⟨v1, vs1, d1, ds1, p1, q1, rfl, rfl, rfl, h1, r1⟩ := trodAll_cons r0
  obtain ⟨v2, vs2, d2, ds2, p2, q2, rfl, rfl, rfl, h2, r2⟩ := trodAll_cons r1
  obtain ⟨rfl, rfl, rfl⟩ := trodAll_nil r2
  obtain rfl : args = #[v0, v1, v2] := by cases args; simp_all
  obtain ⟨rfl, rfl⟩ := trodVars_none hV
  obtain ⟨x0, rfl, rfl, rfl, w0⟩ := open_int Try.underlying3 (hval 0 3 v0 rfl rfl) h0
  have b0 := i64_of_wf w0
  obtain ⟨x1, rfl, rfl, rfl, w1⟩ := open_string Try.underlying9 (hval 1 9 v1 rfl rfl) h1
  have b1 : x1.size ≤ 140737488351232 := by have := sized_string hz (j := 1) (t := 9) rfl rfl; simpa [reachBytes] using this
  obtain ⟨x2, rfl, rfl, rfl, w2⟩ := open_string Try.underlying9 (hval 2 9 v2 rfl rfl) h2
  have b2 : x2.size ≤ 140737488351232 := by have := sized_string hz (j := 2) (t := 9) rfl rfl; simpa [reachBytes] using this
  clear hA0
  refine (walk x0 x1 x2 W b0 b1 b2).mono fun e W' ⟨he, hb⟩ => ?_
  subst he
  exact ⟨_, rfl, law_end hW' rfl rfl hb laidOut (by kernel_rfl) (by kernel_rfl) Try.underlying4⟩

theorem reads (os : Os) {H : Type} (enc : TypeId × Value → H) : ∃ places, DataW.whole enc Try.prog ((World.holding Try.prog os ⟨#[], #[], []⟩).forCall (fun _ _ => 0) ⟨#[], #[.int .i64 0, .string ⟨#[]⟩, .string ⟨#[]⟩], []⟩).memory Try.f6.params.toList Rows.diskFullSpec.vars false [Value.int .i64 0, Value.string ⟨#[]⟩, Value.string ⟨#[]⟩] 8 = some ([.lit (.int .i64 0), .lit (.string []), .lit (.string [])], [], places) :=
  ⟨[], by kernel_rfl⟩

set_option maxRecDepth 100000 in
theorem lifted (os : Os) (started : os.Started) (H : Type) (enc : TypeId × Value → H) (F : Stop.Interp) :
    ReturnsInHanded {} Try.checked os 6 .any ((OpenSpec.ofChange Rows.diskFullSpec).preRow enc Try.prog Try.f6 Rows.diskFullRow.domain false Rows.diskFullRow.laid) (((OpenSpec.ofChange Rows.diskFullSpec).at F).post enc Try.prog Try.f6 false true false false) := by
  obtain ⟨places, hx⟩ := reads os enc
  have laid_met : laidMet Try.prog Rows.diskFullRow.laid ((World.holding Try.prog os ⟨#[], #[], []⟩).forCall (fun _ _ => 0) ⟨#[], #[.int .i64 0, .string ⟨#[]⟩, .string ⟨#[]⟩], []⟩).memory := ⟨[], rfl, List.nodup_nil, fun _ _ h => by cases h⟩
  refine returnsInHanded_of_row (C := Try.checked) (s := OpenSpec.ofChange Rows.diskFullSpec) own started (by kernel_rfl) Try.func6
    (witness_row_at (enc := enc) (C := Try.checked) false (World.holding Try.prog os ⟨#[], #[], []⟩) #[.int .i64 0, .string ⟨#[]⟩, .string ⟨#[]⟩] rfl (by kernel_rfl) (by kernel_rfl) (by kernel_rfl)
      (OpenSpec.preRow_of_cond 8 hx (by kernel_rfl) (fun k hk => by cases hk) (by kernel_rfl) laid_met)) ?_
  intro W base args ds gs before hval hW _ _ hz _ _ _
  exact contract H enc W base args ds gs before hval hW hz

theorem said : Rows.DiskFullSaid :=
  OpenClaim.holds_of_cond 6 Try.f6 rfl rfl rfl rfl rfl rfl rfl ⟨rfl, rfl, rfl, rfl, rfl⟩ rfl rfl rfl rfl rfl (by kernel_rfl) Try.func6 (by kernel_rfl)
    (of_decide_eq_true (by kernel_rfl)) (by unfold Func.isWrapper; first | (rw [if_pos (by decide +kernel)]; kernel_rfl) | (rw [if_neg (by decide +kernel)]; exact ⟨rfl, rfl⟩))
    (fun os started H enc _ F => by rw [OpenClaim.pre_eq_preRow]; exact lifted os started H enc F)

end Go.Proofs.Ytdpcajkbhgcehaa.fnDiskFull
