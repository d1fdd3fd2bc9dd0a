/- JournalStill: a second opening finds what the first one found, and leaves the disk as it left it. -/
import Derived.Test.YtppmlkgmoifgoaaGreatDoorJnlD
import Derived.Test.YtppmlkgmoifgoaaGreatDoorJnlC
import Derived.Test.YtppmlkgmoifgoaaGreatDoorLawEnd
namespace Go.Proofs.YtppmlkgmoifgoaaGreatDoor.fnJournalStill
open Go.ChangeShapes Go.WideShapes Go.ChangeAt Go.RowKit Go.WideMaps Go.WideElems
open Go.ChangeMaps (open_string)

noncomputable def laidWorld (os : Os) : World := laidWorldJ os
/-- so many records have been appended, those ahead of sy synced -/
def StM (W w : World) (j p : Nat) (bs : List (List UInt8)) (sn i : Nat) : Prop :=
  ∃ S n lst, i ≤ n ∧ n ≤ 10 + 2 * i ∧ JS W w j p S 1099511627776 n (oneL (fileC bs (endAt bs (min i sn)))) (pend bs (min i sn) (i - min i sn)) 0 ((0 : Nat) : Int) (i : Nat) lst
/-- what an opening found, in the law's box: it lies beside the disk -/
structure Fnd (w : World) (S : Nat → Prop) (q : Nat) (ao : Option Addr) (ca M B : Nat) (bm : List (List UInt8)) : Prop where
  box : w.heap[q]? = some (.cells #[.string ⟨#[]⟩, .slice ao M ca] 26 (0, 0))
  row : TextRow w B ao bm
  nq : ¬ S q
  ng : ∀ g, 0 < bm.length → ao = some ⟨g, 0, none⟩ → ¬ S g
theorem Fnd.step {w w' : World} {S S' : Nat → Prop} {q : Nat} {ao : Option Addr} {ca M B : Nat} {bm : List (List UInt8)} (h : Fnd w S q ao ca M B bm) (k : JP w w' S S') : Fnd w' S' q ao ca M B bm := by
  have hq := (Array.getElem?_eq_some_iff.1 h.box).1
  refine ⟨(k.t.block q hq h.nq).trans h.box, fun i hi => ?_, fun e => (k.s q e).elim h.nq (by omega), fun g h0 hg e => ?_⟩
  · obtain ⟨g, h1, h2, h3, h4⟩ := h.row i hi
    exact ⟨g, h1, h2, Nat.lt_of_lt_of_le h3 k.t.size, (cell_eq (k.t.block g h3 (h.ng g (by omega) h1)) i).trans h4⟩
  · obtain ⟨g', h1, h2, h3, h4⟩ := h.row 0 h0
    rw [hg] at h1
    injection h1 with h1
    injection h1 with h1
    subst h1
    exact (k.s g e).elim (h.ng g h0 hg) (by omega)
/-- the names of the disk's files, in a row -/
theorem ls_one {w w' : World} {v : Value} {o : Option (Nat × ByteArray)} (h : LsRow w w' v (namesF (oneL o))) : ∃ a c, v = .slice a (ksO o).length c ∧ ∀ k s, o = some (k, s) → ∃ g, a = some ⟨g, 0, none⟩ ∧ w'.cell? ⟨g, 0, none⟩ = some (.string (edN k)) := by
  obtain ⟨a, c, hv, hc⟩ := h.sl
  refine ⟨a, c, by rw [hv, names_one, List.length_map], fun k s ho => ?_⟩
  subst ho
  obtain ⟨g, h1, _, h3⟩ := hc 0 (edN k) rfl
  exact ⟨g, h1, h3⟩
set_option maxRecDepth 100000 in
set_option maxHeartbeats 8000000 in
theorem walk (A : Option Addr) (len cap : Nat) (bs : List (List UInt8)) (sy tr : Int) (w : World) (hh : Half w) (hbl : bs.length = len) (hlc : len ≤ cap) (hT : Texts w w.heap.size A bs) (htot : totL bs ≤ 1048576) :
    Calls Tryz.prog 4 #[.slice A len cap, .int .i64 sy, .int .i64 tr] w fun e w' => e = .returned (.bool true) ∧ Below w.heap.size w w' := by
  have hsm : Small bs := small_of htot
  have hsl : (stream bs).length ≤ 12582912 := by have := stream_len bs; omega
  have hlen : len ≤ 1048576 := by have := len_le_tot bs; omega
  have HB := Lib.hid (And.intro hbl (And.intro hT (And.intro hsm (And.intro hsl htot))))
  have HH : Hid (∀ w', Below w.heap.size w w' → Half w') := Lib.hid fun w' hb => hh.below hb hh.lt
  have hs := speaks10_any w hh
  obtain ⟨sn, hsn⟩ : ∃ sn, sn = sy.toNat := ⟨_, rfl⟩
  have HSN := Lib.hid hsn
  clear hbl hT hsm hsl htot hh hsn
  go_enter Tryz.func4, Tryz.ntmps4
  go_wp2_with (fail)
  refine hs.mono ?_
  rintro e w1 ⟨rfl, hb1⟩
  have hnew := new_K (w0 := w) 1099511627776 hb1
  rw [show (max 1099511627776 0 : Int) = 1099511627776 from rfl] at hnew
  clear hs
  go_wp2_with (fail)
  refine hnew.mono ?_
  rintro e w2 ⟨rfl, h2⟩
  obtain ⟨p, hp⟩ : ∃ p, p = w1.heap.size := ⟨_, rfl⟩
  obtain ⟨S0, hS0⟩ : ∃ S0 : Nat → Prop, S0 = fun b => b = w1.heap.size := ⟨_, rfl⟩
  have HD2 : Hid (DK w w2 p S0 1099511627776 0 (oneL none) []) := Lib.hid (by rw [hp, hS0]; exact h2.out.1)
  rw [← hp]
  clear h2 hnew hp hS0 hb1
  have ho1 := jopen_K none [] 0 0 HD2 (by show 0 < 9; decide) (Nat.zero_le _) (by show 0 ≤ _; omega) (by decide) HH.out all_nil (.inl rfl)
  go_wp2_with (fail)
  refine ho1.mono ?_
  rintro ex w3 ⟨j, ao, cp0, S3, n3, rfl, hn3, hJ3⟩
  rw [show ([] : List (List UInt8)).length = 0 from rfl]
  have HM0 : ∀ o1, Hid (StM w (w3.alloc o1) j p bs sn 0) := fun o1 => Lib.hid ⟨S3, n3, _, Nat.zero_le _, by omega, by
    have h0 : fileC bs (endAt bs (min 0 sn)) = none := by rw [Nat.zero_min]; rfl
    rw [h0, Nat.zero_min]
    exact hJ3.out.1.below ((Below.refl _ _).alloc (Nat.le_refl _) o1)⟩
  clear ho1 HD2 hJ3 hn3
  go_wp2_with (fail)
  go_loopw [11] (fun i wr => ∃ k : Nat, k ≤ len ∧ i = .int .i64 (k : Int) ∧ Hid (StM w wr j p bs sn k)) (fun i _ => len - (intOf i).toNat)
  case atStart => exact ⟨0, Nat.zero_le _, rfl, HM0 _⟩
  case round =>
    obtain ⟨k, hk, rfl, HM⟩ := hrel
    clear HM0
    by_cases hlt : k < len
    · have hkl : k < bs.length := by have := HB.out.1; omega
      obtain ⟨S1, n1, lst1, hn0, hn1, hJ⟩ := HM.out
      obtain ⟨b, off, rfl, hbw, hcell⟩ := HB.out.2.1 k hkl
      obtain ⟨z, hz⟩ : ∃ z : ByteArray, z = ⟨bs[k].toArray⟩ := ⟨_, rfl⟩
      have hzl : z.data.toList = bs[k] := by rw [hz]
      have hzs : z.size = bs[k].length := by rw [hz]; show bs[k].toArray.size = _; rw [List.size_toArray]
      have hc : wr.cell? ⟨b, off + k, none⟩ = some (.string z) := (hJ.dk.bel.cell (p := ⟨b, off + k, none⟩) hbw).trans (by rw [hz]; exact hcell)
      have hsz1 := HB.out.2.2.1 _ (List.getElem_mem hkl)
      have htp := tot_pend (bs := bs) (sy := min k sn) (d := k - min k sn) (by omega)
      rw [show min k sn + (k - min k sn) = k by omega] at htp
      have hel := endAt_le bs k
      have hsl := HB.out.2.2.2.1
      have hap := jappend_K 0 k z (Lib.hid hJ) (by decide) (by omega) HH.out (by omega) (by decide) (by unfold maxLen; omega) (by rw [pend_len]; omega) (by omega) (by omega)
      rw [hzl, show pend bs (min k sn) (k - min k sn) ++ [.app (edN 0) ⟨(frameL bs[k]).toArray⟩] = pend bs (min k sn) (k - min k sn + 1) by rw [pend_succ, show min k sn + (k - min k sn) = k by omega, getD_at2 bs hkl]] at hap
      have HN1 := Lib.hid (And.intro hn1 (And.intro hsl (And.intro hel hkl)))
      have HN0 := Lib.hid hn0
      have HAP := Lib.hid hap
      clear hap htp hel hsl hsz1 hzs hzl hz hJ hn1 hn0 HM hcell hbw
      go_wp2_with (fail)
      refine HAP.out.mono ?_
      rintro e w5 ⟨rfl, S5, hJ5⟩
      have HJ5 := Lib.hid hJ5.out.1
      clear hJ5 HAP hc
      by_cases hsy : (k : Int) < sy
      · have hks : k < sn := by have := HSN.out; omega
        have hkl := HN1.out.2.2.2
        have hsy1 := jsync_K HJ5 (by have := HN1.out.1; unfold maxLen; simp [pend_len]; omega) (by
          rw [tot_one, byt_fileC]
          have h1 := bytC_size bs (endAt bs (min k sn))
          have h2 := pend_wts bs (min k sn) (k - min k sn + 1) (by omega)
          have h3 := endAt_le bs (min k sn + (k - min k sn + 1))
          have h4 := HN1.out.2.1
          omega)
        go_wp2_with (fail)
        refine hsy1.mono ?_
        rintro e w6 ⟨rfl, S6, hJ6⟩
        have HS : Hid (StM w w6 j p bs sn (k + 1)) := Lib.hid ⟨S6, n1 + 1 + 1, _, by have := HN0.out; omega, by have := HN1.out.1; omega, by
          have h1 := hJ6.out.1
          have e1 : min k sn = k := by omega
          have e2 : min (k + 1) sn = k + 1 := by omega
          rw [e1, Nat.sub_self, pend_succ, pend_zero, List.nil_append, show k + 0 = k from rfl, getD_at2 bs hkl, app_fileC (t := bs[k].length + 12) hkl (Nat.le_refl _) (by omega) _ (by rw [List.take_of_length_le (by rw [frameL_length]; omega)]), ← endAt_succ hkl] at h1
          rw [e2, Nat.sub_self, pend_zero]
          exact h1⟩
        clear hsy1 hJ6 HJ5
        go_wp2_with (fail)
        go_roundw
        case rel => exact ⟨k + 1, by omega, by first | rfl | go_num, HS⟩
        case measure => simp [intOf]; omega
      · have hks : sn ≤ k := by have := HSN.out; omega
        have HS : Hid (StM w w5 j p bs sn (k + 1)) := Lib.hid ⟨S5, n1 + 1, _, by have := HN0.out; omega, by have := HN1.out.1; omega, by
          have h1 := HJ5.out
          have e1 : min k sn = sn := by omega
          have e2 : min (k + 1) sn = sn := by omega
          rw [e1, show k - sn + 1 = k + 1 - sn by omega] at h1
          rw [e2]
          exact h1⟩
        clear HJ5
        go_wp2_with (fail)
        go_roundw
        case rel => exact ⟨k + 1, by omega, by first | rfl | go_num, HS⟩
        case measure => simp [intOf]; omega
    · obtain rfl : k = len := by omega
      obtain ⟨S1, n1, lst1, hn0, hn1, hJ⟩ := HM.out
      have hkb : bs.length = k := HB.out.1
      have hsl := HB.out.2.2.2.1
      have hsmk : min k sn ≤ bs.length := by omega
      obtain ⟨cut, hcut, hc1, hc2⟩ := crash_fileC hsmk tr
      rw [hkb] at hcut
      have hpw := pend_wts bs (min k sn) (k - min k sn) (by omega)
      have hel := endAt_le bs (min k sn + (k - min k sn))
      have hcr := crash_K 0 tr (Lib.hid hJ.dk) (by rw [pend_len]; unfold maxLen; omega) (by
        unfold fileC
        by_cases h0 : endAt bs (min k sn) = 0
        · rw [if_pos h0]; exact Nat.zero_le _
        · rw [if_neg h0]
          show 1 ≤ n1
          by_cases h1 : min k sn = 0
          · rw [h1] at h0; exact absurd (endAt_zero bs) h0
          · omega) (by rw [tot_one, byt_fileC]; have h1 := bytC_size bs (endAt bs (min k sn)); omega)
      rw [hcut, pend_len] at hcr
      obtain ⟨m, er, hm, hal, her⟩ := find_fileC HB.out.2.2.1 hsmk hc1 hc2
      have HC := Lib.hid (And.intro hm (And.intro hal (And.intro her (And.intro hn1 hsl))))
      clear hcut hc1 hc2 hpw hel hm hal her hn0 hn1 hJ HM hsl hsmk
      go_wp2_with (fail)
      refine hcr.mono ?_
      rintro e w5 ⟨rfl, hD5⟩
      have HD5 := Lib.hid hD5.out.1
      clear hcr hD5
      have hbz : (bytC bs cut).size = min cut (stream bs).length := by show ((stream bs).take cut).toArray.size = _; rw [List.size_toArray, List.length_take]
      have hmm := endAt_le bs m
      have ho1 := jopen_K (fileC bs cut) (bs.take m) (endAt bs m) er HD5 (by rw [nth_fileC]; decide) (by have := HC.out.2.2.2.1; omega) (by rw [byt_fileC, hbz]; have := HC.out.2.2.2.2; omega) (by decide) HH.out (by rw [byt_fileC, bytC_list]; exact HC.out.2.1) (by
        rcases HC.out.2.2.1 with ⟨h1, _⟩ | ⟨h1, h2⟩
        · exact .inl h1
        · refine .inr ⟨h1, by rw [byt_fileC, hbz]; omega, ?_, by rw [byt_fileC, hbz]; have := HC.out.2.2.2.2; omega⟩
          unfold fileC
          rw [if_neg (by omega)]
          rfl)
      rw [show opO (fileC bs cut) (endAt bs m) er = opF bs cut m er from rfl] at ho1
      obtain ⟨hob, hon⟩ := opF_bytes HC.out.2.2.1
      obtain ⟨o1, ho⟩ : ∃ o1, o1 = opF bs cut m er := ⟨_, rfl⟩
      rw [← ho] at ho1 hob hon
      have HO := Lib.hid (And.intro hob hon)
      have hosz : (bytO o1).size ≤ 12582912 := by
        have e1 : (bytO o1).data.toList.length = (bytO o1).size := by simp
        rw [← e1, hob]
        have h1 := endAt_le bs m
        have h2 := HC.out.2.2.2.2
        show endAt bs m ≤ _
        omega
      have HOS := Lib.hid hosz
      obtain ⟨M, hM⟩ : ∃ M, M = (bs.take m).length := ⟨_, rfl⟩
      have hM9 : M ≤ 1048576 := by rw [hM, List.length_take]; omega
      have HM2 := Lib.hid (And.intro hM hM9)
      rw [← hM] at ho1
      clear hbz hmm hob hon ho hosz hM hM9 HD5
      go_wp2_with (fail)
      refine ho1.mono ?_
      rintro e w6 ⟨j1, ao1, ca1, S6, n6, rfl, hn6, hJ6⟩
      have H6 := Lib.hid (And.intro hJ6.out hn6)
      clear ho1 hJ6 hn6
      obtain ⟨q1, hq1⟩ : ∃ q1, q1 = w6.heap.size := ⟨_, rfl⟩
      obtain ⟨w7, hw7⟩ : ∃ w7, w7 = w6.alloc (.cells #[.string ⟨#[]⟩, .slice ao1 M ca1] 26) := ⟨_, rfl⟩
      have hal7 : Below w6.heap.size w6 w7 := by rw [hw7]; exact (Below.refl _ _).alloc (Nat.le_refl _) _
      have HD7 : Hid (DK w w7 p S6 1099511627776 n6 (oneL o1) []) := Lib.hid (H6.out.1.1.dk.below hal7)
      have HF7 : Hid (Fnd w7 S6 q1 ao1 ca1 M w5.heap.size (bs.take m)) := Lib.hid ⟨by rw [hw7, hq1]; exact heap_alloc_new w6 _, H6.out.1.2.1.keep (Nat.le_refl _) hal7.size (fun g _ h2 => hal7.block g h2), fun e => by have := (H6.out.1.1.dk.m.own _ e).2; omega, fun g h0 => H6.out.1.2.2.2 g (by rw [HM2.out.1]; exact h0)⟩
      have HN6 : Hid (n6 ≤ 30 + 3 * k) := Lib.hid (by have := H6.out.2; have := HC.out.2.2.2.1; omega)
      go_upto_region 14 with (fail)
      rw [← hw7, ← hq1]
      clear hw7 hq1 hal7 H6
      go_wp2_with (fail)
      refine (list_K HD7 (by have := HN6.out; omega) (by have := (one_len o1).2; show (oneL o1).length ≤ _; omega)).mono ?_
      rintro e w8 ⟨v8, rfl, hv8⟩
      obtain ⟨a8, c8, rfl, hr8⟩ := ls_one hv8.out.1
      have HD8 := Lib.hid (HD7.out.below hv8.out.2)
      have HF8 := Lib.hid (HF7.out.step (JP.bel hv8.out.2))
      have HR8 := Lib.hid hr8
      clear hv8 HD7 HF7 hr8
      obtain ⟨l8, hl8⟩ : ∃ l8, l8 = (ksO o1).length := ⟨_, rfl⟩
      rw [← hl8]
      have HL8 := Lib.hid hl8
      have hl81 : l8 ≤ 1 := by rw [hl8]; exact (one_len o1).1
      clear hl8
      go_wp2_with (fail)
      go_loopw [16, 17] (fun s16 i wr => ∃ c : Nat, c ≤ l8 ∧ i = .int .i64 (c : Int) ∧ s16 = .string (accS o1 c) ∧ w8 = wr) (fun _ i _ => l8 - (intOf i).toNat)
      case atStart => exact ⟨0, Nat.zero_le _, rfl, rfl, rfl⟩
      case round =>
        obtain ⟨c, hc, rfl, rfl, rfl⟩ := hrel
        by_cases hlt2 : c < l8
        · obtain rfl : c = 0 := by omega
          obtain ⟨k', s, ho⟩ : ∃ k' s, o1 = some (k', s) := by
            have h1 := HL8.out
            match o1, h1 with
            | none, h1 => exact absurd h1 (by show ¬ l8 = 0; omega)
            | some (k', s), _ => exact ⟨k', s, rfl⟩
          subst ho
          obtain ⟨g, rfl, hcell⟩ := HR8.out k' s rfl
          have hrd := read_K (edN k') HD8 (by show 9 ≤ maxLen; decide)
          rw [held_nil, show rdS (oneL (some (k', s))) (edN k') = s by unfold rdS; rw [get_one]; show orE (if edN k' = edN k' then some s else none) = s; rw [if_pos rfl]; rfl, show rdE (oneL (some (k', s))) (edN k') = 0 by unfold rdE; rw [get_one]; show (if (if edN k' = edN k' then some s else none).isSome = true then (0 : Int) else 41) = 0; rw [if_pos rfl]; rfl] at hrd
          have hss : s.size ≤ 12582912 := HOS.out
          have he9 : (edN k').size = 9 := rfl
          have hn1 : ¬ 9223372036854775807 < (edN k').size + 1 := by omega
          have hn2 : ¬ 9223372036854775807 < (edN k').size + 1 + s.size := by omega
          rw [show accS (some (k', s)) 0 = ⟨#[]⟩ from rfl]
          clear he9 hss
          go_wp2_with (fail)
          refine hrd.mono ?_
          rintro e w9 ⟨rfl, rfl⟩
          clear hrd
          go_wp2_with (fail)
          exact ⟨⟨1, by omega, rfl, rfl, trivial⟩, by simp [intOf]; omega⟩
        · obtain rfl : c = l8 := by omega
          have ho2 := jopen_K o1 (bs.take m) (stream (bs.take m)).length 0 HD8 (by have := HO.out.2; omega) (by have := HN6.out; have := HM2.out.2; omega) (by have := HOS.out; omega) (by decide) HH.out (by rw [HO.out.1, all_whole _ (small_take HB.out.2.2.1 m)]) (.inl rfl)
          rw [show opO o1 (stream (bs.take m)).length 0 = o1 from if_pos rfl, ← HM2.out.1] at ho2
          have hac := Lib.hid (rfl : accS o1 c = accS o1 c)
          go_wp2_with (fail)
          refine ho2.mono ?_
          rintro e w10 ⟨j2, ao2, ca2, S10, n10, rfl, hn10, hJ10⟩
          have H10 := Lib.hid (And.intro hJ10.out hn10)
          have HF10 := Lib.hid (HF8.out.step hJ10.out.2.2.1)
          clear ho2 hJ10 hn10
          obtain ⟨q2, hq2⟩ : ∃ q2, q2 = w10.heap.size := ⟨_, rfl⟩
          obtain ⟨w11, hw11⟩ : ∃ w11, w11 = w10.alloc (.cells #[.string ⟨#[]⟩, .slice ao2 M ca2] 26) := ⟨_, rfl⟩
          have hal11 : Below w10.heap.size w10 w11 := by rw [hw11]; exact (Below.refl _ _).alloc (Nat.le_refl _) _
          have HD11 : Hid (DK w w11 p S10 1099511627776 n10 (oneL o1) []) := Lib.hid (H10.out.1.1.dk.below hal11)
          have HG11 : Hid (Fnd w11 S10 q2 ao2 ca2 M w8.heap.size (bs.take m)) := Lib.hid ⟨by rw [hw11, hq2]; exact heap_alloc_new w10 _, H10.out.1.2.1.keep (Nat.le_refl _) hal11.size (fun g _ h2 => hal11.block g h2), fun e => by have := (H10.out.1.1.dk.m.own _ e).2; omega, fun g h0 => H10.out.1.2.2.2 g (by rw [HM2.out.1]; exact h0)⟩
          have HF11 := Lib.hid (HF10.out.step (JP.bel hal11))
          have HN10 : Hid (n10 ≤ 3200000) := Lib.hid (by have := H10.out.2; have := HN6.out; omega)
          go_upto_region 22 with (fail)
          rw [← hw11, ← hq2]
          clear hw11 hq2 hal11 H10 HF10 HF8
          go_wp2_with (fail)
          refine (list_K HD11 (by have := HN10.out; omega) (by have := (one_len o1).2; show (oneL o1).length ≤ _; omega)).mono ?_
          rintro e w12 ⟨v12, rfl, hv12⟩
          obtain ⟨a12, c12, rfl, hr12⟩ := ls_one hv12.out.1
          have HD12 := Lib.hid (HD11.out.below hv12.out.2)
          have HF12 := Lib.hid (HF11.out.step (JP.bel hv12.out.2))
          have HG12 := Lib.hid (HG11.out.step (JP.bel hv12.out.2))
          have HR12 := Lib.hid hr12
          clear hv12 HD11 HF11 HG11 hr12
          obtain ⟨l12, hl12⟩ : ∃ l12, l12 = (ksO o1).length := ⟨_, rfl⟩
          have e812 : c = l12 := by rw [hl12]; exact HL8.out
          rw [← hl12]
          have HL12 := Lib.hid hl12
          have hl121 : l12 ≤ 1 := by rw [hl12]; exact (one_len o1).1
          clear hl12
          rw [e812]
          clear e812
          go_wp2_with (fail)
          go_loopw [23, 24] (fun s23 i wr => ∃ c : Nat, c ≤ l12 ∧ i = .int .i64 (c : Int) ∧ s23 = .string (accS o1 c) ∧ w12 = wr) (fun _ i _ => l12 - (intOf i).toNat)
          case atStart => exact ⟨0, Nat.zero_le _, rfl, rfl, rfl⟩
          case round =>
            obtain ⟨c2, hc2, rfl, rfl, rfl⟩ := hrel
            by_cases hlt3 : c2 < l12
            · obtain rfl : c2 = 0 := by omega
              obtain ⟨k', s, ho⟩ : ∃ k' s, o1 = some (k', s) := by
                have h1 := HL12.out
                match o1, h1 with
                | none, h1 => exact absurd h1 (by show ¬ l12 = 0; omega)
                | some (k', s), _ => exact ⟨k', s, rfl⟩
              subst ho
              obtain ⟨g, rfl, hcell⟩ := HR12.out k' s rfl
              have hrd := read_K (edN k') HD12 (by show 9 ≤ maxLen; decide)
              rw [held_nil, show rdS (oneL (some (k', s))) (edN k') = s by unfold rdS; rw [get_one]; show orE (if edN k' = edN k' then some s else none) = s; rw [if_pos rfl]; rfl, show rdE (oneL (some (k', s))) (edN k') = 0 by unfold rdE; rw [get_one]; show (if (if edN k' = edN k' then some s else none).isSome = true then (0 : Int) else 41) = 0; rw [if_pos rfl]; rfl] at hrd
              have hss : s.size ≤ 12582912 := HOS.out
              have he9 : (edN k').size = 9 := rfl
              have hn1 : ¬ 9223372036854775807 < (edN k').size + 1 := by omega
              have hn2 : ¬ 9223372036854775807 < (edN k').size + 1 + s.size := by omega
              rw [show accS (some (k', s)) 0 = ⟨#[]⟩ from rfl]
              clear he9 hss
              go_wp2_with (fail)
              refine hrd.mono ?_
              rintro e w14 ⟨rfl, rfl⟩
              clear hrd
              go_wp2_with (fail)
              exact ⟨⟨1, by omega, rfl, rfl, trivial⟩, by simp [intOf]; omega⟩
            · obtain rfl : c2 = l12 := by omega
              have b0 : w12.cell? ⟨q1, 0, none⟩ = some (.string ⟨#[]⟩) := by simp [World.cell?, HF12.out.box]
              have b1 : w12.cell? ⟨q1, 1, none⟩ = some (.slice ao1 M ca1) := by simp [World.cell?, HF12.out.box]
              have d0 : w12.cell? ⟨q2, 0, none⟩ = some (.string ⟨#[]⟩) := by simp [World.cell?, HG12.out.box]
              have d1 : w12.cell? ⟨q2, 1, none⟩ = some (.slice ao2 M ca2) := by simp [World.cell?, HG12.out.box]
              have htx := texts10_any _ _ ca1 ca2 ao1 ao2 (bs.take m) w12 HF12.out.row HG12.out.row (by rw [← HM2.out.1]; exact HM2.out.2)
              rw [← HM2.out.1] at htx
              have hpe := fun n => pending_K (Lib.hid (HD12.out.below (⟨rfl, rfl, rfl, Nat.le_refl _, fun _ _ => rfl⟩ : Below w12.heap.size w12 (w12.drewN n))))
              have HE := Lib.hid (And.intro hpe HD12.out.bel)
              clear hpe
              go_wp2_with (fail)
              refine htx.mono ?_
              rintro e w13 ⟨rfl, n13, rfl⟩
              clear htx
              go_wp2_with (fail)
              refine (HE.out.1 n13).mono ?_
              rintro e w15 ⟨rfl, rfl⟩
              go_wp2_with (fail)
              go_ret
              exact ⟨rfl, HE.out.2.trans ⟨rfl, rfl, rfl, Nat.le_refl _, fun _ _ => rfl⟩⟩

set_option maxRecDepth 100000 in
theorem contractUpto (H : Type) (enc : TypeId × Value → H) (W : World) (base : Nat) (args : Array Value) (ds gs : List (DataW H)) (before : List MemPlace)
    (hval : ∀ (j : Nat) t v, Tryz.f4.params[j]? = some t → args[j]? = some v → Value.okWide Tryz.prog W .any base t v)
    (hW : DataW.Whole enc Tryz.prog Tryz.f4.params.toList Rows.journalStillSpec.vars false W args.toList ds gs before) (hL : laidMetH Tryz.prog Rows.journalStillRow.laid W)
    (hz : (DataW.weightsEach Tryz.prog (Tryz.f4.params.toList ++ []) (ds ++ gs)).all (· ≤ reachBytes) = true) (hk : Rows.uptoSmall H (ds ++ gs) = true) :
    Calls Tryz.prog 4 args W fun e W' => ∃ v, e = .returned v ∧ Rows.journalStillSpec.post enc Tryz.prog Tryz.f4 false true false false W args v W' := by
  have hW' := hW
  obtain ⟨p, q, hA0, hV, rfl, hfz, hnd⟩ := hW
  have hA : DataW.TrodAll enc Tryz.prog W 0 (fun _ => true) true Tryz.f4.params.toList args.toList ds p := hA0
  rw [Tryz.params4] at hA hval hz
  obtain ⟨v0, vs0, d0, ds0, p0, q0, hargs, rfl, rfl, h0, r0⟩ := trodAll_cons hA
  obtain ⟨v1, vs1, d1, ds1, p1, q1, rfl, rfl, rfl, h1, r1⟩ := trodAll_cons r0
  obtain ⟨v2, vs2, d2, ds2, p2, q2, rfl, rfl, rfl, h2, r2⟩ := trodAll_cons r1
  obtain ⟨rfl, rfl, rfl⟩ := trodAll_nil r2
  obtain rfl : args = #[v0, v1, v2] := by cases args; simp_all
  obtain ⟨rfl, rfl⟩ := trodVars_none hV
  have hk0 : Rows.uptoBulk d0 ≤ 1048576 := by have h := of_decide_eq_true hk; simp only [List.append_nil, List.cons_append, List.nil_append, Rows.uptoBulkAll] at h; omega
  obtain ⟨A, len, cap, bs, rfl, hbl, hlc, hT, htot⟩ := open_texts (hval 0 24 v0 rfl rfl) h0 hk0
  obtain ⟨x1, rfl, rfl, rfl, w1⟩ := open_int Tryz.underlying3 (hval 1 3 v1 rfl rfl) h1
  have b1 := i64_of_wf w1
  obtain ⟨x2, rfl, rfl, rfl, w2⟩ := open_int Tryz.underlying3 (hval 2 3 v2 rfl rfl) h2
  have b2 := i64_of_wf w2
  clear hA0
  refine (walk A len cap bs x1 x2 W (half_in hL) hbl hlc hT htot).mono fun e W' ⟨he, hb⟩ => ?_
  subst he
  exact ⟨_, rfl, law_end hW' rfl rfl hb laidOut (by kernel_rfl) (by kernel_rfl) Tryz.underlying4⟩

theorem reads (os : Os) {H : Type} (enc : TypeId × Value → H) : ∃ places, DataW.whole enc Tryz.prog ((laidWorld os).forCall (fun _ _ => 0) ⟨#[], #[.slice none 0 0, .int .i64 0, .int .i64 0], []⟩).memory Tryz.f4.params.toList Rows.journalStillSpec.vars false [Value.slice none 0 0, Value.int .i64 0, Value.int .i64 0] 8 = some ([.nil, .lit (.int .i64 0), .lit (.int .i64 0)], [], places) :=
  ⟨[], by kernel_rfl⟩

set_option maxRecDepth 100000 in
theorem lifted (os : Os) (started : os.Started) (H : Type) (enc : TypeId × Value → H) (F : Stop.Interp) :
    ReturnsInHanded {} Tryz.checked os 4 .any ((Rows.OpenSpec.upto Rows.journalStillSpec).preRow enc Tryz.prog Tryz.f4 Rows.journalStillUptoRow.domain false Rows.journalStillUptoRow.laid) (((Rows.OpenSpec.upto Rows.journalStillSpec).at F).post enc Tryz.prog Tryz.f4 false true false false) := by
  obtain ⟨places, hx⟩ := reads os enc
  have laid_met : laidMet Tryz.prog Rows.journalStillUptoRow.laid ((laidWorld os).forCall (fun _ _ => 0) ⟨#[], #[.slice none 0 0, .int .i64 0, .int .i64 0], []⟩).memory := (laidMet_of_run' 8 (by kernel_rfl) (by kernel_rfl))
  refine returnsInHanded_of_row (C := Tryz.checked) (s := Rows.OpenSpec.upto Rows.journalStillSpec) own started (by kernel_rfl) Tryz.func4
    (witness_row_at (enc := enc) (C := Tryz.checked) false (laidWorld os) #[.slice none 0 0, .int .i64 0, .int .i64 0] rfl (by kernel_rfl) (by kernel_rfl) (by kernel_rfl)
      (OpenSpec.preRow_of_cond 8 hx (by kernel_rfl) (fun k hk => by cases hk; kernel_rfl) (by kernel_rfl) laid_met)) ?_
  intro W base args ds gs before hval hW _ hcond hz hL _ _
  exact contractUpto H enc W base args ds gs before hval hW hL hz (hcond _ rfl)

theorem said : Rows.JournalStillUptoSaid :=
  OpenClaim.holds_of_cond 4 Tryz.f4 rfl rfl rfl rfl rfl rfl rfl ⟨rfl, rfl, rfl, rfl, rfl⟩ rfl rfl rfl rfl rfl (by kernel_rfl) Tryz.func4 (by kernel_rfl)
    (of_decide_eq_true (by kernel_rfl)) (by unfold Func.isWrapper; first | (rw [if_pos (by decide +kernel)]; kernel_rfl) | (rw [if_neg (by decide +kernel)]; exact ⟨rfl, rfl⟩))
    (fun os started H enc _ F => by rw [OpenClaim.pre_eq_preRow]; exact lifted os started H enc F)

theorem plain (f : FuncId) (fn : Func) (hf : Tryz.pinned.checked.prog.funcNamed "mahout/mahoutlaw10.JournalStill" = some f) (hfn : Tryz.pinned.checked.prog.funcs[f]? = some fn) :
    ∀ (j : Nat) t, fn.params[j]? = some t → Tryz.pinned.checked.prog.wantsStandIn t = false := by
  obtain rfl : f = 4 := Option.some.inj ((show Tryz.prog.funcNamed "mahout/mahoutlaw10.JournalStill" = some 4 by kernel_rfl).symm.trans hf) |>.symm
  obtain rfl : fn = Tryz.f4 := (Option.some.inj (Tryz.func4.symm.trans hfn)).symm
  exact fun j t ht => by
    rw [Tryz.params4] at ht
    have hm : t ∈ [24, 3, 3] := by simpa using Array.mem_of_getElem? ht
    have hall : ([24, 3, 3].all fun u => !Tryz.prog.wantsStandIn u) = true := by kernel_rfl
    exact (show Tryz.prog.wantsStandIn t = false by simpa using List.all_eq_true.1 hall t hm)
/-- THE CARD -/
theorem card : Rows.JournalStillUptoCardSaid :=
  Claim7.holds_tied_plain_at .later [] _ _ _ _ said (fun _ h => by cases h) (by kernel_rfl) (fun _ h => by cases h) journalStillUpto_row_tie rfl ⟨rfl, rfl⟩ (by kernel_rfl) rfl (fun f fn hf hfn => ⟨by kernel_rfl, plain f fn hf hfn⟩) (by kernel_rfl)

end Go.Proofs.YtppmlkgmoifgoaaGreatDoor.fnJournalStill
