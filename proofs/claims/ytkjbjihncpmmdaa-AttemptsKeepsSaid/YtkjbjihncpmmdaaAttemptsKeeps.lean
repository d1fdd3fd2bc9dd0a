/- AttemptsKeeps is true for every script: a task's winner stays till what it made is said to be lost. No condition. -/
import Derived.Test.YtkjbjihncpmmdaaAtmKS
import Derived.Deep.CutBlock
import Derived.Deep.DeepCutAuto

import Derived.Test.YtkjbjihncpmmdaaLawEnd

import Derived.Test.YtkjbjihncpmmdaaPlainKit

namespace Go.Proofs.Ytkjbjihncpmmdaa.fnAttemptsKeeps
open Go.ChangeShapes Go.WideShapes Go.ChangeAt Go.RowKit Go.WideMaps Go.WideElems
open Go.ChangeMaps (open_string)

def K0 (W w : World) (p gw : Nat) (b : Bd) (N : Nat) : Prop := AB W w p b ∧ WonAt w gw (fun t => (b.T t).wi) ∧ W.heap.size ≤ gw ∧ BI b N ∧ b.m = 3 ∧ b.n = 5
def mapsT (b : Bd) (t : Nat) : Bool := (List.range (min t 3)).all fun i => (b.T i).wi != 0
theorem mapsT_succ (b : Bd) (t : Nat) : mapsT b (t + 1) = (mapsT b t && (decide (2 < (t : Int)) || ((b.T t).wi != 0))) := by
  unfold mapsT
  by_cases h : t < 3
  · rw [show min (t + 1) 3 = t + 1 by omega, show min t 3 = t by omega, List.range_succ, List.all_append]
    have e : decide (2 < (t : Int)) = false := decide_eq_false (by omega)
    simp [e]
  · rw [show min (t + 1) 3 = 3 by omega, show min t 3 = 3 by omega]
    have e : decide (2 < (t : Int)) = true := decide_eq_true (by omega)
    rw [e]
    simp
theorem mapsT_all {b : Bd} (h : ∀ i, i < 3 → (b.T i).wi ≠ 0) : mapsT b 5 = true := by
  unfold mapsT
  simp only [List.all_eq_true, bne_iff_ne]
  intro i hi
  exact h i (by have := List.mem_range.1 hi; omega)
set_option maxRecDepth 100000 in
set_option maxHeartbeats 16000000 in
theorem walk (A : Option Addr) (len cap : Nat) (it : Nat → Ac) (W : World) (hl : len * 48 ≤ 140737488351232) (hS : Acts W W.heap.size A len it) :
    Calls Try.prog 6 #[.slice A len cap] W fun e w' => e = .returned (.bool true) ∧ Below W.heap.size W w' := by
  have HS := Lib.hid hS
  have hll : len < 4398046511104 := by omega
  clear hS hl
  go_enter Try.func6, Try.ntmps6
  go_wp2_with (fail)
  refine (speaks22_any _).mono ?_
  rintro e w1 ⟨rfl, hb1⟩
  have HB1 := Lib.hid hb1
  clear hb1
  go_wp2_with (fail)
  refine (new_any (w0 := W) 3 2 100 4 (by decide) w1 HB1.out).mono ?_
  rintro e w2 ⟨p, rfl, h2⟩
  have hbx : Below w2.heap.size w2 (w2.alloc (.cells #[.int .i64 0, .int .i64 0, .int .i64 0, .int .i64 0, .int .i64 0] 54)) := (Below.refl _ _).alloc (Nat.le_refl _) _
  have H3 : Hid (K0 W (w2.alloc (.cells #[.int .i64 0, .int .i64 0, .int .i64 0, .int .i64 0, .int .i64 0] 54)) p w2.heap.size (newB 3 2 100 4) 0) := by
    refine Lib.hid ⟨h2.out.1.below hbx, ⟨⟨_, heap_alloc_new w2 _⟩, fun t ht => ?_⟩, h2.out.1.bel.size, bi_new _ _ _ _, rfl, rfl⟩
    rw [cell_of_row _ _ _ _ _ _ (heap_alloc_new w2 _)]
    match t, ht with
    | 0, _ => rfl
    | 1, _ => rfl
    | 2, _ => rfl
    | 3, _ => rfl
    | 4, _ => rfl
  obtain ⟨gw, hgw⟩ : ∃ gw, gw = w2.heap.size := ⟨_, rfl⟩
  obtain ⟨w3, hw3⟩ : ∃ w3, w3 = w2.alloc (.cells #[.int .i64 0, .int .i64 0, .int .i64 0, .int .i64 0, .int .i64 0] 54) := ⟨_, rfl⟩
  go_wp2
  rw [← hw3, ← hgw]
  rw [← hw3, ← hgw] at H3
  clear hw3 hgw h2 hbx
  go_loopw [5] (fun iv wr => ∃ (k : Nat) (b : Bd), k ≤ len ∧ iv = .int .i64 (k : Int) ∧ Hid (K0 W wr p gw b k)) (fun iv _ => len - (intOf iv).toNat)
  case atStart => exact ⟨0, _, Nat.zero_le _, rfl, H3⟩
  case round =>
    obtain ⟨k, b, hk, rfl, HR⟩ := hrel
    clear H3
    by_cases hkn : k < len
    · obtain ⟨HW, bs, off, rfl, hB, hc⟩ := HS.out k hkn
      obtain ⟨x, hx⟩ : ∃ x, x = it k := ⟨_, rfl⟩
      rw [← hx] at HW hc
      have hin := fun j u (hj : (acCells x)[j]? = some u) => (HR.out.1.bel.cell (p := ⟨bs, off + k * 6 + j, none⟩) hB).trans (hc j u hj)
      have i0 := hin 0 _ rfl
      have i1 := hin 1 _ rfl
      have i2 := hin 2 _ rfl
      have i3 := hin 3 _ rfl
      have i4 := hin 4 _ rfl
      have i5 := hin 5 _ rfl
      rw [Nat.add_zero] at i0
      have hr := r6_is x.k HW.k
      have hrb := r6_b x.k
      have hbx : Below wr.heap.size wr (wr.alloc (.cells #[.int .i64 x.k, .int .i64 x.t, .int .i64 x.n, .int .i64 x.m, .int .i64 x.a, .int .i64 x.h] 32)) := (Below.refl _ _).alloc (Nat.le_refl _) _
      have HBX : Hid (KS W (wr.alloc (.cells #[.int .i64 x.k, .int .i64 x.t, .int .i64 x.n, .int .i64 x.m, .int .i64 x.a, .int .i64 x.h] 32)) p gw wr.heap.size b (fun t => (b.T t).wi) x k) :=
        Lib.hid ⟨HR.out.1.below hbx, HR.out.2.1.same (hbx.block gw HR.out.2.1.ty.lt), HR.out.2.2.1, acb_new wr x, HR.out.2.2.2.1, HR.out.2.2.2.2.1, HR.out.2.2.2.2.2⟩
      clear hin hc hB HW hx HR hbx
      go_upto_region 9 with (fail)
      obtain ⟨g, hg⟩ : ∃ g, g = wr.heap.size := ⟨_, rfl⟩
      obtain ⟨wx, hwx⟩ : ∃ wx, wx = wr.alloc (.cells #[.int .i64 x.k, .int .i64 x.t, .int .i64 x.n, .int .i64 x.m, .int .i64 x.a, .int .i64 x.h] 32) := ⟨_, rfl⟩
      rw [← hwx, ← hg] at HBX ⊢
      clear hg hwx i0 i1 i2 i3 i4 i5
      obtain ⟨bt, x0, x1, x2, x3, x4, x5⟩ := HBX.out.box
      clear bt
      go_upto_block 2 with (fail)
      have hl0 : ∀ i, i < b.n → (b.T i).A.length < 4398046511104 := fun i _ => Nat.lt_of_le_of_lt (HBX.out.bi.len i) (by omega)
      have hl1 : ∀ i, i < b.n → (b.T i).A.length < 4398046511105 := fun i hi => Nat.lt_succ_of_lt (hl0 i hi)
      have hf1 : ∀ i, i < b.n → (b.T i).fu < 1152921504606846976 := fun i _ => Nat.lt_of_le_of_lt (HBX.out.bi.fu i) (by omega)
      have hsm := same_m b x.t x.n x.m x.a x.h
      have HTT := Lib.hid HBX.out.t
      have HL0 := Lib.hid hl0
      have HL1 := Lib.hid hl1
      have HF1 := Lib.hid hf1
      have HSM := Lib.hid hsm
      clear hl0 hl1 hf1 hsm
      go_cut [] (fun wy => ∃ (b' : Bd) (v' : Nat → Nat), Hid (KS W wy p gw g b' v' x (k + 1) ∧ ∀ t, t < 5 → v' t ≠ 0 → (b'.T t).wi = v' t))
      case first =>
        clear hr
        by_cases h0 : r6 x.k = 0 ∨ r6 x.k = 1
        · have hst := start_any HTT HL0.out x.t x.n x.m
          have HST := Lib.hid hst
          clear hst
          have hst2 : ∀ w', AB W w' p (startB b x.t x.n x.m) ∧ AF wx w' → KS W w' p gw g (startB b x.t x.n x.m) (fun t => (b.T t).wi) x (k + 1) ∧ ∀ t, t < 5 → (b.T t).wi ≠ 0 → ((startB b x.t x.n x.m).T t).wi = (b.T t).wi := fun w' h9 =>
            ⟨HBX.out.call h9.1 h9.2 (bi_start HBX.out.bi _ _ _) HSM.out.1 HSM.out.2.1, fun t _ _ => wi_start _ _ _ _ _⟩
          have HS2 := Lib.hid hst2
          clear hst2
          rcases h0 with h0 | h0
          · have h1 : (r6 x.k == 0) = true := by simpa using h0
            clear h0
            go_wp2_with (fail)
            refine HST.out.mono ?_
            rintro e w5 ⟨rfl, H5⟩
            have H6 := Lib.hid (HS2.out w5 H5.out)
            clear H5 x0 x1 x2 x3 x4 x5
            go_wp2
            go_meet
            exact ⟨_, _, H6⟩
          · have h1 : (r6 x.k == 0) = false := by simp [h0]
            have h2 : (r6 x.k == 1) = true := by simpa using h0
            clear h0
            go_wp2_with (fail)
            refine HST.out.mono ?_
            rintro e w5 ⟨rfl, H5⟩
            have H6 := Lib.hid (HS2.out w5 H5.out)
            clear H5 x0 x1 x2 x3 x4 x5
            go_wp2
            go_meet
            exact ⟨_, _, H6⟩
        · have h1 : (r6 x.k == 0) = false := by simp; omega
          have h2 : (r6 x.k == 1) = false := by simp; omega
          by_cases h3 : r6 x.k = 2
          · have h4 : (r6 x.k == 2) = true := by simpa using h3
            clear h0 h3
            go_wp2_with (fail)
            refine (report_any HTT HL1.out HF1.out x.t x.a x.h).mono ?_
            rintro e w5 ⟨rfl, H5⟩
            have H6 : Hid (KS W w5 p gw g (reportB b x.t x.a x.h) (fun t => (b.T t).wi) x (k + 1) ∧ ∀ t, t < 5 → (b.T t).wi ≠ 0 → ((reportB b x.t x.a x.h).T t).wi = (b.T t).wi) := Lib.hid ⟨HBX.out.call H5.out.1 H5.out.2 (bi_report HBX.out.bi _ _ _) HSM.out.2.2.1 HSM.out.2.2.2.1, fun t _ ht => wi_report _ _ _ _ _ ht⟩
            clear H5 x0 x1 x2 x3 x4 x5
            go_wp2
            go_meet
            exact ⟨_, _, H6⟩
          · have h4 : (r6 x.k == 2) = false := by simp; omega
            by_cases h5 : r6 x.k = 3
            · have h6 : (r6 x.k == 3) = true := by simpa using h5
              clear h0 h3 h5
              go_wp2_with (fail)
              refine (gone_any HTT HL1.out x.n).mono ?_
              rintro e w5 ⟨rfl, H5⟩
              have H6 : Hid (KS W w5 p gw g (goneB b x.n) (fun t => (b.T t).wi) x (k + 1) ∧ ∀ t, t < 5 → (b.T t).wi ≠ 0 → ((goneB b x.n).T t).wi = (b.T t).wi) := Lib.hid ⟨HBX.out.call H5.out.1 H5.out.2 ((bi_gone HBX.out.bi _).more (Nat.le_succ _)) rfl rfl, fun t _ _ => wi_gone _ _ _⟩
              clear H5 x0 x1 x2 x3 x4 x5
              go_wp2
              go_meet
              exact ⟨_, _, H6⟩
            · have h6 : (r6 x.k == 3) = false := by simp; omega
              by_cases h7 : r6 x.k = 4
              · have h8 : (r6 x.k == 4) = true := by simpa using h7
                clear h0 h3 h5 h7
                have hlo := lost_any HTT HL1.out HBX.out.bi.win x.t x.a
                cases hla : lostA b x.t x.a
                · rw [hla] at hlo
                  have HLO := Lib.hid hlo
                  clear hlo
                  go_wp2_with (fail)
                  refine HLO.out.mono ?_
                  rintro e w5 ⟨rfl, H5⟩
                  have H6 : Hid (KS W w5 p gw g (lostB b x.t x.a) (fun t => (b.T t).wi) x (k + 1) ∧ ∀ t, t < 5 → (b.T t).wi ≠ 0 → ((lostB b x.t x.a).T t).wi = (b.T t).wi) := Lib.hid ⟨HBX.out.call H5.out.1 H5.out.2 ((bi_lost HBX.out.bi _ _).more (Nat.le_succ _)) HSM.out.2.2.2.2.2.2.1 HSM.out.2.2.2.2.2.2.2, fun t _ _ => by rw [wi_lost, hla]; simp⟩
                  clear H5 x0 x1 x2 x3 x4 x5
                  go_wp2
                  go_meet
                  exact ⟨_, _, H6⟩
                · rw [hla] at hlo
                  have HLO := Lib.hid hlo
                  clear hlo
                  have hla2 := hla
                  unfold lostA inB at hla2
                  rw [Bool.and_eq_true, Bool.and_eq_true, Bool.and_eq_true] at hla2
                  obtain ⟨q1, q2, q3, q4⟩ := hla2
                  have q1 := of_decide_eq_true q1
                  have q2 := of_decide_eq_true q2
                  have q4 := of_decide_eq_true q4
                  have hbm := HBX.out.m
                  obtain ⟨i, hxi⟩ : ∃ i : Nat, x.t = (i : Int) := ⟨x.t.toNat, by omega⟩
                  have hi3 : i < 3 := by omega
                  rw [hxi] at q4 x1 HLO
                  rw [Int.toNat_natCast] at q4
                  have hwe : (b.T i).wi = (b.T i).wi := rfl
                  go_wp2_with (fail)
                  refine HLO.out.mono ?_
                  rintro e w5 ⟨rfl, H5⟩
                  have H6 : Hid (KS W w5 p gw g (lostB b (i : Int) x.a) (fun t => (b.T t).wi) x (k + 1)) := Lib.hid (HBX.out.call H5.out.1 H5.out.2 ((bi_lost HBX.out.bi _ _).more (Nat.le_succ _)) (by rw [← hxi]; exact HSM.out.2.2.2.2.2.2.1) (by rw [← hxi]; exact HSM.out.2.2.2.2.2.2.2))
                  obtain ⟨bt, y0, y1, y2, y3, y4, y5⟩ := H6.out.box
                  have cw := H6.out.won.c i (by omega)
                  rw [q4] at cw
                  have fw := bears_free H6.out.won.ty i
                  rw [hxi] at y1
                  have H7 : ∀ m, Hid (KS W ((w5.drewN m).setCell ⟨gw, i, none⟩ (.int .i64 0)) p gw g (lostB b (i : Int) x.a) (updN (fun t => (b.T t).wi) i 0) x (k + 1) ∧ ∀ t, t < 5 → updN (fun t => (b.T t).wi) i 0 t ≠ 0 → ((lostB b (i : Int) x.a).T t).wi = updN (fun t => (b.T t).wi) i 0 t) := fun m => by
                    refine Lib.hid ⟨(H6.out.drewN m).set i 0, fun t _ ht => ?_⟩
                    by_cases e : t = i
                    · subst e
                      rw [updN_same] at ht
                      exact absurd rfl ht
                    · rw [updN_other _ _ e, wi_lost, if_neg (fun q => e (by rw [q.2, Int.toNat_natCast]))]
                  have H8 := Lib.hid H7
                  have hg1 : decide ((i : Int) < 0) = false := decide_eq_false (by omega)
                  have hg2 : decide ((2 : Int) < (i : Int)) = false := decide_eq_false (by omega)
                  clear bt H5 H7 x0 x1 x2 x3 x4 x5 q1 q2 q3 q4 hla hwe
                  go_wp2_with (fail)
                  go_quiet (fail)
                  go_wp2
                  go_meet
                  exact ⟨_, _, H8.out _⟩
              · have h8 : (r6 x.k == 4) = false := by simp; omega
                have H6 : Hid (KS W wx p gw g b (fun t => (b.T t).wi) x (k + 1)) := Lib.hid (HBX.out.call HBX.out.t (af_refl _) (HBX.out.bi.more (Nat.le_succ _)) rfl rfl)
                clear h0 h3 h5 h7
                go_wp2
                go_meet
                exact ⟨b, fun t => (b.T t).wi, Lib.hid ⟨H6.out, fun _ _ _ => rfl⟩⟩
      case rest =>
        obtain ⟨b', v', HC⟩ := hcut
        clear HBX x0 x1 x2 x3 x4 x5 HTT HL0 HL1 HF1 HSM hr hrb
        have hlN : k + 1 < 4398046511105 := by omega
        go_wp2
        go_loopw [7, 8] (fun vm vt wr => ∃ (t : Nat) (v : Nat → Nat), t ≤ 5 ∧ vt = .int .i64 (t : Int) ∧ vm = .bool (mapsT b' t) ∧ Hid (KS W wr p gw g b' v x (k + 1) ∧ (∀ s, s < t → v s = (b'.T s).wi) ∧ ∀ s, s < 5 → v s ≠ 0 → (b'.T s).wi = v s)) (fun _ vt _ => 5 - (intOf vt).toNat)
        case atStart => exact ⟨0, v', by omega, rfl, rfl, Lib.hid ⟨HC.out.1, fun s hs => absurd hs (Nat.not_lt_zero _), HC.out.2⟩⟩
        case round =>
          obtain ⟨t, v, ht, rfl, rfl, HI⟩ := hrel
          by_cases htl : t < 5
          · have hwn := winner_any (Lib.hid HI.out.1.t) (fun i _ => Nat.lt_of_le_of_lt (HI.out.1.bi.len i) hlN) HI.out.1.bi.win (t : Int)
            have hin : inB b' (t : Int) = true := decide_eq_true ⟨by omega, by rw [HI.out.1.n]; omega⟩
            have cw := HI.out.1.won.c t htl
            have fw := bears_free HI.out.1.won.ty t
            have hmt := mapsT_succ b' t
            by_cases h0 : (b'.T t).wi = 0
            · have hv0 : v t = 0 := by
                by_cases e : v t = 0
                · exact e
                · have := HI.out.2.2 t htl e
                  omega
              have hwa : winA b' (t : Int) = (0, 0, false) := by simp [winA, hin, h0]
              rw [hwa] at hwn
              dsimp only at hwn
              rw [hv0] at cw
              have HNX : Hid (∀ m, KS W ((wr.drewN m).setCell ⟨gw, t, none⟩ (.int .i64 0)) p gw g b' (updN v t 0) x (k + 1) ∧ (∀ s, s < t + 1 → updN v t 0 s = (b'.T s).wi) ∧ ∀ s, s < 5 → updN v t 0 s ≠ 0 → (b'.T s).wi = updN v t 0 s) := Lib.hid fun m => by
                refine ⟨(HI.out.1.drewN m).set t 0, fun s hs => ?_, fun s hs hn => ?_⟩
                · by_cases e : s = t
                  · subst e; rw [updN_same, h0]
                  · rw [updN_other _ _ e]; exact HI.out.2.1 s (by omega)
                · by_cases e : s = t
                  · subst e; rw [updN_same] at hn; exact absurd rfl hn
                  · rw [updN_other _ _ e] at hn ⊢; exact HI.out.2.2 s hs hn
              rw [show ((b'.T t).wi != 0) = false by rw [h0]; rfl, Bool.or_false] at hmt
              have HWN := Lib.hid hwn
              obtain ⟨mp, hmp⟩ : ∃ mp, mp = mapsT b' t := ⟨_, rfl⟩
              obtain ⟨d2, hd2⟩ : ∃ d, d = decide (2 < (t : Int)) := ⟨_, rfl⟩
              rw [← hmp, ← hd2] at hmt
              rw [← hmp]
              have hd3 := hd2.symm
              have HMT := Lib.hid hmt
              clear hwn hmt h0 hv0 hwa hin HI HC hmp hd2
              cases mp <;> cases d2 <;>
              (go_wp2_with (fail)
               refine HWN.out.mono ?_
               rintro e w5 ⟨rfl, m5, rfl⟩
               go_wp2
               go_roundw
               case rel => exact ⟨t + 1, _, htl, by first | rfl | go_num, by rw [HMT.out]; rfl, HNX.out _⟩
               case measure => exact meas_up2 htl)
            · obtain ⟨wn, hwn0⟩ : ∃ wn, wn = (b'.T t).wi := ⟨_, rfl⟩
              obtain ⟨nd, hnd⟩ := winA_yes hin h0
              rw [← hwn0] at hnd
              rw [hnd] at hwn
              dsimp only at hwn
              have hvt : v t = 0 ∨ v t = wn := by
                by_cases e : v t = 0
                · exact .inl e
                · exact .inr (by rw [hwn0]; exact (HI.out.2.2 t htl e).symm)
              have HNX : Hid (∀ m, KS W ((wr.drewN m).setCell ⟨gw, t, none⟩ (.int .i64 (wn : Int))) p gw g b' (updN v t wn) x (k + 1) ∧ (∀ s, s < t + 1 → updN v t wn s = (b'.T s).wi) ∧ ∀ s, s < 5 → updN v t wn s ≠ 0 → (b'.T s).wi = updN v t wn s) := Lib.hid fun m => by
                refine ⟨(HI.out.1.drewN m).set t wn, fun s hs => ?_, fun s hs hn => ?_⟩
                · by_cases e : s = t
                  · subst e; rw [updN_same, hwn0]
                  · rw [updN_other _ _ e]; exact HI.out.2.1 s (by omega)
                · by_cases e : s = t
                  · subst e; rw [updN_same, hwn0]
                  · rw [updN_other _ _ e] at hn ⊢; exact HI.out.2.2 s hs hn
              rw [show ((b'.T t).wi != 0) = true by simp [h0], Bool.or_true, Bool.and_true] at hmt
              have HWN := Lib.hid hwn
              have hp1 : decide ((wn : Int) < 1) = false := decide_eq_false (by omega)
              have hp0 : ((wn : Int) != 0) = true := by simp; omega
              obtain ⟨mp, hmp⟩ : ∃ mp, mp = mapsT b' t := ⟨_, rfl⟩
              obtain ⟨d2, hd2⟩ : ∃ d, d = decide (2 < (t : Int)) := ⟨_, rfl⟩
              rw [← hmp] at hmt
              rw [← hmp]
              have hd3 := hd2.symm
              have HMT := Lib.hid hmt
              clear hwn hmt h0 hin HI HC hmp hd2 hwn0 hnd
              rcases hvt with e | e
              · rw [e] at cw
                clear e
                cases mp <;> cases d2 <;>
                (go_wp2_with (fail)
                 refine HWN.out.mono ?_
                 rintro e w5 ⟨rfl, m5, rfl⟩
                 go_wp2
                 go_roundw
                 case rel => exact ⟨t + 1, _, htl, by first | rfl | go_num, by rw [HMT.out], HNX.out _⟩
                 case measure => exact meas_up2 htl)
              · rw [e] at cw
                clear e
                cases mp <;> cases d2 <;>
                (go_wp2_with (fail)
                 refine HWN.out.mono ?_
                 rintro e w5 ⟨rfl, m5, rfl⟩
                 go_wp2
                 go_roundw
                 case rel => exact ⟨t + 1, _, htl, by first | rfl | go_num, by rw [HMT.out], HNX.out _⟩
                 case measure => exact meas_up2 htl)
          · obtain rfl : t = 5 := by omega
            have H5 : Hid (KS W wr p gw g b' v x (k + 1) ∧ (∀ s, s < 5 → v s = (b'.T s).wi)) := Lib.hid ⟨HI.out.1, fun s hs => HI.out.2.1 s hs⟩
            obtain ⟨bt, y0, y1, y2, y3, y4, y5⟩ := H5.out.1.box
            obtain ⟨tb, hs, hr⟩ := H5.out.1.t.raw
            have HRY := Lib.hid (ready_any (Lib.hid hr) H5.out.1.t.nn H5.out.1.t.pat x.n x.m)
            clear HI HC bt hr
            go_wp2_with (fail)
            refine HRY.out.mono ?_
            rintro e w6 ⟨vl, rfl, ho, hb6⟩
            obtain ⟨Al, cl, rfl⟩ := own_slice ho
            have H6 := Lib.hid (H5.out.1.below hb6)
            have HO := Lib.hid ho
            obtain ⟨L, hL⟩ : ∃ L, L = readyB b' x.n x.m := ⟨_, rfl⟩
            rw [← hL] at HO ⊢
            have hLl : L.length ≤ 5 := by rw [hL, ← H5.out.1.n]; exact ready_len _ _ _
            have HLM : Hid (∀ r, r ∈ L → r < 5 ∧ (b'.T r).wi = 0 ∧ (2 < r → mapsT b' 5 = true)) := Lib.hid fun r hr => by
              rw [hL] at hr
              obtain ⟨q1, q2, q3⟩ := ready_mem hr
              refine ⟨by rw [← H5.out.1.n]; exact q1, q2, fun h2 => mapsT_all fun i hi => ?_⟩
              have q3 : b'.om = 0 := by
                rcases q3 with q3 | q3
                · rw [H5.out.1.m] at q3; omega
                · exact q3
              have := opn_none b'.T 0 b'.m q3 i (by rw [H5.out.1.m]; exact hi)
              rw [Nat.zero_add] at this
              exact this
            have HBL := Lib.hid (show W.heap.size ≤ w6.heap.size from H6.out.t.bel.size)
            clear ho hb6 hL y0 y1 y2 y3 y4 y5
            go_wp2
            go_loopw [13] (fun kv wr' => ∃ q : Nat, q ≤ L.length ∧ kv = .int .i64 (q : Int) ∧ Hid (∃ m, wr' = w6.drewN m)) (fun kv _ => L.length - (intOf kv).toNat)
            case atStart => exact ⟨0, Nat.zero_le _, rfl, Lib.hid ⟨0, rfl⟩⟩
            case round =>
              obtain ⟨q, hq, rfl, HM⟩ := hrel
              obtain ⟨m, rfl⟩ := HM.out
              by_cases hql : q < L.length
              · obtain ⟨gl, cl', hv9, _, _⟩ := HO.out.form (by omega)
                injection hv9 with e1 e2 e3
                subst e1 e3
                obtain ⟨r, hr⟩ : ∃ r, r = L[q] := ⟨_, rfl⟩
                have kl : (w6.drewN m).cell? ⟨gl, q, none⟩ = some (.int .i64 (r : Int)) := by
                  refine (HO.out.cellAt q (by omega)).trans ?_
                  rw [hr]
                  simp [intL, hql]
                obtain ⟨hr5, hr0, hr2⟩ := HLM.out r (by rw [hr]; exact List.getElem_mem _)
                have cw : (w6.drewN m).cell? ⟨gw, r, none⟩ = some (.int .i64 0) := by
                  have h9 := H6.out.won.c r hr5
                  rw [H5.out.2 r hr5, hr0] at h9
                  exact h9
                clear hr hr0 HM
                by_cases h2 : 2 < r
                · have hmp := hr2 h2
                  rw [hmp]
                  have h2d : decide ((2 : Int) < (r : Int)) = true := decide_eq_true (by omega)
                  clear hr2 h2
                  go_wp2
                  go_roundw
                  case rel => exact ⟨q + 1, hql, by first | rfl | go_num, Lib.hid ⟨_, rfl⟩⟩
                  case measure => exact meas_up2 hql
                · have h2d : decide ((2 : Int) < (r : Int)) = false := decide_eq_false (by omega)
                  clear hr2 h2
                  go_wp2
                  go_roundw
                  case rel => exact ⟨q + 1, hql, by first | rfl | go_num, Lib.hid ⟨_, rfl⟩⟩
                  case measure => exact meas_up2 hql
              · obtain rfl : q = L.length := by omega
                have HE : Hid (K0 W (w6.drewN m) p gw b' (k + 1)) := by
                  have h9 := H6.out.drewN m
                  refine Lib.hid ⟨h9.t, ⟨h9.won.ty, fun t ht => ?_⟩, h9.lo, h9.bi, h9.m, h9.n⟩
                  have h8 := h9.won.c t ht
                  rw [H5.out.2 t ht] at h8
                  exact h8
                go_wp2
                go_roundw
                case rel => exact ⟨k + 1, b', hkn, by first | rfl | go_num, HE⟩
                case measure => exact meas_up2 hkn
    · obtain rfl : k = len := by omega
      go_wp2
      go_ret
      exact ⟨rfl, HR.out.1.bel⟩

set_option maxRecDepth 100000 in
theorem contract (H : Type) (enc : TypeId × Value → H) (W : World) (base : Nat) (args : Array Value) (ds gs : List (DataW H)) (before : List MemPlace)
    (hval : ∀ (j : Nat) t v, Try.f6.params[j]? = some t → args[j]? = some v → Value.okWide Try.prog W .any base t v)
    (hW : DataW.Whole enc Try.prog Try.f6.params.toList Rows.attemptsKeepsSpec.vars false W args.toList ds gs before)
    (hz : (DataW.weightsEach Try.prog (Try.f6.params.toList ++ []) (ds ++ gs)).all (· ≤ reachBytes) = true) :
    Calls Try.prog 6 args W fun e W' => ∃ v, e = .returned v ∧ Rows.attemptsKeepsSpec.post enc Try.prog Try.f6 false true false false W args v W' := by
  have hW' := hW
  obtain ⟨p, q, hA0, hV, rfl, hfz, hnd⟩ := hW
  have hA : DataW.TrodAll enc Try.prog W 0 (fun _ => true) true Try.f6.params.toList args.toList ds p := hA0
  rw [Try.params6] at hA hval hz
  obtain ⟨v0, vs0, d0, ds0, p0, q0, hargs, rfl, rfl, h0, r0⟩ := trodAll_cons hA
  obtain ⟨rfl, rfl, rfl⟩ := trodAll_nil r0
  obtain rfl : args = #[v0] := by cases args; simp_all
  obtain ⟨rfl, rfl⟩ := trodVars_none hV
  have hw0 : ∀ m ∈ d0.weights Try.prog 23, m ≤ reachBytes := fun m hm => by
    have hall := List.all_eq_true.1 hz m (DataW.weights_mem_each (j := 0) (t := 23) rfl rfl m hm)
    simpa using hall
  obtain ⟨A, len, cap, it, rfl, hl, hS⟩ := open_acts (hval 0 23 v0 rfl rfl) h0 hw0
  clear hA0
  refine (walk A len cap it W hl hS).mono fun e W' ⟨he, hb⟩ => ?_
  subst he
  exact ⟨_, rfl, law_end hW' rfl rfl hb laidOut (by kernel_rfl) (by kernel_rfl) Try.underlying4⟩

theorem reads (os : Os) {H : Type} (enc : TypeId × Value → H) : ∃ places, DataW.whole enc Try.prog ((World.holding Try.prog os ⟨#[], #[], []⟩).forCall (fun _ _ => 0) ⟨#[], #[.slice none 0 0], []⟩).memory Try.f6.params.toList Rows.attemptsKeepsSpec.vars false [Value.slice none 0 0] 8 = some ([.nil], [], places) :=
  ⟨[], by kernel_rfl⟩

set_option maxRecDepth 100000 in
theorem lifted (os : Os) (started : os.Started) (H : Type) (enc : TypeId × Value → H) (F : Stop.Interp) :
    ReturnsInHanded {} Try.checked os 6 .any ((OpenSpec.ofChange Rows.attemptsKeepsSpec).preRow enc Try.prog Try.f6 Rows.attemptsKeepsRow.domain false Rows.attemptsKeepsRow.laid) (((OpenSpec.ofChange Rows.attemptsKeepsSpec).at F).post enc Try.prog Try.f6 false true false false) := by
  obtain ⟨places, hx⟩ := reads os enc
  have laid_met : laidMet Try.prog Rows.attemptsKeepsRow.laid ((World.holding Try.prog os ⟨#[], #[], []⟩).forCall (fun _ _ => 0) ⟨#[], #[.slice none 0 0], []⟩).memory := ⟨[], rfl, List.nodup_nil, fun _ _ h => by cases h⟩
  refine returnsInHanded_of_row (C := Try.checked) (s := OpenSpec.ofChange Rows.attemptsKeepsSpec) own started (by kernel_rfl) Try.func6
    (witness_row_at (enc := enc) (C := Try.checked) false (World.holding Try.prog os ⟨#[], #[], []⟩) #[.slice none 0 0] rfl (by kernel_rfl) (by kernel_rfl) (by kernel_rfl)
      (OpenSpec.preRow_of_cond 8 hx (by kernel_rfl) (fun k hk => by cases hk) (by kernel_rfl) laid_met)) ?_
  intro W base args ds gs before hval hW _ _ hz _ _ _
  exact contract H enc W base args ds gs before hval hW hz

theorem said : Rows.AttemptsKeepsSaid :=
  OpenClaim.holds_of_cond 6 Try.f6 rfl rfl rfl rfl rfl rfl rfl ⟨rfl, rfl, rfl, rfl, rfl⟩ rfl rfl rfl rfl rfl (by kernel_rfl) Try.func6 (by kernel_rfl)
    (of_decide_eq_true (by kernel_rfl)) (by unfold Func.isWrapper; first | (rw [if_pos (by decide +kernel)]; kernel_rfl) | (rw [if_neg (by decide +kernel)]; exact ⟨rfl, rfl⟩))
    (fun os started H enc _ F => by rw [OpenClaim.pre_eq_preRow]; exact lifted os started H enc F)

end Go.Proofs.Ytkjbjihncpmmdaa.fnAttemptsKeeps
