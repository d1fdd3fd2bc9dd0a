/- MergeMerges is true for all runs: they merge to the document's answer, they stay, and what is answered is new each time. Its condition: what it reads is of bulk at most 1048576. -/
import Derived.Test.YtlciceigmfomcaaMrgSpeak
import Derived.Test.YtlciceigmfomcaaMrgRuns
import Derived.BigQuiet
import Derived.Deep.RegionHeld3
import Derived.Deep.AppendLies

import Derived.Test.YtlciceigmfomcaaLawEnd

import Derived.Test.YtlciceigmfomcaaPlainKit

namespace Go.Proofs.Ytlciceigmfomcaa.fnMergeMerges
open Go.ChangeShapes Go.WideShapes Go.ChangeAt Go.RowKit Go.WideMaps Go.WideElems
open Go.ChangeMaps (open_string)

abbrev S2 (wr : World) (a1 a2 : Addr) (v1 v2 : Value) (w : World) : Prop := Hid (∃ m, w = wr.drewN m) ∧ w.cell? a1 = some v1 ∧ w.cell? a2 = some v2
theorem s2_drew {wr w : World} {a1 a2 : Addr} {v1 v2 : Value} (k : S2 wr a1 a2 v1 v2 w) : S2 wr a1 a2 v1 v2 w.drew := by
  obtain ⟨h, h1, h2⟩ := k
  obtain ⟨m, rfl⟩ := h.out
  exact ⟨Lib.hid ⟨m + 1, rfl⟩, h1, h2⟩
theorem s2_drewN {wr w : World} {a1 a2 : Addr} {v1 v2 : Value} (k : S2 wr a1 a2 v1 v2 w) (q : Nat) : S2 wr a1 a2 v1 v2 (w.drewN q) := by
  obtain ⟨h, h1, h2⟩ := k
  obtain ⟨m, rfl⟩ := h.out
  exact ⟨Lib.hid ⟨m + q, World.drewN_drewN _ _ _⟩, h1, h2⟩
theorem argAt_run {R : Rn} {B : Nat} {A : Option Addr} {W : World} (h : ArgAt R B A W) (i : Nat) (hi : i < R.n) : ∃ b off a, A = some ⟨b, off, none⟩ ∧ b < B ∧ W.cell? ⟨b, off + i, none⟩ = some (.slice a (R.ln i) (R.cp i)) ∧ PrAt W B a (R.ln i) (R.K i) (R.V i) := by
  obtain ⟨b, off, a, e, h1, h2, h3, _⟩ := h.1 i hi
  exact ⟨b, off, a, e, h1, h2, fun j hj => ⟨R.bk i, R.of i, h3 (by omega), (h.2 i hi j hj).1, (h.2 i hi j hj).2.1, (h.2 i hi j hj).2.2⟩⟩
theorem argAt_up {R : Rn} {B B' : Nat} {A : Option Addr} {W : World} (h : ArgAt R B A W) (hb : B ≤ B') : ArgAt R B' A W :=
  ⟨fun i hi => by
    obtain ⟨b, off, a, e, h1, h2, h3⟩ := h.1 i hi
    exact ⟨b, off, a, e, by omega, h2, h3⟩, fun i hi p hp => by
    obtain ⟨h1, h2, h3⟩ := h.2 i hi p hp
    exact ⟨by omega, h2, h3⟩⟩
def kk (R : Rn) (l : List It) (j : Nat) : ByteArray := R.K (l.getD j (0, 0)).1 (l.getD j (0, 0)).2
def vv (R : Rn) (l : List It) (j : Nat) : ByteArray := R.V (l.getD j (0, 0)).1 (l.getD j (0, 0)).2
theorem prC_prN (R : Rn) (l : List It) : prC R l = prN (kk R l) (vv R l) l.length := by
  have e : l = (List.range l.length).map fun j => l.getD j (0, 0) := by
    refine List.ext_getElem (by simp) fun i h1 h2 => ?_
    simp [h1]
  unfold prC prN
  conv => lhs; rw [e]
  rw [List.flatMap_map]
  rfl
set_option maxRecDepth 100000 in
set_option maxHeartbeats 16000000 in
theorem walk (A : Option Addr) (cap : Nat) (R : Rn) (w : World) (hn : R.n ≤ 1048576) (hln : ∀ i, i < R.n → R.ln i ≤ 1048576) (htot : tot R (fun _ => 0) ≤ 1048576) (hsz : ∀ i p, (R.K i p).size ≤ 1048576 ∧ (R.V i p).size ≤ 1048576) (hA : ArgAt R w.heap.size A w) :
    Calls Try.prog 3 #[.slice A R.n cap] w fun e w' => e = .returned (.bool true) ∧ Below w.heap.size w w' := by
  have HA := Lib.hid hA
  have HSZ := Lib.hid hsz
  have HLN := Lib.hid hln
  have HTOT := Lib.hid htot
  have HN := Lib.hid hn
  clear hA hsz hln htot hn
  obtain ⟨ord, ho⟩ : ∃ ord, ord = ordR R := ⟨_, rfl⟩
  have HO : Hid (OrdOk R ord) := Lib.hid (by rw [ho]; exact ord_ok R)
  have HOI : Hid (OrdInj R ord) := Lib.hid (by rw [ho]; exact ord_inj R)
  obtain ⟨N, hN⟩ : ∃ N, N = R.n := ⟨_, rfl⟩
  obtain ⟨L, hL⟩ : ∃ L, L = mrgL R ord := ⟨_, rfl⟩
  have HL := Lib.hid hL
  have HNN := Lib.hid hN
  have hLl : Hid (L.length ≤ 1048576) := Lib.hid (by rw [hL]; exact Nat.le_trans (mrg_len R ord _ _) HTOT.out)
  obtain ⟨n, hn⟩ : ∃ n, n = L.length := ⟨_, rfl⟩
  have Hn := Lib.hid hn
  rw [← hN]
  clear ho hN hL hn
  go_enter Try.func3, Try.ntmps3
  go_wp2_with (fail)
  refine (speaks19_any _).mono ?_
  rintro e w1 ⟨rfl, hb1⟩
  have HA1 := Lib.hid (argAt_up (HA.out.below hb1) hb1.size)
  have HB1 := Lib.hid hb1
  clear hb1
  go_wp2_with (fail)
  have hcp := copied_any R A cap w1 HN.out HLN.out HA1.out
  rw [← HNN.out] at hcp
  refine hcp.mono ?_
  rintro e w2 ⟨va, vb, ha, hb, rfl, hG⟩
  clear hcp
  obtain ⟨A1, c1, rfl, hH1, hR1⟩ := own_forms (by exact HNN.out) hG.ra hG.pa
  obtain ⟨A2, c2, rfl, hH2, hR2⟩ := own_forms (by exact HNN.out) hG.rb hG.pb
  have HG := Lib.hid hG
  have HI1 : Hid (ArgAt (withR R ha) w2.heap.size A1 w2) := Lib.hid ⟨hH1, hR1⟩
  have HI2 : Hid (ArgAt (withR R hb) w2.heap.size A2 w2) := Lib.hid ⟨hH2, hR2⟩
  clear hG hH1 hR1 hH2 hR2
  have hm1 : ∀ W, Below w2.heap.size w2 W → Calls Try.prog 11 #[.slice A1 N c1] W fun e w' => ∃ v, e = .returned v ∧ w'.ownsRow W.heap.size 33 2 v n (prN (kk R L) (vv R L) n) ∧ Below W.heap.size W w' := fun W hW => by
    have hA' := argAt_up (HI1.out.below hW) hW.size
    have h := merge_any (withR R ha) ord HO HOI (Lib.hid (fun i hi => Nat.le_trans (HLN.out i hi) (by omega))) (by have := HN.out; show R.n ≤ _; omega) (by have := HTOT.out; show tot R (fun _ => 0) ≤ _; omega) (fun i p => ⟨Nat.le_trans (HSZ.out i p).1 (by omega), Nat.le_trans (HSZ.out i p).2 (by omega)⟩) A1 c1 W hA'.2 hA'.1
    rw [mrgL_with, ← HL.out, prC_with, prC_prN, ← Hn.out] at h
    have e : (withR R ha).n = N := HNN.out.symm
    rw [e] at h
    exact h
  have hm2 : ∀ W, Below w2.heap.size w2 W → Calls Try.prog 10 #[.slice A2 N c2] W fun e w' => ∃ v, e = .returned v ∧ w'.ownsRow W.heap.size 53 2 v n (prN (kk R L) (vv R L) n) ∧ Below W.heap.size W w' := fun W hW => by
    have hA' := argAt_up (HI2.out.below hW) hW.size
    have h := rmerge_any (withR R hb) ord HO HOI (Lib.hid (fun i hi => Nat.le_trans (HLN.out i hi) (by omega))) (by have := HN.out; show R.n ≤ _; omega) (by have := HTOT.out; show tot R (fun _ => 0) ≤ _; omega) A2 c2 W hA'.2 hA'.1
    rw [mrgL_with, ← HL.out, prC_with, prC_prN, ← Hn.out] at h
    have e : (withR R hb).n = N := HNN.out.symm
    rw [e] at h
    exact h
  have HM1 := Lib.hid hm1
  have HM2 := Lib.hid hm2
  clear hm1 hm2
  go_wp2_with (fail)
  refine (HM2.out _ (Below.refl _ _)).mono ?_
  rintro e w3 ⟨v3, rfl, ho3, hb3⟩
  obtain ⟨A3, c3, rfl, hr3⟩ := prAt_own ho3
  have HR3 := Lib.hid hr3
  have HB3 := Lib.hid hb3
  clear ho3 hb3 hr3
  go_wp2_with (fail)
  refine (HM1.out _ HB3.out).mono ?_
  rintro e w4 ⟨v4, rfl, ho4, hb4⟩
  obtain ⟨A4, c4, rfl, hr4⟩ := prAt_own ho4
  have HO4 := Lib.hid ho4
  have HB34 := Lib.hid hb4
  have HB4 := Lib.hid (HB3.out.trans (hb4.mono HB3.out.size))
  have HR4 := Lib.hid hr4
  clear ho4 hb4 hr4
  go_wp2_with (fail)
  refine (HM1.out _ HB4.out).mono ?_
  rintro e w5 ⟨v5, rfl, ho5, hb5⟩
  obtain ⟨A5, c5, rfl, hr5⟩ := prAt_own ho5
  have HB45 := Lib.hid hb5
  have HB5 := Lib.hid (HB4.out.trans (hb5.mono HB4.out.size))
  have HO5 := Lib.hid ho5
  have HR5 := Lib.hid hr5
  have HR45 := Lib.hid (HR4.out.below hb5)
  have HR35 := Lib.hid (HR3.out.below (HB34.out.trans (hb5.mono HB34.out.size)))
  clear ho5 hb5 hr5
  go_wp2_with (fail)
  refine (same_prs A4 A3 n c4 c3 (kk R L) (vv R L) w5 _ _ (by have := hLl.out; have := Hn.out; omega) HR45.out HR35.out).mono ?_
  rintro e w' ⟨rfl, m1, rfl⟩
  go_wp2_with (fail)
  refine (same_prs A5 A3 n c5 c3 (kk R L) (vv R L) (w5.drewN m1) _ _ (by have := hLl.out; have := Hn.out; omega) (HR5.out.below (show Below w5.heap.size w5 (w5.drewN m1) from ⟨rfl, rfl, rfl, Nat.le_refl _, fun _ _ => rfl⟩)) (HR35.out.below (show Below w3.heap.size w5 (w5.drewN m1) from ⟨rfl, rfl, rfl, Nat.le_refl _, fun _ _ => rfl⟩))).mono ?_
  rintro e w' ⟨rfl, m2, rfl⟩
  obtain ⟨W7, hW7⟩ : ∃ W7, W7 = (w5.drewN m1).drewN m2 := ⟨_, rfl⟩
  have h57 : Below w5.heap.size w5 W7 := by rw [hW7]; exact ⟨rfl, rfl, rfl, Nat.le_refl _, fun _ _ => rfl⟩
  have H57 := Lib.hid h57
  have HO7 := Lib.hid (own_below2 h57 (own_below2 HB45.out HO4.out))
  rw [← hW7]
  clear hW7 h57
  go_wp2
  go_loopw [8] (fun iv wr => ∃ k : Nat, k ≤ n ∧ iv = .int .i64 (k : Int) ∧ Hid (∃ xs, wr.ownsRow w3.heap.size 33 2 (.slice A4 n c4) n xs ∧ W7.grownBy wr (Value.slice A4 n c4).ownBlock)) (fun iv _ => n - (intOf iv).toNat)
  case atStart => exact ⟨0, Nat.zero_le _, rfl, Lib.hid ⟨_, HO7.out, ⟨rfl, rfl, rfl, Nat.le_refl _, fun _ _ _ => rfl⟩⟩⟩
  case round =>
    obtain ⟨k, hk, rfl, HLp⟩ := hrel
    by_cases hlt : k < n
    · obtain ⟨xs, hown, hgr⟩ := HLp.out
      obtain ⟨g, cp2, hv, hBg, hg⟩ := hown.form (by omega)
      injection hv with e1 e2 e3
      subst e1 e3
      have hxl : xs.length = n * 2 := hown.1
      obtain ⟨u1, ck⟩ : ∃ u, wr.cell? ⟨g, k * 2, none⟩ = some u := ⟨_, by rw [hown.cellAt (k * 2) (by omega)]; exact List.getElem?_eq_getElem (by omega)⟩
      have fk := hown.frozenAt (k * 2)
      obtain ⟨s1, s2⟩ := hown.stored (k * 2) (.string ⟨#[115, 112, 111, 105, 108, 116]⟩)
      obtain ⟨u2, ck2⟩ : ∃ u, (wr.setCell ⟨g, k * 2, none⟩ (.string ⟨#[115, 112, 111, 105, 108, 116]⟩)).cell? ⟨g, k * 2 + 1, none⟩ = some u := ⟨_, by rw [s1.cellAt (k * 2 + 1) (by omega)]; exact List.getElem?_eq_getElem (by rw [List.length_set]; omega)⟩
      have fk2 := s1.frozenAt (k * 2 + 1)
      obtain ⟨s3, s4⟩ := s1.stored (k * 2 + 1) (.string ⟨#[]⟩)
      have HL2 : Hid (∃ ys, ((wr.setCell ⟨g, k * 2, none⟩ (.string ⟨#[115, 112, 111, 105, 108, 116]⟩)).setCell ⟨g, k * 2 + 1, none⟩ (.string ⟨#[]⟩)).ownsRow w3.heap.size 33 2 (.slice (some ⟨g, 0, none⟩) n c4) n ys ∧ W7.grownBy ((wr.setCell ⟨g, k * 2, none⟩ (.string ⟨#[115, 112, 111, 105, 108, 116]⟩)).setCell ⟨g, k * 2 + 1, none⟩ (.string ⟨#[]⟩)) (Value.slice (some ⟨g, 0, none⟩) n c4).ownBlock) := Lib.hid ⟨_, s3, (hgr.trans s2).trans s4⟩
      have hLn : n ≤ 1048576 := by have := hLl.out; have := Hn.out; omega
      clear s1 s2 s3 s4 hown hgr hxl
      go_wp2
      go_roundw
      case rel => exact ⟨k + 1, by omega, by first | rfl | go_num, HL2⟩
      case measure => simp [intOf]; omega
    · have hend : Hid (Below w2.heap.size w2 wr ∧ PrAt wr wr.heap.size A3 n (kk R L) (vv R L) ∧ PrAt wr wr.heap.size A5 n (kk R L) (vv R L)) := Lib.hid (by
        obtain ⟨xs, hown, hgr⟩ := HLp.out
        have z1 := HB34.out.size
        have z2 := HB45.out.size
        have z3 := H57.out.size
        have z0 := HB3.out.size
        have zr := hgr.size
        have hb : Below w3.heap.size W7 wr := (Below.refl w3.heap.size W7).grown hgr (by omega) (fun k e => (hown.lt k e).1)
        have o5 := own_below2 H57.out HO5.out
        have o6 : wr.ownsRow w4.heap.size 33 2 (.slice A5 n c5) n (prN (kk R L) (vv R L) n) := o5.kept hgr (by
          rcases o5.2 with ⟨e, _⟩ | ⟨q, _, _, e, _, _, _⟩
          · exact .inl (by rw [e]; rfl)
          · refine .inr (fun e2 => ?_)
            have hq : (Value.slice A5 n c5).ownBlock = some q := by rw [e]; rfl
            have k1 := (HO5.out.lt q hq).1
            rw [hq] at e2
            have k2 := (HO4.out.lt q e2.symm).2
            omega)
        obtain ⟨A', c', e, hp⟩ := prAt_own o6
        injection e with e1 e2 e3
        subst e1
        refine ⟨HB5.out.trans ((H57.out.mono HB5.out.size).trans (hb.mono (by omega))), fun j hj => ?_, hp⟩
        obtain ⟨b, off, e, h1, h2⟩ := ((HR35.out.below (H57.out.mono (by omega))).below hb) j hj
        exact ⟨b, off, e, by omega, h2⟩)
      clear HLp
      go_wp2
      go_loopw [9] (fun iv wr' => ∃ k : Nat, k ≤ N ∧ iv = .int .i64 (k : Int) ∧ Hid (∃ m, wr' = wr.drewN m)) (fun iv _ => N - (intOf iv).toNat)
      case atStart => exact ⟨0, Nat.zero_le _, rfl, Lib.hid ⟨0, rfl⟩⟩
      case round =>
        obtain ⟨j, hj, rfl, HM⟩ := hrel
        obtain ⟨m, rfl⟩ := HM.out
        have hLn : N ≤ 1048576 := by have := HN.out; have := HNN.out; omega
        have hbw : Below w2.heap.size w2 (wr.drewN m) := ⟨hend.out.1.os, hend.out.1.tape, hend.out.1.output, hend.out.1.size, hend.out.1.block⟩
        by_cases hjl : j < N
        · have hjn : j < R.n := by have := HNN.out; omega
          obtain ⟨b1, o1, a1, rfl, _, k1, P1⟩ := argAt_run (HI1.out.below hbw) j hjn
          obtain ⟨b2, o2, a2, rfl, _, k2, P2⟩ := argAt_run (HI2.out.below hbw) j hjn
          have k1 : (wr.drewN m).cell? ⟨b1, o1 + j, none⟩ = some (.slice a1 (R.ln j) (cpV (ha j))) := k1
          have k2 : (wr.drewN m).cell? ⟨b2, o2 + j, none⟩ = some (.slice a2 (R.ln j) (cpV (hb j))) := k2
          have HP1 : Hid (PrAt (wr.drewN m) w2.heap.size a1 (R.ln j) (R.K j) (R.V j)) := Lib.hid P1
          have HP2 : Hid (PrAt (wr.drewN m) w2.heap.size a2 (R.ln j) (R.K j) (R.V j)) := Lib.hid P2
          clear P1 P2 hbw
          have hll : R.ln j ≤ 1048576 := HLN.out j hjn
          have hsame : ∀ w', Hid (∃ q, w' = wr.drewN q) → Calls Try.prog 12 #[.slice a1 (R.ln j) (cpV (ha j)), .slice a2 (R.ln j) (cpV (hb j))] w' fun e w'' => e = .returned (.bool true) ∧ ∃ q, w'' = w'.drewN q := fun w' hw => by
            obtain ⟨q, rfl⟩ := hw.out
            exact same_prs a1 a2 (R.ln j) _ _ (R.K j) (R.V j) _ w2.heap.size w2.heap.size (by omega) HP1.out HP2.out
          have HSM := Lib.hid hsame
          have hS : S2 wr ⟨b1, o1 + j, none⟩ ⟨b2, o2 + j, none⟩ (.slice a1 (R.ln j) (cpV (ha j))) (.slice a2 (R.ln j) (cpV (hb j))) (wr.drewN m) := ⟨Lib.hid ⟨m, rfl⟩, k1, k2⟩
          have HK1 : Hid (wr.cell? ⟨b1, o1 + j, none⟩ = some (.slice a1 (R.ln j) (cpV (ha j)))) := Lib.hid k1
          have HK2 : Hid (wr.cell? ⟨b2, o2 + j, none⟩ = some (.slice a2 (R.ln j) (cpV (hb j)))) := Lib.hid k2
          clear hsame HP1 HP2 k1 k2 HM
          go_wp2_with (fail)
          go_region_held3 (fun w' => S2 wr ⟨b1, o1 + j, none⟩ ⟨b2, o2 + j, none⟩ (.slice a1 (R.ln j) (cpV (ha j))) (.slice a2 (R.ln j) (cpV (hb j))) w') (first | assumption | exact ⟨Lib.hid ⟨m + 1, rfl⟩, HK1.out, HK2.out⟩ | exact ⟨Lib.hid ⟨_, rfl⟩, HK1.out, HK2.out⟩)
            ((go_at_call 12; refine (HSM.out _ (Lib.hid ⟨_, rfl⟩)).mono ?_; rintro e w9 ⟨rfl, q9, rfl⟩; have hS9 := s2_drewN (by assumption) q9))
          go_wp2
          go_roundw
          case rel => exact ⟨j + 1, by omega, by first | rfl | go_num, Lib.hid ⟨_, rfl⟩⟩
          case measure => simp [intOf]; omega
        · obtain rfl : j = N := by omega
          go_wp2_with (fail)
          refine (same_prs A5 A3 n c5 c3 (kk R L) (vv R L) (wr.drewN m) _ _ (by have := hLl.out; have := Hn.out; omega) (hend.out.2.2.below (show Below wr.heap.size wr (wr.drewN m) from ⟨rfl, rfl, rfl, Nat.le_refl _, fun _ _ => rfl⟩)) (hend.out.2.1.below (show Below wr.heap.size wr (wr.drewN m) from ⟨rfl, rfl, rfl, Nat.le_refl _, fun _ _ => rfl⟩))).mono ?_
          rintro e w' ⟨rfl, m5, rfl⟩
          have hbw5 : Below w2.heap.size w2 (wr.drewN (m + m5)) := ⟨hend.out.1.os, hend.out.1.tape, hend.out.1.output, hend.out.1.size, hend.out.1.block⟩
          have hw35 : PrAt (wr.drewN (m + m5)) (wr.drewN (m + m5)).heap.size A3 n (kk R L) (vv R L) := hend.out.2.1.below (show Below wr.heap.size wr (wr.drewN (m + m5)) from ⟨rfl, rfl, rfl, Nat.le_refl _, fun _ _ => rfl⟩)
          have HBW5 := Lib.hid hbw5
          have HW35 := Lib.hid hw35
          clear hbw hbw5 hw35
          go_wp2_with (fail)
          refine (HM1.out _ HBW5.out).mono ?_
          rintro e wx ⟨v9, rfl, ho9, hb9⟩
          obtain ⟨A9, c9, rfl, hr9⟩ := prAt_own ho9
          have HR9 := Lib.hid hr9
          have HW9 := Lib.hid (HW35.out.below hb9)
          have HBX := Lib.hid (HB1.out.trans ((HG.out.bel.trans ((HBW5.out.trans (hb9.mono HBW5.out.size)).mono HG.out.bel.size)).mono HB1.out.size))
          clear ho9 hb9 hr9
          go_wp2_with (fail)
          refine (same_prs A9 A3 n c9 c3 (kk R L) (vv R L) wx _ _ (by have := hLl.out; have := Hn.out; omega) HR9.out HW9.out).mono ?_
          rintro e w' ⟨rfl, m6, rfl⟩
          go_wp2
          go_ret
          exact ⟨rfl, HBX.out.os, HBX.out.tape, HBX.out.output, HBX.out.size, HBX.out.block⟩

set_option maxRecDepth 100000 in
theorem contractUpto (H : Type) (enc : TypeId × Value → H) (W : World) (base : Nat) (args : Array Value) (ds gs : List (DataW H)) (before : List MemPlace)
    (hval : ∀ (j : Nat) t v, Try.f3.params[j]? = some t → args[j]? = some v → Value.okWide Try.prog W .any base t v)
    (hW : DataW.Whole enc Try.prog Try.f3.params.toList Rows.mergeMergesSpec.vars false W args.toList ds gs before)
    (hz : (DataW.weightsEach Try.prog (Try.f3.params.toList ++ []) (ds ++ gs)).all (· ≤ reachBytes) = true) (hk : Rows.uptoSmall H (ds ++ gs) = true) :
    Calls Try.prog 3 args W fun e W' => ∃ v, e = .returned v ∧ Rows.mergeMergesSpec.post enc Try.prog Try.f3 false true false false W args v W' := by
  have hW' := hW
  obtain ⟨p, q, hA0, hV, rfl, hfz, hnd⟩ := hW
  have hA : DataW.TrodAll enc Try.prog W 0 (fun _ => true) true Try.f3.params.toList args.toList ds p := hA0
  rw [Try.params3] at hA hval hz
  obtain ⟨v0, vs0, d0, ds0, p0, q0, hargs, rfl, rfl, h0, r0⟩ := trodAll_cons hA
  obtain ⟨rfl, rfl, rfl⟩ := trodAll_nil r0
  obtain rfl : args = #[v0] := by cases args; simp_all
  obtain ⟨rfl, rfl⟩ := trodVars_none hV
  have hk1 : Rows.uptoBulk d0 ≤ 1048576 := by have h := of_decide_eq_true hk; simp only [List.append_nil, List.cons_append, List.nil_append, Rows.uptoBulkAll] at h; omega
  obtain ⟨A, cap, R, rfl, hn, hln, htot, hsz, hAt⟩ := open_runs (hval 0 22 v0 rfl rfl) h0 hk1
  clear hA0
  refine (walk A cap R W hn hln htot hsz hAt).mono fun e W' ⟨he, hb⟩ => ?_
  subst he
  exact ⟨_, rfl, law_end hW' rfl rfl hb laidOut (by kernel_rfl) (by kernel_rfl) Try.underlying4⟩

theorem reads (os : Os) {H : Type} (enc : TypeId × Value → H) : ∃ places, DataW.whole enc Try.prog ((World.holding Try.prog os ⟨#[], #[], []⟩).forCall (fun _ _ => 0) ⟨#[], #[.slice none 0 0], []⟩).memory Try.f3.params.toList Rows.mergeMergesSpec.vars false [Value.slice none 0 0] 8 = some ([.nil], [], places) :=
  ⟨[], by kernel_rfl⟩

set_option maxRecDepth 100000 in
theorem lifted (os : Os) (started : os.Started) (H : Type) (enc : TypeId × Value → H) (F : Stop.Interp) :
    ReturnsInHanded {} Try.checked os 3 .any ((Rows.OpenSpec.upto Rows.mergeMergesSpec).preRow enc Try.prog Try.f3 Rows.mergeMergesUptoRow.domain false Rows.mergeMergesUptoRow.laid) (((Rows.OpenSpec.upto Rows.mergeMergesSpec).at F).post enc Try.prog Try.f3 false true false false) := by
  obtain ⟨places, hx⟩ := reads os enc
  have laid_met : laidMet Try.prog Rows.mergeMergesUptoRow.laid ((World.holding Try.prog os ⟨#[], #[], []⟩).forCall (fun _ _ => 0) ⟨#[], #[.slice none 0 0], []⟩).memory := ⟨[], rfl, List.nodup_nil, fun _ _ h => by cases h⟩
  refine returnsInHanded_of_row (C := Try.checked) (s := Rows.OpenSpec.upto Rows.mergeMergesSpec) own started (by kernel_rfl) Try.func3
    (witness_row_at (enc := enc) (C := Try.checked) false (World.holding Try.prog os ⟨#[], #[], []⟩) #[.slice none 0 0] rfl (by kernel_rfl) (by kernel_rfl) (by kernel_rfl)
      (OpenSpec.preRow_of_cond 8 hx (by kernel_rfl) (fun k hk => by cases hk; kernel_rfl) (by kernel_rfl) laid_met)) ?_
  intro W base args ds gs before hval hW _ hcond hz _ _ _
  exact contractUpto H enc W base args ds gs before hval hW hz (hcond _ rfl)

theorem said : Rows.MergeMergesUptoSaid :=
  OpenClaim.holds_of_cond 3 Try.f3 rfl rfl rfl rfl rfl rfl rfl ⟨rfl, rfl, rfl, rfl, rfl⟩ rfl rfl rfl rfl rfl (by kernel_rfl) Try.func3 (by kernel_rfl)
    (of_decide_eq_true (by kernel_rfl)) (by unfold Func.isWrapper; first | (rw [if_pos (by decide +kernel)]; kernel_rfl) | (rw [if_neg (by decide +kernel)]; exact ⟨rfl, rfl⟩))
    (fun os started H enc _ F => by rw [OpenClaim.pre_eq_preRow]; exact lifted os started H enc F)

end Go.Proofs.Ytlciceigmfomcaa.fnMergeMerges
