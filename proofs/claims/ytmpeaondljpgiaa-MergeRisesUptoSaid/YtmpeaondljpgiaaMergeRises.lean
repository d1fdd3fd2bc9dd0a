/- MergeRises is true for all runs: each sorted, and merged, they are a list that rises, with just their pairs. Its condition: what it reads is of bulk at most 1048576. -/
import Derived.Test.YtmpeaondljpgiaaMrgSpeak
import Derived.Test.YtmpeaondljpgiaaMrgRuns
import Derived.Test.YtmpeaondljpgiaaMrgRis
import Derived.Test.YtmpeaondljpgiaaMrgLit
import Derived.Test.YtmpeaondljpgiaaMrgGrps
import Derived.BigQuiet
import Derived.Deep.RegionHeld3
import Derived.Deep.RegionLaw
import Derived.Deep.AppendLies
import Derived.IntWalk
import Derived.Laws.Cover1

import Derived.Test.YtmpeaondljpgiaaLawEnd

import Derived.Test.YtmpeaondljpgiaaPlainKit

namespace Go.Proofs.Ytmpeaondljpgiaa.fnMergeRises
open Go.ChangeShapes Go.WideShapes Go.ChangeAt Go.RowKit Go.WideMaps Go.WideElems
open Go.ChangeMaps (open_string)

theorem argAt_run {R : Rn} {B : Nat} {A : Option Addr} {W : World} (h : ArgAt R B A W) (i : Nat) (hi : i < R.n) : ∃ b off a, A = some ⟨b, off, none⟩ ∧ b < B ∧ W.cell? ⟨b, off + i, none⟩ = some (.slice a (R.ln i) (R.cp i)) ∧ PrAt W B a (R.ln i) (R.K i) (R.V i) := by
  obtain ⟨b, off, a, e, h1, h2, h3, _⟩ := h.1 i hi
  exact ⟨b, off, a, e, h1, h2, fun j hj => ⟨R.bk i, R.of i, h3 (by omega), (h.2 i hi j hj).1, (h.2 i hi j hj).2.1, (h.2 i hi j hj).2.2⟩⟩
theorem own_bears2 {w : World} {B n sz : Nat} {e : TypeId} {v : Value} {xs : List Value} (h : w.ownsRow B e sz v n xs) {g : Nat} (hg : v.ownBlock = some g) : Bears w g e := by
  rcases h.2 with ⟨rfl, _⟩ | ⟨g', cap, cur, rfl, _, hgg, _⟩
  · simp [Value.ownBlock] at hg
  · simp [Value.ownBlock] at hg
    subst hg
    exact ⟨cur, hgg⟩
def lnS (R : Rn) (k : Nat) : Nat := ((List.range k).map R.ln).sum
theorem lnS_succ (R : Rn) (k : Nat) : lnS R (k + 1) = lnS R k + R.ln k := by simp [lnS, List.range_succ]
theorem lnS_le (R : Rn) : ∀ d k, lnS R k ≤ lnS R (k + d)
  | 0, _ => Nat.le_refl _
  | d + 1, k => by have := lnS_le R d k; have := lnS_succ R (k + d); rw [show k + (d + 1) = k + d + 1 by omega]; omega
theorem tot_lnS (R : Rn) : tot R (fun _ => 0) = lnS R R.n := by
  unfold tot lnS
  simp
/-- behind some runs: their copies, sorted -/
structure QG (R : Rn) (w wr : World) (B k : Nat) (va : Value) (ha : Nat → Value) : Prop where
  ra : wr.ownsRow B 32 1 va k ((List.range k).map ha)
  pa : ∀ i, i < k → ∃ S : List (Fin (R.ln i + 1)), S.Perm (dF (R.ln i)) ∧ SrtT (keyP (R.ln i) (R.K i)) (fun x => x.val) S ∧ wr.ownsRow B 34 2 (ha i) (R.ln i) (prN (fun p => R.K i (S.getD p 0).val) (fun p => R.V i (S.getD p 0).val) (R.ln i))
  bel : Below B w wr
theorem QG.below {R : Rn} {w wr w' : World} {B k : Nat} {va : Value} {ha : Nat → Value} (h : QG R w wr B k va ha) (hB : B ≤ wr.heap.size) (hb : Below wr.heap.size wr w') : QG R w w' B k va ha :=
  ⟨own_below2 hb h.ra, fun i hi => by
    obtain ⟨S, h1, h2, h3⟩ := h.pa i hi
    exact ⟨S, h1, h2, own_below2 hb h3⟩, h.bel.trans (hb.mono hB)⟩
theorem QG.step {R : Rn} {w wr w' : World} {B k : Nat} {va v1 va' : Value} {ha : Nat → Value} {o : Obj} (h : QG R w wr B k va ha) (hB : B ≤ wr.heap.size)
    (h1 : ∃ S : List (Fin (R.ln k + 1)), S.Perm (dF (R.ln k)) ∧ SrtT (keyP (R.ln k) (R.K k)) (fun x => x.val) S ∧ wr.ownsRow B 34 2 v1 (R.ln k) (prN (fun p => R.K k (S.getD p 0).val) (fun p => R.V k (S.getD p 0).val) (R.ln k)))
    (hg : (wr.alloc o).grownBy w' va.ownBlock) (hown : w'.ownsRow B 32 1 va' (k + 1) ((List.range k).map ha ++ [v1])) : QG R w w' B (k + 1) va' (fun i => if i = k then v1 else ha i) := by
  have hra := h.ra.alloc o
  refine ⟨by rw [map_put]; exact hown, fun i hi => ?_, (h.bel.alloc hB o).grown hg (by simp; omega) (fun j ej => (hra.lt j ej).1)⟩
  by_cases e : i = k
  · subst e
    obtain ⟨S, s1, s2, s3⟩ := h1
    simp only [if_true]
    exact ⟨S, s1, s2, (s3.alloc o).kept hg (rows_apart2 hra (s3.alloc o) (by decide))⟩
  · obtain ⟨S, s1, s2, s3⟩ := h.pa i (by omega)
    simp only [if_neg e]
    exact ⟨S, s1, s2, (s3.alloc o).kept hg (rows_apart2 hra (s3.alloc o) (by decide))⟩
theorem argUp {R : Rn} {B B' : Nat} {A : Option Addr} {W : World} (h : ArgAt R B A W) (hb : B ≤ B') : ArgAt R B' A W :=
  ⟨fun i hi => by
    obtain ⟨b, off, a, e, h1, h2, h3⟩ := h.1 i hi
    exact ⟨b, off, a, e, by omega, h2, h3⟩, fun i hi p hp => by
    obtain ⟨h1, h2, h3⟩ := h.2 i hi p hp
    exact ⟨by omega, h2, h3⟩⟩
theorem prC_prR (R : Rn) (l : List It) : prC R l = prN (kkR R l) (vvR R l) l.length := by
  have e : l = (List.range l.length).map fun j => l.getD j (0, 0) := by
    refine List.ext_getElem (by simp) fun i h1 h2 => ?_
    simp [h1]
  unfold prC prN
  conv => lhs; rw [e]
  rw [List.flatMap_map]
  rfl
theorem pick {N : Nat} {α : Nat → Type} (d : (i : Nat) → α i) {P : (i : Nat) → α i → Prop} (h : ∀ i, i < N → ∃ x, P i x) : ∃ f : (i : Nat) → α i, ∀ i, i < N → P i (f i) :=
  ⟨fun i => if hi : i < N then Classical.choose (h i hi) else d i, fun i hi => by
    show P i (dite (i < N) _ _)
    rw [dif_pos hi]
    exact Classical.choose_spec (h i hi)⟩
/-- the merge of the sorted runs -/
theorem rs_close {R : Rn} {w wr : World} {B : Nat} {va : Value} {ha : Nat → Value} (h : QG R w wr B R.n va ha) (hn : R.n ≤ 1048576) (hln : ∀ i, i < R.n → R.ln i ≤ 1048576) (htot : tot R (fun _ => 0) ≤ 1048576) (hsz : ∀ i p, (R.K i p).size ≤ 1048576 ∧ (R.V i p).size ≤ 1048576) :
    ∃ Aq cq K V, va = .slice Aq R.n cq ∧ (∀ i j, i < j → j < lnS R R.n → compare (K i).data.toList (K j).data.toList ≠ .gt) ∧ (∀ x, cntQ x (listQ K V (lnS R R.n)) = cntQ x (allQ R R.n)) ∧ (∀ j, (K j).size ≤ 1048576 ∧ (V j).size ≤ 1048576) ∧ ∀ W, Below wr.heap.size wr W →
      Calls Try.prog 17 #[.slice Aq R.n cq] W fun e w' => ∃ v, e = .returned v ∧ w'.ownsRow W.heap.size 34 2 v (lnS R R.n) (prN K V (lnS R R.n)) ∧ Below W.heap.size W w' := by
  obtain ⟨S, hS⟩ : ∃ S : Sq R, ∀ i, i < R.n → (S i).Perm (dF (R.ln i)) ∧ SrtT (keyP (R.ln i) (R.K i)) (fun x => x.val) (S i) ∧ wr.ownsRow B 34 2 (ha i) (R.ln i) (prN (fun p => R.K i ((S i).getD p 0).val) (fun p => R.V i ((S i).getD p 0).val) (R.ln i)) :=
    pick (α := fun i => List (Fin (R.ln i + 1))) (fun _ => []) h.pa
  have hSR : SrtRuns R S := fun i hi => ⟨(hS i hi).1, (hS i hi).2.1⟩
  obtain ⟨Q, hQ⟩ : ∃ Q : Rn, Q = RnS R S := ⟨_, rfl⟩
  have hQn : Q.n = R.n := by rw [hQ]; rfl
  have hpa : ∀ i, i < R.n → wr.ownsRow B 34 2 (ha i) (Q.ln i) (prN (Q.K i) (Q.V i) (Q.ln i)) := fun i hi => by rw [hQ]; exact (hS i hi).2.2
  obtain ⟨Aq, cq, hva, hH, hRA⟩ := own_forms hQn.symm h.ra hpa
  obtain ⟨L, hL⟩ : ∃ L, L = mrgL Q (ordR Q) := ⟨_, rfl⟩
  have eL : L = mrgL (RnS R S) (ordR (RnS R S)) := by rw [hL, hQ]
  have hLn : L.length = lnS R R.n := by
    have h1 : (mrgL Q (ordR Q)).length = tot Q fun _ => 0 := mrg_full (ord_inj Q) (tot Q fun _ => 0) (fun _ => 0) rfl (fun _ _ => Nat.zero_le _)
    rw [hL, h1, hQ, tot_lnS]
    rfl
  refine ⟨Aq, cq, kkR Q L, vvR Q L, hva, fun i j hij hj => ?_, fun x => ?_, fun j => ?_, fun W hW => ?_⟩
  · have := rises_keys hSR eL i j hij (by omega)
    rw [hQ]
    exact this
  · have := rises_count hSR eL x
    rw [hLn] at this
    rw [hQ]
    exact this
  · rw [hQ]
    exact hsz _ _
  · have hA' := argUp (ArgAt.below (A := Aq) ⟨hH, hRA⟩ hW) hW.size
    have hm := merge_any (withR Q ha) (ordR Q) (Lib.hid (ord_ok Q)) (Lib.hid (ord_inj Q)) (Lib.hid (fun i hi => by
      have h1 : (withR Q ha).ln i = R.ln i := by rw [hQ]; rfl
      have hi' : i < Q.n := hi
      have := hln i (by omega)
      omega)) (by show Q.n ≤ _; omega) (by
      have e : tot (withR Q ha) (fun _ => 0) = tot R fun _ => 0 := by rw [hQ]; rfl
      rw [e]; omega) (fun i p => by
      have h1 : (withR Q ha).K i p = R.K i ((S i).getD p 0).val := by rw [hQ]; rfl
      have h2 : (withR Q ha).V i p = R.V i ((S i).getD p 0).val := by rw [hQ]; rfl
      have h3 := hsz i ((S i).getD p 0).val
      rw [h1, h2]
      exact ⟨by omega, by omega⟩) Aq cq W hA'.2 hA'.1
    rw [mrgL_with, ← hL, prC_with, prC_prR, hLn] at hm
    have e : (withR Q ha).n = R.n := hQn
    rw [e] at hm
    exact hm
set_option maxRecDepth 100000 in
set_option maxHeartbeats 16000000 in
theorem walk (A : Option Addr) (cap : Nat) (R : Rn) (w : World) (hn : R.n ≤ 1048576) (hln : ∀ i, i < R.n → R.ln i ≤ 1048576) (htot : tot R (fun _ => 0) ≤ 1048576) (hsz : ∀ i p, (R.K i p).size ≤ 1048576 ∧ (R.V i p).size ≤ 1048576) (hA : ArgAt R w.heap.size A w) :
    Calls Try.prog 6 #[.slice A R.n cap] w fun e w' => e = .returned (.bool true) ∧ Below w.heap.size w w' := by
  obtain ⟨i0, hi, hz0, hz1, hz2⟩ := info_parts infoSlA
  have HA := Lib.hid hA
  have HSZ := Lib.hid hsz
  have HLN := Lib.hid hln
  have HTOT := Lib.hid (by rw [tot_lnS] at htot; exact htot : lnS R R.n ≤ 1048576)
  have HTT := Lib.hid htot
  obtain ⟨N, hN⟩ : ∃ N, N = R.n := ⟨_, rfl⟩
  have HNN := Lib.hid hN
  rw [← hN] at hn ⊢
  clear hA hsz hln htot hN
  go_enter Try.func6, Try.ntmps6
  go_wp2_with (fail)
  refine (speaks19_any _).mono ?_
  rintro e w1 ⟨rfl, hb1⟩
  have HB1 := Lib.hid hb1
  clear hb1
  go_wp2
  go_loopw [3, 4, 5] (fun va vn iv wr => ∃ k : Nat, k ≤ N ∧ iv = .int .i64 (k : Int) ∧ vn = .int .i64 (lnS R k : Nat) ∧ Hid (∃ ha, QG R w wr w.heap.size k va ha)) (fun _ _ iv _ => N - (intOf iv).toNat)
  case atStart => exact ⟨0, Nat.zero_le _, rfl, rfl, Lib.hid ⟨fun _ => .slice none 0 0, World.ownsRow_nil _ _ _ _, fun i hi => absurd hi (Nat.not_lt_zero _), HB1.out⟩⟩
  case round =>
    obtain ⟨k, hk, rfl, rfl, HI⟩ := hrel
    obtain ⟨ha, hG⟩ := HI.out
    have HG := Lib.hid hG
    have hBr : w.heap.size ≤ wr.heap.size := hG.bel.size
    clear hG HI
    by_cases hlt : k < N
    · obtain ⟨b, off, a, rfl, hb, hc, hP⟩ := argAt_run (argUp (HA.out.below HG.out.bel) hBr) k (by have := HNN.out; omega)
      have hlk := HLN.out k (by have := HNN.out; omega)
      have hk1 : k + 1 ≤ N := hlt
      have k5 : k + 1 ≤ maxLen := by unfold maxLen; omega
      have k6 : (k + 1) * 24 ≤ 140737488355328 := by omega
      have hsum := lnS_succ R k
      have hsl : lnS R (k + 1) ≤ 1048576 := by
        have h1 := lnS_le R (R.n - (k + 1)) (k + 1)
        rw [show k + 1 + (R.n - (k + 1)) = R.n by have := HNN.out; omega] at h1
        have := HTOT.out
        omega
      obtain ⟨lk, hlk2⟩ : ∃ lk, lk = R.ln k := ⟨_, rfl⟩
      obtain ⟨s, hs⟩ : ∃ s, s = lnS R k := ⟨_, rfl⟩
      rw [← hlk2] at hc hP hlk hsum
      rw [← hs] at hsum ⊢
      have hsb : s + lk ≤ 1048576 := by omega
      have HSUM := Lib.hid hsum
      have HLK := Lib.hid hlk2
      clear hlk2 hs hsum hsl
      go_wp2_with (at_builtin; refine wpList_lit rfl _ _ rfl wr w.heap.size hBr a lk _ (R.K k) (R.V k) hlk _ rfl rfl rfl hP ?_)
      intro b0 c0 w2 H2
      have HB2 := Lib.hid (HG.out.below hBr H2.out.2)
      have hsrt := sort_any (some ⟨b0, 0, none⟩) lk c0 (R.K k) (R.V k) w2 (by omega) (fun j => ⟨by have := (HSZ.out k j).1; omega, by have := (HSZ.out k j).2; omega⟩) (by
        obtain ⟨A9, c9, e9, h9⟩ := prAt_own H2.out.1
        injection e9 with e9 _ _
        rw [e9]
        exact h9)
      have hB2 : w.heap.size ≤ w2.heap.size := HB2.out.bel.size
      have HSRT := Lib.hid hsrt
      have HAT := Lib.hid (And.intro hb hc)
      clear hsrt H2 HG hP hc
      go_wp2_with (fail)
      refine (HSRT.out).mono ?_
      rintro e w3 ⟨rfl, hS3⟩
      have HS3 := Lib.hid hS3
      clear hS3
      have HG3 := Lib.hid (HB2.out.below hB2 (HS3.out.elim fun S h => h.2.2.2.1))
      have hB3 : w.heap.size ≤ w3.heap.size := HG3.out.bel.size
      have hown := HG3.out.ra
      go_wp2_with (at_builtin; refine wpList_append_own _ rfl _ _ 22 rfl w.heap.size 32 i0 _ 1 24 Try.underlying22 hi hz0 hz1 hz2 rfl (by decide) _ _ _ rfl (hown.alloc _) ⟨w3.heap.size, 0, none⟩ 1 1 [.slice (some ⟨w2.heap.size, 0, none⟩) lk lk] rfl rfl (one_new _ _ _) (by intro y hy; rw [show y = .slice (some ⟨w2.heap.size, 0, none⟩) lk lk by simpa using hy]; rfl) k5 k6 (by simp; omega) ?_)
      intro va' w4 hown' hg4 _
      have hst := HG3.out.step hB3 (o := .cells #[.slice (some ⟨w2.heap.size, 0, none⟩) lk lk] 32) (v1 := .slice (some ⟨w2.heap.size, 0, none⟩) lk lk) (va' := va') (w' := w4) (by
        obtain ⟨S, s1, s2, _, s4, s5⟩ := HS3.out
        rw [← HLK.out]
        exact ⟨S, s1, s2, s5.mono hB2⟩) hg4 hown'
      have HST := Lib.hid hst
      obtain ⟨b8, off8, a8, e8, hb8, hc8, _⟩ := argAt_run (HA.out.below hst.bel) k (by have := HNN.out; omega)
      injection e8 with e8
      injection e8 with e81 e82 _
      subst e81 e82
      rw [← HLK.out] at hc8
      clear hst hown hown' hg4
      have HN2 : Hid (∃ ha, QG R w w4 w.heap.size (k + 1) va' ha) := Lib.hid ⟨_, HST.out⟩
      clear HST
      go_wp2
      go_roundw
      case rel => exact ⟨k + 1, hk1, by first | rfl | go_num, by rw [HSUM.out]; first | rfl | go_num, HN2⟩
      case measure => simp [intOf]; omega
    · obtain rfl : k = N := by omega
      have hG := HG.out
      rw [HNN.out] at hG
      obtain ⟨Aq, cq, K, V, e9, hK, hC, hS, hM⟩ := rs_close hG (by have := HNN.out; omega) HLN.out HTT.out HSZ.out
      subst e9
      have HB9 := Lib.hid hG.bel
      obtain ⟨n, hn0⟩ : ∃ n, n = lnS R R.n := ⟨_, rfl⟩
      have hn1 : n ≤ 1048576 := by have := HTOT.out; omega
      rw [← hn0] at hK hC hM
      rw [← HNN.out] at hM ⊢
      rw [show lnS R k = n by rw [hn0, HNN.out]]
      have HK := Lib.hid hK
      have HC := Lib.hid hC
      have HS := Lib.hid hS
      have HM := Lib.hid hM
      clear hG hK hC hS hM hn0 HG
      go_wp2_with (fail)
      refine (HM.out _ (Below.refl _ _)).mono ?_
      rintro e w5 ⟨v5, rfl, ho5, hb5⟩
      obtain ⟨A5, c5, rfl, hr5⟩ := prAt_own ho5
      have HR5 := Lib.hid hr5
      have HB5 := Lib.hid (HB9.out.trans (hb5.mono HB9.out.size))
      clear ho5 hb5 hr5
      go_wp2_with (fail)
      refine (groups_any A5 n c5 K V w5 (by omega) (fun j => ⟨by have := (HS.out j).1; omega, by have := (HS.out j).2; omega⟩) HR5.out).mono ?_
      rintro e w6 ⟨vg, hv, rfl, hGA⟩
      obtain ⟨g, hg⟩ : ∃ g, g = grp K n := ⟨_, rfl⟩
      rw [← hg] at hGA
      have HOK : Hid (GrOk K n g) := Lib.hid (by rw [hg]; exact grp_ok K n)
      obtain ⟨Ag, cg, rfl⟩ := own_slice3 hGA.row
      obtain ⟨G, hGn⟩ : ∃ G, G = g.N := ⟨_, rfl⟩
      have HGN := Lib.hid hGn
      have hGle : G ≤ n := by rw [hGn]; exact HOK.out.le
      rw [← hGn]
      have HGA := Lib.hid hGA
      have HB6 := Lib.hid (HB5.out.trans (hGA.bel.mono HB5.out.size))
      have HR6 := Lib.hid (HR5.out.below hGA.bel)
      have HCC := Lib.hid (HNN.out)
      clear hg hGA hGn
      go_wp2
      go_loopw [8, 9] (fun vall iv wr => ∃ q : Nat, q ≤ G ∧ iv = .int .i64 (q : Int) ∧ vall = .int .i64 (csG g q : Nat) ∧ Hid (∃ m, wr = w6.drewN m)) (fun _ iv _ => G - (intOf iv).toNat)
      case atStart => exact ⟨0, Nat.zero_le _, rfl, rfl, Lib.hid ⟨0, rfl⟩⟩
      case round =>
        obtain ⟨q, hq, rfl, rfl, HW⟩ := hrel
        obtain ⟨m, rfl⟩ := HW.out
        clear HW
        by_cases hqG : q < G
        · have hqN : q < g.N := by have := HGN.out; omega
          obtain ⟨bg, cg', eg, hBg, _⟩ := HGA.out.row.form (by omega)
          injection eg with eg _ ecp
          subst eg ecp
          obtain ⟨cs1, cs2⟩ := csG_succ HOK.out q hqN
          obtain ⟨Ah, ch, hhd⟩ := own_slice3 (HGA.out.vals q hqN)
          have h1 : w6.cell? ⟨bg, q * 2 + 1, none⟩ = some (.slice Ah (g.c q) ch) := by rw [← hhd]; exact (HGA.out.row.cellAt (q * 2 + 1) (by omega)).trans (prV_get _ _ _ q hqN).2
          have h0 : w6.cell? ⟨bg, q * 2, none⟩ = some (.string (K (g.s q))) := (HGA.out.row.cellAt (q * 2) (by omega)).trans (prV_get _ _ _ q hqN).1
          obtain ⟨cc, hcc⟩ : ∃ cc, cc = g.c q := ⟨_, rfl⟩
          obtain ⟨su, hsu⟩ : ∃ su, su = csG g q := ⟨_, rfl⟩
          rw [← hcc] at h1 cs1
          rw [← hsu] at cs1 ⊢
          have CS := Lib.hid cs1
          have hsc : su + cc ≤ 1048576 := by omega
          have hq1 : q + 1 ≤ G := hqG
          clear cs1 cs2 hcc hsu hhd hqG
          by_cases hq0 : q = 0
          · subst hq0
            clear h0
            go_wp2_with (fail)
            go_quiet (fail)
            go_wp2
            go_roundw
            case rel => exact ⟨0 + 1, hq1, by first | rfl | go_num, by rw [CS.out]; first | rfl | go_num, Lib.hid ⟨_, rfl⟩⟩
            case measure => simp [intOf]; omega
          · obtain ⟨j, rfl⟩ : ∃ j, q = j + 1 := ⟨q - 1, by omega⟩
            have hjN : j < g.N := by omega
            have p0 : w6.cell? ⟨bg, j * 2, none⟩ = some (.string (K (g.s j))) := (HGA.out.row.cellAt (j * 2) (by omega)).trans (prV_get _ _ _ j hjN).1
            have hless := grp_less HOK.out HK.out j hqN
            have hw1 : IntKind.i64.wrap (j : Int) = (j : Int) := IntWalk.i64_in _ (by omega)
            have hw2 : IntKind.i64.wrap ((j : Int) + 1 - 1) = (j : Int) := by rw [show (j : Int) + 1 - 1 = (j : Int) by omega]; exact IntWalk.i64_in _ (by omega)
            obtain ⟨X, hX⟩ : ∃ X, X = K (g.s j) := ⟨_, rfl⟩
            obtain ⟨Y, hY⟩ : ∃ Y, Y = K (g.s (j + 1)) := ⟨_, rfl⟩
            rw [← hX] at p0 hless
            rw [← hY] at h0 hless
            have hjG : j < G := by omega
            have hless2 : Go.Op.bytesLess X.toList Y.toList = true := by rw [Lib.toList_data, Lib.toList_data]; exact hless
            have hgt : (0 : Int) < (j : Int) + 1 := by omega
            clear hX hY hq0 hjN hqN
            go_wp2_with (fail)
            go_quiet (fail)
            go_wp2
            go_roundw
            case rel => exact ⟨j + 1 + 1, hq1, by first | rfl | go_num, by rw [CS.out]; first | rfl | go_num, Lib.hid ⟨_, rfl⟩⟩
            case measure => simp [intOf]; omega
        · obtain rfl : q = G := by omega
          have hall : csG g q = n := by rw [HGN.out]; exact csG_all HOK.out
          rw [hall]
          clear hall hqG
          have HAR := Lib.hid (HA.out.below HB6.out)
          go_wp2
          go_loopw [10] (fun iv wr => ∃ i : Nat, i ≤ n ∧ iv = .int .i64 (i : Int) ∧ Hid (∃ m, wr = w6.drewN m)) (fun iv _ => n - (intOf iv).toNat)
          case atStart => exact ⟨0, Nat.zero_le _, rfl, Lib.hid ⟨_, rfl⟩⟩
          case round =>
            obtain ⟨i, hin, rfl, HW⟩ := hrel
            obtain ⟨m2, rfl⟩ := HW.out
            clear HW
            by_cases hil : i < n
            · obtain ⟨b5, o5, rfl, _, q0, q1⟩ := HR6.out i hil
              obtain ⟨Y, hY⟩ : ∃ Y, Y = K i := ⟨_, rfl⟩
              obtain ⟨Q, hQ⟩ : ∃ Q, Q = V i := ⟨_, rfl⟩
              rw [← hY] at q0
              rw [← hQ] at q1
              have hi1 : i + 1 ≤ n := hil
              clear hY hQ
              go_wp2
              go_loopw [11, 13] (fun va zv wr => ∃ z : Nat, z ≤ n ∧ zv = .int .i64 (z : Int) ∧ va = .int .i64 (cntQ (Y, Q) (listQ K V z) : Nat) ∧ Hid (∃ m, wr = w6.drewN m)) (fun _ zv _ => n - (intOf zv).toNat)
              case atStart => exact ⟨0, Nat.zero_le _, rfl, rfl, Lib.hid ⟨_, rfl⟩⟩
              case round =>
                obtain ⟨z, hzn, rfl, rfl, HW⟩ := hrel
                obtain ⟨m3, rfl⟩ := HW.out
                clear HW
                by_cases hzl : z < n
                · obtain ⟨b6, o6, e6, _, p0, p1⟩ := HR6.out z hzl
                  injection e6 with e6
                  injection e6 with e61 e62 _
                  subst e61 e62
                  have hcl := cntQ_le (Y, Q) (listQ K V z)
                  rw [listQ_len] at hcl
                  have HYES := Lib.hid (cntQ_yes (K := K) (V := V) (k := z) (x := (Y, Q)))
                  have HNO := Lib.hid (cntQ_no (K := K) (V := V) (k := z) (x := (Y, Q)))
                  obtain ⟨X, hX⟩ : ∃ X, X = K z := ⟨_, rfl⟩
                  obtain ⟨P, hP⟩ : ∃ P, P = V z := ⟨_, rfl⟩
                  rw [← hX] at p0 HYES HNO
                  rw [← hP] at p1 HYES HNO
                  obtain ⟨ca, hca⟩ : ∃ ca, ca = cntQ (Y, Q) (listQ K V z) := ⟨_, rfl⟩
                  rw [← hca] at hcl HYES HNO ⊢
                  have hcb : ca ≤ 1048576 := by omega
                  have hz1 : z + 1 ≤ n := hzl
                  clear hca hX hP hcl
                  by_cases hXY : X = Y
                  · by_cases hPQ : P = Q
                    · have e1 : (X.toList == Y.toList) = true := by rw [hXY]; exact str_eq Y
                      have e2 : (P.toList == Q.toList) = true := by rw [hPQ]; exact str_eq Q
                      have HN := Lib.hid (HYES.out (by rw [hXY, hPQ]))
                      clear hXY hPQ
                      go_wp2_with (fail)
                      go_quiet (fail)
                      go_wp2
                      go_roundw
                      case rel => exact ⟨z + 1, hz1, by first | rfl | go_num, by rw [HN.out]; first | rfl | go_num, Lib.hid ⟨_, rfl⟩⟩
                      case measure => simp [intOf]; omega
                    · have e1 : (X.toList == Y.toList) = true := by rw [hXY]; exact str_eq Y
                      have e2 : (P.toList == Q.toList) = false := str_ne hPQ
                      have HN := Lib.hid (HNO.out (fun e => hPQ (Prod.mk.inj e).2))
                      clear hXY hPQ
                      go_wp2_with (fail)
                      go_quiet (fail)
                      go_wp2
                      go_roundw
                      case rel => exact ⟨z + 1, hz1, by first | rfl | go_num, by rw [HN.out], Lib.hid ⟨_, rfl⟩⟩
                      case measure => simp [intOf]; omega
                  · have e1 : (X.toList == Y.toList) = false := str_ne hXY
                    have HN := Lib.hid (HNO.out (fun e => hXY (Prod.mk.inj e).1))
                    clear hXY
                    go_wp2_with (fail)
                    go_quiet (fail)
                    go_wp2
                    go_roundw
                    case rel => exact ⟨z + 1, hz1, by first | rfl | go_num, by rw [HN.out], Lib.hid ⟨_, rfl⟩⟩
                    case measure => simp [intOf]; omega
                · obtain rfl : z = n := by omega
                  have hall := HC.out (Y, Q)
                  obtain ⟨ct, hct⟩ : ∃ ct, ct = cntQ (Y, Q) (listQ K V z) := ⟨_, rfl⟩
                  rw [← hct] at hall ⊢
                  have HALL := Lib.hid hall
                  clear hall hct
                  go_wp2
                  go_loopw [12, 14] (fun vb rv wr => ∃ r : Nat, r ≤ k ∧ rv = .int .i64 (r : Int) ∧ vb = .int .i64 (cntQ (Y, Q) (allQ R r) : Nat) ∧ Hid (∃ m, wr = w6.drewN m)) (fun _ rv _ => k - (intOf rv).toNat)
                  case atStart => exact ⟨0, Nat.zero_le _, rfl, rfl, Lib.hid ⟨_, rfl⟩⟩
                  case round =>
                    obtain ⟨r, hrk, rfl, rfl, HW⟩ := hrel
                    obtain ⟨m4, rfl⟩ := HW.out
                    clear HW
                    by_cases hrl : r < k
                    · have hrR : r < R.n := by have := HCC.out; omega
                      obtain ⟨br, or', ar, rfl, _, s0, hPr⟩ := argAt_run HAR.out r hrR
                      have HPR := Lib.hid hPr
                      have hlr := HLN.out r hrR
                      have hlen := allQ_len R r
                      have hlb : (allQ R r).length + R.ln r ≤ 1048576 := by
                        have h1 := lnS_le R (R.n - (r + 1)) (r + 1)
                        rw [show r + 1 + (R.n - (r + 1)) = R.n by omega] at h1
                        have h2 := lnS_succ R r
                        have h3 := HTOT.out
                        have h4 : (allQ R r).length = lnS R r := hlen
                        omega
                      have hcr := cntQ_le (Y, Q) (allQ R r)
                      have hnext : cntQ (Y, Q) (allQ R (r + 1)) = cntQ (Y, Q) (allQ R r) + cntQ (Y, Q) (listQ (R.K r) (R.V r) (R.ln r)) := by
                        rw [allQ_succ, cntQ_app]
                        rfl
                      obtain ⟨lr, hlr2⟩ : ∃ lr, lr = R.ln r := ⟨_, rfl⟩
                      obtain ⟨cr, hcr2⟩ : ∃ cr, cr = cntQ (Y, Q) (allQ R r) := ⟨_, rfl⟩
                      rw [← hlr2] at s0 hlb hlr hnext HPR
                      rw [← hcr2] at hcr hnext ⊢
                      have hcb2 : cr + lr ≤ 1048576 := by omega
                      have HNEXT := Lib.hid hnext
                      have hr1 : r + 1 ≤ k := hrl
                      clear hnext hcr hlen hlb hPr hlr2 hcr2 hrR
                      go_wp2
                      go_loopw [12, 15] (fun vb zv wr => ∃ z : Nat, z ≤ lr ∧ zv = .int .i64 (z : Int) ∧ vb = .int .i64 (cr + cntQ (Y, Q) (listQ (R.K r) (R.V r) z) : Nat) ∧ Hid (∃ m, wr = w6.drewN m)) (fun _ zv _ => lr - (intOf zv).toNat)
                      case atStart => exact ⟨0, Nat.zero_le _, rfl, rfl, Lib.hid ⟨_, rfl⟩⟩
                      case round =>
                        obtain ⟨z, hzn, rfl, rfl, HW⟩ := hrel
                        obtain ⟨m5, rfl⟩ := HW.out
                        clear HW
                        by_cases hzl : z < lr
                        · obtain ⟨b7, o7, rfl, _, p0, p1⟩ := HPR.out z hzl
                          have hcl := cntQ_le (Y, Q) (listQ (R.K r) (R.V r) z)
                          rw [listQ_len] at hcl
                          have HYES := Lib.hid (fun h => congrArg (cr + ·) (cntQ_yes (K := R.K r) (V := R.V r) (k := z) (x := (Y, Q)) h))
                          have HNO := Lib.hid (fun h => congrArg (cr + ·) (cntQ_no (K := R.K r) (V := R.V r) (k := z) (x := (Y, Q)) h))
                          simp only [← Nat.add_assoc] at HYES HNO
                          obtain ⟨X, hX⟩ : ∃ X, X = R.K r z := ⟨_, rfl⟩
                          obtain ⟨P, hP⟩ : ∃ P, P = R.V r z := ⟨_, rfl⟩
                          rw [← hX] at p0 HYES HNO
                          rw [← hP] at p1 HYES HNO
                          obtain ⟨ca, hca⟩ : ∃ ca, ca = cr + cntQ (Y, Q) (listQ (R.K r) (R.V r) z) := ⟨_, rfl⟩
                          rw [← hca] at HYES HNO ⊢
                          have hcb : ca ≤ 1048576 := by omega
                          have hz1 : z + 1 ≤ lr := hzl
                          clear hca hX hP hcl
                          by_cases hXY : X = Y
                          · by_cases hPQ : P = Q
                            · have e1 : (X.toList == Y.toList) = true := by rw [hXY]; exact str_eq Y
                              have e2 : (P.toList == Q.toList) = true := by rw [hPQ]; exact str_eq Q
                              have HN := Lib.hid (HYES.out (by rw [hXY, hPQ]))
                              clear hXY hPQ
                              go_wp2_with (fail)
                              go_quiet (fail)
                              go_wp2
                              go_roundw
                              case rel => exact ⟨z + 1, hz1, by first | rfl | go_num, by rw [HN.out]; first | rfl | go_num, Lib.hid ⟨_, rfl⟩⟩
                              case measure => simp [intOf]; omega
                            · have e1 : (X.toList == Y.toList) = true := by rw [hXY]; exact str_eq Y
                              have e2 : (P.toList == Q.toList) = false := str_ne hPQ
                              have HN := Lib.hid (HNO.out (fun e => hPQ (Prod.mk.inj e).2))
                              clear hXY hPQ
                              go_wp2_with (fail)
                              go_quiet (fail)
                              go_wp2
                              go_roundw
                              case rel => exact ⟨z + 1, hz1, by first | rfl | go_num, by rw [HN.out], Lib.hid ⟨_, rfl⟩⟩
                              case measure => simp [intOf]; omega
                          · have e1 : (X.toList == Y.toList) = false := str_ne hXY
                            have HN := Lib.hid (HNO.out (fun e => hXY (Prod.mk.inj e).1))
                            clear hXY
                            go_wp2_with (fail)
                            go_quiet (fail)
                            go_wp2
                            go_roundw
                            case rel => exact ⟨z + 1, hz1, by first | rfl | go_num, by rw [HN.out], Lib.hid ⟨_, rfl⟩⟩
                            case measure => simp [intOf]; omega
                        · obtain rfl : z = lr := by omega
                          rw [← HNEXT.out]
                          go_wp2
                          go_roundw
                          case rel => exact ⟨r + 1, hr1, by first | rfl | go_num, rfl, Lib.hid ⟨_, rfl⟩⟩
                          case measure => simp [intOf]; omega
                    · obtain rfl : r = k := by omega
                      have hq9 : cntQ (Y, Q) (allQ R r) = ct := by rw [HCC.out]; exact HALL.out.symm
                      rw [hq9]
                      clear hq9
                      go_wp2
                      go_roundw
                      case rel => exact ⟨i + 1, hi1, by first | rfl | go_num, Lib.hid ⟨_, rfl⟩⟩
                      case measure => simp [intOf]; omega
            · obtain rfl : i = n := by omega
              go_wp2
              go_ret
              exact ⟨rfl, HB6.out.os, HB6.out.tape, HB6.out.output, HB6.out.size, HB6.out.block⟩

set_option maxRecDepth 100000 in
theorem contractUpto (H : Type) (enc : TypeId × Value → H) (W : World) (base : Nat) (args : Array Value) (ds gs : List (DataW H)) (before : List MemPlace)
    (hval : ∀ (j : Nat) t v, Try.f6.params[j]? = some t → args[j]? = some v → Value.okWide Try.prog W .any base t v)
    (hW : DataW.Whole enc Try.prog Try.f6.params.toList Rows.mergeRisesSpec.vars false W args.toList ds gs before)
    (hz : (DataW.weightsEach Try.prog (Try.f6.params.toList ++ []) (ds ++ gs)).all (· ≤ reachBytes) = true) (hk : Rows.uptoSmall H (ds ++ gs) = true) :
    Calls Try.prog 6 args W fun e W' => ∃ v, e = .returned v ∧ Rows.mergeRisesSpec.post enc Try.prog Try.f6 false true false false W args v W' := by
  have hW' := hW
  obtain ⟨p, q, hA0, hV, rfl, hfz, hnd⟩ := hW
  have hA : DataW.TrodAll enc Try.prog W 0 (fun _ => true) true Try.f6.params.toList args.toList ds p := hA0
  rw [Try.params6] at hA hval hz
  obtain ⟨v0, vs0, d0, ds0, p0, q0, hargs, rfl, rfl, h0, r0⟩ := trodAll_cons hA
  obtain ⟨rfl, rfl, rfl⟩ := trodAll_nil r0
  obtain rfl : args = #[v0] := by cases args; simp_all
  obtain ⟨rfl, rfl⟩ := trodVars_none hV
  have hk1 : Rows.uptoBulk d0 ≤ 1048576 := by have h := of_decide_eq_true hk; simp only [List.append_nil, List.cons_append, List.nil_append, Rows.uptoBulkAll] at h; omega
  obtain ⟨A, cap, R, rfl, hn, hln, htot, hsz, hAt⟩ := open_runs (hval 0 22 v0 rfl rfl) h0 hk1
  clear hA0
  refine (walk A cap R W hn hln htot hsz hAt).mono fun e W' ⟨he, hb⟩ => ?_
  subst he
  exact ⟨_, rfl, law_end hW' rfl rfl hb laidOut (by kernel_rfl) (by kernel_rfl) Try.underlying4⟩

theorem reads (os : Os) {H : Type} (enc : TypeId × Value → H) : ∃ places, DataW.whole enc Try.prog ((World.holding Try.prog os ⟨#[], #[], []⟩).forCall (fun _ _ => 0) ⟨#[], #[.slice none 0 0], []⟩).memory Try.f6.params.toList Rows.mergeRisesSpec.vars false [Value.slice none 0 0] 8 = some ([.nil], [], places) :=
  ⟨[], by kernel_rfl⟩

set_option maxRecDepth 100000 in
theorem lifted (os : Os) (started : os.Started) (H : Type) (enc : TypeId × Value → H) (F : Stop.Interp) :
    ReturnsInHanded {} Try.checked os 6 .any ((Rows.OpenSpec.upto Rows.mergeRisesSpec).preRow enc Try.prog Try.f6 Rows.mergeRisesUptoRow.domain false Rows.mergeRisesUptoRow.laid) (((Rows.OpenSpec.upto Rows.mergeRisesSpec).at F).post enc Try.prog Try.f6 false true false false) := by
  obtain ⟨places, hx⟩ := reads os enc
  have laid_met : laidMet Try.prog Rows.mergeRisesUptoRow.laid ((World.holding Try.prog os ⟨#[], #[], []⟩).forCall (fun _ _ => 0) ⟨#[], #[.slice none 0 0], []⟩).memory := ⟨[], rfl, List.nodup_nil, fun _ _ h => by cases h⟩
  refine returnsInHanded_of_row (C := Try.checked) (s := Rows.OpenSpec.upto Rows.mergeRisesSpec) own started (by kernel_rfl) Try.func6
    (witness_row_at (enc := enc) (C := Try.checked) false (World.holding Try.prog os ⟨#[], #[], []⟩) #[.slice none 0 0] rfl (by kernel_rfl) (by kernel_rfl) (by kernel_rfl)
      (OpenSpec.preRow_of_cond 8 hx (by kernel_rfl) (fun k hk => by cases hk; kernel_rfl) (by kernel_rfl) laid_met)) ?_
  intro W base args ds gs before hval hW _ hcond hz _ _ _
  exact contractUpto H enc W base args ds gs before hval hW hz (hcond _ rfl)

theorem said : Rows.MergeRisesUptoSaid :=
  OpenClaim.holds_of_cond 6 Try.f6 rfl rfl rfl rfl rfl rfl rfl ⟨rfl, rfl, rfl, rfl, rfl⟩ rfl rfl rfl rfl rfl (by kernel_rfl) Try.func6 (by kernel_rfl)
    (of_decide_eq_true (by kernel_rfl)) (by unfold Func.isWrapper; first | (rw [if_pos (by decide +kernel)]; kernel_rfl) | (rw [if_neg (by decide +kernel)]; exact ⟨rfl, rfl⟩))
    (fun os started H enc _ F => by rw [OpenClaim.pre_eq_preRow]; exact lifted os started H enc F)

end Go.Proofs.Ytmpeaondljpgiaa.fnMergeRises
