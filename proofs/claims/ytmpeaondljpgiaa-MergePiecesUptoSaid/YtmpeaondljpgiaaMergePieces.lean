/- MergePieces is true for all lists and cuts: the list cut into runs, each sorted, and merged, is the list sorted. Its condition: what it reads is of bulk at most 1048576. -/
import Derived.Test.YtmpeaondljpgiaaMrgSpeak
import Derived.Test.YtmpeaondljpgiaaMrgRuns
import Derived.Test.YtmpeaondljpgiaaMrgPcs
import Derived.Test.YtmpeaondljpgiaaMrgLit
import Derived.Test.YtmpeaondljpgiaaSlices
import Derived.BigQuiet
import Derived.Deep.RegionHeld3
import Derived.Deep.RegionLaw
import Derived.Deep.AppendLies
import Derived.IntWalk

import Derived.Test.YtmpeaondljpgiaaLawEnd

import Derived.Test.YtmpeaondljpgiaaPlainKit

namespace Go.Proofs.Ytmpeaondljpgiaa.fnMergePieces
open Go.ChangeShapes Go.WideShapes Go.ChangeAt Go.RowKit Go.WideMaps Go.WideElems
open Go.ChangeMaps (open_string)

/-- how much a cut takes -/
def cutZ (zs : List Int) (n o i : Nat) : Nat := if 0 ≤ zs.getD i 0 ∧ zs.getD i 0 ≤ ((n - o : Nat) : Int) then (zs.getD i 0).toNat else n - o
def offZ (zs : List Int) (n : Nat) : Nat → Nat
  | 0 => 0
  | i + 1 => offZ zs n i + cutZ zs n (offZ zs n i) i
theorem cutZ_le (zs : List Int) (n o i : Nat) : cutZ zs n o i ≤ n - o := by unfold cutZ; split <;> omega
theorem offZ_le (zs : List Int) (n : Nat) : ∀ i, offZ zs n i ≤ n
  | 0 => Nat.zero_le _
  | i + 1 => by have h1 := offZ_le zs n i; have h2 := cutZ_le zs n (offZ zs n i) i; show offZ zs n i + _ ≤ n; omega
def offK (zs : List Int) (n kk i : Nat) : Nat := if i ≤ kk then offZ zs n i else n
def lnK (zs : List Int) (n kk i : Nat) : Nat := offK zs n kk (i + 1) - offK zs n kk i
theorem offK_le (zs : List Int) (n kk i : Nat) : offK zs n kk i ≤ n := by
  unfold offK
  split
  · exact offZ_le _ _ _
  · exact Nat.le_refl _
theorem offK_s (zs : List Int) (n kk i : Nat) (hi : i ≤ kk) : offK zs n kk (i + 1) = offK zs n kk i + lnK zs n kk i ∧ (i < kk → lnK zs n kk i = cutZ zs n (offZ zs n i) i) ∧ (i = kk → lnK zs n kk i = n - offZ zs n kk) := by
  have h1 := offZ_le zs n i
  have e1 : offK zs n kk i = offZ zs n i := by unfold offK; rw [if_pos hi]
  unfold lnK
  rw [e1]
  by_cases h : i < kk
  · have e2 : offK zs n kk (i + 1) = offZ zs n i + cutZ zs n (offZ zs n i) i := by unfold offK; rw [if_pos (by omega)]; rfl
    rw [e2]
    exact ⟨by omega, fun _ => by omega, fun e => by omega⟩
  · have e2 : offK zs n kk (i + 1) = n := by unfold offK; rw [if_neg (by omega)]
    obtain rfl : i = kk := by omega
    rw [e2]
    exact ⟨by omega, fun e => by omega, fun _ => rfl⟩
/-- what is left of the list's copy -/
structure RsAt (W : World) (B b o m c : Nat) (K V : Nat → ByteArray) : Prop where
  le : m ≤ c
  lo : B ≤ b
  at' : ∀ j, j < m → Bears W b 34 ∧ W.cell? ⟨b, o + j * 2, none⟩ = some (.string (K j)) ∧ W.cell? ⟨b, o + j * 2 + 1, none⟩ = some (.string (V j))
theorem RsAt.same {W W' : World} {B b o m c : Nat} {K V : Nat → ByteArray} (h : RsAt W B b o m c K V) (hb : ∀ g e, Bears W g e → e = 34 → W'.heap[g]? = W.heap[g]?) : RsAt W' B b o m c K V :=
  ⟨h.le, h.lo, fun j hj => by
    obtain ⟨h1, h2, h3⟩ := h.at' j hj
    have e := hb b _ h1 rfl
    exact ⟨by obtain ⟨cs, k⟩ := h1; exact ⟨cs, e.trans k⟩, (cell_eq e _).trans h2, (cell_eq e _).trans h3⟩⟩
theorem RsAt.prAt {W : World} {B b o m c : Nat} {K V : Nat → ByteArray} (h : RsAt W B b o m c K V) (k : Nat) (hk : k ≤ m) : PrAt W W.heap.size (some ⟨b, o, none⟩) k K V := fun j hj => by
  obtain ⟨h1, h2, h3⟩ := h.at' j (by omega)
  exact ⟨b, o, rfl, h1.lt, h2, h3⟩
theorem RsAt.behind {W : World} {B b o m c : Nat} {K V : Nat → ByteArray} (h : RsAt W B b o m c K V) (k : Nat) (hk : k ≤ m) : RsAt W B b (o + k * 2) (m - k) (c - k) (fun j => K (k + j)) (fun j => V (k + j)) :=
  ⟨by have := h.le; omega, h.lo, fun j hj => by
    obtain ⟨h1, h2, h3⟩ := h.at' (k + j) (by omega)
    refine ⟨h1, ?_, ?_⟩
    · rw [← h2]; congr 2; omega
    · rw [← h3]; congr 2; omega⟩
theorem RsAt.behind0 {W : World} {B b o m c : Nat} {K V : Nat → ByteArray} (h : RsAt W B b o m c K V) (k : Nat) (hk : k = c) : RsAt W B b o (m - k) (c - k) (fun j => K (k + j)) (fun j => V (k + j)) :=
  ⟨by have := h.le; omega, h.lo, fun j hj => by have := h.le; omega⟩
theorem own_bears2 {w : World} {B n sz : Nat} {e : TypeId} {v : Value} {xs : List Value} (h : w.ownsRow B e sz v n xs) {g : Nat} (hg : v.ownBlock = some g) : Bears w g e := by
  rcases h.2 with ⟨rfl, _⟩ | ⟨g', cap, cur, rfl, _, hgg, _⟩
  · simp [Value.ownBlock] at hg
  · simp [Value.ownBlock] at hg
    subst hg
    exact ⟨cur, hgg⟩
theorem rs_own {W : World} {B b n c : Nat} {K V : Nat → ByteArray} (h : W.ownsRow B 34 2 (.slice (some ⟨b, 0, none⟩) n c) n (prN K V n)) : RsAt W B b 0 n c K V := by
  have hb : Bears W b 34 := own_bears2 h rfl
  have hlo := (h.lt b rfl).1
  have hle : n ≤ c := by
    rcases h.2 with ⟨e, _⟩ | ⟨g', cap, cur, e, _, _, hl, _⟩
    · cases e
    · injection e with _ _ e
      omega
  refine ⟨hle, hlo, fun j hj => ⟨hb, ?_, ?_⟩⟩
  · rw [Nat.zero_add, h.cellAt _ (by omega)]
    exact (prN_get K V n j hj).1
  · rw [Nat.zero_add, h.cellAt _ (by omega)]
    exact (prN_get K V n j hj).2
/-- behind some cuts: the runs, sorted -/
structure PcG (n : Nat) (K V : Nat → ByteArray) (off ln : Nat → Nat) (w wr : World) (B k : Nat) (va : Value) (ha : Nat → Value) : Prop where
  ra : wr.ownsRow B 32 1 va k ((List.range k).map ha)
  pa : ∀ i, i < k → ∃ S : List (Fin (ln i + 1)), S.Perm (dF (ln i)) ∧ SrtT (keyP (ln i) fun j => K (off i + j)) (fun x => x.val) S ∧ wr.ownsRow B 34 2 (ha i) (ln i) (prN (fun p => K (off i + (S.getD p 0).val)) (fun p => V (off i + (S.getD p 0).val)) (ln i))
  bel : Below B w wr
theorem PcG.below {n : Nat} {K V : Nat → ByteArray} {off ln : Nat → Nat} {w wr w' : World} {B k : Nat} {va : Value} {ha : Nat → Value} (h : PcG n K V off ln w wr B k va ha) (hB : B ≤ wr.heap.size) (hb : Below wr.heap.size wr w') : PcG n K V off ln w w' B k va ha :=
  ⟨own_below2 hb h.ra, fun i hi => by
    obtain ⟨S, h1, h2, h3⟩ := h.pa i hi
    exact ⟨S, h1, h2, own_below2 hb h3⟩, h.bel.trans (hb.mono hB)⟩
theorem PcG.step {n : Nat} {K V : Nat → ByteArray} {off ln : Nat → Nat} {w wr w' : World} {B k : Nat} {va v1 va' : Value} {ha : Nat → Value} {o : Obj} (h : PcG n K V off ln w wr B k va ha) (hB : B ≤ wr.heap.size)
    (h1 : ∃ S : List (Fin (ln k + 1)), S.Perm (dF (ln k)) ∧ SrtT (keyP (ln k) fun j => K (off k + j)) (fun x => x.val) S ∧ wr.ownsRow B 34 2 v1 (ln k) (prN (fun p => K (off k + (S.getD p 0).val)) (fun p => V (off k + (S.getD p 0).val)) (ln k)))
    (hg : (wr.alloc o).grownBy w' va.ownBlock) (hown : w'.ownsRow B 32 1 va' (k + 1) ((List.range k).map ha ++ [v1])) : PcG n K V off ln w w' B (k + 1) va' (fun i => if i = k then v1 else ha i) := by
  have hra := h.ra.alloc o
  refine ⟨by rw [map_put]; exact hown, fun i hi => ?_, (h.bel.alloc hB o).grown hg (by simp; omega) (fun j ej => (hra.lt j ej).1)⟩
  by_cases e : i = k
  · subst e
    obtain ⟨S, s1, s2, s3⟩ := h1
    simp only [if_true]
    exact ⟨S, s1, s2, (s3.alloc o).kept hg (rows_apart2 hra (s3.alloc o) (by decide))⟩
  · obtain ⟨S, s1, s2, s3⟩ := h.pa i (by omega)
    simp only [if_neg e]
    exact ⟨S, s1, s2, (s3.alloc o).kept hg (rows_apart2 hra (s3.alloc o) (by decide))⟩
theorem argUp {R : Rn} {B B' : Nat} {A : Option Addr} {W : World} (h : ArgAt R B A W) (hb : B ≤ B') : ArgAt R B' A W :=
  ⟨fun i hi => by
    obtain ⟨b, off, a, e, h1, h2, h3⟩ := h.1 i hi
    exact ⟨b, off, a, e, by omega, h2, h3⟩, fun i hi p hp => by
    obtain ⟨h1, h2, h3⟩ := h.2 i hi p hp
    exact ⟨by omega, h2, h3⟩⟩
def kkP (R : Rn) (l : List It) (j : Nat) : ByteArray := R.K (l.getD j (0, 0)).1 (l.getD j (0, 0)).2
def vvP (R : Rn) (l : List It) (j : Nat) : ByteArray := R.V (l.getD j (0, 0)).1 (l.getD j (0, 0)).2
theorem prC_prP (R : Rn) (l : List It) : prC R l = prN (kkP R l) (vvP R l) l.length := by
  have e : l = (List.range l.length).map fun j => l.getD j (0, 0) := by
    refine List.ext_getElem (by simp) fun i h1 h2 => ?_
    simp [h1]
  unfold prC prN
  conv => lhs; rw [e]
  rw [List.flatMap_map]
  rfl
theorem prN_congr {k v k' v' : Nat → ByteArray} {n : Nat} (h : ∀ j, j < n → k j = k' j ∧ v j = v' j) : prN k v n = prN k' v' n := by
  unfold prN
  exact flat_congr fun j hj => by
    obtain ⟨e1, e2⟩ := h j (List.mem_range.1 hj)
    rw [e1, e2]
def RnP (zs : List Int) (n kk : Nat) (K V : Nat → ByteArray) (S : (i : Nat) → List (Fin (lnK zs n kk i + 1))) : Rn :=
  ⟨kk + 1, fun _ => 0, fun _ => 0, lnK zs n kk, fun _ => 0, fun i p => K (offK zs n kk i + ((S i).getD p 0).val), fun i p => V (offK zs n kk i + ((S i).getD p 0).val)⟩
theorem pick {N : Nat} {α : Nat → Type} (d : (i : Nat) → α i) {P : (i : Nat) → α i → Prop} (h : ∀ i, i < N → ∃ x, P i x) : ∃ f : (i : Nat) → α i, ∀ i, i < N → P i (f i) :=
  ⟨fun i => if hi : i < N then Classical.choose (h i hi) else d i, fun i hi => by
    show P i (dite (i < N) _ _)
    rw [dif_pos hi]
    exact Classical.choose_spec (h i hi)⟩
theorem pc_close {zs : List Int} {n kk : Nat} {K V : Nat → ByteArray} {w wr : World} {B : Nat} {va : Value} {ha : Nat → Value} (h : PcG n K V (offK zs n kk) (lnK zs n kk) w wr B (kk + 1) va ha) (hn : n ≤ 1048576) (hsz : ∀ j, (K j).size ≤ 1048576 ∧ (V j).size ≤ 1048576) (hkk : kk ≤ 50) :
    ∃ Aq cq, va = .slice Aq (kk + 1) cq ∧ ∃ M : Nat → Nat, (∀ T : List (Fin (n + 1)), T.Perm (dF n) → SrtT (keyP n K) (fun x => x.val) T → ∀ j, j < n → (T.getD j 0).val = M j) ∧ ∀ W, Below wr.heap.size wr W →
      Calls Try.prog 17 #[.slice Aq (kk + 1) cq] W fun e w' => ∃ v, e = .returned v ∧ w'.ownsRow W.heap.size 34 2 v n (prN (fun j => K (M j)) (fun j => V (M j)) n) ∧ Below W.heap.size W w' := by
  obtain ⟨S, hS⟩ : ∃ S : (i : Nat) → List (Fin (lnK zs n kk i + 1)), ∀ i, i < kk + 1 → (S i).Perm (dF (lnK zs n kk i)) ∧ SrtT (keyP (lnK zs n kk i) fun j => K (offK zs n kk i + j)) (fun x => x.val) (S i) ∧ wr.ownsRow B 34 2 (ha i) (lnK zs n kk i) (prN (fun p => K (offK zs n kk i + ((S i).getD p 0).val)) (fun p => V (offK zs n kk i + ((S i).getD p 0).val)) (lnK zs n kk i)) :=
    pick (α := fun i => List (Fin (lnK zs n kk i + 1))) (fun _ => []) h.pa
  obtain ⟨R, hR⟩ : ∃ R : Rn, R = RnP zs n kk K V S := ⟨_, rfl⟩
  have hpa : ∀ i, i < kk + 1 → wr.ownsRow B 34 2 (ha i) (R.ln i) (prN (R.K i) (R.V i) (R.ln i)) := fun i hi => by rw [hR]; exact (hS i hi).2.2
  have hRn : R.n = kk + 1 := by rw [hR]; rfl
  obtain ⟨Aq, cq, hva, hH, hRA⟩ := own_forms hRn.symm h.ra hpa
  have hlo : ∀ i, i < kk + 1 → offK zs n kk (i + 1) = offK zs n kk i + lnK zs n kk i := fun i hi => (offK_s zs n kk i (by omega)).1
  have hPc : Pcs (RnP zs n kk K V S) n K V (offK zs n kk) S :=
    ⟨by simp [offK, offZ], hlo, by show offK zs n kk (kk + 1) = n; unfold offK; rw [if_neg (by omega)], fun i hi => (hS i hi).1, fun i hi => (hS i hi).2.1, fun i hi p hp => rfl, fun i hi p hp => rfl⟩
  have hpp := pcs_perm hPc
  obtain ⟨L, hL⟩ : ∃ L, L = mrgL R (ordR R) := ⟨_, rfl⟩
  have eL : L = mrgL (RnP zs n kk K V S) (ordR (RnP zs n kk K V S)) := by rw [hL, hR]
  rw [← eL] at hpp
  have hLn : L.length = n := by
    have := hpp.length_eq
    rw [List.length_map, List.length_range] at this
    exact this
  have htot : tot R (fun _ => 0) = n := by
    have := mrg_full (ord_inj R) (tot R fun _ => 0) (fun _ => 0) rfl (fun _ _ => Nat.zero_le _)
    rw [← this]
    show (mrgL R (ordR R)).length = n
    rw [← hL]
    exact hLn
  refine ⟨Aq, cq, hva, fun j => gP (R := RnP zs n kk K V S) (offK zs n kk) S (L.getD j (0, 0)), fun T hT hTs j hj => ?_, fun W hW => ?_⟩
  · have hs := pcs_sorted hPc hT hTs
    rw [← eL] at hs
    have hgl : gP (R := RnP zs n kk K V S) (offK zs n kk) S (L.getD j (0, 0)) < n := by
      have hm : gP (R := RnP zs n kk K V S) (offK zs n kk) S (L.getD j (0, 0)) ∈ L.map (gP (R := RnP zs n kk K V S) (offK zs n kk) S) := by
        refine List.mem_map_of_mem ?_
        rw [List.getD_eq_getElem?_getD, List.getElem?_eq_getElem (by omega)]
        exact List.getElem_mem _
      exact List.mem_range.1 (hpp.mem_iff.1 hm)
    have hjl : j < L.length := by omega
    have eg : L.getD j (0, 0) = L[j] := by rw [List.getD_eq_getElem?_getD, List.getElem?_eq_getElem hjl]; rfl
    rw [eg] at hgl
    show _ = gP (R := RnP zs n kk K V S) (offK zs n kk) S (L.getD j (0, 0))
    rw [← hs, List.getD_eq_getElem?_getD, List.getElem?_map, List.getElem?_eq_getElem hjl, eg]
    show min (gP (R := RnP zs n kk K V S) (offK zs n kk) S L[j]) n = gP (R := RnP zs n kk K V S) (offK zs n kk) S L[j]
    omega
  · have hA' := argUp (ArgAt.below (A := Aq) ⟨hH, hRA⟩ hW) hW.size
    have hlnb : ∀ i, i < (withR R ha).n → (withR R ha).ln i ≤ 4398046511104 := fun i hi => by
      have h1 : (withR R ha).ln i = lnK zs n kk i := by rw [hR]; rfl
      have h2 := offK_le zs n kk (i + 1)
      rw [h1]
      unfold lnK
      omega
    have hm := merge_any (withR R ha) (ordR R) (Lib.hid (ord_ok R)) (Lib.hid (ord_inj R)) (Lib.hid hlnb) (by show R.n ≤ _; omega) (by show tot R (fun _ => 0) ≤ _; omega) (fun i p => by
      have h1 : (withR R ha).K i p = K (offK zs n kk i + ((S i).getD p 0).val) := by rw [hR]; rfl
      have h2 : (withR R ha).V i p = V (offK zs n kk i + ((S i).getD p 0).val) := by rw [hR]; rfl
      have h3 := hsz (offK zs n kk i + ((S i).getD p 0).val)
      rw [h1, h2]
      exact ⟨by omega, by omega⟩) Aq cq W hA'.2 hA'.1
    rw [mrgL_with, ← hL, prC_with, prC_prP, hLn] at hm
    have e : (withR R ha).n = kk + 1 := hRn
    rw [e] at hm
    have e2 : prN (kkP R L) (vvP R L) n = prN (fun j => K (gP (R := RnP zs n kk K V S) (offK zs n kk) S (L.getD j (0, 0)))) (fun j => V (gP (R := RnP zs n kk K V S) (offK zs n kk) S (L.getD j (0, 0)))) n := prN_congr fun j _ => by
      rw [hR]
      exact ⟨rfl, rfl⟩
    rw [e2] at hm
    exact hm
set_option maxRecDepth 100000 in
set_option maxHeartbeats 16000000 in
theorem walk (A : Option Addr) (n cap : Nat) (K V : Nat → ByteArray) (A2 : Option Addr) (len2 cap2 : Nat) (zs : List Int) (w : World) (hn : n ≤ 1048576) (hsz : ∀ j, (K j).size ≤ 1048576 ∧ (V j).size ≤ 1048576) (hP : PrAt w w.heap.size A n K V) (hl2 : len2 ≤ maxLen) (hS2 : SlOf w w.heap.size A2 len2 (fun i => .int .i64 (zs.getD i 0))) :
    Calls Try.prog 5 #[.slice A n cap, .slice A2 len2 cap2] w fun e w' => e = .returned (.bool true) ∧ Below w.heap.size w w' := by
  obtain ⟨i0, hi, hz0, hz1, hz2⟩ := info_parts infoSlA
  obtain ⟨i2, hi2, hz02, hz12, hz22⟩ := info_parts infoPair
  have HP := Lib.hid hP
  have HSZ := Lib.hid hsz
  have HS2 := Lib.hid hS2
  clear hP hsz hS2
  go_enter Try.func5, Try.ntmps5
  go_wp2_with (fail)
  refine (speaks19_any _).mono ?_
  rintro e w1 ⟨rfl, hb1⟩
  have HB1 := Lib.hid hb1
  clear hb1
  have hP1 : PrAt w1 w1.heap.size A n K V := fun j hj => by
    obtain ⟨b, o, e, h1, h2⟩ := (HP.out.below HB1.out) j hj
    exact ⟨b, o, e, by have := HB1.out.size; omega, h2⟩
  have hBw1 : w.heap.size ≤ w1.heap.size := HB1.out.size
  go_wp2_with (at_builtin; refine wpList_lit rfl _ _ rfl w1 w.heap.size hBw1 A n cap K V hn _ rfl rfl rfl hP1 ?_)
  intro b0 c0 w2 H2
  have HB2 := Lib.hid (HB1.out.trans (H2.out.2.mono hBw1))
  have HR2 := Lib.hid (rs_own H2.out.1)
  clear hP1 H2 hBw1
  obtain ⟨kk, hkk⟩ : ∃ kk, kk = min len2 50 := ⟨_, rfl⟩
  have HKK := Lib.hid hkk
  go_wp2
  go_loopw [5, 6, 7] (fun vr vs iv wr => ∃ k m : Nat, k ≤ kk ∧ m = n - offK zs n kk k ∧ iv = .int .i64 (k : Int) ∧ Hid (∃ ha b o c, vs = .slice (some ⟨b, o, none⟩) m c ∧ RsAt wr w.heap.size b o m c (fun j => K (offK zs n kk k + j)) (fun j => V (offK zs n kk k + j)) ∧ PcG n K V (offK zs n kk) (lnK zs n kk) w wr w.heap.size k vr ha)) (fun _ _ iv _ => kk - (intOf iv).toNat)
  case atStart =>
    have e0 : offK zs n kk 0 = 0 := by simp [offK, offZ]
    refine ⟨0, n, Nat.zero_le _, by rw [e0]; rfl, rfl, Lib.hid ⟨fun _ => .bool true, b0, 0, c0, rfl, ?_, World.ownsRow_nil _ _ _ _, fun i hi => absurd hi (Nat.not_lt_zero _), HB2.out⟩⟩
    rw [e0]
    simpa only [Nat.zero_add] using HR2.out
  case round =>
    obtain ⟨k, m, hk, hm, rfl, HI⟩ := hrel
    obtain ⟨ha, b, o, c, rfl, hrs, hG⟩ := HI.out
    have HRS := Lib.hid hrs
    have HG := Lib.hid hG
    have hBr : w.heap.size ≤ wr.heap.size := hG.bel.size
    have hmn : m ≤ 1048576 := by omega
    have hmc : m ≤ c := hrs.le
    clear hrs hG HI
    by_cases hlt : k < kk
    · obtain ⟨hos, hlc, _⟩ := offK_s zs n kk k (by omega)
      have hlc := hlc hlt
      obtain ⟨L, hL⟩ : ∃ L, L = lnK zs n kk k := ⟨_, rfl⟩
      rw [← hL] at hos hlc
      have HLE := Lib.hid hL
      have hke : offK zs n kk k = offZ zs n k := by unfold offK; rw [if_pos (by omega)]
      have hLm : L ≤ m := by have := cutZ_le zs n (offZ zs n k) k; omega
      have HOS := Lib.hid hos
      have HMS : Hid (m - L = n - offK zs n kk (k + 1)) := Lib.hid (by omega)
      have hk1 : k + 1 ≤ kk := hlt
      obtain ⟨bz, oz, rfl, hbz, hcz⟩ := HS2.out.below (HG.out.bel) k (by omega)
      obtain ⟨z, hz⟩ : ∃ z, z = zs.getD k 0 := ⟨_, rfl⟩
      replace hcz : wr.cell? ⟨bz, oz + k, none⟩ = some (.int .i64 (zs.getD k 0)) := hcz
      rw [← hz] at hcz
      have hzc : L = if 0 ≤ z ∧ z ≤ (m : Int) then z.toNat else m := by
        rw [hlc]
        unfold cutZ
        rw [← hz, hm, hke]
      have hk50 : k < 50 := by omega
      have hkl : k < len2 := by omega
      have k5 : k + 1 ≤ maxLen := by unfold maxLen; omega
      have k6 : (k + 1) * 24 ≤ 140737488355328 := by omega
      have hsrt := sort_any (some ⟨b, o, none⟩) L c (fun j => K (offK zs n kk k + j)) (fun j => V (offK zs n kk k + j)) wr (by omega) (fun j => ⟨by have := (HSZ.out (offK zs n kk k + j)).1; omega, by have := (HSZ.out (offK zs n kk k + j)).2; omega⟩) (HRS.out.prAt L hLm)
      have HSRT := Lib.hid hsrt
      clear hsrt hlc hos hL hke hz hm hkk hlt
      rcases Int.lt_or_le z 0 with hz0' | hz0'
      · obtain rfl : m = L := by rw [hzc, if_neg (by omega)]
        clear hzc
        go_wp2_with (fail)
        refine (HSRT.out).mono ?_
        rintro e w3 ⟨rfl, hS3⟩
        have HS3 := Lib.hid hS3
        clear hS3
        have HG3 := Lib.hid (HG.out.below hBr (HS3.out.elim fun S h => h.2.2.2.1))
        have hB3 : w.heap.size ≤ w3.heap.size := HG3.out.bel.size
        have hown := HG3.out.ra
        go_wp2_with (at_builtin; refine wpList_append_own _ rfl _ _ 22 rfl w.heap.size 32 i0 _ 1 24 Try.underlying22 hi hz0 hz1 hz2 rfl (by decide) _ _ _ rfl (hown.alloc _) ⟨w3.heap.size, 0, none⟩ 1 1 [.slice (some ⟨wr.heap.size, 0, none⟩) m m] rfl rfl (one_new _ _ _) (by intro y hy; rw [show y = .slice (some ⟨wr.heap.size, 0, none⟩) m m by simpa using hy]; rfl) k5 k6 (by simp; omega) ?_)
        intro va' w4 hown' hg4 _
        have hst := HG3.out.step hB3 (o := .cells #[.slice (some ⟨wr.heap.size, 0, none⟩) m m] 32) (v1 := .slice (some ⟨wr.heap.size, 0, none⟩) m m) (va' := va') (w' := w4) (by
          obtain ⟨S, s1, s2, _, s4, s5⟩ := HS3.out
          rw [← HLE.out]
          exact ⟨S, s1, s2, s5.mono hBr⟩) hg4 hown'
        have hrs : RsAt w4 w.heap.size b o m c (fun j => K (offK zs n kk k + j)) (fun j => V (offK zs n kk k + j)) := (HRS.out.same fun g e hb _ => (HS3.out.elim fun S h => h.2.2.2.1).block g hb.lt).same fun g e hb he => by
          have e1 : (w3.alloc (.cells #[.slice (some ⟨wr.heap.size, 0, none⟩) m m] 32)).heap[g]? = w3.heap[g]? := heap_alloc_old w3 _ hb.lt
          refine (hg4.block g (by have := hb.lt; simp; omega) fun e2 => ?_).trans e1
          exact bears_apart (by obtain ⟨cs, q⟩ := hb; exact ⟨cs, e1.trans q⟩) (own_bears2 (hown.alloc _) e2.symm) (by rw [he]; decide) rfl
        have HST := Lib.hid hst
        have HRS4 := Lib.hid hrs
        clear hst hrs hown hown' hg4
        by_cases hLc : m = c
        · have HI2 : Hid (∃ ha b' o' c', (Value.slice (some ⟨b, o, none⟩) 0 0) = .slice (some ⟨b', o', none⟩) 0 c' ∧ RsAt w4 w.heap.size b' o' 0 c' (fun j => K (offK zs n kk (k + 1) + j)) (fun j => V (offK zs n kk (k + 1) + j)) ∧ PcG n K V (offK zs n kk) (lnK zs n kk) w w4 w.heap.size (k + 1) va' ha) := by
            refine Lib.hid ⟨_, b, o, 0, rfl, ?_, HST.out⟩
            exact ⟨Nat.le_refl _, HRS4.out.lo, fun j hj => absurd hj (Nat.not_lt_zero _)⟩
          have hMS : 0 = n - offK zs n kk (k + 1) := by have := HMS.out; omega
          have HMS2 := Lib.hid hMS
          clear hMS
          go_wp2
          go_roundw
          case rel => exact ⟨k + 1, 0, hk1, HMS2.out, by first | rfl | go_num, HI2⟩
          case measure => simp [intOf]; omega
        · have HI2 : Hid (∃ ha b' o' c', (Value.slice (some ⟨b, o + m * 2, none⟩) 0 (c - m)) = .slice (some ⟨b', o', none⟩) 0 c' ∧ RsAt w4 w.heap.size b' o' 0 c' (fun j => K (offK zs n kk (k + 1) + j)) (fun j => V (offK zs n kk (k + 1) + j)) ∧ PcG n K V (offK zs n kk) (lnK zs n kk) w w4 w.heap.size (k + 1) va' ha) := by
            refine Lib.hid ⟨_, b, o + m * 2, c - m, rfl, ?_, HST.out⟩
            exact ⟨Nat.zero_le _, HRS4.out.lo, fun j hj => absurd hj (Nat.not_lt_zero _)⟩
          have hMS : 0 = n - offK zs n kk (k + 1) := by have := HMS.out; omega
          have HMS2 := Lib.hid hMS
          clear hMS
          go_wp2
          go_roundw
          case rel => exact ⟨k + 1, 0, hk1, HMS2.out, by first | rfl | go_num, HI2⟩
          case measure => simp [intOf]; omega
      · rcases Int.lt_or_le (m : Int) z with hz1' | hz1'
        · obtain rfl : m = L := by rw [hzc, if_neg (by omega)]
          clear hzc
          go_wp2_with (fail)
          refine (HSRT.out).mono ?_
          rintro e w3 ⟨rfl, hS3⟩
          have HS3 := Lib.hid hS3
          clear hS3
          have HG3 := Lib.hid (HG.out.below hBr (HS3.out.elim fun S h => h.2.2.2.1))
          have hB3 : w.heap.size ≤ w3.heap.size := HG3.out.bel.size
          have hown := HG3.out.ra
          go_wp2_with (at_builtin; refine wpList_append_own _ rfl _ _ 22 rfl w.heap.size 32 i0 _ 1 24 Try.underlying22 hi hz0 hz1 hz2 rfl (by decide) _ _ _ rfl (hown.alloc _) ⟨w3.heap.size, 0, none⟩ 1 1 [.slice (some ⟨wr.heap.size, 0, none⟩) m m] rfl rfl (one_new _ _ _) (by intro y hy; rw [show y = .slice (some ⟨wr.heap.size, 0, none⟩) m m by simpa using hy]; rfl) k5 k6 (by simp; omega) ?_)
          intro va' w4 hown' hg4 _
          have hst := HG3.out.step hB3 (o := .cells #[.slice (some ⟨wr.heap.size, 0, none⟩) m m] 32) (v1 := .slice (some ⟨wr.heap.size, 0, none⟩) m m) (va' := va') (w' := w4) (by
            obtain ⟨S, s1, s2, _, s4, s5⟩ := HS3.out
            rw [← HLE.out]
            exact ⟨S, s1, s2, s5.mono hBr⟩) hg4 hown'
          have hrs : RsAt w4 w.heap.size b o m c (fun j => K (offK zs n kk k + j)) (fun j => V (offK zs n kk k + j)) := (HRS.out.same fun g e hb _ => (HS3.out.elim fun S h => h.2.2.2.1).block g hb.lt).same fun g e hb he => by
            have e1 : (w3.alloc (.cells #[.slice (some ⟨wr.heap.size, 0, none⟩) m m] 32)).heap[g]? = w3.heap[g]? := heap_alloc_old w3 _ hb.lt
            refine (hg4.block g (by have := hb.lt; simp; omega) fun e2 => ?_).trans e1
            exact bears_apart (by obtain ⟨cs, q⟩ := hb; exact ⟨cs, e1.trans q⟩) (own_bears2 (hown.alloc _) e2.symm) (by rw [he]; decide) rfl
          have HST := Lib.hid hst
          have HRS4 := Lib.hid hrs
          clear hst hrs hown hown' hg4
          by_cases hLc : m = c
          · have HI2 : Hid (∃ ha b' o' c', (Value.slice (some ⟨b, o, none⟩) 0 0) = .slice (some ⟨b', o', none⟩) 0 c' ∧ RsAt w4 w.heap.size b' o' 0 c' (fun j => K (offK zs n kk (k + 1) + j)) (fun j => V (offK zs n kk (k + 1) + j)) ∧ PcG n K V (offK zs n kk) (lnK zs n kk) w w4 w.heap.size (k + 1) va' ha) := by
              refine Lib.hid ⟨_, b, o, 0, rfl, ?_, HST.out⟩
              exact ⟨Nat.le_refl _, HRS4.out.lo, fun j hj => absurd hj (Nat.not_lt_zero _)⟩
            have hMS : 0 = n - offK zs n kk (k + 1) := by have := HMS.out; omega
            have HMS2 := Lib.hid hMS
            clear hMS
            go_wp2
            go_roundw
            case rel => exact ⟨k + 1, 0, hk1, HMS2.out, by first | rfl | go_num, HI2⟩
            case measure => simp [intOf]; omega
          · have HI2 : Hid (∃ ha b' o' c', (Value.slice (some ⟨b, o + m * 2, none⟩) 0 (c - m)) = .slice (some ⟨b', o', none⟩) 0 c' ∧ RsAt w4 w.heap.size b' o' 0 c' (fun j => K (offK zs n kk (k + 1) + j)) (fun j => V (offK zs n kk (k + 1) + j)) ∧ PcG n K V (offK zs n kk) (lnK zs n kk) w w4 w.heap.size (k + 1) va' ha) := by
              refine Lib.hid ⟨_, b, o + m * 2, c - m, rfl, ?_, HST.out⟩
              exact ⟨Nat.zero_le _, HRS4.out.lo, fun j hj => absurd hj (Nat.not_lt_zero _)⟩
            have hMS : 0 = n - offK zs n kk (k + 1) := by have := HMS.out; omega
            have HMS2 := Lib.hid hMS
            clear hMS
            go_wp2
            go_roundw
            case rel => exact ⟨k + 1, 0, hk1, HMS2.out, by first | rfl | go_num, HI2⟩
            case measure => simp [intOf]; omega
        · obtain ⟨zn, rfl⟩ : ∃ zn : Nat, z = (zn : Int) := ⟨z.toNat, by omega⟩
          obtain rfl : zn = L := by rw [hzc, if_pos (by omega)]; omega
          clear hzc
          go_wp2_with (fail)
          refine (HSRT.out).mono ?_
          rintro e w3 ⟨rfl, hS3⟩
          have HS3 := Lib.hid hS3
          clear hS3
          have HG3 := Lib.hid (HG.out.below hBr (HS3.out.elim fun S h => h.2.2.2.1))
          have hB3 : w.heap.size ≤ w3.heap.size := HG3.out.bel.size
          have hown := HG3.out.ra
          go_wp2_with (at_builtin; refine wpList_append_own _ rfl _ _ 22 rfl w.heap.size 32 i0 _ 1 24 Try.underlying22 hi hz0 hz1 hz2 rfl (by decide) _ _ _ rfl (hown.alloc _) ⟨w3.heap.size, 0, none⟩ 1 1 [.slice (some ⟨wr.heap.size, 0, none⟩) zn zn] rfl rfl (one_new _ _ _) (by intro y hy; rw [show y = .slice (some ⟨wr.heap.size, 0, none⟩) zn zn by simpa using hy]; rfl) k5 k6 (by simp; omega) ?_)
          intro va' w4 hown' hg4 _
          have hst := HG3.out.step hB3 (o := .cells #[.slice (some ⟨wr.heap.size, 0, none⟩) zn zn] 32) (v1 := .slice (some ⟨wr.heap.size, 0, none⟩) zn zn) (va' := va') (w' := w4) (by
            obtain ⟨S, s1, s2, _, s4, s5⟩ := HS3.out
            rw [← HLE.out]
            exact ⟨S, s1, s2, s5.mono hBr⟩) hg4 hown'
          have hrs : RsAt w4 w.heap.size b o m c (fun j => K (offK zs n kk k + j)) (fun j => V (offK zs n kk k + j)) := (HRS.out.same fun g e hb _ => (HS3.out.elim fun S h => h.2.2.2.1).block g hb.lt).same fun g e hb he => by
            have e1 : (w3.alloc (.cells #[.slice (some ⟨wr.heap.size, 0, none⟩) zn zn] 32)).heap[g]? = w3.heap[g]? := heap_alloc_old w3 _ hb.lt
            refine (hg4.block g (by have := hb.lt; simp; omega) fun e2 => ?_).trans e1
            exact bears_apart (by obtain ⟨cs, q⟩ := hb; exact ⟨cs, e1.trans q⟩) (own_bears2 (hown.alloc _) e2.symm) (by rw [he]; decide) rfl
          have HST := Lib.hid hst
          have HRS4 := Lib.hid hrs
          clear hst hrs hown hown' hg4
          by_cases hLc : zn = c
          · have HI2 : Hid (∃ ha b' o' c', (Value.slice (some ⟨b, o, none⟩) 0 0) = .slice (some ⟨b', o', none⟩) 0 c' ∧ RsAt w4 w.heap.size b' o' 0 c' (fun j => K (offK zs n kk (k + 1) + j)) (fun j => V (offK zs n kk (k + 1) + j)) ∧ PcG n K V (offK zs n kk) (lnK zs n kk) w w4 w.heap.size (k + 1) va' ha) := by
              refine Lib.hid ⟨_, b, o, 0, rfl, ?_, HST.out⟩
              exact ⟨Nat.le_refl _, HRS4.out.lo, fun j hj => absurd hj (Nat.not_lt_zero _)⟩
            have hMS : 0 = n - offK zs n kk (k + 1) := by have := HMS.out; omega
            have HMS2 := Lib.hid hMS
            clear hMS
            go_wp2
            go_roundw
            case rel => exact ⟨k + 1, 0, hk1, HMS2.out, by first | rfl | go_num, HI2⟩
            case measure => simp [intOf]; omega
          · have HI2 : Hid (∃ ha b' o' c', (Value.slice (some ⟨b, o + zn * 2, none⟩) (m - zn) (c - zn)) = .slice (some ⟨b', o', none⟩) (m - zn) c' ∧ RsAt w4 w.heap.size b' o' (m - zn) c' (fun j => K (offK zs n kk (k + 1) + j)) (fun j => V (offK zs n kk (k + 1) + j)) ∧ PcG n K V (offK zs n kk) (lnK zs n kk) w w4 w.heap.size (k + 1) va' ha) := by
              refine Lib.hid ⟨_, b, o + zn * 2, c - zn, rfl, ?_, HST.out⟩
              rw [HOS.out]
              have q := HRS4.out.behind zn hLm
              simpa only [Nat.add_assoc] using q
            go_wp2
            go_roundw
            case rel => exact ⟨k + 1, m - zn, hk1, HMS.out, by first | rfl | go_num, HI2⟩
            case measure => simp [intOf]; omega
    · obtain rfl : k = kk := by omega
      have hke : offK zs n k k = offZ zs n k := by unfold offK; rw [if_pos (by omega)]
      obtain ⟨hos, _, hle⟩ := offK_s zs n k k (by omega)
      have hle := hle rfl
      have hLE : m = lnK zs n k k := by rw [hle, hm, hke]
      have HLE := Lib.hid hLE
      have hnlt : ¬ ((k : Int) < (len2 : Int) ∧ (k : Int) < 50) := by have := HKK.out; omega
      have hk50 : k ≤ 50 := by have := HKK.out; omega
      have k5 : k + 1 ≤ maxLen := by unfold maxLen; omega
      have k6 : (k + 1) * 24 ≤ 140737488355328 := by omega
      have hsrt := sort_any (some ⟨b, o, none⟩) m c (fun j => K (offK zs n k k + j)) (fun j => V (offK zs n k k + j)) wr (by omega) (fun j => ⟨by have := (HSZ.out (offK zs n k k + j)).1; omega, by have := (HSZ.out (offK zs n k k + j)).2; omega⟩) (HRS.out.prAt m (Nat.le_refl _))
      have HSRT := Lib.hid hsrt
      have hcnd : (k < len2 → ¬ k < 50) := by have := HKK.out; omega
      clear hsrt hos hle hke hm hkk hlt hLE
      by_cases hl2k : k < len2
      · have hk50' : ¬ k < 50 := hcnd hl2k
        clear hcnd hnlt
        go_wp2_with (fail)
        refine (HSRT.out).mono ?_
        rintro e w3 ⟨rfl, hS3⟩
        have HS3 := Lib.hid hS3
        clear hS3
        have HG3 := Lib.hid (HG.out.below hBr (HS3.out.elim fun S h => h.2.2.2.1))
        have hB3 : w.heap.size ≤ w3.heap.size := HG3.out.bel.size
        have hown := HG3.out.ra
        go_wp2_with (at_builtin; refine wpList_append_own _ rfl _ _ 22 rfl w.heap.size 32 i0 _ 1 24 Try.underlying22 hi hz0 hz1 hz2 rfl (by decide) _ _ _ rfl (hown.alloc _) ⟨w3.heap.size, 0, none⟩ 1 1 [.slice (some ⟨wr.heap.size, 0, none⟩) m m] rfl rfl (one_new _ _ _) (by intro y hy; rw [show y = .slice (some ⟨wr.heap.size, 0, none⟩) m m by simpa using hy]; rfl) k5 k6 (by simp; omega) ?_)
        intro va' w4 hown' hg4 _
        have hst := HG3.out.step hB3 (o := .cells #[.slice (some ⟨wr.heap.size, 0, none⟩) m m] 32) (v1 := .slice (some ⟨wr.heap.size, 0, none⟩) m m) (va' := va') (w' := w4) (by
          obtain ⟨S, s1, s2, _, s4, s5⟩ := HS3.out
          rw [← HLE.out]
          exact ⟨S, s1, s2, s5.mono hBr⟩) hg4 hown'
        have hB4 := hst.bel
        obtain ⟨Aq, cq, rfl, M, hM, hmrg⟩ := pc_close hst hn HSZ.out hk50
        have HM := Lib.hid hM
        have HMRG := Lib.hid hmrg
        have HB4 := Lib.hid hB4
        clear hst hown hown' hg4 hM hmrg hB4
        go_wp2_with (fail)
        refine (HMRG.out _ (Below.refl _ _)).mono ?_
        rintro e w5 ⟨v5, rfl, ho5, hb5⟩
        obtain ⟨A5, c5, rfl, hr5⟩ := prAt_own ho5
        have HR5 := Lib.hid hr5
        have HB5 := Lib.hid (HB4.out.trans (hb5.mono HB4.out.size))
        clear ho5 hb5 hr5
        have hP5 : PrAt w5 w5.heap.size A n K V := fun j hj => by
          obtain ⟨b, o, e, h1, h2⟩ := (HP.out.below HB5.out) j hj
          exact ⟨b, o, e, by have := HB5.out.size; omega, h2⟩
        have hBw5 : w.heap.size ≤ w5.heap.size := HB5.out.size
        go_wp2_with (at_builtin; refine wpList_lit rfl _ _ rfl w5 w5.heap.size (Nat.le_refl _) A n cap K V hn _ rfl rfl rfl hP5 ?_)
        intro b6 c6 w6 H6
        have HB6 := Lib.hid (HB5.out.trans (H6.out.2.mono hBw5))
        have HR56 := Lib.hid (HR5.out.below H6.out.2)
        have hsrt7 := sort_any (some ⟨b6, 0, none⟩) n c6 K V w6 (by omega) (fun j => ⟨by have := (HSZ.out j).1; omega, by have := (HSZ.out j).2; omega⟩) ((rs_own H6.out.1).prAt n (Nat.le_refl _))
        have HSRT7 := Lib.hid hsrt7
        have hs6 : w5.heap.size ≤ w6.heap.size := H6.out.2.size
        clear hsrt7 hP5 H6
        go_wp2_with (fail)
        refine HSRT7.out.mono ?_
        rintro e w7 ⟨rfl, T, hT1, hT2, hT3, hT4, _⟩
        have HB7 := Lib.hid (HB6.out.trans (hT4.mono HB6.out.size))
        have HR57 := Lib.hid (HR56.out.below (hT4.mono hs6))
        have hs7 : w5.heap.size ≤ w7.heap.size := Nat.le_trans hs6 hT4.size
        have hMT := HM.out T hT1 hT2
        have hT3' : PrAt w7 w7.heap.size (some ⟨w6.heap.size, 0, none⟩) n (fun j => K (M j)) (fun j => V (M j)) := fun j hj => by
          have h9 := hT3 j hj
          simp only [hMT j hj] at h9
          exact h9
        have hrf := refs_any (some ⟨w6.heap.size, 0, none⟩) n n (fun j => K (M j)) (fun j => V (M j)) w7 (by omega) hT3'
        have HRF := Lib.hid hrf
        clear hT1 hT2 hT3 hT4 hT3' hMT hrf
        go_wp2_with (fail)
        refine HRF.out.mono ?_
        rintro e w8 ⟨v8, rfl, ho8, hb8⟩
        obtain ⟨A8, c8, rfl, hr8⟩ := prAt_own ho8
        have HR8 := Lib.hid hr8
        have HB8 := Lib.hid (HB7.out.trans (hb8.mono HB7.out.size))
        have HR58 := Lib.hid (HR57.out.below (hb8.mono hs7))
        clear ho8 hb8 hr8
        go_wp2_with (fail)
        refine (same_prs A5 A8 n c5 c8 (fun j => K (M j)) (fun j => V (M j)) w8 _ _ (by omega) HR58.out HR8.out).mono ?_
        rintro e w' ⟨rfl, m9, rfl⟩
        go_wp2
        go_ret
        exact ⟨rfl, HB8.out.os, HB8.out.tape, HB8.out.output, HB8.out.size, HB8.out.block⟩
      · clear hcnd hnlt
        go_wp2_with (fail)
        refine (HSRT.out).mono ?_
        rintro e w3 ⟨rfl, hS3⟩
        have HS3 := Lib.hid hS3
        clear hS3
        have HG3 := Lib.hid (HG.out.below hBr (HS3.out.elim fun S h => h.2.2.2.1))
        have hB3 : w.heap.size ≤ w3.heap.size := HG3.out.bel.size
        have hown := HG3.out.ra
        go_wp2_with (at_builtin; refine wpList_append_own _ rfl _ _ 22 rfl w.heap.size 32 i0 _ 1 24 Try.underlying22 hi hz0 hz1 hz2 rfl (by decide) _ _ _ rfl (hown.alloc _) ⟨w3.heap.size, 0, none⟩ 1 1 [.slice (some ⟨wr.heap.size, 0, none⟩) m m] rfl rfl (one_new _ _ _) (by intro y hy; rw [show y = .slice (some ⟨wr.heap.size, 0, none⟩) m m by simpa using hy]; rfl) k5 k6 (by simp; omega) ?_)
        intro va' w4 hown' hg4 _
        have hst := HG3.out.step hB3 (o := .cells #[.slice (some ⟨wr.heap.size, 0, none⟩) m m] 32) (v1 := .slice (some ⟨wr.heap.size, 0, none⟩) m m) (va' := va') (w' := w4) (by
          obtain ⟨S, s1, s2, _, s4, s5⟩ := HS3.out
          rw [← HLE.out]
          exact ⟨S, s1, s2, s5.mono hBr⟩) hg4 hown'
        have hB4 := hst.bel
        obtain ⟨Aq, cq, rfl, M, hM, hmrg⟩ := pc_close hst hn HSZ.out hk50
        have HM := Lib.hid hM
        have HMRG := Lib.hid hmrg
        have HB4 := Lib.hid hB4
        clear hst hown hown' hg4 hM hmrg hB4
        go_wp2_with (fail)
        refine (HMRG.out _ (Below.refl _ _)).mono ?_
        rintro e w5 ⟨v5, rfl, ho5, hb5⟩
        obtain ⟨A5, c5, rfl, hr5⟩ := prAt_own ho5
        have HR5 := Lib.hid hr5
        have HB5 := Lib.hid (HB4.out.trans (hb5.mono HB4.out.size))
        clear ho5 hb5 hr5
        have hP5 : PrAt w5 w5.heap.size A n K V := fun j hj => by
          obtain ⟨b, o, e, h1, h2⟩ := (HP.out.below HB5.out) j hj
          exact ⟨b, o, e, by have := HB5.out.size; omega, h2⟩
        have hBw5 : w.heap.size ≤ w5.heap.size := HB5.out.size
        go_wp2_with (at_builtin; refine wpList_lit rfl _ _ rfl w5 w5.heap.size (Nat.le_refl _) A n cap K V hn _ rfl rfl rfl hP5 ?_)
        intro b6 c6 w6 H6
        have HB6 := Lib.hid (HB5.out.trans (H6.out.2.mono hBw5))
        have HR56 := Lib.hid (HR5.out.below H6.out.2)
        have hsrt7 := sort_any (some ⟨b6, 0, none⟩) n c6 K V w6 (by omega) (fun j => ⟨by have := (HSZ.out j).1; omega, by have := (HSZ.out j).2; omega⟩) ((rs_own H6.out.1).prAt n (Nat.le_refl _))
        have HSRT7 := Lib.hid hsrt7
        have hs6 : w5.heap.size ≤ w6.heap.size := H6.out.2.size
        clear hsrt7 hP5 H6
        go_wp2_with (fail)
        refine HSRT7.out.mono ?_
        rintro e w7 ⟨rfl, T, hT1, hT2, hT3, hT4, _⟩
        have HB7 := Lib.hid (HB6.out.trans (hT4.mono HB6.out.size))
        have HR57 := Lib.hid (HR56.out.below (hT4.mono hs6))
        have hs7 : w5.heap.size ≤ w7.heap.size := Nat.le_trans hs6 hT4.size
        have hMT := HM.out T hT1 hT2
        have hT3' : PrAt w7 w7.heap.size (some ⟨w6.heap.size, 0, none⟩) n (fun j => K (M j)) (fun j => V (M j)) := fun j hj => by
          have h9 := hT3 j hj
          simp only [hMT j hj] at h9
          exact h9
        have hrf := refs_any (some ⟨w6.heap.size, 0, none⟩) n n (fun j => K (M j)) (fun j => V (M j)) w7 (by omega) hT3'
        have HRF := Lib.hid hrf
        clear hT1 hT2 hT3 hT4 hT3' hMT hrf
        go_wp2_with (fail)
        refine HRF.out.mono ?_
        rintro e w8 ⟨v8, rfl, ho8, hb8⟩
        obtain ⟨A8, c8, rfl, hr8⟩ := prAt_own ho8
        have HR8 := Lib.hid hr8
        have HB8 := Lib.hid (HB7.out.trans (hb8.mono HB7.out.size))
        have HR58 := Lib.hid (HR57.out.below (hb8.mono hs7))
        clear ho8 hb8 hr8
        go_wp2_with (fail)
        refine (same_prs A5 A8 n c5 c8 (fun j => K (M j)) (fun j => V (M j)) w8 _ _ (by omega) HR58.out HR8.out).mono ?_
        rintro e w' ⟨rfl, m9, rfl⟩
        go_wp2
        go_ret
        exact ⟨rfl, HB8.out.os, HB8.out.tape, HB8.out.output, HB8.out.size, HB8.out.block⟩

set_option maxRecDepth 100000 in
theorem contractUpto (H : Type) (enc : TypeId × Value → H) (W : World) (base : Nat) (args : Array Value) (ds gs : List (DataW H)) (before : List MemPlace)
    (hval : ∀ (j : Nat) t v, Try.f5.params[j]? = some t → args[j]? = some v → Value.okWide Try.prog W .any base t v)
    (hW : DataW.Whole enc Try.prog Try.f5.params.toList Rows.mergePiecesSpec.vars false W args.toList ds gs before)
    (hz : (DataW.weightsEach Try.prog (Try.f5.params.toList ++ []) (ds ++ gs)).all (· ≤ reachBytes) = true) (hk : Rows.uptoSmall H (ds ++ gs) = true) :
    Calls Try.prog 5 args W fun e W' => ∃ v, e = .returned v ∧ Rows.mergePiecesSpec.post enc Try.prog Try.f5 false true false false W args v W' := by
  have hW' := hW
  obtain ⟨p, q, hA0, hV, rfl, hfz, hnd⟩ := hW
  have hA : DataW.TrodAll enc Try.prog W 0 (fun _ => true) true Try.f5.params.toList args.toList ds p := hA0
  rw [Try.params5] at hA hval hz
  obtain ⟨v0, vs0, d0, ds0, p0, q0, hargs, rfl, rfl, h0, r0⟩ := trodAll_cons hA
  obtain ⟨v1, vs1, d1, ds1, p1, q1, rfl, rfl, rfl, h1, r1⟩ := trodAll_cons r0
  obtain ⟨rfl, rfl, rfl⟩ := trodAll_nil r1
  obtain rfl : args = #[v0, v1] := by cases args; simp_all
  obtain ⟨rfl, rfl⟩ := trodVars_none hV
  have hk0 : Rows.uptoBulk d0 ≤ 1048576 := by have h := of_decide_eq_true hk; simp only [List.append_nil, List.cons_append, List.nil_append, Rows.uptoBulkAll] at h; omega
  obtain ⟨A, len, cap, rfl⟩ := okWide_slice Try.underlying32 (hval 0 32 v0 rfl rfl)
  have hf0 := h0
  obtain ⟨fuel0, hf0⟩ := hf0
  obtain ⟨q, hq, hql, hqs⟩ := open_run hf0 hk0
  have hqv := hq.val
  injection hqv with e1 e2 e3
  subst e1 e2 e3
  have hqn : q.ln ≤ 1048576 := by omega
  have hqp : PrAt W W.heap.size q.a q.ln q.K q.V := fun j hj => ⟨q.bk, q.of, hq.at0 (by omega), (hq.cells j hj).1, (hq.cells j hj).2.1, (hq.cells j hj).2.2⟩
  obtain ⟨A2, len2, cap2, zs, rfl, hl2, _, hS2, _⟩ := open_int_arg Try.underlying49 Try.underlying3 (by kernel_rfl) (hval 1 49 v1 rfl rfl) h1
  clear hA0
  refine (walk q.a q.ln q.cp q.K q.V A2 len2 cap2 zs W hqn hqs hqp hl2 hS2).mono fun e W' ⟨he, hb⟩ => ?_
  subst he
  exact ⟨_, rfl, law_end hW' rfl rfl hb laidOut (by kernel_rfl) (by kernel_rfl) Try.underlying4⟩

theorem reads (os : Os) {H : Type} (enc : TypeId × Value → H) : ∃ places, DataW.whole enc Try.prog ((World.holding Try.prog os ⟨#[], #[], []⟩).forCall (fun _ _ => 0) ⟨#[], #[.slice none 0 0, .slice none 0 0], []⟩).memory Try.f5.params.toList Rows.mergePiecesSpec.vars false [Value.slice none 0 0, Value.slice none 0 0] 8 = some ([.nil, .nil], [], places) :=
  ⟨[], by kernel_rfl⟩

set_option maxRecDepth 100000 in
theorem lifted (os : Os) (started : os.Started) (H : Type) (enc : TypeId × Value → H) (F : Stop.Interp) :
    ReturnsInHanded {} Try.checked os 5 .any ((Rows.OpenSpec.upto Rows.mergePiecesSpec).preRow enc Try.prog Try.f5 Rows.mergePiecesUptoRow.domain false Rows.mergePiecesUptoRow.laid) (((Rows.OpenSpec.upto Rows.mergePiecesSpec).at F).post enc Try.prog Try.f5 false true false false) := by
  obtain ⟨places, hx⟩ := reads os enc
  have laid_met : laidMet Try.prog Rows.mergePiecesUptoRow.laid ((World.holding Try.prog os ⟨#[], #[], []⟩).forCall (fun _ _ => 0) ⟨#[], #[.slice none 0 0, .slice none 0 0], []⟩).memory := ⟨[], rfl, List.nodup_nil, fun _ _ h => by cases h⟩
  refine returnsInHanded_of_row (C := Try.checked) (s := Rows.OpenSpec.upto Rows.mergePiecesSpec) own started (by kernel_rfl) Try.func5
    (witness_row_at (enc := enc) (C := Try.checked) false (World.holding Try.prog os ⟨#[], #[], []⟩) #[.slice none 0 0, .slice none 0 0] rfl (by kernel_rfl) (by kernel_rfl) (by kernel_rfl)
      (OpenSpec.preRow_of_cond 8 hx (by kernel_rfl) (fun k hk => by cases hk; kernel_rfl) (by kernel_rfl) laid_met)) ?_
  intro W base args ds gs before hval hW _ hcond hz _ _ _
  exact contractUpto H enc W base args ds gs before hval hW hz (hcond _ rfl)

theorem said : Rows.MergePiecesUptoSaid :=
  OpenClaim.holds_of_cond 5 Try.f5 rfl rfl rfl rfl rfl rfl rfl ⟨rfl, rfl, rfl, rfl, rfl⟩ rfl rfl rfl rfl rfl (by kernel_rfl) Try.func5 (by kernel_rfl)
    (of_decide_eq_true (by kernel_rfl)) (by unfold Func.isWrapper; first | (rw [if_pos (by decide +kernel)]; kernel_rfl) | (rw [if_neg (by decide +kernel)]; exact ⟨rfl, rfl⟩))
    (fun os started H enc _ F => by rw [OpenClaim.pre_eq_preRow]; exact lifted os started H enc F)

end Go.Proofs.Ytmpeaondljpgiaa.fnMergePieces
