/- Merging: merge.Sort: the pairs in the order of their keys, those of one key as they stood. -/
import Derived.Test.YtmpeaondljpgiaaMrgSort1
namespace Go.Proofs.Ytmpeaondljpgiaa
open Go.RowKit Go.Lib Go.Sort Go.Shelf

theorem swk_below {α : Type} [Inhabited α] {enc : α → List Value} {k : Nat} {wr w' : World} {blk off B : Nat} {dk : Array α} (h : SWK enc k wr blk off dk w') (hB : B ≤ blk) (hb : blk < wr.heap.size) : Below B wr w' := by
  obtain ⟨n, os, rfl⟩ := h
  refine ⟨rfl, rfl, rfl, ?_, fun k hk => ?_⟩
  · show wr.heap.size ≤ ((wr.heap.modify blk _) ++ os).size
    simp
  · show ((wr.heap.modify blk _) ++ os)[k]? = wr.heap[k]?
    rw [Array.getElem?_append_left (by rw [Array.size_modify]; omega), Array.getElem?_modify, if_neg (by omega)]
def dF (n : Nat) : List (Fin (n + 1)) := (List.finRange n).map Fin.castSucc
theorem dF_len (n : Nat) : (dF n).length = n := by simp [dF]
theorem dF_get (n i : Nat) (h : i < n) : (dF n).toArray[i]! = (⟨i, by omega⟩ : Fin (n + 1)) := by
  rw [getElem!_pos _ i (by simpa [dF] using h)]
  simp [dF]
theorem holds_own {W : World} {B n c : Nat} {e : TypeId} {K V : Nat → ByteArray} {g : Nat} (h : W.ownsRow B e 2 (.slice (some ⟨g, 0, none⟩) n c) n (prN K V n)) : HoldsK (encP (KF n K) (KF n V)) 2 W g 0 (dF n).toArray := by
  intro j hj
  have hd : (dF n).toArray.size = n := by simp [dF]
  have hj2 : j < n * 2 := by simpa [hd] using hj
  obtain ⟨g0, g1⟩ := prN_get K V n (j / 2) (by omega)
  rw [Nat.zero_add]
  refine ⟨?_, h.frozenAt j⟩
  rw [h.cellAt j (by omega), get_flatK _ _ _ j (by rw [hd]; exact hj2), dF_get n (j / 2) (by omega)]
  rcases Nat.mod_two_eq_zero_or_one j with hm | hm
  · rw [show j / 2 * 2 = j by omega] at g0
    rw [g0, hm]
    rfl
  · rw [show j / 2 * 2 + 1 = j by omega] at g1
    rw [g1, hm]
    rfl
theorem own_swk {α : Type} [Inhabited α] {enc : α → List Value} {k : Nat} {w1 w2 : World} {B g n c : Nat} {e : TypeId} {xs ys : List Value} {dk : Array α} (h : w1.ownsRow B e 2 (.slice (some ⟨g, 0, none⟩) n c) n xs) (hs : SWK enc k w1 g 0 dk w2) (hl : ys.length = n * 2)
    (hc : ∀ j, j < n * 2 → w2.cell? ⟨g, j, none⟩ = ys[j]?) : w2.ownsRow B e 2 (.slice (some ⟨g, 0, none⟩) n c) n ys := by
  obtain ⟨q, os, rfl⟩ := hs
  rcases h.2 with ⟨h', _⟩ | ⟨g', cap', cur, h', hb, hg, hnc, hcm, hcs, htake⟩
  · simp at h'
  · simp only [Value.slice.injEq, Option.some.injEq, Addr.mk.injEq, and_true, true_and] at h'
    obtain ⟨rfl, rfl⟩ := h'
    have hlt := (Array.getElem?_eq_some_iff.1 hg).1
    have hg2 : (sortWorldK enc k w1 g 0 q dk os).heap[g]? = some (.cells (Go.Sort.putCells id 0 (flatK enc k dk) cur) e (0, 0)) := by
      show ((w1.heap.modify g _) ++ os)[g]? = _
      rw [Array.getElem?_append_left (by rw [Array.size_modify]; exact hlt), Array.getElem?_modify, if_pos rfl, hg]
      rfl
    refine ⟨hl, .inr ⟨g, c, _, rfl, hb, hg2, hnc, hcm, by simp [Go.Sort.putCells, hcs], ?_⟩⟩
    apply List.ext_getElem?
    intro j
    by_cases hj : j < n * 2
    · rw [List.getElem?_take, if_pos hj, ← hc j hj, cell_of_row _ g j _ e (0, 0) hg2, Array.getElem?_toList]
    · rw [List.getElem?_take, if_neg hj, List.getElem?_eq_none (by omega)]
set_option maxRecDepth 100000 in
set_option maxHeartbeats 4000000 in
theorem sort_any (A : Option Addr) (n cap : Nat) (K V : Nat → ByteArray) (w : World) (hn : n ≤ 1099511627776) (hsz : ∀ j, (K j).size ≤ 140737488351232 ∧ (V j).size ≤ 140737488351232) (hP : PrAt w w.heap.size A n K V) :
    Calls Try.prog 12 #[.slice A n cap] w fun e w' => e = .returned (.slice (some ⟨w.heap.size, 0, none⟩) n n) ∧ ∃ S : List (Fin (n + 1)), S.Perm (dF n) ∧ SrtT (keyP n K) (fun x => x.val) S ∧
      PrAt w' w'.heap.size (some ⟨w.heap.size, 0, none⟩) n (fun j => K (S.getD j 0).val) (fun j => V (S.getD j 0).val) ∧ Below w.heap.size w w' ∧ w'.ownsRow w.heap.size 34 2 (.slice (some ⟨w.heap.size, 0, none⟩) n n) n (prN (fun j => K (S.getD j 0).val) (fun j => V (S.getD j 0).val) n) := by
  have hcp := copies_any A n cap K V w hn hsz hP
  have HCP := Lib.hid hcp
  have HN := Lib.hid hn
  obtain ⟨B, hB⟩ : ∃ B, B = w.heap.size := ⟨_, rfl⟩
  rw [← hB] at hcp ⊢
  have HB := Lib.hid hB
  clear HCP hsz hP hB hn
  go_enter Try.func12, Try.ntmps12
  go_wp2_with (fail)
  refine hcp.mono ?_
  rintro e w1 ⟨rfl, ho, hb1⟩
  have hbs : B < w1.heap.size := by
    rcases ho.2 with ⟨e, _⟩ | ⟨g, _, _, e, _, hg, _⟩
    · cases e
    · injection e with e _ _
      injection e with e
      injection e with e _ _
      rw [e]
      exact (Array.getElem?_eq_some_iff.1 hg).1
  have hd : (dF n).toArray.size = n := by simp [dF]
  have R : RowK (encP (KF n K) (KF n V)) 2 w1 B 0 (dF n).toArray := ⟨fun _ => rfl, fun x y hy => by
    simp only [encP, List.mem_cons, List.not_mem_nil, or_false] at hy
    rcases hy with rfl | rfl <;> rfl, holds_own ho, hbs⟩
  have hsrt := sortStable_K (key := keyP n K) (num := fun x : Fin (n + 1) => x.val) R (by rw [hd]; have := HN.out; omega) n (sort1_cmp n K V B 0 _ w1) (dF n) w1 (Lib.hid (by
    unfold dF
    rw [List.pairwise_map]
    exact (List.pairwise_lt_finRange n).imp fun h => h)) (Lib.hid (by simp)) (SWK.start (holds_own ho))
  rw [hd] at hsrt
  have HBS := Lib.hid hbs
  have HB1 := Lib.hid hb1
  have HR := Lib.hid R
  have HO := Lib.hid ho
  clear hcp ho hbs hb1 R
  go_wp2_with (fail)
  refine hsrt.mono ?_
  rintro e w2 ⟨rfl, S, HS⟩
  clear hsrt
  have hfin : ∃ S : List (Fin (n + 1)), S.Perm (dF n) ∧ SrtT (keyP n K) (fun x => x.val) S ∧ PrAt w2 w2.heap.size (some ⟨B, 0, none⟩) n (fun j => K (S.getD j 0).val) (fun j => V (S.getD j 0).val) ∧ Below B w w2 ∧ w2.ownsRow B 34 2 (.slice (some ⟨B, 0, none⟩) n n) n (prN (fun j => K (S.getD j 0).val) (fun j => V (S.getD j 0).val) n) := by
    obtain ⟨h1, h2, h3⟩ := HS.out
    have hl : S.length = n := by rw [h1.length_eq, dF_len]
    have hbel := swk_below h3 (Nat.le_refl B) HBS.out
    have hP : PrAt w2 w2.heap.size (some ⟨B, 0, none⟩) n (fun j => K (S.getD j 0).val) (fun j => V (S.getD j 0).val) := fun j hj => by
      have hel := el_of h3 HR.out (by simp [hd, hl]) j (by simpa [hl] using hj)
      have e : (S.toArray[j]!) = S.getD j 0 := by
        rw [getElem!_pos _ j (by simpa [hl] using hj), List.getD_eq_getElem?_getD, List.getElem?_eq_getElem (by omega)]
        simp
      rw [e, Nat.zero_add] at hel
      refine ⟨B, 0, rfl, by have := HBS.out; have := hbel.size; omega, ?_, ?_⟩
      · rw [Nat.zero_add]; exact hel.c0
      · rw [Nat.zero_add]; exact hel.c1
    refine ⟨S, h1, h2, hP, HB1.out.trans (hbel.mono (Nat.le_refl _)), own_swk HO.out h3 (prN_len _ _ _) fun j hj => ?_⟩
    obtain ⟨b, off, eA, _, c0, c1⟩ := hP (j / 2) (by omega)
    injection eA with eA
    injection eA with e1 e2
    subst e1 e2
    rw [Nat.zero_add] at c0 c1
    obtain ⟨g0, g1⟩ := prN_get (fun j => K (S.getD j 0).val) (fun j => V (S.getD j 0).val) n (j / 2) (by omega)
    rcases Nat.mod_two_eq_zero_or_one j with hm | hm
    · rw [show j / 2 * 2 = j by omega] at c0 g0
      rw [c0, g0]
    · rw [show j / 2 * 2 + 1 = j by omega] at c1 g1
      rw [c1, g1]
  have HF := Lib.hid hfin
  clear hfin
  go_wp2
  go_ret
  exact ⟨rfl, HF.out⟩
end Go.Proofs.Ytmpeaondljpgiaa
