/- where.Near, said plainly: the numbers by their distance, of those alike the lower first, each once. -/
import Derived.Test.YtjjmflkdfgneoaaNearNil
namespace Go.Proofs.Ytjjmflkdfgneoaa
open Go.RowKit Go.Lib Go.Sort Go.Shelf

/-- f lists the numbers below n by D, then by themselves -/
def NearF (n : Nat) (D : Nat → Int) (f : Nat → Nat) : Prop :=
  (∀ i, i < n → f i < n) ∧ (∀ m, m < n → ∃ i, i < n ∧ f i = m) ∧ ∀ i j, i < j → j < n → D (f i) < D (f j) ∨ (D (f i) = D (f j) ∧ f i < f j)
theorem sw_below {α : Type} [Inhabited α] {enc : α → Value} {wr w' : World} {blk off B : Nat} {dk : Array α} (h : SW enc wr blk off dk w') (hB : B ≤ blk) (hb : blk < wr.heap.size) : Below B wr w' := by
  obtain ⟨n, os, rfl⟩ := h
  refine ⟨rfl, rfl, rfl, ?_, fun k hk => ?_⟩
  · show wr.heap.size ≤ ((wr.heap.modify blk _) ++ os).size
    simp
  · show ((wr.heap.modify blk _) ++ os)[k]? = wr.heap[k]?
    rw [Array.getElem?_append_left (by rw [Array.size_modify]; omega), Array.getElem?_modify, if_neg (by omega)]
theorem nearF_of {n : Nat} {D : Nat → Int} {S : List (Fin n)} (hp : S.Perm (List.finRange n)) (hs : SrtT (fun x : Fin n => D x.val) (fun x : Fin n => x.val) S) :
    S.length = n ∧ NearF n D (fun i => (S.map (fun x => x.val)).getD i 0) := by
  have hl : S.length = n := by rw [hp.length_eq]; simp
  have hg : ∀ i (h : i < n), (S.map (fun x => x.val)).getD i 0 = (S[i]'(by omega)).val := fun i h => by
    rw [List.getD_eq_getElem?_getD, List.getElem?_map, List.getElem?_eq_getElem (by omega)]
    rfl
  refine ⟨hl, fun i hi => ?_, fun m hm => ?_, fun i j hij hj => ?_⟩
  · show (S.map (fun x => x.val)).getD i 0 < n
    rw [hg i hi]
    exact (S[i]'(by omega)).isLt
  · have h1 : (⟨m, hm⟩ : Fin n) ∈ S := hp.mem_iff.2 (by simp)
    obtain ⟨i, hi, e⟩ := List.mem_iff_getElem.1 h1
    refine ⟨i, by omega, ?_⟩
    show (S.map (fun x => x.val)).getD i 0 = m
    rw [hg i (by omega), e]
  · show D ((S.map (fun x => x.val)).getD i 0) < D ((S.map (fun x => x.val)).getD j 0) ∨ (D ((S.map (fun x => x.val)).getD i 0) = D ((S.map (fun x => x.val)).getD j 0) ∧ (S.map (fun x => x.val)).getD i 0 < (S.map (fun x => x.val)).getD j 0)
    rw [hg i (by omega), hg j hj]
    have h1 := List.pairwise_iff_getElem.1 hs i j (by omega) (by omega) hij
    exact h1
set_option maxHeartbeats 1000000 in
theorem near_is (n cap : Nat) (A : Option Addr) (a b : Nat) (ca cb : Nat → Nat) (W : World) (hn : n ≤ 35184372088832) (D : Nat → Int) (hD : D = fun i => farI (distO (plc a b) (plc (ca i) (cb i)))) (hS : SlOf W W.heap.size A n (fun i => .complex .f64 (ca i) (cb i))) :
    Calls Try.prog 23 #[.complex .f64 a b, .slice A n cap] W fun e w' => e = .returned (.slice (some ⟨W.heap.size, 0, none⟩) n n) ∧ ∃ f : Nat → Nat, NearF n D f ∧ (∀ i, i < n → w'.cell? ⟨W.heap.size, i, none⟩ = some (.int .i64 (f i : Int)) ∧ w'.frozen? ⟨W.heap.size, i, none⟩ = false) ∧ Below W.heap.size W w' := by
  rcases Nat.eq_zero_or_pos n with h0 | h0
  · subst h0
    exact (near_nil cap a b A W).mono fun e w' ⟨he, hb⟩ => ⟨he, fun i => i, ⟨fun i hi => absurd hi (Nat.not_lt_zero _), fun m hm => absurd hm (Nat.not_lt_zero _), fun i j _ hj => absurd hj (Nat.not_lt_zero _)⟩, fun i hi => absurd hi (Nat.not_lt_zero _), hb⟩
  · refine (near_ok n cap A a b ca cb W h0 hn D hD hS).mono ?_
    rintro e w' ⟨he, wr, S', HF⟩
    obtain ⟨hW, hp, hs, hsw⟩ := HF.out
    letI : Inhabited (Fin n) := ⟨⟨0, h0⟩⟩
    obtain ⟨hl, hf⟩ := nearF_of hp hs
    refine ⟨he, _, hf, fun i hi => ?_, ?_⟩
    · have e1 : (List.finRange n).toArray.size = n := by simp
      have hH : Holds (encF n) wr W.heap.size 0 (List.finRange n).toArray := fun j hj => by
        rw [e1] at hj
        have h1 := hW.num j hj
        rw [if_pos hj] at h1
        rw [Nat.zero_add]
        refine ⟨?_, h1.2⟩
        rw [h1.1, getElem!_pos _ j (by rw [e1]; exact hj)]
        simp [encF]
      have h2 := hsw.holds (by have := hW.size; omega) hH (by rw [e1]; simpa using hl) i (by simpa using (by omega : i < S'.length))
      rw [Nat.zero_add] at h2
      refine ⟨?_, h2.2⟩
      rw [h2.1, getElem!_pos _ i (by simpa using (by omega : i < S'.length))]
      simp only [encF, List.getElem_toArray]
      congr 3
      rw [List.getD_eq_getElem?_getD, List.getElem?_map, List.getElem?_eq_getElem (by omega)]
      rfl
    · exact hW.below.trans (sw_below hsw (Nat.le_refl _) (by have := hW.size; omega))
end Go.Proofs.Ytjjmflkdfgneoaa
