/- Lists of texts and of truth values as they come in, with the bounds that their weights give. -/
import Derived.Test.YtabnhiehmheocaaSlices
import Derived.Test.YtabnhiehmheocaaPlainKit
import Derived.SliceStrings
import Derived.Deep.Slices
import Derived.SizedLaws
namespace Go.Proofs.Ytabnhiehmheocaa
open Go.RowKit Go.ChangeShapes Go.WideShapes Go.Deep

theorem weights_elem' {H : Type} {P : Program} {e : TypeId} : ∀ {l : List (DataW H)} {d : DataW H}, d ∈ l → ∀ m ∈ d.weights P e, m ∈ DataW.weightsAll P e l
  | d0 :: r, d, hd, m, hm => by
    simp only [DataW.weightsAll, List.mem_append]
    rcases List.mem_cons.1 hd with rfl | hd
    · exact .inl hm
    · exact .inr (weights_elem' hd m hm)
theorem open_texts16 {H : Type} {enc : TypeId × Value → H} {W : World} {base : Nat} {v : Value} {d : DataW H} {p : List MemPlace}
    (hv : Value.okWide Try.prog W .any base 42 v) (h : DataW.Trod enc Try.prog W 0 (fun _ => true) true 42 v d p) (hw : ∀ m ∈ d.weights Try.prog 42, m ≤ reachBytes) :
    ∃ (A : Option Addr) (len cap : Nat) (ss : Nat → ByteArray), v = .slice A len cap ∧ len ≤ 8796093021952 ∧ (∀ i, (ss i).size ≤ 140737488351232) ∧ SlOf W W.heap.size A len (fun i => .string (ss i)) := by
  obtain ⟨A, len, cap, rfl⟩ := okWide_slice Try.underlying42 hv
  obtain ⟨fuel, hf⟩ := h
  have hc1 : Try.prog.cellsOf 9 = 1 := by kernel_rfl
  have hb1 : Try.prog.bytesOf 9 = 16 := by kernel_rfl
  rcases open_strings Try.underlying42 Try.underlying9 hc1 hf with ⟨hcs, _⟩ | ⟨a, len', cap', ss, hcs, _, hl, hm, hss, hx, hcell, _⟩
  · simp only [Value.cells, List.cons.injEq, and_true] at hcs
    injection hcs with e1 e2 e3
    subst e1 e2 e3
    exact ⟨none, 0, 0, fun _ => ⟨#[]⟩, rfl, by omega, fun _ => Nat.zero_le _, fun i hi => absurd hi (by omega)⟩
  · simp only [Value.cells, List.cons.injEq, and_true] at hcs
    injection hcs with e1 e2 e3
    subst e1 e2 e3
    simp only [if_true] at hss
    simp only [Prod.mk.injEq] at hx
    have hlen : len * 16 ≤ 140737488351232 := by
      have := hw (((strs (H := H) (ss.take len)).length + (strs (H := H) (ss.drop len)).length) * 16) (by
        rw [hx.1]
        simp [DataW.weights, Try.underlying42, hb1])
      unfold reachBytes at this
      simp only [strs, List.length_map, List.length_take, List.length_drop] at this
      omega
    have hel : ∀ s ∈ ss.take len, s.size ≤ 140737488351232 := fun s hs => by
      have := hw s.size (by
        rw [hx.1]
        simp only [DataW.weights, Try.underlying42, List.mem_cons, List.mem_append]
        refine .inr (.inl (weights_elem' (d := .lit (.string s.data.toList)) (List.mem_map.2 ⟨s, hs, rfl⟩) _ (by simp [DataW.weights])))
        )
      unfold reachBytes at this
      exact this
    refine ⟨some a, len, cap, fun i => (ss.take len).getD i ⟨#[]⟩, rfl, by omega, fun i => ?_, ?_⟩
    · show ((ss.take len).getD i ⟨#[]⟩).size ≤ _
      rw [List.getD_eq_getElem?_getD]
      cases he : (ss.take len)[i]? with
      | none => exact Nat.zero_le _
      | some s => exact hel s (List.mem_of_getElem? he)
    · refine sl_of_cells (fun i hi => ?_)
      have := hcell i (by omega)
      rw [this]
      simp only [List.getD_eq_getElem?_getD, List.getElem?_take, if_pos hi]
      first | rfl | (cases h : ss[i]? <;> simp_all)
theorem open_bools {H : Type} {enc : TypeId × Value → H} {W : World} {base : Nat} {v : Value} {d : DataW H} {p : List MemPlace}
    (hv : Value.okWide Try.prog W .any base 47 v) (h : DataW.Trod enc Try.prog W 0 (fun _ => true) true 47 v d p) :
    ∃ (A : Option Addr) (len cap : Nat) (bs : Nat → Bool), v = .slice A len cap ∧ len ≤ maxLen ∧ SlOf W W.heap.size A len (fun i => .bool (bs i)) := by
  obtain ⟨A, len, cap, rfl⟩ := okWide_slice Try.underlying47 hv
  obtain ⟨fuel, hf⟩ := h
  have hc1 : Try.prog.cellsOf 4 = 1 := by kernel_rfl
  rcases open_slice Try.underlying47 hf with ⟨hcs, _⟩ | ⟨a, len', cap', m, n, D, Pl, hcs, _, hl, hm, hmm, hx, hi⟩
  · simp only [Value.cells, List.cons.injEq, and_true] at hcs
    injection hcs with e1 e2 e3
    subst e1 e2 e3
    exact ⟨none, 0, 0, fun _ => false, rfl, Nat.zero_le _, fun i hi => absurd hi (by omega)⟩
  · simp only [Value.cells, List.cons.injEq, and_true] at hcs
    injection hcs with e1 e2 e3
    subst e1 e2 e3
    simp only [if_true] at hmm
    rw [hc1] at hi
    have all : ∀ i, ∃ x : Bool, i < len → W.cell? (a.add i) = some (.bool x) := fun i => by
      by_cases hil : i < len
      · obtain ⟨cs', hc, ht⟩ := hi i (by omega)
        obtain ⟨x, rfl, _⟩ := DataW.trod_bool Try.underlying4 ht
        obtain ⟨_, _, hat⟩ := World.cells?_some hc
        have := hat 0 (by omega)
        exact ⟨x, fun _ => by simpa [Addr.add] using this⟩
      · exact ⟨false, fun h => absurd h hil⟩
    exact ⟨some a, len, cap, fun i => Classical.choose (all i), rfl, by omega, sl_of_cells (fun i hi => Classical.choose_spec (all i) hi)⟩
/-- the order of texts, as the program asks for it -/
theorem bytesLess_lt (x y : List UInt8) : Go.Op.bytesLess x y = decide (x < y) := by
  induction x generalizing y with
  | nil => cases y <;> simp [Go.Op.bytesLess]
  | cons a x ih =>
    cases y with
    | nil => simp [Go.Op.bytesLess]
    | cons b y =>
      rw [Go.Op.bytesLess, ih]
      by_cases h1 : a < b
      · simp [h1, List.cons_lt_cons_iff]
      · by_cases h2 : a = b
        · subst h2
          simp [h1, List.cons_lt_cons_iff]
        · simp [h1, h2, List.cons_lt_cons_iff]
end Go.Proofs.Ytabnhiehmheocaa
