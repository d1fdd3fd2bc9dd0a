/- A change as it came in. -/
import Derived.Test.YtoaoikfhdeiabaaDoorPlainKit
import Derived.Test.YtoaoikfhdeiabaaDoorLawEnd
import Derived.SliceStrings
import Derived.ChangeShapes
import Derived.ChangeSlices
import Derived.SizedLaws
import Derived.Deep.Slices
namespace Go.Proofs.YtoaoikfhdeiabaaDoor
open Go.RowKit Go.ChangeShapes Go.WideShapes Go.Deep
def i64 (n : Int) : Prop := -9223372036854775808 ≤ n ∧ n ≤ 9223372036854775807
section
variable {H : Type} {enc : TypeId × Value → H} {w : World} {base n : Nat} {held : Bool} {cs : List Value} {d : DataW H} {p : List MemPlace}
set_option maxRecDepth 100000 in
theorem block_of (h : DataW.trod enc Tryd.prog w base (fun _ => true) held n 23 cs = some (d, p)) : ∃ a b c : Int, cs = [.int .i64 a, .int .i64 b, .int .i64 c] ∧ i64 a ∧ i64 b ∧ i64 c := by
  obtain ⟨ys, m, _, hx, hlen, hyl, hf⟩ := DataW.trod_struct Tryd.underlying23 h
  have c3 : Tryd.prog.cellsOf 3 = 1 := by kernel_rfl
  have cB : Tryd.prog.cellsOf 23 = 3 := by kernel_rfl
  rw [cB] at hlen
  match cs, hlen, ys, hyl, hf with
  | [v0, v1, v2], _, [y0, y1, y2], _, hf =>
    have g0 : DataW.trod enc Tryd.prog w base (fun _ => true) held m 3 [v0] = some y0 := by have := hf 0 _ rfl; simpa [c3] using this
    have g1 : DataW.trod enc Tryd.prog w base (fun _ => true) held m 3 [v1] = some y1 := by have := hf 1 _ rfl; simpa [c3] using this
    have g2 : DataW.trod enc Tryd.prog w base (fun _ => true) held m 3 [v2] = some y2 := by have := hf 2 _ rfl; simpa [c3] using this
    obtain ⟨a, e0, _, wa⟩ := DataW.trod_int Tryd.underlying3 g0
    obtain ⟨b, e1, _, wb⟩ := DataW.trod_int Tryd.underlying3 g1
    obtain ⟨c, e2, _, wc⟩ := DataW.trod_int Tryd.underlying3 g2
    simp only [List.cons.injEq, and_true] at e0 e1 e2
    subst e0 e1 e2
    exact ⟨a, b, c, rfl, i64_of_wf wa, i64_of_wf wb, i64_of_wf wc⟩
set_option maxRecDepth 100000 in
theorem u32_of_wf {n : Int} (h : (Lit.int .u32 n).wf = true) : 0 ≤ n ∧ n ≤ 4294967295 := by
  simp [Lit.wf, IntKind.min, IntKind.max, IntKind.signed, IntKind.bits] at h
  omega
set_option maxRecDepth 100000 in
theorem piece_of (h : DataW.trod enc Tryd.prog w base (fun _ => true) held n 26 cs = some (d, p)) : ∃ a b c s u : Int, cs = [.int .i64 a, .int .i64 b, .int .i64 c, .int .i64 s, .int .u32 u] ∧ i64 a ∧ i64 b ∧ i64 c ∧ i64 s ∧ 0 ≤ u ∧ u ≤ 4294967295 := by
  obtain ⟨ys, m, _, hx, hlen, hyl, hf⟩ := DataW.trod_struct Tryd.underlying26 h
  have c3 : Tryd.prog.cellsOf 3 = 1 := by kernel_rfl
  have cu : Tryd.prog.cellsOf 24 = 1 := by kernel_rfl
  have cB : Tryd.prog.cellsOf 23 = 3 := by kernel_rfl
  have cP : Tryd.prog.cellsOf 26 = 5 := by kernel_rfl
  rw [cP] at hlen
  match cs, hlen, ys, hyl, hf with
  | [v0, v1, v2, v3, v4], _, [y0, y1, y2], _, hf =>
    have g0 : DataW.trod enc Tryd.prog w base (fun _ => true) held m 23 [v0, v1, v2] = some y0 := by have := hf 0 _ rfl; simpa [cB] using this
    have g1 : DataW.trod enc Tryd.prog w base (fun _ => true) held m 3 [v3] = some y1 := by have := hf 1 _ rfl; simpa [c3] using this
    have g2 : DataW.trod enc Tryd.prog w base (fun _ => true) held m 24 [v4] = some y2 := by have := hf 2 _ rfl; simpa [cu] using this
    obtain ⟨a, b, c, e0, wa, wb, wc⟩ := block_of (d := y0.1) (p := y0.2) g0
    obtain ⟨s, e1, _, ws⟩ := DataW.trod_int Tryd.underlying3 g1
    obtain ⟨u, e2, _, wu⟩ := DataW.trod_int Tryd.underlying24 g2
    simp only [List.cons.injEq, and_true] at e0 e1 e2
    obtain ⟨rfl, rfl, rfl⟩ := e0
    subst e1 e2
    exact ⟨a, b, c, s, u, rfl, wa, wb, wc, i64_of_wf ws, u32_of_wf wu⟩
set_option maxRecDepth 100000 in
theorem change_of (h : DataW.trod enc Tryd.prog w base (fun _ => true) held n 28 cs = some (d, p)) (hw : ∀ m ∈ d.weights Tryd.prog 28, m ≤ reachBytes) :
    ∃ (k c q : Int) (P T : ByteArray) (bc bl bt sz su : Int), cs = [.int .i64 k, .int .i64 c, .int .i64 q, .string P, .string T, .int .i64 bc, .int .i64 bl, .int .i64 bt, .int .i64 sz, .int .u32 su] ∧ i64 k ∧ i64 c ∧ i64 q ∧ i64 bc ∧ i64 bl ∧ i64 bt ∧ i64 sz ∧ (0 ≤ su ∧ su ≤ 4294967295) ∧ P.size ≤ 140737488351232 ∧ T.size ≤ 140737488351232 := by
  obtain ⟨ys, m, _, hx, hlen, hyl, hf⟩ := DataW.trod_struct Tryd.underlying28 h
  have c3 : Tryd.prog.cellsOf 3 = 1 := by kernel_rfl
  have cs9 : Tryd.prog.cellsOf 9 = 1 := by kernel_rfl
  have cP : Tryd.prog.cellsOf 26 = 5 := by kernel_rfl
  have cC : Tryd.prog.cellsOf 28 = 10 := by kernel_rfl
  rw [cC] at hlen
  simp only [Prod.mk.injEq] at hx
  obtain ⟨rfl, _⟩ := hx
  match cs, hlen, ys, hyl, hw, hf with
  | [v0, v1, v2, v3, v4, v5, v6, v7, v8, v9], _, [y0, y1, y2, y3, y4, y5], _, hw, hf =>
    have g0 : DataW.trod enc Tryd.prog w base (fun _ => true) held m 3 [v0] = some y0 := by have := hf 0 _ rfl; simpa [c3] using this
    have g1 : DataW.trod enc Tryd.prog w base (fun _ => true) held m 3 [v1] = some y1 := by have := hf 1 _ rfl; simpa [c3] using this
    have g2 : DataW.trod enc Tryd.prog w base (fun _ => true) held m 3 [v2] = some y2 := by have := hf 2 _ rfl; simpa [c3] using this
    have g3 : DataW.trod enc Tryd.prog w base (fun _ => true) held m 9 [v3] = some y3 := by have := hf 3 _ rfl; simpa [cs9] using this
    have g4 : DataW.trod enc Tryd.prog w base (fun _ => true) held m 9 [v4] = some y4 := by have := hf 4 _ rfl; simpa [cs9] using this
    have g5 : DataW.trod enc Tryd.prog w base (fun _ => true) held m 26 [v5, v6, v7, v8, v9] = some y5 := by have := hf 5 _ rfl; simpa [cP] using this
    obtain ⟨k, e0, x0, wk⟩ := DataW.trod_int Tryd.underlying3 g0
    obtain ⟨c, e1, x1, wc⟩ := DataW.trod_int Tryd.underlying3 g1
    obtain ⟨q, e2, x2, wq⟩ := DataW.trod_int Tryd.underlying3 g2
    obtain ⟨P, e3, x3, _⟩ := DataW.trod_string Tryd.underlying9 g3
    obtain ⟨T, e4, x4, _⟩ := DataW.trod_string Tryd.underlying9 g4
    obtain ⟨bc, bl, bt, sz, su, e5, w5, w6, w7, w8, w9⟩ := piece_of (d := y5.1) (p := y5.2) g5
    simp only [List.cons.injEq, and_true] at e0 e1 e2 e3 e4 e5
    subst e0 e1 e2 e3 e4
    obtain ⟨rfl, rfl, rfl, rfl, rfl⟩ := e5
    have hreach : reachBytes = 140737488351232 := rfl
    have hP : P.size ≤ reachBytes := by
      refine hw _ ?_
      subst x3
      simp only [DataW.weights, Tryd.underlying28, List.map_cons, List.map_nil, DataW.weightsEach, List.mem_append]
      simp [DataW.weightsEach, DataW.weights]
    have hT : T.size ≤ reachBytes := by
      refine hw _ ?_
      subst x4
      simp only [DataW.weights, Tryd.underlying28, List.map_cons, List.map_nil, DataW.weightsEach, List.mem_append]
      simp [DataW.weightsEach, DataW.weights]
    exact ⟨k, c, q, P, T, bc, bl, bt, sz, su, rfl, i64_of_wf wk, i64_of_wf wc, i64_of_wf wq, w5, w6, w7, w8, w9, by omega, by omega⟩
end
set_option maxRecDepth 100000 in
theorem open_change {H : Type} {enc : TypeId × Value → H} {W : World} {base : Nat} {v : Value} {d : DataW H} {p : List MemPlace}
    (hv : Value.okWide Tryd.prog W .any base 28 v) (h : DataW.Trod enc Tryd.prog W 0 (fun _ => true) true 28 v d p) (hw : ∀ m ∈ d.weights Tryd.prog 28, m ≤ reachBytes) :
    ∃ (k c q : Int) (P T : ByteArray) (bc bl bt sz su : Int), v = .agg #[.int .i64 k, .int .i64 c, .int .i64 q, .string P, .string T, .int .i64 bc, .int .i64 bl, .int .i64 bt, .int .i64 sz, .int .u32 su] ∧ i64 k ∧ i64 c ∧ i64 q ∧ i64 bc ∧ i64 bl ∧ i64 bt ∧ i64 sz ∧ (0 ≤ su ∧ su ≤ 4294967295) ∧ P.size ≤ 140737488351232 ∧ T.size ≤ 140737488351232 := by
  obtain ⟨cs, rfl, hsz⟩ := okWide_struct Tryd.underlying28 hv
  obtain ⟨fuel, hf⟩ := h
  obtain ⟨k, c, q, P, T, bc, bl, bt, sz, su, hx, hr⟩ := change_of hf hw
  refine ⟨k, c, q, P, T, bc, bl, bt, sz, su, ?_, hr⟩
  have : cs.toList = _ := hx
  congr 1
  apply Array.ext'
  exact this
end Go.Proofs.YtoaoikfhdeiabaaDoor
