/- A list of acts as it came in, for the laws of package net. -/
import Derived.Test.YtcahiogjmclnjaaNetWayP
import Derived.Deep.Slices
namespace Go.Proofs.Ytcahiogjmclnjaa
open Go.RowKit Go.ChangeShapes Go.WideShapes Go.Deep

structure Ac where
  k : Int
  a : Int
  b : Int
  s : ByteArray
  c : Bool
abbrev acCells (x : Ac) : List Value := [.int .i64 x.k, .int .i64 x.a, .int .i64 x.b, .string x.s, .bool x.c]
theorem act_of {H : Type} {enc : TypeId × Value → H} {w : World} {base n : Nat} {spare : Nat → Bool} {held : Bool} {cs : List Value} {d : DataW H} {p : List MemPlace}
    (h : DataW.trod enc Try.prog w base spare held n 29 cs = some (d, p)) :
    ∃ x : Ac, cs = acCells x ∧ node4 x.k ∧ node4 x.a ∧ node4 x.b := by
  obtain ⟨ys, m, _, hx, hlen, hyl, hf⟩ := DataW.trod_struct Try.underlying29 h
  have c3 : Try.prog.cellsOf 3 = 1 := by kernel_rfl
  have c9 : Try.prog.cellsOf 9 = 1 := by kernel_rfl
  have c4 : Try.prog.cellsOf 4 = 1 := by kernel_rfl
  have c29 : Try.prog.cellsOf 29 = 5 := by kernel_rfl
  rw [c29] at hlen
  simp only [Prod.mk.injEq] at hx
  match cs, hlen, ys, hyl with
  | [v0, v1, v2, v3, v4], _, [y0, y1, y2, y3, y4], _ =>
    have g0 : DataW.trod enc Try.prog w base spare held m 3 [v0] = some y0 := by have := hf 0 _ rfl; simpa [c3] using this
    have g1 : DataW.trod enc Try.prog w base spare held m 3 [v1] = some y1 := by have := hf 1 _ rfl; simpa [c3] using this
    have g2 : DataW.trod enc Try.prog w base spare held m 3 [v2] = some y2 := by have := hf 2 _ rfl; simpa [c3] using this
    have g3 : DataW.trod enc Try.prog w base spare held m 9 [v3] = some y3 := by have := hf 3 _ rfl; simpa [c9] using this
    have g4 : DataW.trod enc Try.prog w base spare held m 4 [v4] = some y4 := by have := hf 4 _ rfl; simpa [c4] using this
    obtain ⟨k, e0, rfl, wk⟩ := DataW.trod_int Try.underlying3 g0
    obtain ⟨i, e1, rfl, wi⟩ := DataW.trod_int Try.underlying3 g1
    obtain ⟨j, e2, rfl, wj⟩ := DataW.trod_int Try.underlying3 g2
    obtain ⟨s, e3, rfl, _⟩ := DataW.trod_string Try.underlying9 g3
    obtain ⟨b, e4, rfl⟩ := DataW.trod_bool Try.underlying4 g4
    simp only [List.cons.injEq, and_true] at e0 e1 e2 e3 e4
    subst e0 e1 e2 e3 e4
    exact ⟨⟨k, i, j, s, b⟩, rfl, i64_of_wf wk, i64_of_wf wi, i64_of_wf wj⟩
/-- the slice value holds the acts it 0, it 1, .., all of them below B -/
def Acts (w : World) (B : Nat) (A : Option Addr) (len : Nat) (it : Nat → Ac) : Prop :=
  ∀ i, i < len → (node4 (it i).k ∧ node4 (it i).a ∧ node4 (it i).b) ∧ ∃ b off, A = some ⟨b, off, none⟩ ∧ b < B ∧ ∀ j u, (acCells (it i))[j]? = some u → w.cell? ⟨b, off + i * 5 + j, none⟩ = some u
theorem open_acts {H : Type} {enc : TypeId × Value → H} {W : World} {base : Nat} {v : Value} {d : DataW H} {p : List MemPlace}
    (hv : Value.okWide Try.prog W .any base 22 v) (h : DataW.Trod enc Try.prog W 0 (fun _ => true) true 22 v d p) :
    ∃ (A : Option Addr) (len cap : Nat) (it : Nat → Ac), v = .slice A len cap ∧ len ≤ maxLen ∧ Acts W W.heap.size A len it := by
  obtain ⟨A, len, cap, rfl⟩ := okWide_slice Try.underlying22 hv
  obtain ⟨fuel, hf⟩ := h
  rcases open_slice Try.underlying22 hf with ⟨hcs, _⟩ | ⟨a, len', cap', m, n, D, Pl, hcs, _, hl, hm, hmm, hx, hi⟩
  · simp only [Value.cells, List.cons.injEq, and_true] at hcs
    injection hcs with e1 e2 e3
    subst e1 e2 e3
    exact ⟨none, 0, 0, fun _ => ⟨0, 0, 0, ⟨#[]⟩, false⟩, rfl, by unfold maxLen; omega, fun i hi => absurd hi (by omega)⟩
  · simp only [Value.cells, List.cons.injEq, and_true] at hcs
    injection hcs with e1 e2 e3
    subst e1 e2 e3
    simp only [if_true] at hmm
    have c29 : Try.prog.cellsOf 29 = 5 := by kernel_rfl
    rw [c29] at hi
    have all : ∀ i, ∃ x : Ac, i < len → (node4 x.k ∧ node4 x.a ∧ node4 x.b) ∧ ∃ b off, some a = some (⟨b, off, none⟩ : Addr) ∧ b < W.heap.size ∧ ∀ j u, (acCells x)[j]? = some u → W.cell? ⟨b, off + i * 5 + j, none⟩ = some u := fun i => by
      by_cases hil : i < len
      · obtain ⟨cs', hc, ht⟩ := hi i (by omega)
        obtain ⟨x, rfl, b1⟩ := act_of ht
        obtain ⟨_, _, hat⟩ := World.cells?_some hc
        have hat' : ∀ j u, (acCells x)[j]? = some u → W.cell? ((a.add (i * 5)).add j) = some u := fun j u hj => by
          have hj5 : j < 5 := by
            have := (List.getElem?_eq_some_iff.1 hj).1
            simpa using this
          rw [hat j hj5, hj]
        have h0 : a.spot = none := by
          obtain ⟨cs0, hc0, ht0⟩ := hi 0 (by omega)
          obtain ⟨x0, rfl, _⟩ := act_of ht0
          obtain ⟨_, _, hat0⟩ := World.cells?_some hc0
          have := World.cell?_spot (hat0 0 (by omega))
          simpa [Addr.add] using this
        obtain ⟨b, off, spot⟩ := a
        have hspot : spot = none := h0
        subst hspot
        refine ⟨x, fun _ => ⟨b1, b, off, rfl, ?_, fun j u hj => ?_⟩⟩
        · have hc0 := hat' 0 _ rfl
          rw [add_plain, add_plain] at hc0
          rcases Nat.lt_or_ge b W.heap.size with hlt | hge
          · exact hlt
          · simp [World.cell?, Array.getElem?_eq_none hge] at hc0
        · have := hat' j u hj
          rwa [add_plain, add_plain] at this
      · exact ⟨⟨0, 0, 0, ⟨#[]⟩, false⟩, fun h => absurd h hil⟩
    exact ⟨some a, len, cap, fun i => Classical.choose (all i), rfl, by omega, fun i hi => Classical.choose_spec (all i) hi⟩
/-- the box that holds a copy of one act -/
structure AcB (w : World) (g : Nat) (x : Ac) : Prop where
  lt : g < w.heap.size
  c0 : w.cell? ⟨g, 0, none⟩ = some (.int .i64 x.k)
  c1 : w.cell? ⟨g, 1, none⟩ = some (.int .i64 x.a)
  c2 : w.cell? ⟨g, 2, none⟩ = some (.int .i64 x.b)
  c3 : w.cell? ⟨g, 3, none⟩ = some (.string x.s)
  c4 : w.cell? ⟨g, 4, none⟩ = some (.bool x.c)
theorem acb_new (w : World) (x : Ac) (t : TypeId) : AcB (w.alloc (.cells #[.int .i64 x.k, .int .i64 x.a, .int .i64 x.b, .string x.s, .bool x.c] t)) w.heap.size x := by
  refine ⟨by simp, ?_, ?_, ?_, ?_, ?_⟩ <;> simp
end Go.Proofs.Ytcahiogjmclnjaa
