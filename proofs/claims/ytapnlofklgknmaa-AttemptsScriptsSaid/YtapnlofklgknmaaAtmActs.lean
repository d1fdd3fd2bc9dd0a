/- A list of acts as it came in, for the laws of package attempts. -/
import Derived.Test.YtapnlofklgknmaaAtmSt
import Derived.Deep.Slices
import Derived.SizedLaws
import Derived.WideShapes
import Derived.ChangeShapes
namespace Go.Proofs.Ytapnlofklgknmaa
open Go.RowKit Go.ChangeShapes Go.WideShapes Go.Deep

/-- an act: what, its task, node, moment, attempt, how -/
structure Ac where
  k : Int
  t : Int
  n : Int
  m : Int
  a : Int
  h : Int
def i64b (x : Int) : Prop := -9223372036854775808 ≤ x ∧ x ≤ 9223372036854775807
abbrev acCells (x : Ac) : List Value := [.int .i64 x.k, .int .i64 x.t, .int .i64 x.n, .int .i64 x.m, .int .i64 x.a, .int .i64 x.h]
structure AcOk (x : Ac) : Prop where
  k : i64b x.k
  t : i64b x.t
  n : i64b x.n
  m : i64b x.m
  a : i64b x.a
  h : i64b x.h
theorem act_of {H : Type} {enc : TypeId × Value → H} {w : World} {base n : Nat} {spare : Nat → Bool} {held : Bool} {cs : List Value} {d : DataW H} {p : List MemPlace}
    (h : DataW.trod enc Try.prog w base spare held n 32 cs = some (d, p)) : ∃ x : Ac, cs = acCells x ∧ AcOk x := by
  obtain ⟨ys, m, _, hx, hlen, hyl, hf⟩ := DataW.trod_struct Try.underlying32 h
  have c3 : Try.prog.cellsOf 3 = 1 := by kernel_rfl
  have c29 : Try.prog.cellsOf 32 = 6 := by kernel_rfl
  rw [c29] at hlen
  match cs, hlen, ys, hyl with
  | [v0, v1, v2, v3, v4, v5], _, [y0, y1, y2, y3, y4, y5], _ =>
    have g0 : DataW.trod enc Try.prog w base spare held m 3 [v0] = some y0 := by have := hf 0 _ rfl; simpa [c3] using this
    have g1 : DataW.trod enc Try.prog w base spare held m 3 [v1] = some y1 := by have := hf 1 _ rfl; simpa [c3] using this
    have g2 : DataW.trod enc Try.prog w base spare held m 3 [v2] = some y2 := by have := hf 2 _ rfl; simpa [c3] using this
    have g3 : DataW.trod enc Try.prog w base spare held m 3 [v3] = some y3 := by have := hf 3 _ rfl; simpa [c3] using this
    have g4 : DataW.trod enc Try.prog w base spare held m 3 [v4] = some y4 := by have := hf 4 _ rfl; simpa [c3] using this
    have g5 : DataW.trod enc Try.prog w base spare held m 3 [v5] = some y5 := by have := hf 5 _ rfl; simpa [c3] using this
    obtain ⟨k, e0, _, w0⟩ := DataW.trod_int Try.underlying3 g0
    obtain ⟨t, e1, _, w1⟩ := DataW.trod_int Try.underlying3 g1
    obtain ⟨n, e2, _, w2⟩ := DataW.trod_int Try.underlying3 g2
    obtain ⟨m, e3, _, w3⟩ := DataW.trod_int Try.underlying3 g3
    obtain ⟨a, e4, _, w4⟩ := DataW.trod_int Try.underlying3 g4
    obtain ⟨hh, e5, _, w5⟩ := DataW.trod_int Try.underlying3 g5
    simp only [List.cons.injEq, and_true] at e0 e1 e2 e3 e4 e5
    subst e0 e1 e2 e3 e4 e5
    exact ⟨⟨k, t, n, m, a, hh⟩, rfl, i64_of_wf w0, i64_of_wf w1, i64_of_wf w2, i64_of_wf w3, i64_of_wf w4, i64_of_wf w5⟩
/-- the slice value holds the acts it 0, it 1, .., all of them below B -/
def Acts (w : World) (B : Nat) (A : Option Addr) (len : Nat) (it : Nat → Ac) : Prop :=
  ∀ i, i < len → AcOk (it i) ∧ ∃ b off, A = some ⟨b, off, none⟩ ∧ b < B ∧ ∀ j u, (acCells (it i))[j]? = some u → w.cell? ⟨b, off + i * 6 + j, none⟩ = some u
theorem open_acts {H : Type} {enc : TypeId × Value → H} {W : World} {base : Nat} {v : Value} {d : DataW H} {p : List MemPlace}
    (hv : Value.okWide Try.prog W .any base 23 v) (h : DataW.Trod enc Try.prog W 0 (fun _ => true) true 23 v d p) (hw : ∀ m ∈ d.weights Try.prog 23, m ≤ reachBytes) :
    ∃ (A : Option Addr) (len cap : Nat) (it : Nat → Ac), v = .slice A len cap ∧ len * 48 ≤ 140737488351232 ∧ Acts W W.heap.size A len it := by
  obtain ⟨A, len, cap, rfl⟩ := okWide_slice Try.underlying23 hv
  obtain ⟨fuel, hf⟩ := h
  rcases open_slice Try.underlying23 hf with ⟨hcs, _⟩ | ⟨a, len', cap', m, n, D, Pl, hcs, _, hl, hm, hmm, hx, hi⟩
  · simp only [Value.cells, List.cons.injEq, and_true] at hcs
    injection hcs with e1 e2 e3
    subst e1 e2 e3
    exact ⟨none, 0, 0, fun _ => ⟨0, 0, 0, 0, 0, 0⟩, rfl, by omega, fun i hi => absurd hi (by omega)⟩
  · simp only [Value.cells, List.cons.injEq, and_true] at hcs
    injection hcs with e1 e2 e3
    subst e1 e2 e3
    simp only [if_true] at hmm
    simp only [Prod.mk.injEq] at hx
    have c29 : Try.prog.cellsOf 32 = 6 := by kernel_rfl
    have b29 : Try.prog.bytesOf 32 = 48 := by kernel_rfl
    rw [c29] at hi
    have hlen : len * 48 ≤ 140737488351232 := by
      have := hw ((((List.range len).map D).length + ((List.range (m - len)).map fun j => D (len + j)).length) * 48) (by
        rw [hx.1]
        simp [DataW.weights, Try.underlying23, b29])
      unfold reachBytes at this
      simp at this
      omega
    have all : ∀ i, ∃ x : Ac, i < len → AcOk x ∧ ∃ b off, some a = some (⟨b, off, none⟩ : Addr) ∧ b < W.heap.size ∧ ∀ j u, (acCells x)[j]? = some u → W.cell? ⟨b, off + i * 6 + j, none⟩ = some u := fun i => by
      by_cases hil : i < len
      · obtain ⟨cs', hc, ht⟩ := hi i (by omega)
        obtain ⟨x, rfl, b1⟩ := act_of ht
        obtain ⟨_, _, hat⟩ := World.cells?_some hc
        have hat' : ∀ j u, (acCells x)[j]? = some u → W.cell? ((a.add (i * 6)).add j) = some u := fun j u hj => by
          have hj5 : j < 6 := by
            have := (List.getElem?_eq_some_iff.1 hj).1
            simpa using this
          rw [hat j hj5, hj]
        have h0 : a.spot = none := by
          obtain ⟨cs0, hc0, ht0⟩ := hi 0 (by omega)
          obtain ⟨x0, rfl, _⟩ := act_of ht0
          obtain ⟨_, _, hat0⟩ := World.cells?_some hc0
          have := World.cell?_spot (hat0 0 (by omega))
          simpa [Addr.add] using this
        obtain ⟨b, off, spot⟩ := a
        have hspot : spot = none := h0
        subst hspot
        refine ⟨x, fun _ => ⟨b1, b, off, rfl, ?_, fun j u hj => ?_⟩⟩
        · have hc0 := hat' 0 _ rfl
          rw [add_plain, add_plain] at hc0
          rcases Nat.lt_or_ge b W.heap.size with hlt | hge
          · exact hlt
          · simp [World.cell?, Array.getElem?_eq_none hge] at hc0
        · have := hat' j u hj
          rwa [add_plain, add_plain] at this
      · exact ⟨⟨0, 0, 0, 0, 0, 0⟩, fun h => absurd h hil⟩
    exact ⟨some a, len, cap, fun i => Classical.choose (all i), rfl, hlen, fun i hi => Classical.choose_spec (all i) hi⟩
/-- the box that holds a copy of one act -/
structure AcB (w : World) (g : Nat) (x : Ac) : Prop where
  ty : Bears w g 32
  c0 : w.cell? ⟨g, 0, none⟩ = some (.int .i64 x.k)
  c1 : w.cell? ⟨g, 1, none⟩ = some (.int .i64 x.t)
  c2 : w.cell? ⟨g, 2, none⟩ = some (.int .i64 x.n)
  c3 : w.cell? ⟨g, 3, none⟩ = some (.int .i64 x.m)
  c4 : w.cell? ⟨g, 4, none⟩ = some (.int .i64 x.a)
  c5 : w.cell? ⟨g, 5, none⟩ = some (.int .i64 x.h)
theorem acb_new (w : World) (x : Ac) : AcB (w.alloc (.cells #[.int .i64 x.k, .int .i64 x.t, .int .i64 x.n, .int .i64 x.m, .int .i64 x.a, .int .i64 x.h] 32)) w.heap.size x := by
  refine ⟨⟨_, heap_alloc_new w _⟩, ?_, ?_, ?_, ?_, ?_, ?_⟩ <;> simp
theorem AcB.same {w w' : World} {g : Nat} {x : Ac} (h : AcB w g x) (e : w'.heap[g]? = w.heap[g]?) : AcB w' g x :=
  ⟨by obtain ⟨cs, k⟩ := h.ty; exact ⟨cs, e.trans k⟩, (cell_eq e 0).trans h.c0, (cell_eq e 1).trans h.c1, (cell_eq e 2).trans h.c2, (cell_eq e 3).trans h.c3, (cell_eq e 4).trans h.c4, (cell_eq e 5).trans h.c5⟩
/-- a number's remainder by six, as the laws take it -/
def r6 (k : Int) : Int := k % 6
theorem r6_is (k : Int) (hk : i64b k) : (wrap64 (k.tmod 6 + 6)).tmod 6 = r6 k := by
  obtain ⟨h1, h2⟩ := hk
  unfold r6
  rw [IntWalk.wrap64_in _ ⟨by have := Int.tmod_lt_of_pos k (by decide : (0:Int) < 6); have := Int.lt_tmod_of_pos k (by decide : (0:Int) < 6); omega, by have := Int.tmod_lt_of_pos k (by decide : (0:Int) < 6); omega⟩]
  rcases Int.le_total 0 k with h | h
  · rw [Int.tmod_eq_emod_of_nonneg h, Int.tmod_eq_emod_of_nonneg (by omega)]; omega
  · have : k.tmod 6 = -((-k) % 6) := by
      rw [← Int.tmod_eq_emod_of_nonneg (by omega : 0 ≤ -k), Int.neg_tmod, Int.neg_neg]
    rw [this, Int.tmod_eq_emod_of_nonneg (by omega)]
    omega
theorem r6_b (k : Int) : 0 ≤ r6 k ∧ r6 k ≤ 5 := by unfold r6; omega
end Go.Proofs.Ytapnlofklgknmaa
