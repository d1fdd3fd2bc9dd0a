/- A list of acts as it came in, for the laws of package leases. -/
import Derived.Test.YtabnhiehmheocaaLeaRefB
import Derived.Test.YtabnhiehmheocaaLeaSpk
import Derived.Deep.Slices
import Derived.SizedLaws
import Derived.WideShapes
import Derived.ChangeShapes
namespace Go.Proofs.Ytabnhiehmheocaa
open Go.RowKit Go.ChangeShapes Go.WideShapes Go.Deep

abbrev wf64 (n : Int) : Prop := -9223372036854775808 ≤ n ∧ n ≤ 9223372036854775807
structure Ac where
  k : Int
  a : Int
  b : Int
  s : ByteArray
abbrev acCells (x : Ac) : List Value := [.int .i64 x.k, .int .i64 x.a, .int .i64 x.b, .string x.s]
structure AcOk (x : Ac) : Prop where
  k : wf64 x.k
  a : wf64 x.a
  b : wf64 x.b
  s : x.s.size ≤ 140737488351232
theorem act_of {H : Type} {enc : TypeId × Value → H} {w : World} {base n : Nat} {spare : Nat → Bool} {held : Bool} {cs : List Value} {d : DataW H} {p : List MemPlace}
    (h : DataW.trod enc Try.prog w base spare held n 31 cs = some (d, p)) (hw : ∀ m ∈ d.weights Try.prog 31, m ≤ reachBytes) :
    ∃ x : Ac, cs = acCells x ∧ AcOk x := by
  obtain ⟨ys, m, _, hx, hlen, hyl, hf⟩ := DataW.trod_struct Try.underlying31 h
  have c3 : Try.prog.cellsOf 3 = 1 := by kernel_rfl
  have c9 : Try.prog.cellsOf 9 = 1 := by kernel_rfl
  have c29 : Try.prog.cellsOf 31 = 4 := by kernel_rfl
  rw [c29] at hlen
  simp only [Prod.mk.injEq] at hx
  match cs, hlen, ys, hyl with
  | [v0, v1, v2, v3], _, [y0, y1, y2, y3], _ =>
    have g0 : DataW.trod enc Try.prog w base spare held m 3 [v0] = some y0 := by have := hf 0 _ rfl; simpa [c3] using this
    have g1 : DataW.trod enc Try.prog w base spare held m 3 [v1] = some y1 := by have := hf 1 _ rfl; simpa [c3] using this
    have g2 : DataW.trod enc Try.prog w base spare held m 3 [v2] = some y2 := by have := hf 2 _ rfl; simpa [c3] using this
    have g3 : DataW.trod enc Try.prog w base spare held m 9 [v3] = some y3 := by have := hf 3 _ rfl; simpa [c9] using this
    obtain ⟨k, e0, f0, wk⟩ := DataW.trod_int Try.underlying3 g0
    obtain ⟨i, e1, f1, wi⟩ := DataW.trod_int Try.underlying3 g1
    obtain ⟨j, e2, f2, wj⟩ := DataW.trod_int Try.underlying3 g2
    obtain ⟨s, e3, f3, _⟩ := DataW.trod_string Try.underlying9 g3
    simp only [List.cons.injEq, and_true] at e0 e1 e2 e3
    subst e0 e1 e2 e3
    have hs : s.size ≤ reachBytes := by
      refine hw s.size ?_
      rw [hx.1]
      simp only [DataW.weights, Try.underlying31, List.map_cons, List.map_nil, DataW.weightsEach, List.mem_append]
      rw [f3]
      exact .inr (.inr (.inr (.inl (by simp [DataW.weights]))))
    exact ⟨⟨k, i, j, s⟩, rfl, i64_of_wf wk, i64_of_wf wi, i64_of_wf wj, by unfold reachBytes at hs; exact hs⟩
/-- the slice value holds the acts it 0, it 1, .., all of them below B -/
def Acts (w : World) (B : Nat) (A : Option Addr) (len : Nat) (it : Nat → Ac) : Prop :=
  ∀ i, i < len → AcOk (it i) ∧ ∃ b off, A = some ⟨b, off, none⟩ ∧ b < B ∧ ∀ j u, (acCells (it i))[j]? = some u → w.cell? ⟨b, off + i * 4 + j, none⟩ = some u
theorem weights_elem {H : Type} {P : Program} {e : TypeId} : ∀ {l : List (DataW H)} {d : DataW H}, d ∈ l → ∀ m ∈ d.weights P e, m ∈ DataW.weightsAll P e l
  | d0 :: r, d, hd, m, hm => by
    simp only [DataW.weightsAll, List.mem_append]
    rcases List.mem_cons.1 hd with rfl | hd
    · exact .inl hm
    · exact .inr (weights_elem hd m hm)
theorem open_acts {H : Type} {enc : TypeId × Value → H} {W : World} {base : Nat} {v : Value} {d : DataW H} {p : List MemPlace}
    (hv : Value.okWide Try.prog W .any base 22 v) (h : DataW.Trod enc Try.prog W 0 (fun _ => true) true 22 v d p) (hw : ∀ m ∈ d.weights Try.prog 22, m ≤ reachBytes) :
    ∃ (A : Option Addr) (len cap : Nat) (it : Nat → Ac), v = .slice A len cap ∧ len * 40 ≤ 140737488351232 ∧ Acts W W.heap.size A len it := by
  obtain ⟨A, len, cap, rfl⟩ := okWide_slice Try.underlying22 hv
  obtain ⟨fuel, hf⟩ := h
  rcases open_slice Try.underlying22 hf with ⟨hcs, _⟩ | ⟨a, len', cap', m, n, D, Pl, hcs, _, hl, hm, hmm, hx, hi⟩
  · simp only [Value.cells, List.cons.injEq, and_true] at hcs
    injection hcs with e1 e2 e3
    subst e1 e2 e3
    exact ⟨none, 0, 0, fun _ => ⟨0, 0, 0, ⟨#[]⟩⟩, rfl, by omega, fun i hi => absurd hi (by omega)⟩
  · simp only [Value.cells, List.cons.injEq, and_true] at hcs
    injection hcs with e1 e2 e3
    subst e1 e2 e3
    simp only [if_true] at hmm
    simp only [Prod.mk.injEq] at hx
    have c29 : Try.prog.cellsOf 31 = 4 := by kernel_rfl
    have b29 : Try.prog.bytesOf 31 = 40 := by kernel_rfl
    rw [c29] at hi
    have hlen : len * 40 ≤ 140737488351232 := by
      have := hw ((((List.range len).map D).length + ((List.range (m - len)).map fun j => D (len + j)).length) * 40) (by
        rw [hx.1]
        simp [DataW.weights, Try.underlying22, b29])
      unfold reachBytes at this
      simp at this
      omega
    have hel : ∀ i, i < len → ∀ q ∈ (D i).weights Try.prog 31, q ≤ reachBytes := fun i hi q hq => by
      refine hw q ?_
      rw [hx.1]
      simp only [DataW.weights, Try.underlying22, List.mem_cons, List.mem_append]
      exact .inr (.inl (weights_elem (List.mem_map.2 ⟨i, List.mem_range.2 hi, rfl⟩) q hq))
    have all : ∀ i, ∃ x : Ac, i < len → AcOk x ∧ ∃ b off, some a = some (⟨b, off, none⟩ : Addr) ∧ b < W.heap.size ∧ ∀ j u, (acCells x)[j]? = some u → W.cell? ⟨b, off + i * 4 + j, none⟩ = some u := fun i => by
      by_cases hil : i < len
      · obtain ⟨cs', hc, ht⟩ := hi i (by omega)
        obtain ⟨x, rfl, b1⟩ := act_of ht (hel i hil)
        obtain ⟨_, _, hat⟩ := World.cells?_some hc
        have hat' : ∀ j u, (acCells x)[j]? = some u → W.cell? ((a.add (i * 4)).add j) = some u := fun j u hj => by
          have hj5 : j < 4 := by
            have := (List.getElem?_eq_some_iff.1 hj).1
            simpa using this
          rw [hat j hj5, hj]
        have h0 : a.spot = none := by
          obtain ⟨cs0, hc0, ht0⟩ := hi 0 (by omega)
          obtain ⟨x0, rfl, _⟩ := act_of ht0 (hel 0 (by omega))
          obtain ⟨_, _, hat0⟩ := World.cells?_some hc0
          have := World.cell?_spot (hat0 0 (by omega))
          simpa [Addr.add] using this
        obtain ⟨b, off, spot⟩ := a
        have hspot : spot = none := h0
        subst hspot
        refine ⟨x, fun _ => ⟨b1, b, off, rfl, ?_, fun j u hj => ?_⟩⟩
        · have hc0 := hat' 0 _ rfl
          rw [add_plain, add_plain] at hc0
          rcases Nat.lt_or_ge b W.heap.size with hlt | hge
          · exact hlt
          · simp [World.cell?, Array.getElem?_eq_none hge] at hc0
        · have := hat' j u hj
          rwa [add_plain, add_plain] at this
      · exact ⟨⟨0, 0, 0, ⟨#[]⟩⟩, fun h => absurd h hil⟩
    exact ⟨some a, len, cap, fun i => Classical.choose (all i), rfl, hlen, fun i hi => Classical.choose_spec (all i) hi⟩
/-- the box that holds a copy of one act -/
structure AcB (w : World) (g : Nat) (x : Ac) : Prop where
  ty : Bears w g 31
  c0 : w.cell? ⟨g, 0, none⟩ = some (.int .i64 x.k)
  c1 : w.cell? ⟨g, 1, none⟩ = some (.int .i64 x.a)
  c2 : w.cell? ⟨g, 2, none⟩ = some (.int .i64 x.b)
  c3 : w.cell? ⟨g, 3, none⟩ = some (.string x.s)
theorem acb_new (w : World) (x : Ac) : AcB (w.alloc (.cells #[.int .i64 x.k, .int .i64 x.a, .int .i64 x.b, .string x.s] 31)) w.heap.size x := by
  refine ⟨⟨_, heap_alloc_new w _⟩, ?_, ?_, ?_, ?_⟩ <;> simp
theorem AcB.same {w w' : World} {g : Nat} {x : Ac} (h : AcB w g x) (e : w'.heap[g]? = w.heap[g]?) : AcB w' g x :=
  ⟨by obtain ⟨cs, k⟩ := h.ty; exact ⟨cs, e.trans k⟩, (cell_eq e 0).trans h.c0, (cell_eq e 1).trans h.c1, (cell_eq e 2).trans h.c2, (cell_eq e 3).trans h.c3⟩
/-- a number's remainder by four, as the law takes it -/
def r4 (k : Int) : Int := k % 4
theorem r4_is (k : Int) (hk : wf64 k) : (wrap64 (k.tmod 4 + 4)).tmod 4 = r4 k := by
  obtain ⟨h1, h2⟩ := hk
  unfold r4
  rw [IntWalk.wrap64_in _ ⟨by have := Int.tmod_lt_of_pos k (by decide : (0:Int) < 4); have := Int.lt_tmod_of_pos k (by decide : (0:Int) < 4); omega, by have := Int.tmod_lt_of_pos k (by decide : (0:Int) < 4); omega⟩]
  rcases Int.le_total 0 k with h | h
  · rw [Int.tmod_eq_emod_of_nonneg h, Int.tmod_eq_emod_of_nonneg (by omega)]; omega
  · have : k.tmod 4 = -((-k) % 4) := by
      rw [← Int.tmod_eq_emod_of_nonneg (by omega : 0 ≤ -k), Int.neg_tmod, Int.neg_neg]
    rw [this, Int.tmod_eq_emod_of_nonneg (by omega)]
    omega
theorem r4_cases (k : Int) : r4 k = 0 ∨ r4 k = 1 ∨ r4 k = 2 ∨ r4 k = 3 := by unfold r4; omega
end Go.Proofs.Ytabnhiehmheocaa
