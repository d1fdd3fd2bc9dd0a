/- A list of acts as it came in, for the laws of package disk. -/
import Derived.Test.YtjlhnacdfpbchaaDkList
import Derived.Deep.Slices
import Derived.SizedLaws
import Derived.WideShapes
import Derived.ChangeShapes
namespace Go.Proofs.Ytjlhnacdfpbchaa
open Go.RowKit Go.ChangeShapes Go.WideShapes Go.Deep

abbrev wf64 (n : Int) : Prop := -9223372036854775808 ≤ n ∧ n ≤ 9223372036854775807
structure Ac where
  k : Int
  a : ByteArray
  b : ByteArray
  m : Int
  n : Int
abbrev acCells (x : Ac) : List Value := [.int .i64 x.k, .string x.a, .string x.b, .int .i64 x.m, .int .i64 x.n]
structure AcOk (x : Ac) : Prop where
  k : wf64 x.k
  a : x.a.size ≤ 140737488351232
  b : x.b.size ≤ 140737488351232
  m : wf64 x.m
  n : wf64 x.n
set_option maxRecDepth 100000 in
theorem act_of {H : Type} {enc : TypeId × Value → H} {w : World} {base n : Nat} {spare : Nat → Bool} {held : Bool} {cs : List Value} {d : DataW H} {p : List MemPlace}
    (h : DataW.trod enc Try.prog w base spare held n 34 cs = some (d, p)) (hw : ∀ m ∈ d.weights Try.prog 34, m ≤ reachBytes) :
    ∃ x : Ac, cs = acCells x ∧ AcOk x ∧ d = .agg [.lit (.int .i64 x.k), .lit (.string x.a.data.toList), .lit (.string x.b.data.toList), .lit (.int .i64 x.m), .lit (.int .i64 x.n)] := by
  obtain ⟨ys, m, _, hx, hlen, hyl, hf⟩ := DataW.trod_struct Try.underlying34 h
  have c3 : Try.prog.cellsOf 3 = 1 := by kernel_rfl
  have c9 : Try.prog.cellsOf 9 = 1 := by kernel_rfl
  have c29 : Try.prog.cellsOf 34 = 5 := by kernel_rfl
  rw [c29] at hlen
  simp only [Prod.mk.injEq] at hx
  match cs, hlen, ys, hyl with
  | [v0, v1, v2, v3, v4], _, [y0, y1, y2, y3, y4], _ =>
    have g0 : DataW.trod enc Try.prog w base spare held m 3 [v0] = some y0 := by have := hf 0 _ rfl; simpa [c3] using this
    have g1 : DataW.trod enc Try.prog w base spare held m 9 [v1] = some y1 := by have := hf 1 _ rfl; simpa [c9] using this
    have g2 : DataW.trod enc Try.prog w base spare held m 9 [v2] = some y2 := by have := hf 2 _ rfl; simpa [c9] using this
    have g3 : DataW.trod enc Try.prog w base spare held m 3 [v3] = some y3 := by have := hf 3 _ rfl; simpa [c3] using this
    have g4 : DataW.trod enc Try.prog w base spare held m 3 [v4] = some y4 := by have := hf 4 _ rfl; simpa [c3] using this
    obtain ⟨k, e0, f0, wk⟩ := DataW.trod_int Try.underlying3 g0
    obtain ⟨s, e1, f1, _⟩ := DataW.trod_string Try.underlying9 g1
    obtain ⟨t, e2, f2, _⟩ := DataW.trod_string Try.underlying9 g2
    obtain ⟨i, e3, f3, wi⟩ := DataW.trod_int Try.underlying3 g3
    obtain ⟨j, e4, f4, wj⟩ := DataW.trod_int Try.underlying3 g4
    simp only [List.cons.injEq, and_true] at e0 e1 e2 e3 e4
    subst e0 e1 e2 e3 e4
    have hs : s.size ≤ reachBytes := by
      refine hw s.size ?_
      rw [hx.1]
      simp only [DataW.weights, Try.underlying34, List.map_cons, List.map_nil, DataW.weightsEach, List.mem_append]
      rw [f1]
      exact .inr (.inl (by simp [DataW.weights]))
    have ht : t.size ≤ reachBytes := by
      refine hw t.size ?_
      rw [hx.1]
      simp only [DataW.weights, Try.underlying34, List.map_cons, List.map_nil, DataW.weightsEach, List.mem_append]
      rw [f2]
      exact .inr (.inr (.inl (by simp [DataW.weights])))
    exact ⟨⟨k, s, t, i, j⟩, rfl, ⟨i64_of_wf wk, by unfold reachBytes at hs; exact hs, by unfold reachBytes at ht; exact ht, i64_of_wf wi, i64_of_wf wj⟩, by rw [hx.1, f0, f1, f2, f3, f4]; rfl⟩
/-- the slice value holds the acts it 0, it 1, .., all of them below B -/
def Acts (w : World) (B : Nat) (A : Option Addr) (len : Nat) (it : Nat → Ac) : Prop :=
  ∀ i, i < len → AcOk (it i) ∧ ∃ b off, A = some ⟨b, off, none⟩ ∧ b < B ∧ ∀ j u, (acCells (it i))[j]? = some u → w.cell? ⟨b, off + i * 5 + j, none⟩ = some u
theorem weights_elem {H : Type} {P : Program} {e : TypeId} : ∀ {l : List (DataW H)} {d : DataW H}, d ∈ l → ∀ m ∈ d.weights P e, m ∈ DataW.weightsAll P e l
  | d0 :: r, d, hd, m, hm => by
    simp only [DataW.weightsAll, List.mem_append]
    rcases List.mem_cons.1 hd with rfl | hd
    · exact .inl hm
    · exact .inr (weights_elem hd m hm)
set_option maxRecDepth 100000 in
theorem open_acts {H : Type} {enc : TypeId × Value → H} {W : World} {base : Nat} {v : Value} {d : DataW H} {p : List MemPlace}
    (hv : Value.okWide Try.prog W .any base 23 v) (h : DataW.Trod enc Try.prog W 0 (fun _ => true) true 23 v d p) (hw : ∀ m ∈ d.weights Try.prog 23, m ≤ reachBytes) :
    ∃ (A : Option Addr) (len cap : Nat) (it : Nat → Ac), v = .slice A len cap ∧ len * 56 ≤ 140737488351232 ∧ Acts W W.heap.size A len it := by
  obtain ⟨A, len, cap, rfl⟩ := okWide_slice Try.underlying23 hv
  obtain ⟨fuel, hf⟩ := h
  rcases open_slice Try.underlying23 hf with ⟨hcs, _⟩ | ⟨a, len', cap', m, n, D, Pl, hcs, _, hl, hm, hmm, hx, hi⟩
  · simp only [Value.cells, List.cons.injEq, and_true] at hcs
    injection hcs with e1 e2 e3
    subst e1 e2 e3
    exact ⟨none, 0, 0, fun _ => ⟨0, ⟨#[]⟩, ⟨#[]⟩, 0, 0⟩, rfl, by omega, fun i hi => absurd hi (by omega)⟩
  · simp only [Value.cells, List.cons.injEq, and_true] at hcs
    injection hcs with e1 e2 e3
    subst e1 e2 e3
    simp only [if_true] at hmm
    simp only [Prod.mk.injEq] at hx
    have c29 : Try.prog.cellsOf 34 = 5 := by kernel_rfl
    have b29 : Try.prog.bytesOf 34 = 56 := by kernel_rfl
    rw [c29] at hi
    have hlen : len * 56 ≤ 140737488351232 := by
      have := hw ((((List.range len).map D).length + ((List.range (m - len)).map fun j => D (len + j)).length) * 56) (by
        rw [hx.1]
        simp [DataW.weights, Try.underlying23, b29])
      unfold reachBytes at this
      simp at this
      omega
    have hel : ∀ i, i < len → ∀ q ∈ (D i).weights Try.prog 34, q ≤ reachBytes := fun i hi q hq => by
      refine hw q ?_
      rw [hx.1]
      simp only [DataW.weights, Try.underlying23, List.mem_cons, List.mem_append]
      exact .inr (.inl (weights_elem (List.mem_map.2 ⟨i, List.mem_range.2 hi, rfl⟩) q hq))
    have all : ∀ i, ∃ x : Ac, i < len → AcOk x ∧ ∃ b off, some a = some (⟨b, off, none⟩ : Addr) ∧ b < W.heap.size ∧ ∀ j u, (acCells x)[j]? = some u → W.cell? ⟨b, off + i * 5 + j, none⟩ = some u := fun i => by
      by_cases hil : i < len
      · obtain ⟨cs', hc, ht⟩ := hi i (by omega)
        obtain ⟨x, rfl, b1, _⟩ := act_of ht (hel i hil)
        obtain ⟨_, _, hat⟩ := World.cells?_some hc
        have hat' : ∀ j u, (acCells x)[j]? = some u → W.cell? ((a.add (i * 5)).add j) = some u := fun j u hj => by
          have hj5 : j < 5 := by
            have := (List.getElem?_eq_some_iff.1 hj).1
            simpa using this
          rw [hat j hj5, hj]
        have h0 : a.spot = none := by
          obtain ⟨cs0, hc0, ht0⟩ := hi 0 (by omega)
          obtain ⟨x0, rfl, _, _⟩ := act_of ht0 (hel 0 (by omega))
          obtain ⟨_, _, hat0⟩ := World.cells?_some hc0
          have := World.cell?_spot (hat0 0 (by omega))
          simpa [Addr.add] using this
        obtain ⟨b, off, spot⟩ := a
        have hspot : spot = none := h0
        subst hspot
        refine ⟨x, fun _ => ⟨b1, b, off, rfl, ?_, fun j u hj => ?_⟩⟩
        · have hc0 := hat' 0 _ rfl
          rw [add_plain, add_plain] at hc0
          rcases Nat.lt_or_ge b W.heap.size with hlt | hge
          · exact hlt
          · simp [World.cell?, Array.getElem?_eq_none hge] at hc0
        · have := hat' j u hj
          rwa [add_plain, add_plain] at this
      · exact ⟨⟨0, ⟨#[]⟩, ⟨#[]⟩, 0, 0⟩, fun h => absurd h hil⟩
    exact ⟨some a, len, cap, fun i => Classical.choose (all i), rfl, hlen, fun i hi => Classical.choose_spec (all i) hi⟩
/-- the box that holds a copy of one act -/
structure AcB (w : World) (g : Nat) (x : Ac) : Prop where
  c0 : w.cell? ⟨g, 0, none⟩ = some (.int .i64 x.k)
  c1 : w.cell? ⟨g, 1, none⟩ = some (.string x.a)
  c2 : w.cell? ⟨g, 2, none⟩ = some (.string x.b)
  c3 : w.cell? ⟨g, 3, none⟩ = some (.int .i64 x.m)
  c4 : w.cell? ⟨g, 4, none⟩ = some (.int .i64 x.n)
theorem acb_new (w : World) (x : Ac) : AcB (w.alloc (.cells #[.int .i64 x.k, .string x.a, .string x.b, .int .i64 x.m, .int .i64 x.n] 34)) w.heap.size x := by
  refine ⟨?_, ?_, ?_, ?_, ?_⟩ <;> simp
theorem AcB.same {w w' : World} {g : Nat} {x : Ac} (h : AcB w g x) (e : w'.heap[g]? = w.heap[g]?) : AcB w' g x :=
  ⟨(cell_eq e 0).trans h.c0, (cell_eq e 1).trans h.c1, (cell_eq e 2).trans h.c2, (cell_eq e 3).trans h.c3, (cell_eq e 4).trans h.c4⟩
theorem AcB.lt {w : World} {g : Nat} {x : Ac} (h : AcB w g x) : g < w.heap.size := by
  rcases Nat.lt_or_ge g w.heap.size with k | k
  · exact k
  · have := h.c0
    simp [World.cell?, Array.getElem?_eq_none k] at this
/-- a number's remainder by seven, as the laws take it -/
def r7 (k : Int) : Int := k % 7
theorem r7_is (k : Int) (hk : wf64 k) : (wrap64 (k.tmod 7 + 7)).tmod 7 = r7 k := by
  obtain ⟨h1, h2⟩ := hk
  unfold r7
  rw [IntWalk.wrap64_in _ ⟨by have := Int.tmod_lt_of_pos k (by decide : (0:Int) < 7); have := Int.lt_tmod_of_pos k (by decide : (0:Int) < 7); omega, by have := Int.tmod_lt_of_pos k (by decide : (0:Int) < 7); omega⟩]
  rcases Int.le_total 0 k with h | h
  · rw [Int.tmod_eq_emod_of_nonneg h, Int.tmod_eq_emod_of_nonneg (by omega)]; omega
  · have : k.tmod 7 = -((-k) % 7) := by
      rw [← Int.tmod_eq_emod_of_nonneg (by omega : 0 ≤ -k), Int.neg_tmod, Int.neg_neg]
    rw [this, Int.tmod_eq_emod_of_nonneg (by omega)]
    omega
theorem r7_cases (k : Int) : r7 k = 0 ∨ r7 k = 1 ∨ r7 k = 2 ∨ r7 k = 3 ∨ r7 k = 4 ∨ r7 k = 5 ∨ r7 k = 6 := by unfold r7; omega
set_option maxRecDepth 100000 in
theorem what_any (k : Int) (hk : wf64 k) (w : World) : Calls Try.prog 13 #[.int .i64 k] w fun e w' => e = .returned (.int .i64 (r7 k)) ∧ w = w' := by
  have hr := r7_is k hk
  clear hk
  go_enter Try.func13, Try.ntmps13
  go_wp2
  go_ret
  exact ⟨rfl, rfl⟩
end Go.Proofs.Ytjlhnacdfpbchaa
