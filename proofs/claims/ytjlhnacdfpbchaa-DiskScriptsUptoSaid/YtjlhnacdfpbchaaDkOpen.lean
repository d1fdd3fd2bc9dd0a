/- The arguments of DiskScripts, as they come in, and their bulk. -/
import Derived.Test.YtjlhnacdfpbchaaDkPair
namespace Go.Proofs.Ytjlhnacdfpbchaa
open Go.RowKit Go.ChangeShapes Go.WideShapes Go.Deep

theorem bulk_app {H : Type} : ∀ (l r : List (DataW H)), Rows.uptoBulkAll (l ++ r) = Rows.uptoBulkAll l + Rows.uptoBulkAll r
  | [], r => by simp [Rows.uptoBulkAll]
  | d :: l, r => by simp only [List.cons_append, Rows.uptoBulkAll, bulk_app l r]; omega
theorem bulk_mem {H : Type} : ∀ {l : List (DataW H)} {d : DataW H}, d ∈ l → Rows.uptoBulk d ≤ Rows.uptoBulkAll l
  | x :: l, d, h => by
    simp only [Rows.uptoBulkAll]
    rcases List.mem_cons.1 h with rfl | h
    · omega
    · have := bulk_mem h; omega
/-- the letters of the second texts of the first acts -/
def sumB (it : Nat → Ac) : Nat → Nat
  | 0 => 0
  | i + 1 => sumB it i + (it i).b.size
theorem sumB_mono (it : Nat → Ac) {i j : Nat} (h : i ≤ j) : sumB it i ≤ sumB it j := by
  induction j with
  | zero => rw [Nat.le_zero.1 h]; exact Nat.le_refl _
  | succ j ih =>
    rcases Nat.lt_or_ge i (j + 1) with k | k
    · have := ih (by omega)
      simp only [sumB]; omega
    · rw [show i = j + 1 by omega]; exact Nat.le_refl _
theorem bulk_act {H : Type} (x : Ac) : x.a.size + x.b.size + 1 ≤ Rows.uptoBulk (H := H) (.agg [.lit (.int .i64 x.k), .lit (.string x.a.data.toList), .lit (.string x.b.data.toList), .lit (.int .i64 x.m), .lit (.int .i64 x.n)]) := by
  have e1 : x.a.data.toList.length = x.a.size := by simp
  have e2 : x.b.data.toList.length = x.b.size := by simp
  simp only [Rows.uptoBulk, Rows.uptoBulkAll]
  omega
theorem bulk_sum {H : Type} {D : Nat → DataW H} {it : Nat → Ac} : ∀ (len : Nat), (∀ i, i < len → (it i).a.size + (it i).b.size + 1 ≤ Rows.uptoBulk (D i)) → sumB it len + len ≤ Rows.uptoBulkAll ((List.range len).map D)
  | 0, _ => Nat.zero_le _
  | len + 1, h => by
    have h1 := bulk_sum len (fun i hi => h i (by omega))
    have h2 := h len (by omega)
    rw [List.range_succ, List.map_append, bulk_app]
    simp only [List.map_cons, List.map_nil, Rows.uptoBulkAll, sumB]
    omega
set_option maxRecDepth 100000 in
theorem open_acts2 {H : Type} {enc : TypeId × Value → H} {W : World} {base : Nat} {v : Value} {d : DataW H} {p : List MemPlace}
    (hv : Value.okWide Try.prog W .any base 23 v) (h : DataW.Trod enc Try.prog W 0 (fun _ => true) true 23 v d p) (hw : ∀ m ∈ d.weights Try.prog 23, m ≤ reachBytes) :
    ∃ (A : Option Addr) (len cap : Nat) (it : Nat → Ac), v = .slice A len cap ∧ Acts W W.heap.size A len it ∧ sumB it len + len ≤ Rows.uptoBulk d ∧ ∀ i, i < len → (it i).a.size ≤ Rows.uptoBulk d := by
  obtain ⟨A, len, cap, rfl⟩ := okWide_slice Try.underlying23 hv
  obtain ⟨fuel, hf⟩ := h
  rcases open_slice Try.underlying23 hf with ⟨hcs, _⟩ | ⟨a, len', cap', m, n, D, Pl, hcs, _, hl, hm, hmm, hx, hi⟩
  · simp only [Value.cells, List.cons.injEq, and_true] at hcs
    injection hcs with e1 e2 e3
    subst e1 e2 e3
    exact ⟨none, 0, 0, fun _ => ⟨0, ⟨#[]⟩, ⟨#[]⟩, 0, 0⟩, rfl, fun i hi => absurd hi (by omega), by simp [sumB], fun i hi => absurd hi (by omega)⟩
  · simp only [Value.cells, List.cons.injEq, and_true] at hcs
    injection hcs with e1 e2 e3
    subst e1 e2 e3
    simp only [if_true] at hmm
    simp only [Prod.mk.injEq] at hx
    have c29 : Try.prog.cellsOf 34 = 5 := by kernel_rfl
    rw [c29] at hi
    have hel : ∀ i, i < len → ∀ q ∈ (D i).weights Try.prog 34, q ≤ reachBytes := fun i hi q hq => by
      refine hw q ?_
      rw [hx.1]
      simp only [DataW.weights, Try.underlying23, List.mem_cons, List.mem_append]
      exact .inr (.inl (weights_elem (List.mem_map.2 ⟨i, List.mem_range.2 hi, rfl⟩) q hq))
    have all : ∀ i, ∃ x : Ac, i < len → (AcOk x ∧ ∃ b off, some a = some (⟨b, off, none⟩ : Addr) ∧ b < W.heap.size ∧ ∀ j u, (acCells x)[j]? = some u → W.cell? ⟨b, off + i * 5 + j, none⟩ = some u) ∧ x.a.size + x.b.size + 1 ≤ Rows.uptoBulk (D i) := fun i => by
      by_cases hil : i < len
      · obtain ⟨cs', hc, ht⟩ := hi i (by omega)
        obtain ⟨x, rfl, b1, hD⟩ := act_of ht (hel i hil)
        obtain ⟨_, _, hat⟩ := World.cells?_some hc
        have hat' : ∀ j u, (acCells x)[j]? = some u → W.cell? ((a.add (i * 5)).add j) = some u := fun j u hj => by
          have hj5 : j < 5 := by
            have := (List.getElem?_eq_some_iff.1 hj).1
            simpa using this
          rw [hat j hj5, hj]
        have h0 : a.spot = none := by
          obtain ⟨cs0, hc0, ht0⟩ := hi 0 (by omega)
          obtain ⟨x0, rfl, _, _⟩ := act_of ht0 (hel 0 (by omega))
          obtain ⟨_, _, hat0⟩ := World.cells?_some hc0
          have := World.cell?_spot (hat0 0 (by omega))
          simpa [Addr.add] using this
        obtain ⟨b, off, spot⟩ := a
        have hspot : spot = none := h0
        subst hspot
        refine ⟨x, fun _ => ⟨⟨b1, b, off, rfl, ?_, fun j u hj => ?_⟩, ?_⟩⟩
        · have hc0 := hat' 0 _ rfl
          rw [add_plain, add_plain] at hc0
          rcases Nat.lt_or_ge b W.heap.size with hlt | hge
          · exact hlt
          · simp [World.cell?, Array.getElem?_eq_none hge] at hc0
        · have := hat' j u hj
          rwa [add_plain, add_plain] at this
        · rw [hD]; exact bulk_act x
      · exact ⟨⟨0, ⟨#[]⟩, ⟨#[]⟩, 0, 0⟩, fun h => absurd h hil⟩
    have hbk : Rows.uptoBulkAll ((List.range len).map D) ≤ Rows.uptoBulk d := by
      rw [hx.1]
      simp only [Rows.uptoBulk]
      omega
    refine ⟨some a, len, cap, fun i => Classical.choose (all i), rfl, fun i hi => (Classical.choose_spec (all i) hi).1, ?_, fun i hi => ?_⟩
    · exact Nat.le_trans (bulk_sum len (fun i hi => (Classical.choose_spec (all i) hi).2)) hbk
    · have h1 := (Classical.choose_spec (all i) hi).2
      have h2 := bulk_mem (l := (List.range len).map D) (List.mem_map.2 ⟨i, List.mem_range.2 hi, rfl⟩)
      show (Classical.choose (all i)).a.size ≤ _
      omega
/-- the slice holds the booleans b 0, b 1, .. -/
def Bools (w : World) (B : Nat) (A : Option Addr) (len : Nat) (b : Nat → Bool) : Prop :=
  ∀ i, i < len → ∃ g off, A = some ⟨g, off, none⟩ ∧ g < B ∧ w.cell? ⟨g, off + i, none⟩ = some (.bool (b i))
set_option maxRecDepth 100000 in
theorem open_bools {H : Type} {enc : TypeId × Value → H} {W : World} {base : Nat} {v : Value} {d : DataW H} {p : List MemPlace}
    (hv : Value.okWide Try.prog W .any base 24 v) (h : DataW.Trod enc Try.prog W 0 (fun _ => true) true 24 v d p) (hw : ∀ m ∈ d.weights Try.prog 24, m ≤ reachBytes) :
    ∃ (A : Option Addr) (len cap : Nat) (b : Nat → Bool), v = .slice A len cap ∧ len ≤ 140737488351232 ∧ Bools W W.heap.size A len b := by
  obtain ⟨A, len, cap, rfl⟩ := okWide_slice Try.underlying24 hv
  obtain ⟨fuel, hf⟩ := h
  rcases open_slice Try.underlying24 hf with ⟨hcs, _⟩ | ⟨a, len', cap', m, n, D, Pl, hcs, _, hl, hm, hmm, hx, hi⟩
  · simp only [Value.cells, List.cons.injEq, and_true] at hcs
    injection hcs with e1 e2 e3
    subst e1 e2 e3
    exact ⟨none, 0, 0, fun _ => false, rfl, by omega, fun i hi => absurd hi (by omega)⟩
  · simp only [Value.cells, List.cons.injEq, and_true] at hcs
    injection hcs with e1 e2 e3
    subst e1 e2 e3
    simp only [if_true] at hmm
    simp only [Prod.mk.injEq] at hx
    have c4 : Try.prog.cellsOf 4 = 1 := by kernel_rfl
    have b4 : Try.prog.bytesOf 4 = 1 := by kernel_rfl
    rw [c4] at hi
    have hlen : len ≤ 140737488351232 := by
      have := hw ((((List.range len).map D).length + ((List.range (m - len)).map fun j => D (len + j)).length) * 1) (by
        rw [hx.1]
        simp [DataW.weights, Try.underlying24, b4])
      unfold reachBytes at this
      simp at this
      omega
    have all : ∀ i, ∃ x : Bool, i < len → ∃ b off, some a = some (⟨b, off, none⟩ : Addr) ∧ b < W.heap.size ∧ W.cell? ⟨b, off + i, none⟩ = some (.bool x) := fun i => by
      by_cases hil : i < len
      · obtain ⟨cs', hc, ht⟩ := hi i (by omega)
        obtain ⟨hcl, _, hat⟩ := World.cells?_some hc
        obtain ⟨v0, rfl⟩ : ∃ v0, cs' = [v0] := by
          match cs', hcl with
          | [v0], _ => exact ⟨v0, rfl⟩
        obtain ⟨x, e0, _⟩ := DataW.trod_bool Try.underlying4 ht
        simp only [List.cons.injEq, and_true] at e0
        subst e0
        have h1 := hat 0 (by omega)
        simp only [List.getElem?_cons_zero] at h1
        have h0 : a.spot = none := by
          obtain ⟨cs0, hc0, _⟩ := hi 0 (by omega)
          obtain ⟨hcl0, _, hat0⟩ := World.cells?_some hc0
          have h2 := hat0 0 (by omega)
          match cs0, hcl0 with
          | [v1], _ =>
            simp only [List.getElem?_cons_zero] at h2
            have := World.cell?_spot h2
            simpa [Addr.add] using this
        obtain ⟨b, off, spot⟩ := a
        have hspot : spot = none := h0
        subst hspot
        rw [add_plain, add_plain] at h1
        refine ⟨x, fun _ => ⟨b, off, rfl, ?_, by simpa using h1⟩⟩
        rcases Nat.lt_or_ge b W.heap.size with hlt | hge
        · exact hlt
        · simp [World.cell?, Array.getElem?_eq_none hge] at h1
      · exact ⟨false, fun h => absurd h hil⟩
    exact ⟨some a, len, cap, fun i => Classical.choose (all i), rfl, hlen, fun i hi => Classical.choose_spec (all i) hi⟩
set_option maxRecDepth 100000 in
theorem open_caps {H : Type} {enc : TypeId × Value → H} {W : World} {base : Nat} {v : Value} {d : DataW H} {p : List MemPlace}
    (hv : Value.okWide Try.prog W .any base 22 v) (h : DataW.Trod enc Try.prog W 0 (fun _ => true) true 22 v d p) :
    ∃ c0 c1 : Int, v = .agg #[.int .i64 c0, .int .i64 c1] ∧ wf64 c0 ∧ wf64 c1 := by
  have hu : Try.prog.underlying 22 = some (.array 2 3) := Try.underlying22
  simp only [Value.okWide, hu] at hv
  obtain ⟨cs, rfl, hsz, _⟩ := hv
  obtain ⟨fuel, hf⟩ := h
  obtain ⟨ys, m, _, _, hlen, hyl, hg⟩ := DataW.trod_array hu hf
  have c3 : Try.prog.cellsOf 3 = 1 := by kernel_rfl
  have c32 : Try.prog.cellsOf 22 = 2 := by kernel_rfl
  rw [c32] at hlen hsz
  have hlen' : cs.toList.length = 2 := by simpa [Value.cells] using hlen
  obtain ⟨v0, v1, hcs⟩ : ∃ v0 v1, cs = #[v0, v1] := by
    match hc : cs.toList, hlen' with
    | [v0, v1], _ => exact ⟨v0, v1, by apply Array.ext'; exact hc⟩
  subst hcs
  match ys, hyl with
  | [y0, y1], _ =>
    have g0 : DataW.trod enc Try.prog W 0 (fun _ => true) true m 3 [v0] = some y0 := by have := hg 0 (by omega); simpa [c3, Value.cells] using this
    have g1 : DataW.trod enc Try.prog W 0 (fun _ => true) true m 3 [v1] = some y1 := by have := hg 1 (by omega); simpa [c3, Value.cells] using this
    obtain ⟨k, e0, _, wk⟩ := DataW.trod_int Try.underlying3 g0
    obtain ⟨i, e1, _, wi⟩ := DataW.trod_int Try.underlying3 g1
    simp only [List.cons.injEq, and_true] at e0 e1
    subst e0 e1
    exact ⟨k, i, rfl, i64_of_wf wk, i64_of_wf wi⟩
end Go.Proofs.Ytjlhnacdfpbchaa
