/- A letter as it came in: its numbers, its lists. -/
import Derived.Test.YtndcmjgjecdgcaaDoorRecEnc
import Derived.Test.YtndcmjgjecdgcaaDoorLawEnd
import Derived.SliceStrings
import Derived.ChangeShapes
import Derived.ChangeSlices
import Derived.SizedLaws
import Derived.Deep.Slices
namespace Go.Proofs.YtndcmjgjecdgcaaDoor
open Go.RowKit Go.ChangeShapes Go.WideShapes Go.Deep
def i64 (n : Int) : Prop := -9223372036854775808 ≤ n ∧ n ≤ 9223372036854775807
def totB (ts : List ByteArray) : Nat := (ts.map fun s => s.size).sum
section
variable {H : Type} {enc : TypeId × Value → H} {P : Program} {W : World} {base : Nat} {held : Bool}
theorem ints_part {t e : TypeId} {k : IntKind} {fuel : Nat} {cs : List Value} {x : DataW H × List MemPlace} (ht : P.underlying t = some (.slice e)) (he : P.underlying e = some (.int k)) (hc : P.cellsOf e = 1)
    (h : DataW.trod enc P W base (fun _ => true) held fuel t cs = some x) :
    ∃ (A : Option Addr) (cn : Nat) (ns : List Int), cs = [.slice A ns.length cn] ∧ SlOf W W.heap.size A ns.length (fun i => .int k (ns.getD i 0)) ∧ (∀ n ∈ ns, (Lit.int k n).wf = true) ∧
      ((x.1 = .nil ∧ ns = []) ∨ ∃ rest, x.1 = .slice (lits k ns) (lits k rest)) := by
  rcases open_ints ht he hc h with ⟨rfl, rfl⟩ | ⟨a, len, cap, zs, rfl, _, hl, hm, hz, rfl, hcell, hwz⟩
  · exact ⟨none, 0, [], rfl, fun i hi => absurd hi (by simp), by simp, .inl ⟨rfl, rfl⟩⟩
  · simp only [if_true] at hz
    have hlen : (zs.take len).length = len := by simp; omega
    refine ⟨some a, cap, zs.take len, by rw [hlen], ?_, fun n hn => hwz n (List.mem_of_mem_take hn), .inr ⟨zs.drop len, rfl⟩⟩
    rw [hlen]
    refine sl_of_cells fun i hi => ?_
    rw [hcell i (by omega)]
    simp [List.getD, List.getElem?_take, hi]
theorem texts_part {t e : TypeId} {fuel : Nat} {cs : List Value} {x : DataW H × List MemPlace} (ht : P.underlying t = some (.slice e)) (he : P.underlying e = some .string) (hc : P.cellsOf e = 1)
    (h : DataW.trod enc P W base (fun _ => true) held fuel t cs = some x) :
    ∃ (A : Option Addr) (cn : Nat) (ts : List ByteArray), cs = [.slice A ts.length cn] ∧ SlOf W W.heap.size A ts.length (fun i => .string (ts.getD i ⟨#[]⟩)) ∧
      ((x.1 = .nil ∧ ts = []) ∨ ∃ rest, x.1 = .slice (strs ts) (strs rest)) := by
  rcases open_strings ht he hc h with ⟨rfl, rfl⟩ | ⟨a, len, cap, zs, rfl, _, hl, hm, hz, rfl, hcell, hwz⟩
  · exact ⟨none, 0, [], rfl, fun i hi => absurd hi (by simp), .inl ⟨rfl, rfl⟩⟩
  · simp only [if_true] at hz
    have hlen : (zs.take len).length = len := by simp; omega
    refine ⟨some a, cap, zs.take len, by rw [hlen], ?_, .inr ⟨zs.drop len, rfl⟩⟩
    rw [hlen]
    refine sl_of_cells fun i hi => ?_
    rw [hcell i (by omega)]
    simp [List.getD, List.getElem?_take, hi]
    rfl
theorem bulk_lits (k : IntKind) (ns : List Int) : Rows.uptoBulkAll (lits k ns : List (DataW H)) = ns.length := by
  induction ns with
  | nil => rfl
  | cons s ss ih =>
    show Rows.uptoBulkAll (DataW.lit (Lit.int k s) :: lits k ss) = _
    simp only [Rows.uptoBulkAll, Rows.uptoBulk, List.length_cons, ih]
    omega
theorem bulk_texts (ss : List ByteArray) : Rows.uptoBulkAll (strs ss : List (DataW H)) = ss.length + totB ss := by
  induction ss with
  | nil => rfl
  | cons s ss ih =>
    show Rows.uptoBulkAll (DataW.lit (Lit.string s.data.toList) :: strs ss) = _
    have : s.data.toList.length = s.size := rfl
    simp only [Rows.uptoBulkAll, Rows.uptoBulk, List.length_cons, ih, totB, List.map_cons, List.sum_cons, this]
    omega
theorem weights_texts (t : TypeId) (ss : List ByteArray) : ∀ s ∈ ss, s.size ∈ DataW.weightsAll P t (strs ss : List (DataW H)) := by
  induction ss with
  | nil => simp
  | cons a ss ih =>
    intro s hs
    show s.size ∈ DataW.weightsAll P t (DataW.lit (Lit.string a.data.toList) :: strs ss)
    simp only [DataW.weightsAll, DataW.weights, List.mem_append]
    rcases List.mem_cons.1 hs with rfl | hs
    · exact .inl (List.mem_singleton.2 rfl)
    · exact .inr (ih s hs)
theorem lits_len (k : IntKind) (ns : List Int) : (lits k ns : List (DataW H)).length = ns.length := by simp [lits]
theorem strs_len (ss : List ByteArray) : (strs ss : List (DataW H)).length = ss.length := by simp [strs]
end
set_option maxRecDepth 100000 in
theorem letter_of {H : Type} {enc : TypeId × Value → H} {w : World} {base n : Nat} {held : Bool} {cs : List Value} {d : DataW H} {p : List MemPlace}
    (h : DataW.trod enc Tryd.prog w base (fun _ => true) held n 25 cs = some (d, p)) (hw : ∀ m ∈ d.weights Tryd.prog 25, m ≤ reachBytes) :
    ∃ (k c i : Int) (A : Option Addr) (cn : Nat) (C : Option Addr) (ct : Nat) (ns : List Int) (ts : List ByteArray), cs = [.int .i64 k, .int .i64 c, .int .i64 i, .slice A ns.length cn, .slice C ts.length ct] ∧ i64 k ∧ i64 c ∧ i64 i ∧
      MsgAt w w.heap.size A C ns ts ∧ ns.length + ts.length + totB ts ≤ Rows.uptoBulk d := by
  obtain ⟨ys, m, _, hx, hlen, hyl, hf⟩ := DataW.trod_struct Tryd.underlying25 h
  have c3 : Tryd.prog.cellsOf 3 = 1 := by kernel_rfl
  have cN : Tryd.prog.cellsOf 22 = 1 := by kernel_rfl
  have cT : Tryd.prog.cellsOf 23 = 1 := by kernel_rfl
  have cs9 : Tryd.prog.cellsOf 9 = 1 := by kernel_rfl
  have b8 : Tryd.prog.bytesOf 3 = 8 := by kernel_rfl
  have b16 : Tryd.prog.bytesOf 9 = 16 := by kernel_rfl
  have c29 : Tryd.prog.cellsOf 25 = 5 := by kernel_rfl
  rw [c29] at hlen
  simp only [Prod.mk.injEq] at hx
  obtain ⟨rfl, _⟩ := hx
  match cs, hlen, ys, hyl, hw, hf with
  | [v0, v1, v2, v3, v4], _, [y0, y1, y2, y3, y4], _, hw, hf =>
    have g0 : DataW.trod enc Tryd.prog w base (fun _ => true) held m 3 [v0] = some y0 := by have := hf 0 _ rfl; simpa [c3] using this
    have g1 : DataW.trod enc Tryd.prog w base (fun _ => true) held m 3 [v1] = some y1 := by have := hf 1 _ rfl; simpa [c3] using this
    have g2 : DataW.trod enc Tryd.prog w base (fun _ => true) held m 3 [v2] = some y2 := by have := hf 2 _ rfl; simpa [c3] using this
    have g3 : DataW.trod enc Tryd.prog w base (fun _ => true) held m 22 [v3] = some y3 := by have := hf 3 _ rfl; simpa [cN] using this
    have g4 : DataW.trod enc Tryd.prog w base (fun _ => true) held m 23 [v4] = some y4 := by have := hf 4 _ rfl; simpa [cT] using this
    obtain ⟨k, e0, rfl, wk⟩ := DataW.trod_int Tryd.underlying3 g0
    obtain ⟨c, e1, rfl, wc⟩ := DataW.trod_int Tryd.underlying3 g1
    obtain ⟨i, e2, rfl, wi⟩ := DataW.trod_int Tryd.underlying3 g2
    obtain ⟨A, cn, ns, e3, s3, w3, f3⟩ := ints_part Tryd.underlying22 Tryd.underlying3 c3 g3
    obtain ⟨C, ct, ts, e4, s4, f4⟩ := texts_part Tryd.underlying23 Tryd.underlying9 cs9 g4
    simp only [List.cons.injEq, and_true] at e0 e1 e2 e3 e4
    subst e0 e1 e2 e3 e4
    have hw' : ∀ q ∈ DataW.weights Tryd.prog 22 y3.1 ++ DataW.weights Tryd.prog 23 y4.1, q ≤ reachBytes := by
      intro q hq
      refine hw q ?_
      simp only [DataW.weights, Tryd.underlying25, List.map_cons, List.map_nil, DataW.weightsEach, List.mem_append, List.nil_append, List.append_nil]
      first
        | (rcases List.mem_append.1 hq with hq | hq
           · exact .inl hq
           · exact .inr hq)
        | (simpa using hq)
    have hreach : reachBytes = 140737488351232 := rfl
    have hnl : ns.length * 8 ≤ 140737488351232 := by
      rcases f3 with ⟨_, rfl⟩ | ⟨rest, f3⟩
      · simp
      · have := hw' ((ns.length + rest.length) * 8) (by rw [f3]; simp [DataW.weights, Tryd.underlying22, b8, lits_len])
        omega
    have htl : ts.length * 16 ≤ 140737488351232 := by
      rcases f4 with ⟨_, rfl⟩ | ⟨rest, f4⟩
      · simp
      · have := hw' ((ts.length + rest.length) * 16) (by rw [f4]; simp [DataW.weights, Tryd.underlying23, b16, strs_len])
        omega
    have htb : ∀ s ∈ ts, s.size ≤ 140737488351232 := by
      rcases f4 with ⟨_, rfl⟩ | ⟨rest, f4⟩
      · simp
      · intro s hs
        have := hw' s.size (by rw [f4]; simp only [DataW.weights, Tryd.underlying23, List.mem_append, List.mem_cons]; exact .inr (.inr (.inl (weights_texts _ ts s hs))))
        omega
    refine ⟨k, c, i, A, cn, C, ct, ns, ts, rfl, i64_of_wf wk, i64_of_wf wc, i64_of_wf wi, ⟨s3, s4, fun n hn => i64_of_wf (w3 n hn), hnl, htl, htb⟩, ?_⟩
    have u3 : ns.length ≤ Rows.uptoBulk y3.1 := by
      rcases f3 with ⟨_, rfl⟩ | ⟨rest, f3⟩
      · simp
      · rw [f3]; simp only [Rows.uptoBulk, bulk_lits]; omega
    have u4 : ts.length + totB ts ≤ Rows.uptoBulk y4.1 := by
      rcases f4 with ⟨_, rfl⟩ | ⟨rest, f4⟩
      · simp [totB]
      · rw [f4]; simp only [Rows.uptoBulk, bulk_texts]; omega
    simp only [List.map_cons, List.map_nil, Rows.uptoBulk, Rows.uptoBulkAll]
    omega
theorem open_letter {H : Type} {enc : TypeId × Value → H} {W : World} {base : Nat} {v : Value} {d : DataW H} {p : List MemPlace}
    (hv : Value.okWide Tryd.prog W .any base 25 v) (h : DataW.Trod enc Tryd.prog W 0 (fun _ => true) true 25 v d p) (hw : ∀ m ∈ d.weights Tryd.prog 25, m ≤ reachBytes) :
    ∃ (k c i : Int) (A : Option Addr) (cn : Nat) (C : Option Addr) (ct : Nat) (ns : List Int) (ts : List ByteArray), v = .agg #[.int .i64 k, .int .i64 c, .int .i64 i, .slice A ns.length cn, .slice C ts.length ct] ∧ i64 k ∧ i64 c ∧ i64 i ∧
      MsgAt W W.heap.size A C ns ts ∧ ns.length + ts.length + totB ts ≤ Rows.uptoBulk d := by
  obtain ⟨cs, rfl, hsz⟩ := okWide_struct Tryd.underlying25 hv
  obtain ⟨fuel, hf⟩ := h
  obtain ⟨k, c, i, A, cn, C, ct, ns, ts, hx, hr⟩ := letter_of hf hw
  refine ⟨k, c, i, A, cn, C, ct, ns, ts, ?_, hr⟩
  have : cs.toList = _ := hx
  congr 1
  apply Array.ext'
  exact this
end Go.Proofs.YtndcmjgjecdgcaaDoor
