/- The runs as they come in, and their bulk. -/
import Derived.Test.YtcgilgihmapipaaMrgCopied
import Derived.Deep.SlicePairs
namespace Go.Proofs.Ytcgilgihmapipaa
open Go.RowKit Go.ChangeShapes Go.WideShapes Go.Deep

theorem bulk_one {H : Type} (d : DataW H) : 1 ≤ Rows.uptoBulk d := by
  cases d with
  | lit l => cases l <;> simp only [Rows.uptoBulk] <;> omega
  | _ => simp only [Rows.uptoBulk] <;> omega
theorem bulk_len {H : Type} : ∀ l : List (DataW H), l.length ≤ Rows.uptoBulkAll l
  | [] => by simp
  | d :: l => by
    have h1 := bulk_one d
    have h2 := bulk_len l
    simp only [List.length_cons, Rows.uptoBulkAll]
    omega
theorem bulk_app {H : Type} : ∀ (l r : List (DataW H)), Rows.uptoBulkAll (l ++ r) = Rows.uptoBulkAll l + Rows.uptoBulkAll r
  | [], r => by simp [Rows.uptoBulkAll]
  | d :: l, r => by simp only [List.cons_append, Rows.uptoBulkAll, bulk_app l r]; omega
theorem bulk_mem {H : Type} : ∀ {l : List (DataW H)} {d : DataW H}, d ∈ l → Rows.uptoBulk d ≤ Rows.uptoBulkAll l
  | x :: l, d, h => by
    simp only [Rows.uptoBulkAll]
    rcases List.mem_cons.1 h with rfl | h
    · omega
    · have := bulk_mem h; omega
theorem bulk_sum {H : Type} {D : Nat → DataW H} {f : Nat → Nat} : ∀ (len : Nat), (∀ i, i < len → f i ≤ Rows.uptoBulk (D i)) → ((List.range len).map f).sum ≤ Rows.uptoBulkAll ((List.range len).map D)
  | 0, _ => Nat.zero_le _
  | len + 1, h => by
    have h1 := bulk_sum len (fun i hi => h i (by omega))
    have h2 := h len (by omega)
    rw [List.range_succ, List.map_append, List.map_append, bulk_app, List.sum_append]
    simp only [List.map_cons, List.map_nil, Rows.uptoBulkAll, List.sum_cons, List.sum_nil]
    omega
theorem bulk_pair {H : Type} (x y : ByteArray) : x.size + y.size ≤ Rows.uptoBulk (H := H) (.agg [.lit (.string x.data.toList), .lit (.string y.data.toList)]) := by
  have e1 : x.data.toList.length = x.size := by simp
  have e2 : y.data.toList.length = y.size := by simp
  simp only [Rows.uptoBulk, Rows.uptoBulkAll]
  omega
structure Run1 where
  a : Option Addr
  bk : Nat
  of : Nat
  ln : Nat
  cp : Nat
  K : Nat → ByteArray
  V : Nat → ByteArray
structure RunOk (W : World) (v : Value) (q : Run1) : Prop where
  val : v = .slice q.a q.ln q.cp
  le : q.ln ≤ q.cp
  at0 : 0 < q.ln → q.a = some ⟨q.bk, q.of, none⟩
  cells : ∀ p, p < q.ln → q.bk < W.heap.size ∧ W.cell? ⟨q.bk, q.of + p * 2, none⟩ = some (.string (q.K p)) ∧ W.cell? ⟨q.bk, q.of + p * 2 + 1, none⟩ = some (.string (q.V p))
theorem spot_none {W : World} {a : Addr} {v : Value} (h : W.cell? (a.add 0) = some v) : a.spot = none := by
  have := World.cell?_spot h
  simpa [Addr.add] using this
set_option maxRecDepth 100000 in
theorem open_run {H : Type} {enc : TypeId × Value → H} {W : World} {n : Nat} {v : Value} {d : DataW H} {p : List MemPlace}
    (h : DataW.trod enc Try.prog W 0 (fun _ => true) true n 32 [v] = some (d, p)) (hw : Rows.uptoBulk d ≤ 1048576) :
    ∃ q : Run1, RunOk W v q ∧ q.ln ≤ Rows.uptoBulk d ∧ ∀ p, (q.K p).size ≤ 1048576 ∧ (q.V p).size ≤ 1048576 := by
  have c33 : Try.prog.cellsOf 34 = 2 := by kernel_rfl
  have c9 : Try.prog.cellsOf 9 = 1 := by kernel_rfl
  rcases open_slice_pairs Try.underlying32 Try.underlying34 c33 rfl rfl c9 c9 h with ⟨hcs, _⟩ | ⟨a, len, cap, m, n, V0, V1, D0, D1, P0, P1, hcs, _, hl, hm, hmm, hx, hi⟩
  · simp only [List.cons.injEq, and_true] at hcs
    exact ⟨⟨none, 0, 0, 0, 0, fun _ => ⟨#[]⟩, fun _ => ⟨#[]⟩⟩, ⟨hcs, Nat.le_refl _, fun k => absurd k (by simp), fun p hp => absurd hp (by simp)⟩, Nat.zero_le _, fun p => ⟨by simp [ByteArray.size], by simp [ByteArray.size]⟩⟩
  · simp only [List.cons.injEq, and_true] at hcs
    simp only [if_true] at hmm
    simp only [Prod.mk.injEq] at hx
    have hall := bulk_len ((List.range len).map fun i => DataW.agg [D0 i, D1 i])
    rw [List.length_map, List.length_range] at hall
    have hbl : Rows.uptoBulkAll ((List.range len).map fun i => DataW.agg [D0 i, D1 i]) ≤ Rows.uptoBulk d := by
      rw [hx.1]
      simp only [Rows.uptoBulk]
      omega
    have all : ∀ i, ∃ q : ByteArray × ByteArray, (i < len → W.cell? (a.add (i * 2)) = some (.string q.1) ∧ W.cell? (a.add (i * 2 + 1)) = some (.string q.2)) ∧ q.1.size ≤ 1048576 ∧ q.2.size ≤ 1048576 := fun i => by
      by_cases hil : i < len
      · obtain ⟨h0, h1, g0, g1⟩ := hi i (by omega)
        obtain ⟨s, e0, f0, _⟩ := DataW.trod_string Try.underlying9 g0
        obtain ⟨t, e1, f1, _⟩ := DataW.trod_string Try.underlying9 g1
        simp only [List.cons.injEq, and_true] at e0 e1
        have f0 := congrArg Prod.fst f0
        have f1 := congrArg Prod.fst f1
        simp only at f0 f1
        have hb := bulk_mem (H := H) (l := (List.range len).map fun i => DataW.agg [D0 i, D1 i]) (d := .agg [D0 i, D1 i]) (List.mem_map.2 ⟨i, List.mem_range.2 hil, rfl⟩)
        have hp := bulk_pair (H := H) s t
        rw [f0, f1] at hb
        exact ⟨(s, t), fun _ => ⟨by rw [h0, e0], by rw [h1, e1]⟩, by show s.size ≤ _; omega, by show t.size ≤ _; omega⟩
      · exact ⟨(⟨#[]⟩, ⟨#[]⟩), fun k => absurd k hil, by simp [ByteArray.size], by simp [ByteArray.size]⟩
    obtain ⟨f, hf1, hf2⟩ : ∃ f : Nat → ByteArray × ByteArray, (∀ i, i < len → W.cell? (a.add (i * 2)) = some (.string (f i).1) ∧ W.cell? (a.add (i * 2 + 1)) = some (.string (f i).2)) ∧ ∀ i, (f i).1.size ≤ 1048576 ∧ (f i).2.size ≤ 1048576 :=
      ⟨fun i => Classical.choose (all i), fun i => (Classical.choose_spec (all i)).1, fun i => (Classical.choose_spec (all i)).2⟩
    refine ⟨⟨some a, a.block, a.off, len, cap, fun i => (f i).1, fun i => (f i).2⟩, ⟨hcs, hl, fun h0 => ?_, fun p hp => ?_⟩, by show len ≤ _; omega, hf2⟩
    · obtain ⟨k0, _⟩ := hf1 0 h0
      have hs := spot_none k0
      obtain ⟨b, off, spot⟩ := a
      have hspot : spot = none := hs
      subst hspot
      rfl
    · have hs := spot_none (hf1 0 (Nat.lt_of_le_of_lt (Nat.zero_le _) hp)).1
      obtain ⟨k0, k1⟩ := hf1 p hp
      obtain ⟨b, off, spot⟩ := a
      have hspot : spot = none := hs
      subst hspot
      rw [Addr.add_lit] at k0 k1
      refine ⟨?_, k0, k1⟩
      rcases Nat.lt_or_ge b W.heap.size with hlt | hge
      · exact hlt
      · simp [World.cell?, Array.getElem?_eq_none hge] at k0
set_option maxRecDepth 100000 in
theorem open_runs {H : Type} {enc : TypeId × Value → H} {W : World} {base : Nat} {v : Value} {d : DataW H} {p : List MemPlace}
    (hv : Value.okWide Try.prog W .any base 22 v) (h : DataW.Trod enc Try.prog W 0 (fun _ => true) true 22 v d p) (hw : Rows.uptoBulk d ≤ 1048576) :
    ∃ (A : Option Addr) (cap : Nat) (R : Rn), v = .slice A R.n cap ∧ R.n ≤ 1048576 ∧ (∀ i, i < R.n → R.ln i ≤ 1048576) ∧ tot R (fun _ => 0) ≤ 1048576 ∧ (∀ i p, (R.K i p).size ≤ 1048576 ∧ (R.V i p).size ≤ 1048576) ∧ ArgAt R W.heap.size A W := by
  obtain ⟨A, len, cap, rfl⟩ := okWide_slice Try.underlying22 hv
  obtain ⟨fuel, hf⟩ := h
  have c29 : Try.prog.cellsOf 32 = 1 := by kernel_rfl
  rcases open_slice1 Try.underlying22 c29 hf with ⟨hcs, _⟩ | ⟨a, len', cap', m, n, V, D, Pl, hcs, _, hl, hm, hmm, hx, hi⟩
  · simp only [Value.cells, List.cons.injEq, and_true] at hcs
    injection hcs with e1 e2 e3
    subst e1 e2 e3
    exact ⟨none, 0, ⟨0, fun _ => 0, fun _ => 0, fun _ => 0, fun _ => 0, fun _ _ => ⟨#[]⟩, fun _ _ => ⟨#[]⟩⟩, rfl, by simp, fun i hi => absurd hi (by simp), by simp [tot], fun i p => ⟨by simp [ByteArray.size], by simp [ByteArray.size]⟩, fun i hi => absurd hi (by simp), fun i hi => absurd hi (by simp)⟩
  · simp only [Value.cells, List.cons.injEq, and_true] at hcs
    injection hcs with e1 e2 e3
    subst e1 e2 e3
    simp only [if_true] at hmm
    simp only [Prod.mk.injEq] at hx
    have hbl : Rows.uptoBulkAll ((List.range len).map D) ≤ 1048576 := by
      rw [hx.1] at hw
      simp only [Rows.uptoBulk] at hw
      omega
    have hlen := bulk_len ((List.range len).map D)
    rw [List.length_map, List.length_range] at hlen
    have all : ∀ i, ∃ q : Run1, (i < len → W.cell? (a.add i) = some (V i) ∧ RunOk W (V i) q ∧ q.ln ≤ Rows.uptoBulk (D i)) ∧ ∀ p, (q.K p).size ≤ 1048576 ∧ (q.V p).size ≤ 1048576 := fun i => by
      by_cases hil : i < len
      · obtain ⟨h0, ht⟩ := hi i (by omega)
        have hb := bulk_mem (l := (List.range len).map D) (d := D i) (List.mem_map.2 ⟨i, List.mem_range.2 hil, rfl⟩)
        obtain ⟨q, h1, h2, h3⟩ := open_run ht (by omega)
        exact ⟨q, fun _ => ⟨h0, h1, h2⟩, h3⟩
      · exact ⟨⟨none, 0, 0, 0, 0, fun _ => ⟨#[]⟩, fun _ => ⟨#[]⟩⟩, fun k => absurd k hil, fun p => ⟨by simp [ByteArray.size], by simp [ByteArray.size]⟩⟩
    obtain ⟨f, hf1, hf2⟩ : ∃ f : Nat → Run1, (∀ i, i < len → W.cell? (a.add i) = some (V i) ∧ RunOk W (V i) (f i) ∧ (f i).ln ≤ Rows.uptoBulk (D i)) ∧ ∀ i p, ((f i).K p).size ≤ 1048576 ∧ ((f i).V p).size ≤ 1048576 :=
      ⟨fun i => Classical.choose (all i), fun i => (Classical.choose_spec (all i)).1, fun i => (Classical.choose_spec (all i)).2⟩
    have hsum := bulk_sum (D := D) (f := fun i => (f i).ln) len (fun i hi => (hf1 i hi).2.2)
    refine ⟨some a, cap, ⟨len, fun i => (f i).bk, fun i => (f i).of, fun i => (f i).ln, fun i => (f i).cp, fun i => (f i).K, fun i => (f i).V⟩, rfl, by show len ≤ _; omega, fun i hi2 => ?_, ?_, hf2, fun i hi2 => ?_, fun i hi2 p hp => (hf1 i hi2).2.1.cells p hp⟩
    · have hb := bulk_mem (l := (List.range len).map D) (d := D i) (List.mem_map.2 ⟨i, List.mem_range.2 hi2, rfl⟩)
      have := (hf1 i hi2).2.2
      show (f i).ln ≤ _
      omega
    · show ((List.range len).map fun i => (f i).ln - 0).sum ≤ _
      simp only [Nat.sub_zero]
      omega
    · have hs := spot_none (hf1 0 (Nat.lt_of_le_of_lt (Nat.zero_le _) hi2)).1
      obtain ⟨h0, h1, _⟩ := hf1 i hi2
      obtain ⟨b, off, spot⟩ := a
      have hspot : spot = none := hs
      subst hspot
      rw [Addr.add_lit] at h0
      refine ⟨b, off, (f i).a, rfl, ?_, h0.trans (by rw [h1.val]), h1.at0, h1.le⟩
      rcases Nat.lt_or_ge b W.heap.size with hlt | hge
      · exact hlt
      · simp [World.cell?, Array.getElem?_eq_none hge] at h0
end Go.Proofs.Ytcgilgihmapipaa
