/- Lists of pairs, and lists of such lists, as they come in; their bulk. -/
import Derived.Test.YtilobnplmkmmpaaPlnPts
import Derived.Deep.Slices
import Derived.Deep.DeepHandedRow
namespace Go.Proofs.Ytilobnplmkmmpaa
open Go.RowKit Go.ChangeShapes Go.WideShapes Go.Deep

theorem bulk_one {H : Type} (d : DataW H) : 1 ≤ Rows.uptoBulk d := by
  cases d with
  | lit l => cases l <;> simp only [Rows.uptoBulk] <;> omega
  | _ => simp only [Rows.uptoBulk] <;> omega
theorem bulk_len {H : Type} : ∀ l : List (DataW H), l.length ≤ Rows.uptoBulkAll l
  | [] => by simp
  | d :: l => by
    have h1 := bulk_one d
    have h2 := bulk_len l
    simp only [List.length_cons, Rows.uptoBulkAll]
    omega
theorem bulk_app {H : Type} : ∀ (l r : List (DataW H)), Rows.uptoBulkAll (l ++ r) = Rows.uptoBulkAll l + Rows.uptoBulkAll r
  | [], r => by simp [Rows.uptoBulkAll]
  | d :: l, r => by simp only [List.cons_append, Rows.uptoBulkAll, bulk_app l r]; omega
theorem bulk_mem {H : Type} : ∀ {l : List (DataW H)} {d : DataW H}, d ∈ l → Rows.uptoBulk d ≤ Rows.uptoBulkAll l
  | x :: l, d, h => by
    simp only [Rows.uptoBulkAll]
    rcases List.mem_cons.1 h with rfl | h
    · omega
    · have := bulk_mem h; omega
theorem bulk_sum {H : Type} {D : Nat → DataW H} {f : Nat → Nat} : ∀ (len : Nat), (∀ i, i < len → f i ≤ Rows.uptoBulk (D i)) → ((List.range len).map f).sum ≤ Rows.uptoBulkAll ((List.range len).map D)
  | 0, _ => Nat.zero_le _
  | len + 1, h => by
    have h1 := bulk_sum len (fun i hi => h i (by omega))
    have h2 := h len (by omega)
    rw [List.range_succ, List.map_append, List.map_append, bulk_app, List.sum_append]
    simp only [List.map_cons, List.map_nil, Rows.uptoBulkAll, List.sum_cons, List.sum_nil]
    omega
theorem spot_none {W : World} {a : Addr} {v : Value} (h : W.cell? (a.add 0) = some v) : a.spot = none := by
  have := World.cell?_spot h
  simpa [Addr.add] using this
theorem pair_of {H : Type} {enc : TypeId × Value → H} {w : World} {base n : Nat} {spare : Nat → Bool} {held : Bool} {cs : List Value} {d : DataW H} {p : List MemPlace}
    (h : DataW.trod enc Try.prog w base spare held n 34 cs = some (d, p)) : ∃ x : Pr, cs = [.int .i64 x.1, .int .i64 x.2] ∧ (-9223372036854775808 ≤ x.1 ∧ x.1 ≤ 9223372036854775807) ∧ (-9223372036854775808 ≤ x.2 ∧ x.2 ≤ 9223372036854775807) := by
  have hu : Try.prog.underlying 34 = some (.array 2 3) := Try.underlying34
  obtain ⟨ys, m, _, _, hlen, hyl, hg⟩ := DataW.trod_array hu h
  have c3 : Try.prog.cellsOf 3 = 1 := by kernel_rfl
  have c32 : Try.prog.cellsOf 34 = 2 := by kernel_rfl
  rw [c32] at hlen
  match cs, hlen, ys, hyl with
  | [v0, v1], _, [y0, y1], _ =>
    have g0 : DataW.trod enc Try.prog w base spare held m 3 [v0] = some y0 := by have := hg 0 (by omega); simpa [c3] using this
    have g1 : DataW.trod enc Try.prog w base spare held m 3 [v1] = some y1 := by have := hg 1 (by omega); simpa [c3] using this
    obtain ⟨k, e0, _, wk⟩ := DataW.trod_int Try.underlying3 g0
    obtain ⟨i, e1, _, wi⟩ := DataW.trod_int Try.underlying3 g1
    simp only [List.cons.injEq, and_true] at e0 e1
    subst e0 e1
    exact ⟨(k, i), rfl, i64_of_wf wk, i64_of_wf wi⟩
/-- a list of pairs -/
structure PrR where
  a : Option Addr
  n : Nat
  c : Nat
  it : Nat → Pr
structure PrOk (W : World) (v : Value) (q : PrR) : Prop where
  val : v = .slice q.a q.n q.c
  le : q.n ≤ q.c
  at' : Prs W W.heap.size q.a q.n q.it
  wf : ∀ i, (-9223372036854775808 ≤ (q.it i).1 ∧ (q.it i).1 ≤ 9223372036854775807) ∧ (-9223372036854775808 ≤ (q.it i).2 ∧ (q.it i).2 ≤ 9223372036854775807)
set_option maxRecDepth 100000 in
theorem open_row {H : Type} {enc : TypeId × Value → H} {W : World} {f : Nat} {v : Value} {d : DataW H} {p : List MemPlace}
    (hf : DataW.trod enc Try.prog W 0 (fun _ => true) true f 22 [v] = some (d, p)) : ∃ q : PrR, PrOk W v q ∧ q.n ≤ Rows.uptoBulk d := by
  rcases open_slice Try.underlying22 hf with ⟨hcs, _⟩ | ⟨a, len, cap, m, n, D, Pl, hcs, _, hl, hm, hmm, hx, hi⟩
  · simp only [List.cons.injEq, and_true] at hcs
    exact ⟨⟨none, 0, 0, fun _ => (0, 0)⟩, ⟨hcs, Nat.le_refl _, fun i hi => absurd hi (by simp), fun i => by simp⟩, Nat.zero_le _⟩
  · simp only [List.cons.injEq, and_true] at hcs
    simp only [if_true] at hmm
    simp only [Prod.mk.injEq] at hx
    have c29 : Try.prog.cellsOf 34 = 2 := by kernel_rfl
    rw [c29] at hi
    have hlen := bulk_len ((List.range len).map D)
    rw [List.length_map, List.length_range] at hlen
    have hbl : Rows.uptoBulkAll ((List.range len).map D) ≤ Rows.uptoBulk d := by
      rw [hx.1]
      simp only [Rows.uptoBulk]
      omega
    have all : ∀ i, ∃ x : Pr, (i < len → W.cell? ((a.add (i * 2)).add 0) = some (.int .i64 x.1) ∧ W.cell? ((a.add (i * 2)).add 1) = some (.int .i64 x.2)) ∧ (-9223372036854775808 ≤ x.1 ∧ x.1 ≤ 9223372036854775807) ∧ (-9223372036854775808 ≤ x.2 ∧ x.2 ≤ 9223372036854775807) := fun i => by
      by_cases hil : i < len
      · obtain ⟨cs', hc, ht⟩ := hi i (by omega)
        obtain ⟨x, rfl, b1, b2⟩ := pair_of ht
        obtain ⟨_, _, hat⟩ := World.cells?_some hc
        have k0 := hat 0 (by omega)
        have k1 := hat 1 (by omega)
        exact ⟨x, fun _ => ⟨k0, k1⟩, b1, b2⟩
      · exact ⟨(0, 0), fun h => absurd h hil, by simp, by simp⟩
    obtain ⟨f, hf1, hf2⟩ : ∃ f : Nat → Pr, (∀ i, i < len → W.cell? ((a.add (i * 2)).add 0) = some (.int .i64 (f i).1) ∧ W.cell? ((a.add (i * 2)).add 1) = some (.int .i64 (f i).2)) ∧ ∀ i, (-9223372036854775808 ≤ (f i).1 ∧ (f i).1 ≤ 9223372036854775807) ∧ (-9223372036854775808 ≤ (f i).2 ∧ (f i).2 ≤ 9223372036854775807) :=
      ⟨fun i => Classical.choose (all i), fun i => (Classical.choose_spec (all i)).1, fun i => (Classical.choose_spec (all i)).2⟩
    refine ⟨⟨some a, len, cap, f⟩, ⟨hcs, hl, fun i hi2 => ?_, hf2⟩, by show len ≤ _; omega⟩
    have h0 : a.spot = none := by
      have := World.cell?_spot (hf1 0 (Nat.lt_of_le_of_lt (Nat.zero_le _) hi2)).1
      simpa [Addr.add] using this
    obtain ⟨b, off, spot⟩ := a
    have hspot : spot = none := h0
    subst hspot
    obtain ⟨k0, k1⟩ := hf1 i hi2
    rw [add_plain, add_plain] at k0 k1
    refine ⟨b, off, rfl, ?_, k0, k1⟩
    rcases Nat.lt_or_ge b W.heap.size with hlt | hge
    · exact hlt
    · simp [World.cell?, Array.getElem?_eq_none hge] at k0
theorem open_row_arg {H : Type} {enc : TypeId × Value → H} {W : World} {base : Nat} {v : Value} {d : DataW H} {p : List MemPlace}
    (hv : Value.okWide Try.prog W .any base 22 v) (h : DataW.Trod enc Try.prog W 0 (fun _ => true) true 22 v d p) (hw : Rows.uptoBulk d ≤ 1048576) :
    ∃ q : PrR, PrOk W v q ∧ q.n ≤ 1048576 := by
  obtain ⟨A, len, cap, rfl⟩ := okWide_slice Try.underlying22 hv
  obtain ⟨fuel, hf⟩ := h
  obtain ⟨q, h1, h2⟩ := open_row (v := .slice A len cap) hf
  exact ⟨q, h1, by omega⟩
/-- the slice value holds the lists R 0, R 1, .. -/
def Lss (w : World) (B : Nat) (A : Option Addr) (n : Nat) (R : Nat → PrR) : Prop :=
  ∀ i, i < n → (R i).n ≤ 1048576 ∧ Prs w B (R i).a (R i).n (R i).it ∧ ∃ b off, A = some ⟨b, off, none⟩ ∧ b < B ∧ w.cell? ⟨b, off + i, none⟩ = some (.slice (R i).a (R i).n (R i).c)
theorem Lss.below {w w' : World} {B : Nat} {A : Option Addr} {n : Nat} {R : Nat → PrR} (h : Lss w B A n R) (hb : Below B w w') : Lss w' B A n R := fun i hi => by
  obtain ⟨h0, h1, g, o, e, hB, h2⟩ := h i hi
  exact ⟨h0, h1.below hb, g, o, e, hB, (hb.cell (p := ⟨g, _, none⟩) hB).trans h2⟩
def tot (R : Nat → PrR) (n : Nat) : Nat := ((List.range n).map fun i => (R i).n).sum
def wfR (R : Nat → PrR) : Prop := ∀ i j, (-9223372036854775808 ≤ ((R i).it j).1 ∧ ((R i).it j).1 ≤ 9223372036854775807) ∧ (-9223372036854775808 ≤ ((R i).it j).2 ∧ ((R i).it j).2 ≤ 9223372036854775807)
end Go.Proofs.Ytilobnplmkmmpaa
