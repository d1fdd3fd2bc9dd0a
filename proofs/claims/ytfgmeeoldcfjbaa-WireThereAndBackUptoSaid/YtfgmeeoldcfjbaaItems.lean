/- A list of items as it came in: its cells, what they may hold, and how much they hold together. -/
import Derived.Test.YtfgmeeoldcfjbaaPlainKit
import Derived.Test.YtfgmeeoldcfjbaaKindOf
import Derived.Test.YtfgmeeoldcfjbaaWireSpeaks
import Derived.Deep.Slices
import Derived.Deep.Fields
import Derived.ChangeSame
namespace Go.Proofs.Ytfgmeeoldcfjbaa
open Go.RowKit Go.ChangeShapes Go.WideShapes Go.Deep

structure It where
  k : Int
  n : Int
  s : ByteArray
  b : Bool

def ItemAt (w : World) (b off i : Nat) (x : It) : Prop :=
  w.cell? ⟨b, off + i * 4, none⟩ = some (.int .i64 x.k) ∧ w.cell? ⟨b, off + i * 4 + 1, none⟩ = some (.int .i64 x.n) ∧ w.cell? ⟨b, off + i * 4 + 2, none⟩ = some (.string x.s) ∧ w.cell? ⟨b, off + i * 4 + 3, none⟩ = some (.bool x.b)
def ItemOk (x : It) : Prop :=
  (-9223372036854775808 ≤ x.k ∧ x.k ≤ 9223372036854775807) ∧ (-9223372036854775808 ≤ x.n ∧ x.n ≤ 9223372036854775807) ∧ x.s.size ≤ 140737488351232
/-- the slice value holds the items, all of them below B -/
def Items (w : World) (B : Nat) (A : Option Addr) (len : Nat) (it : Nat → It) : Prop :=
  ∀ i, i < len → ∃ b off, A = some ⟨b, off, none⟩ ∧ b < B ∧ ItemAt w b off i (it i) ∧ ItemOk (it i)
theorem Items.below {w w' : World} {B : Nat} {A : Option Addr} {len : Nat} {it : Nat → It} (h : Items w B A len it) (hb : Below B w w') : Items w' B A len it := fun i hi => by
  obtain ⟨b, off, e, hB, ⟨h0, h1, h2, h3⟩, ho⟩ := h i hi
  exact ⟨b, off, e, hB, ⟨(hb.cell (p := ⟨b, _, none⟩) hB).trans h0, (hb.cell (p := ⟨b, _, none⟩) hB).trans h1, (hb.cell (p := ⟨b, _, none⟩) hB).trans h2, (hb.cell (p := ⟨b, _, none⟩) hB).trans h3⟩, ho⟩

/-- an item's form -/
def formOf (x : It) : ByteArray := if kd x.k = 0 then numS x.n else if kd x.k = 1 then numS x.s.size ++ x.s else boolS x.b
theorem form0 {x : It} (h : kd x.k = 0) : formOf x = numS x.n := by unfold formOf; rw [if_pos h]
theorem form1 {x : It} (h : kd x.k = 1) : formOf x = numS x.s.size ++ x.s := by unfold formOf; rw [if_neg (by omega), if_pos h]
theorem form2 {x : It} (h : kd x.k = 2) : formOf x = boolS x.b := by unfold formOf; rw [if_neg (by omega), if_neg (by omega)]
theorem form_size (x : It) : (formOf x).size ≤ x.s.size + 10 := by
  unfold formOf
  split
  · have := numS_size x.n; omega
  · split
    · have := numS_size x.s.size; rw [ByteArray.size_append]; omega
    · have := boolS_size x.b; omega
/-- the forms of the first i items, the last one first -/
def forms (it : Nat → It) : Nat → List ByteArray
  | 0 => []
  | i + 1 => formOf (it i) :: forms it i
theorem catS_cons (s : ByteArray) (r : List ByteArray) : catS (s :: r) = catS r ++ s := by
  have e : cat (s :: r) = cat r ++ s.data.toList := rfl
  unfold catS
  rw [e]
  apply ByteArray.ext
  rw [ByteArray.data_append]
  simp
def load (it : Nat → It) : Nat → Nat
  | 0 => 0
  | i + 1 => load it i + ((it i).s.size + 10)
theorem tot_forms (it : Nat → It) : ∀ i, tot (forms it i) ≤ load it i
  | 0 => Nat.le_refl _
  | i + 1 => by
    have := tot_forms it i
    have := form_size (it i)
    simp only [forms, tot, load]
    omega
theorem load_mono (it : Nat → It) {i j : Nat} (h : i ≤ j) : load it i ≤ load it j := by
  induction j with
  | zero => have : i = 0 := by omega
            subst this; exact Nat.le_refl _
  | succ j ih =>
    rcases Nat.lt_or_ge j i with h1 | h1
    · have : i = j + 1 := by omega
      subst this; exact Nat.le_refl _
    · have := ih h1
      simp only [load]; omega

theorem le_load (it : Nat → It) : ∀ i, i ≤ load it i
  | 0 => Nat.le_refl _
  | i + 1 => by have := le_load it i; simp only [load]; omega

/-- the box that holds a copy of one item -/
def XB (w : World) (g : Nat) (x : It) : Prop :=
  w.cell? ⟨g, 0, none⟩ = some (.int .i64 x.k) ∧ w.cell? ⟨g, 1, none⟩ = some (.int .i64 x.n) ∧ w.cell? ⟨g, 2, none⟩ = some (.string x.s) ∧ w.cell? ⟨g, 3, none⟩ = some (.bool x.b)
theorem XB.new (w : World) (t : TypeId) (x : It) : XB (w.alloc (.cells #[.int .i64 x.k, .int .i64 x.n, .string x.s, .bool x.b] t)) w.heap.size x :=
  ⟨by rw [World.cell?_alloc_at _ _ _ _ rfl]; rfl, by rw [World.cell?_alloc_at _ _ _ _ rfl]; rfl, by rw [World.cell?_alloc_at _ _ _ _ rfl]; rfl, by rw [World.cell?_alloc_at _ _ _ _ rfl]; rfl⟩
theorem XB.below {w w' : World} {g B : Nat} {x : It} (h : XB w g x) (hb : Below B w w') (hg : g < B) : XB w' g x :=
  ⟨(hb.cell (p := ⟨g, _, none⟩) hg).trans h.1, (hb.cell (p := ⟨g, _, none⟩) hg).trans h.2.1, (hb.cell (p := ⟨g, _, none⟩) hg).trans h.2.2.1, (hb.cell (p := ⟨g, _, none⟩) hg).trans h.2.2.2⟩
theorem XB.grown {w w' : World} {g p : Nat} {x : It} (h : XB w g x) (hb : w.grownBy w' (some p)) (hg : g < w.heap.size) (hne : g ≠ p) : XB w' g x := by
  have hk : w'.heap[g]? = w.heap[g]? := hb.block g hg (by intro e; injection e with e; omega)
  exact ⟨(World.cell?_of_block (a := ⟨g, 0, none⟩) hk).trans h.1, (World.cell?_of_block (a := ⟨g, 1, none⟩) hk).trans h.2.1, (World.cell?_of_block (a := ⟨g, 2, none⟩) hk).trans h.2.2.1, (World.cell?_of_block (a := ⟨g, 3, none⟩) hk).trans h.2.2.2⟩

/-- one item's reading: its four cells, its datum -/
theorem item_of {H : Type} {enc : TypeId × Value → H} {w : World} {base n : Nat} {spare : Nat → Bool} {held : Bool} {cs : List Value} {d : DataW H} {p : List MemPlace}
    (h : DataW.trod enc Try.prog w base spare held n 29 cs = some (d, p)) :
    ∃ x : It, cs = [.int .i64 x.k, .int .i64 x.n, .string x.s, .bool x.b] ∧ d = .agg [.lit (.int .i64 x.k), .lit (.int .i64 x.n), .lit (.string x.s.data.toList), .lit (.bool x.b)] ∧
      (-9223372036854775808 ≤ x.k ∧ x.k ≤ 9223372036854775807) ∧ (-9223372036854775808 ≤ x.n ∧ x.n ≤ 9223372036854775807) := by
  obtain ⟨ys, m, _, hx, hlen, hyl, hf⟩ := DataW.trod_struct Try.underlying29 h
  have c3 : Try.prog.cellsOf 3 = 1 := by kernel_rfl
  have c9 : Try.prog.cellsOf 9 = 1 := by kernel_rfl
  have c4 : Try.prog.cellsOf 4 = 1 := by kernel_rfl
  have c29 : Try.prog.cellsOf 29 = 4 := by kernel_rfl
  rw [c29] at hlen
  simp only [Prod.mk.injEq] at hx
  match cs, hlen, ys, hyl with
  | [v0, v1, v2, v3], _, [y0, y1, y2, y3], _ =>
    have g0 : DataW.trod enc Try.prog w base spare held m 3 [v0] = some y0 := by have := hf 0 _ rfl; simpa [c3] using this
    have g1 : DataW.trod enc Try.prog w base spare held m 3 [v1] = some y1 := by have := hf 1 _ rfl; simpa [c3] using this
    have g2 : DataW.trod enc Try.prog w base spare held m 9 [v2] = some y2 := by have := hf 2 _ rfl; simpa [c9] using this
    have g3 : DataW.trod enc Try.prog w base spare held m 4 [v3] = some y3 := by have := hf 3 _ rfl; simpa [c4] using this
    obtain ⟨k, e0, rfl, wk⟩ := DataW.trod_int Try.underlying3 g0
    obtain ⟨i, e1, rfl, wi⟩ := DataW.trod_int Try.underlying3 g1
    obtain ⟨s, e2, rfl, _⟩ := DataW.trod_string Try.underlying9 g2
    obtain ⟨b, e3, rfl⟩ := DataW.trod_bool Try.underlying4 g3
    simp only [List.cons.injEq, and_true] at e0 e1 e2 e3
    subst e0 e1 e2 e3
    exact ⟨⟨k, i, s, b⟩, rfl, hx.1, i64_of_wf wk, i64_of_wf wi⟩

theorem bulk_append {H : Type} (l r : List (DataW H)) : Rows.uptoBulkAll (l ++ r) = Rows.uptoBulkAll l + Rows.uptoBulkAll r := by
  induction l with
  | nil => simp [Rows.uptoBulkAll]
  | cons x l ih => simp only [List.cons_append, Rows.uptoBulkAll, ih]; omega

/-- the items of an argument, and what they weigh -/
theorem open_items {H : Type} {enc : TypeId × Value → H} {W : World} {base : Nat} {v : Value} {d : DataW H} {p : List MemPlace}
    (hv : Value.okWide Try.prog W .any base 22 v) (h : DataW.Trod enc Try.prog W 0 (fun _ => true) true 22 v d p) (hk : Rows.uptoBulk d ≤ 1048576) :
    ∃ (A : Option Addr) (len cap : Nat) (it : Nat → It), v = .slice A len cap ∧ len ≤ 2097152 ∧ Items W W.heap.size A len it ∧ load it len ≤ 2097152 := by
  obtain ⟨A, len, cap, rfl⟩ := okWide_slice Try.underlying22 hv
  obtain ⟨fuel, hf⟩ := h
  rcases open_slice Try.underlying22 hf with ⟨hcs, _⟩ | ⟨a, len', cap', m, n, D, Pl, hcs, _, hl, hm, hmm, hx, hi⟩
  · simp only [Value.cells, List.cons.injEq, and_true] at hcs
    injection hcs with e1 e2 e3
    subst e1 e2 e3
    exact ⟨none, 0, 0, fun _ => ⟨0, 0, ⟨#[]⟩, false⟩, rfl, by omega, fun i hi => absurd hi (by omega), by simp [load]⟩
  · simp only [Value.cells, List.cons.injEq, and_true] at hcs
    injection hcs with e1 e2 e3
    subst e1 e2 e3
    simp only [if_true] at hmm
    simp only [Prod.mk.injEq] at hx
    obtain ⟨rfl, rfl⟩ := hx
    have c29 : Try.prog.cellsOf 29 = 4 := by kernel_rfl
    rw [c29] at hi
    have all : ∀ i, ∃ x : It, i < len → (∀ j u, ([.int .i64 x.k, .int .i64 x.n, .string x.s, .bool x.b] : List Value)[j]? = some u → W.cell? ((a.add (i * 4)).add j) = some u) ∧
        D i = .agg [.lit (.int .i64 x.k), .lit (.int .i64 x.n), .lit (.string x.s.data.toList), .lit (.bool x.b)] ∧ (-9223372036854775808 ≤ x.k ∧ x.k ≤ 9223372036854775807) ∧ (-9223372036854775808 ≤ x.n ∧ x.n ≤ 9223372036854775807) := fun i => by
      by_cases hil : i < len
      · obtain ⟨cs', hc, ht⟩ := hi i (by omega)
        obtain ⟨x, rfl, hd, b1, b2⟩ := item_of ht
        obtain ⟨_, _, hat⟩ := World.cells?_some hc
        refine ⟨x, fun _ => ⟨fun j u hj => ?_, hd, b1, b2⟩⟩
        have hj4 : j < 4 := by
          have := (List.getElem?_eq_some_iff.1 hj).1
          simpa using this
        rw [hat j hj4, hj]
      · exact ⟨⟨0, 0, ⟨#[]⟩, false⟩, fun h => absurd h hil⟩
    obtain ⟨it, hit⟩ : ∃ it : Nat → It, ∀ i, i < len → (∀ j u, ([.int .i64 (it i).k, .int .i64 (it i).n, .string (it i).s, .bool (it i).b] : List Value)[j]? = some u → W.cell? ((a.add (i * 4)).add j) = some u) ∧
        D i = .agg [.lit (.int .i64 (it i).k), .lit (.int .i64 (it i).n), .lit (.string (it i).s.data.toList), .lit (.bool (it i).b)] ∧ (-9223372036854775808 ≤ (it i).k ∧ (it i).k ≤ 9223372036854775807) ∧ (-9223372036854775808 ≤ (it i).n ∧ (it i).n ≤ 9223372036854775807) :=
      ⟨fun i => Classical.choose (all i), fun i => Classical.choose_spec (all i)⟩
    clear all
    have hbulk : ∀ j, j ≤ len → load it j ≤ 2 * Rows.uptoBulkAll ((List.range j).map D) := by
      intro j hj
      induction j with
      | zero => simp [load]
      | succ j ih =>
        have ih := ih (by omega)
        obtain ⟨_, hd, _⟩ := hit j (by omega)
        rw [List.range_succ, List.map_append, bulk_append, List.map_cons, List.map_nil, hd]
        simp only [load, Rows.uptoBulkAll, Rows.uptoBulk]
        have : (it j).s.data.toList.length = (it j).s.size := size_toList _
        omega
    simp only [Rows.uptoBulk] at hk
    have hload := hbulk len (Nat.le_refl _)
    have hlen := le_load it len
    refine ⟨some a, len, cap, it, rfl, by omega, fun i hil => ?_, by omega⟩
    obtain ⟨hc, hd, b1, b2⟩ := hit i hil
    have hb0 := hbulk len (Nat.le_refl _)
    have hs : (it i).s.size + 10 ≤ load it len := by
      have := load_mono it (i := i + 1) (j := len) (by omega)
      simp only [load] at this
      omega
    obtain ⟨b, off, spot⟩ := a
    have hspot : spot = none := by
      have h0 := World.cell?_spot (hc 1 _ rfl)
      have h1 := World.cell?_spot (hc 0 _ rfl)
      by_cases hz : i * 4 = 0
      · simpa [Addr.add, hz] using h1
      · have hcz := hit 0 (by omega)
        have h2 := World.cell?_spot (hcz.1 0 _ rfl)
        simpa [Addr.add] using h2
    subst hspot
    have hplain : ∀ j, ((⟨b, off, none⟩ : Addr).add (i * 4)).add j = ⟨b, off + i * 4 + j, none⟩ := fun j => by rw [add_plain, add_plain]
    have h0 := hc 0 _ rfl
    have h1 := hc 1 _ rfl
    have h2 := hc 2 _ rfl
    have h3 := hc 3 _ rfl
    rw [hplain] at h0 h1 h2 h3
    refine ⟨b, off, rfl, ?_, ⟨h0, h1, h2, h3⟩, b1, b2, by omega⟩
    rcases Nat.lt_or_ge b W.heap.size with hlt | hge
    · exact hlt
    · simp [World.cell?, Array.getElem?_eq_none hge] at h0
end Go.Proofs.Ytfgmeeoldcfjbaa
