/- What a row that lists the table of package record gives to the walks, and a world that meets it. -/
import Derived.Test.YtndcmjgjecdgcaaDoorCards
import Derived.Test.YtndcmjgjecdgcaaDoorTie
import Derived.Test.YtndcmjgjecdgcaaDoorPlainKit
import Derived.Lib.LaidTab
import Derived.Lib.Hide
import Derived.Below
namespace Go.Proofs.YtndcmjgjecdgcaaDoor
open Go.ChangeShapes Go.WideShapes Go.ChangeAt Go.RowKit

/-- the table: of each kind how many numbers at least, how many in a group, how many texts at least, how many in a group -/
def shp : List (Int × Int × Int × Int) :=
  [(0, 0, 0, 0), (9, 0, 2, 0), (0, 0, 1, 0), (0, 0, 1, 0), (2, 1, 0, 1), (1, 1, 0, 0), (0, 3, 0, 0), (1, 1, 0, 0), (4, 1, 1, 0), (1, 1, 0, 0), (3, 0, 0, 0), (1, 0, 1, 0), (1, 3, 0, 0), (0, 5, 0, 0), (3, 4, 0, 0), (0, 1, 0, 1), (4, 0, 0, 0), (1, 0, 0, 2)]
def shpAt (k : Nat) : Int × Int × Int × Int := shp.getD k (0, 0, 0, 0)
/-- the table's cells -/
def Shp (w : World) : Prop :=
  ∀ k, k < 18 → w.cell? ⟨0, k * 4, none⟩ = some (.int .i64 (shpAt k).1) ∧ w.cell? ⟨0, k * 4 + 1, none⟩ = some (.int .i64 (shpAt k).2.1) ∧
    w.cell? ⟨0, k * 4 + 2, none⟩ = some (.int .i64 (shpAt k).2.2.1) ∧ w.cell? ⟨0, k * 4 + 3, none⟩ = some (.int .i64 (shpAt k).2.2.2)
theorem Shp.lt {w : World} (h : Shp w) : 0 < w.heap.size := by
  have h0 := (h 0 (by omega)).1
  rcases Nat.lt_or_ge 0 w.heap.size with hlt | hge
  · exact hlt
  · simp [World.cell?, Array.getElem?_eq_none hge] at h0
theorem Shp.below {w w' : World} {B : Nat} (h : Shp w) (hb : Below B w w') (hB : w.heap.size ≤ B) : Shp w' := fun k hk => by
  have hg : 0 < B := Nat.lt_of_lt_of_le h.lt hB
  obtain ⟨h0, h1, h2, h3⟩ := h k hk
  exact ⟨(hb.cell (p := ⟨_, _, none⟩) hg).trans h0, (hb.cell (p := ⟨_, _, none⟩) hg).trans h1, (hb.cell (p := ⟨_, _, none⟩) hg).trans h2, (hb.cell (p := ⟨_, _, none⟩) hg).trans h3⟩

section
variable {H : Type} {enc : TypeId × Value → H} {w : World} {base n : Nat} {sp : Nat → Bool} {held : Bool} {cs : List Value} {p : List MemPlace}
theorem amount_of {a b : Int} (h : DataW.trod enc Tryd.prog w base sp held n 65 cs = some (.agg [.lit (.int .i64 a), .lit (.int .i64 b)], p)) : cs = [.int .i64 a, .int .i64 b] := by
  obtain ⟨y0, y1, m, hx, hl, h0, h1⟩ := trod_struct2 Tryd.underlying65 h
  have c3 : Tryd.prog.cellsOf 3 = 1 := by kernel_rfl
  have c2 : Tryd.prog.cellsOf 65 = 2 := by kernel_rfl
  rw [c2] at hl
  match cs, hl with
  | [v0, v1], _ =>
    obtain ⟨k, e0, rfl, _⟩ := DataW.trod_int Tryd.underlying3 h0
    obtain ⟨i, e1, rfl, _⟩ := DataW.trod_int Tryd.underlying3 h1
    simp [c3] at e0 e1 hx
    obtain ⟨⟨rfl, rfl⟩, _⟩ := hx
    rw [e0, e1]
theorem shape_of {x : Int × Int × Int × Int} (h : DataW.trod enc Tryd.prog w base sp held n 67 cs = some (.agg [.agg [.lit (.int .i64 x.1), .lit (.int .i64 x.2.1)], .agg [.lit (.int .i64 x.2.2.1), .lit (.int .i64 x.2.2.2)]], p)) :
    cs = [.int .i64 x.1, .int .i64 x.2.1, .int .i64 x.2.2.1, .int .i64 x.2.2.2] := by
  obtain ⟨a, b, c, d⟩ := x
  obtain ⟨y0, y1, m, hx, hl, h0, h1⟩ := trod_struct2 Tryd.underlying67 h
  have c2 : Tryd.prog.cellsOf 65 = 2 := by kernel_rfl
  have c4 : Tryd.prog.cellsOf 67 = 4 := by kernel_rfl
  rw [c4] at hl
  rw [c2] at h0 h1
  obtain ⟨d0, p0⟩ := y0
  obtain ⟨d1, p1⟩ := y1
  simp only [Prod.mk.injEq, DataW.agg.injEq, List.cons.injEq, and_true] at hx
  obtain ⟨⟨rfl, rfl⟩, rfl⟩ := hx
  match cs, hl with
  | [v0, v1, v2, v3], _ =>
    have e0 := amount_of h0
    have e1 := amount_of h1
    simp at e0 e1
    obtain ⟨rfl, rfl⟩ := e0
    obtain ⟨rfl, rfl⟩ := e1
    rfl
end
def shpData {H : Type} (x : Int × Int × Int × Int) : DataW H := .agg [.agg [.lit (.int .i64 x.1), .lit (.int .i64 x.2.1)], .agg [.lit (.int .i64 x.2.2.1), .lit (.int .i64 x.2.2.2)]]
theorem laid_is {H : Type} : (Rows.laid_mahout_record_shapes : DataW H) = .agg (shp.map shpData) := rfl
theorem shp_of {W : World} (h : laidMetH Tryd.prog [("mahout/record.shapes", Rows.laid_mahout_record_shapes)] W) : Shp W := by
  have hg : Tryd.prog.globalNamed "mahout/record.shapes" = some 0 := by kernel_rfl
  have hty : (Tryd.prog.globals[0]?).map (·.type) = some 68 := by kernel_rfl
  have c4 : Tryd.prog.cellsOf 67 = 4 := by kernel_rfl
  obtain ⟨ps, ⟨g', t', cs, fuel, p, q, hg', ht', hvar, hd, _, _⟩, _⟩ := h
  obtain rfl := Option.some.inj (hg.symm.trans hg')
  obtain rfl := Option.some.inj (hty.symm.trans ht')
  obtain ⟨xs, m, _, hx, hl, hxl, hi⟩ := DataW.trod_array Tryd.underlying68 hd
  simp only [Prod.mk.injEq, laid_is, DataW.agg.injEq] at hx
  intro k hk
  have hcs := hi k hk
  rw [c4] at hcs
  have hkx : k < xs.length := by omega
  have hd1 : (xs[k]).1 = shpData (shpAt k) := by
    have e : (xs.map (·.1))[k]? = (shp.map (shpData (H := Unit)))[k]? := by rw [hx.1]
    have hks : k < shp.length := by simp [shp]; omega
    simp only [List.getElem?_map, List.getElem?_eq_getElem hkx, List.getElem?_eq_getElem hks, Option.map_some, Option.some.injEq] at e
    rw [e]
    simp [shpAt, List.getD, hks]
  rw [List.getElem?_eq_getElem hkx] at hcs
  have hpair : xs[k] = (shpData (shpAt k), (xs[k]).2) := by rw [← hd1]
  rw [hpair] at hcs
  have e := shape_of hcs
  have at4 : ∀ j, j < 4 → cs[k * 4 + j]? = ((cs.toList.drop (k * 4)).take 4)[j]? := fun j hj => by
    rw [List.getElem?_take_of_lt hj, List.getElem?_drop, Array.getElem?_toList]
  rw [e] at at4
  refine ⟨?_, ?_, ?_, ?_⟩
  · have := World.var?_cell hg hvar (k * 4)
    rw [this]; simpa using at4 0 (by omega)
  · have := World.var?_cell hg hvar (k * 4 + 1)
    rw [this]; simpa using at4 1 (by omega)
  · have := World.var?_cell hg hvar (k * 4 + 2)
    rw [this]; simpa using at4 2 (by omega)
  · have := World.var?_cell hg hvar (k * 4 + 3)
    rw [this]; simpa using at4 3 (by omega)
/-- A WORLD FOR THE WITNESS: the settled one, the table holding what its initialiser lays. -/
noncomputable def laidWorld (os : Os) : World :=
  { World.holding Tryd.prog os ⟨#[], #[], []⟩ with heap := (World.holding Tryd.prog os ⟨#[], #[], []⟩).heap.modify 0 fun
      | .cells _ t frozen => .cells (shp.flatMap fun x => [Value.int .i64 x.1, .int .i64 x.2.1, .int .i64 x.2.2.1, .int .i64 x.2.2.2]).toArray t frozen
      | o => o }
end Go.Proofs.YtndcmjgjecdgcaaDoor
