/- Package tree: a place inside a directory. -/
import Derived.Test.YtoaoikfhdeiabaaDoorTreeIn
import Derived.Deep.RegionLaw
import Derived.Maps.Own
import Derived.Maps.OwnSet
import Derived.Maps.Views
namespace Go.Proofs.YtoaoikfhdeiabaaDoor
open Go.RowKit Go.Maps

theorem infoDir : (Tryd.prog.info? 56).map (fun i => (i.zero, i.size, i.bytes)) = some (some (.pointer none), 1, 8) := by kernel_rfl
theorem strKey : Keyed Tryd.prog 9 := string_keyed Tryd.underlying9
theorem zeroNode (w : World) : (zeroValue 50).run Tryd.prog w = .ok .nilIface w := by kernel_rfl
theorem look_nil_node (s : ByteArray) (hs : s.size ≤ maxLen) (w : World) : (Instr.lookup 63 (.map none) (.string s) false).run Tryd.prog w = .ok .nilIface w := by
  have := Maps.look_nil (w := w) false strKey Tryd.underlying63 (zeroNode w) (Go.WideMaps.keyOf_string_mk Tryd.underlying9 hs)
  simpa using this
theorem below_drew1 {B : Nat} {w w' : World} (h : Below B w w') : Below B w w'.drew := ⟨h.os, h.tape, h.output, h.size, h.block⟩
theorem set_one (w : World) (g k : Nat) (v : Value) : w.setCells g (0 + k * 1) [v] = w.setCell ⟨g, k, none⟩ v := by
  simp [World.setCells]
theorem below_set {B : Nat} {w w1 : World} (h : Below B w w1) (a : Addr) (v : Value) : Below B (w.setCell a v) (w1.setCell a v) :=
  ⟨h.os, h.tape, h.output, by simpa [World.setCell] using h.size, fun k hk => by simp only [World.setCell, Array.getElem?_modify]; rw [h.block k hk]⟩
/-- the world is as before, but for what lies anew and the cell g+k, which holds d -/
def Laid1 (w : World) (g k d : Nat) (w' : World) : Prop := Below w.heap.size (w.setCell ⟨g, k, none⟩ (.pointer (some ⟨d, 0, none⟩))) w'
theorem laid_of {w w1 : World} {g k d : Nat} (h : Below w.heap.size w w1) : Laid1 w g k d (w1.setCell ⟨g, k, none⟩ (.pointer (some ⟨d, 0, none⟩))) := below_set h _ _
theorem laid_alloc {w w1 : World} {g k d : Nat} (h : Laid1 w g k d w1) (o : Obj) : Laid1 w g k d (w1.alloc o) := by
  have hs : w.heap.size ≤ w1.heap.size := by have := h.size; simpa [World.setCell] using this
  exact Below.alloc h hs o
theorem laid_set {w w1 : World} {g k d : Nat} (h : Laid1 w g k d w1) {a : Addr} (ha : w.heap.size ≤ a.block) (v : Value) : Laid1 w g k d (w1.setCell a v) := Below.setCell h ha v
theorem laid_drew {w w1 : World} {g k d : Nat} (h : Laid1 w g k d w1) : Laid1 w g k d w1.drew := below_drew1 h
end Go.Proofs.YtoaoikfhdeiabaaDoor
