/- The contracts of wire.Pack's methods: a Pack is a chain of forms, the last one first. -/
import Derived.Test.YtndcmjgjecdgcaaDoorWireNum
import Derived.Lib.LazyBuf
import Derived.Deep.LoopGhost
import Derived.RegionTactic
namespace Go.Proofs.YtndcmjgjecdgcaaDoor
open Go.RowKit

/-- a chain of forms: all its blocks lie at L or behind it, no form is empty -/
def Chain (w : World) (L : Nat) : Option Addr → List ByteArray → Prop
  | h, [] => h = none
  | h, s :: rest => ∃ g h', h = some ⟨g, 0, none⟩ ∧ L ≤ g ∧ g < w.heap.size ∧ w.cell? ⟨g, 0, none⟩ = some (.pointer h') ∧ w.cell? ⟨g, 1, none⟩ = some (.string s) ∧ 0 < s.size ∧ Chain w L h' rest
theorem Chain.keep {w w' : World} {L : Nat} (hs : w.heap.size ≤ w'.heap.size) (hk : ∀ g, L ≤ g → g < w.heap.size → w'.heap[g]? = w.heap[g]?) : ∀ {parts : List ByteArray} {h : Option Addr}, Chain w L h parts → Chain w' L h parts
  | [], _, hc => hc
  | _ :: _, _, ⟨g, h', e, hl, hg, h0, h1, hp, hr⟩ =>
    ⟨g, h', e, hl, by omega, (World.cell?_of_block (a := ⟨g, 0, none⟩) (hk g hl hg)).trans h0, (World.cell?_of_block (a := ⟨g, 1, none⟩) (hk g hl hg)).trans h1, hp, Chain.keep hs hk hr⟩
theorem Chain.below {w w' : World} {L B : Nat} {parts : List ByteArray} {h : Option Addr} (hc : Chain w L h parts) (hb : Below B w w') (hB : w.heap.size ≤ B) : Chain w' L h parts :=
  hc.keep hb.size fun g _ hg => hb.block g (by omega)

/-- a Pack that lies in block p; its forms lie at L or behind it -/
def PackIs (w : World) (p L : Nat) (parts : List ByteArray) : Prop :=
  p < L ∧ L ≤ w.heap.size ∧ w.frozen? ⟨p, 0, none⟩ = false ∧ ∃ h, w.cell? ⟨p, 0, none⟩ = some (.pointer h) ∧ Chain w L h parts
theorem PackIs.below {w w' : World} {p L B : Nat} {parts : List ByteArray} (h : PackIs w p L parts) (hb : Below B w w') (hB : w.heap.size ≤ B) : PackIs w' p L parts := by
  obtain ⟨hl, h0, h1, hd, h2, h3⟩ := h
  have := hb.size
  exact ⟨hl, by omega, (hb.frozen (p := ⟨p, 0, none⟩) (by show p < B; omega)).trans h1, hd, (hb.cell (p := ⟨p, 0, none⟩) (by show p < B; omega)).trans h2, h3.below hb hB⟩
/-- another Pack's step leaves this one as it is: the other lies outside of the chain -/
theorem PackIs.grown {w w' : World} {p q L : Nat} {parts : List ByteArray} (h : PackIs w p L parts) (hg : w.grownBy w' (some q)) (hq : q < L) (hne : p ≠ q) : PackIs w' p L parts := by
  obtain ⟨hl, h0, h1, hd, h2, h3⟩ := h
  have := hg.size
  have hp : w'.heap[p]? = w.heap[p]? := hg.block p (by omega) (by intro e; injection e with e; omega)
  exact ⟨hl, by omega, (World.frozen?_of_block (a := ⟨p, 0, none⟩) hp).trans h1, hd, (World.cell?_of_block (a := ⟨p, 0, none⟩) hp).trans h2,
    h3.keep hg.size fun g hl hgs => hg.block g hgs (by intro e; injection e with e; omega)⟩
theorem PackIs.new (w : World) (t : TypeId) : PackIs (w.alloc (.cells #[.pointer none] t)) w.heap.size (w.heap.size + 1) [] := by
  refine ⟨by omega, by simp, ?_, none, ?_, rfl⟩
  · simp [World.frozen?_alloc_at]
  · rw [World.cell?_alloc_at _ _ _ _ rfl]; rfl
/-- the bound may be raised while the Pack is empty -/
theorem PackIs.raise {w : World} {p L L' : Nat} (h : PackIs w p L []) (hl : L ≤ L') (hs : L' ≤ w.heap.size) : PackIs w p L' [] := by
  obtain ⟨h0, _, h1, hd, h2, h3⟩ := h
  exact ⟨by omega, hs, h1, hd, h2, h3⟩

def PutWorld (w : World) (p : Nat) (h : Option Addr) (s : ByteArray) : World :=
  (w.setCell ⟨p, 0, none⟩ (.pointer (some ⟨w.heap.size, 0, none⟩))).alloc (.cells #[.pointer h, .string s] 88)

theorem setCell_size (w : World) (a : Addr) (u : Value) : (w.setCell a u).heap.size = w.heap.size := by simp [World.setCell]
theorem put_block {w : World} {p : Nat} (h : Option Addr) (s : ByteArray) {k : Nat} (hk : k < w.heap.size) (hne : k ≠ p) : (PutWorld w p h s).heap[k]? = w.heap[k]? := by
  unfold PutWorld
  rw [Below.heap_alloc _ _ k (by rw [setCell_size]; exact hk)]
  exact Below.heap_setCell _ _ _ k hne
theorem grownBy_put {w : World} {p : Nat} (h : Option Addr) (s : ByteArray) : w.grownBy (PutWorld w p h s) (some p) :=
  ⟨rfl, rfl, rfl, by unfold PutWorld; simp [World.setCell], fun k hk hne => put_block h s hk (by intro e; exact hne (by rw [e]))⟩
theorem PackIs.put {w : World} {p L : Nat} {h : Option Addr} {s : ByteArray} {parts : List ByteArray} (hl : p < L) (hL : L ≤ w.heap.size) (h1 : w.frozen? ⟨p, 0, none⟩ = false) (h2 : w.cell? ⟨p, 0, none⟩ = some (.pointer h))
    (h3 : Chain w L h parts) (hs : 0 < s.size) : PackIs (PutWorld w p h s) p L (s :: parts) := by
  have h0 : p < w.heap.size := by omega
  have hsz : (PutWorld w p h s).heap.size = w.heap.size + 1 := by unfold PutWorld; simp [World.setCell]
  have hold : ∀ a : Addr, a.block < w.heap.size → (PutWorld w p h s).cell? a = (w.setCell ⟨p, 0, none⟩ (.pointer (some ⟨w.heap.size, 0, none⟩))).cell? a := fun a ha =>
    World.cell?_of_block (Below.heap_alloc _ _ _ (by rw [setCell_size]; exact ha))
  have hnew : ∀ j, (PutWorld w p h s).cell? ⟨w.heap.size, j, none⟩ = (#[.pointer h, .string s] : Array Value)[j]? := fun j => by
    unfold PutWorld
    have e : w.heap.size = (w.setCell ⟨p, 0, none⟩ (.pointer (some ⟨w.heap.size, 0, none⟩))).heap.size := (setCell_size _ _ _).symm
    conv => lhs; arg 2; rw [e]
    exact World.cell?_alloc_at _ _ _ _ rfl
  refine ⟨hl, by omega, ?_, some ⟨w.heap.size, 0, none⟩, ?_, w.heap.size, h, rfl, by omega, by omega, ?_, ?_, hs, ?_⟩
  · have : (PutWorld w p h s).frozen? ⟨p, 0, none⟩ = (w.setCell ⟨p, 0, none⟩ (.pointer (some ⟨w.heap.size, 0, none⟩))).frozen? ⟨p, 0, none⟩ :=
      World.frozen?_of_block (Below.heap_alloc _ _ _ (by rw [setCell_size]; exact h0))
    rw [this, World.frozen?_setCell]
    exact h1
  · rw [hold _ h0]
    exact World.cell?_setCell_same _ _ _ h2
  · rw [hnew 0]; rfl
  · rw [hnew 1]; rfl
  · exact h3.keep (by omega) fun g hl hgs => put_block h s hgs (by omega)

theorem put_raw (p : Nat) (h : Option Addr) (s : ByteArray) (w : World) (hp : p < w.heap.size) (hc : w.cell? ⟨p, 0, none⟩ = some (.pointer h)) (hf : w.frozen? ⟨p, 0, none⟩ = false) :
    Calls Tryd.prog 36 #[.pointer (some ⟨p, 0, none⟩), .string s] w fun e w' => e = .returned (.tuple #[]) ∧ PutWorld w p h s = w' := by
  go_enter Tryd.func36, Tryd.ntmps36
  go_wp2
  go_end0
  exact ⟨rfl, rfl⟩
theorem put_nil (s : ByteArray) (w : World) :
    Calls Tryd.prog 36 #[.pointer none, .string s] w fun e w' => e = .returned (.tuple #[]) ∧ w = w' := by
  go_enter Tryd.func36, Tryd.ntmps36
  go_wp2
  go_end0
  exact ⟨rfl, rfl⟩
end Go.Proofs.YtndcmjgjecdgcaaDoor
