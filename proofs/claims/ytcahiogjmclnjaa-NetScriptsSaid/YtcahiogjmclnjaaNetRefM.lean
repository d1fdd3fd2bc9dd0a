/- The reference's net: what each of its calls makes of it. -/
import Derived.Test.YtcahiogjmclnjaaNetRefN
import Derived.Test.YtcahiogjmclnjaaNetWayP
import Derived.Test.YtcahiogjmclnjaaAppFly
import Derived.Test.YtcahiogjmclnjaaNetActs
import Derived.Great.BuildSlice
import Derived.Great.Walk
namespace Go.Proofs.Ytcahiogjmclnjaa
open Go.RowKit

/-- the reference's net at q: the letters L, their list's value v, the ways that are cut -/
structure RN (w : World) (base q : Nat) (N sent : Int) (v : Value) (L : List Letr) (S : Int → Int → Bool) : Prop where
  lo : base ≤ q
  ty : Bears w q 53
  c0 : w.cell? ⟨q, 0, none⟩ = some (.int .i64 N)
  c1 : w.cell? ⟨q, 1, none⟩ = some (.int .i64 sent)
  c2 : w.cell? ⟨q, 2, none⟩ = some v
  fly : Fly w 39 4 base v L.length (cellsOf L)
  cut : ∀ a b : Nat, a < 64 → b < 64 → w.cell? ⟨q, 3 + a * 64 + b, none⟩ = some (.bool (S a b))
theorem free_of {w : World} {p : Nat} {e : TypeId} (h : Bears w p e) (i : Nat) : w.frozen? ⟨p, i, none⟩ = false := by
  obtain ⟨cs, h⟩ := h
  simp [World.frozen?, h]
section
variable {w w' : World} {base q : Nat} {N sent : Int} {v : Value} {L : List Letr} {S : Int → Int → Bool}
theorem RN.same (h : RN w base q N sent v L S) (e : w'.heap[q]? = w.heap[q]?) (hb : ∀ b, v.ownBlock = some b → w'.heap[b]? = w.heap[b]?) : RN w' base q N sent v L S :=
  ⟨h.lo, by obtain ⟨cs, k⟩ := h.ty; exact ⟨cs, e.trans k⟩, (cell_eq e 0).trans h.c0, (cell_eq e 1).trans h.c1, (cell_eq e 2).trans h.c2, h.fly.same hb, fun a b ha hb' => (cell_eq e _).trans (h.cut a b ha hb')⟩
theorem RN.below (h : RN w base q N sent v L S) (hb : Below w.heap.size w w') : RN w' base q N sent v L S := h.same (hb.block q h.ty.lt) (fun b hv => hb.block b (h.fly.lt b hv).2)
theorem RN.apart (h : RN w base q N sent v L S) (b : Nat) (hb : v.ownBlock = some b) : ¬ b = q := bears_apart (h.fly.ty b hb) h.ty (by decide)
theorem RN.is_slice (h : RN w base q N sent v L S) : ∃ a c, v = .slice a L.length c := by
  rcases h.fly.2 with ⟨h1, h2⟩ | ⟨g, o, cap, h1, _⟩
  · exact ⟨_, _, by rw [h1, h2]⟩
  · exact ⟨_, _, h1⟩
theorem RN.cell {k : Nat} {l : Letr} (h : RN w base q N sent v L S) (hk : L[k]? = some l) :
    ∃ g o cap, v = .slice (some ⟨g, o, none⟩) L.length cap ∧ g < w.heap.size ∧ w.cell? ⟨g, o + k * 4, none⟩ = some (.int .i64 l.id) ∧ w.cell? ⟨g, o + k * 4 + 1, none⟩ = some (.int .i64 l.a) ∧ w.cell? ⟨g, o + k * 4 + 2, none⟩ = some (.int .i64 l.b) ∧ w.cell? ⟨g, o + k * 4 + 3, none⟩ = some (.string l.s) := by
  have hkl := (List.getElem?_eq_some_iff.1 hk).1
  rcases h.fly.2 with ⟨_, h2⟩ | ⟨g, o, cap, h1, _, _, _, hr⟩
  · omega
  · refine ⟨g, o, cap, h1, hr.lt, ?_, ?_, ?_, ?_⟩
    · exact hr.cell (k * 4 + 0) _ (cellsOf_get L k l hk 0 (by omega))
    · exact hr.cell (k * 4 + 1) _ (cellsOf_get L k l hk 1 (by omega))
    · exact hr.cell (k * 4 + 2) _ (cellsOf_get L k l hk 2 (by omega))
    · exact hr.cell (k * 4 + 3) _ (cellsOf_get L k l hk 3 (by omega))
/-- a cell ahead of the ways, and the list behind a store into the net's cell -/
theorem RN.setSent (h : RN w base q N sent v L S) (x : Int) : RN (w.setCell ⟨q, 1, none⟩ (.int .i64 x)) base q N x v L S :=
  ⟨h.lo, bears_set _ h.ty, (World.cell?_setCell_other _ _ _ _ (by simp)).trans h.c0, World.cell?_setCell_same _ _ _ h.c1, (World.cell?_setCell_other _ _ _ _ (by simp)).trans h.c2,
    h.fly.same (fun b hb => Below.heap_setCell _ _ _ _ (h.apart b hb)), fun a b ha hb => (World.cell?_setCell_other _ _ _ _ (by intro e; injection e with _ e _; omega)).trans (h.cut a b ha hb)⟩
theorem RN.setFly {v' : Value} {L' : List Letr} (h : RN w base q N sent v L S) (hf : Fly w 39 4 base v' L'.length (cellsOf L')) : RN (w.setCell ⟨q, 2, none⟩ v') base q N sent v' L' S := by
  have hap : ∀ b, v'.ownBlock = some b → ¬ b = q := fun b hb => bears_apart (hf.ty b hb) h.ty (by decide)
  exact ⟨h.lo, bears_set _ h.ty, (World.cell?_setCell_other _ _ _ _ (by simp)).trans h.c0, (World.cell?_setCell_other _ _ _ _ (by simp)).trans h.c1, World.cell?_setCell_same _ _ _ h.c2,
    hf.same (fun b hb => Below.heap_setCell _ _ _ _ (hap b hb)), fun a b ha hb => (World.cell?_setCell_other _ _ _ _ (by intro e; injection e with _ e _; omega)).trans (h.cut a b ha hb)⟩
/-- one way more is cut, or mended, from one end -/
theorem RN.setCut (h : RN w base q N sent v L S) (a b : Nat) (ha : a < 64) (hb : b < 64) (c : Bool) : RN (w.setCell ⟨q, 3 + a * 64 + b, none⟩ (.bool c)) base q N sent v L (fun x y => if x = (a : Int) ∧ y = (b : Int) then c else S x y) := by
  refine ⟨h.lo, bears_set _ h.ty, (World.cell?_setCell_other _ _ _ _ (by intro e; injection e with _ e _; omega)).trans h.c0, (World.cell?_setCell_other _ _ _ _ (by intro e; injection e with _ e _; omega)).trans h.c1, (World.cell?_setCell_other _ _ _ _ (by intro e; injection e with _ e _; omega)).trans h.c2,
    h.fly.same (fun b' hb' => Below.heap_setCell _ _ _ _ (h.apart b' hb')), fun x y hx hy => ?_⟩
  by_cases e : x = a ∧ y = b
  · obtain ⟨rfl, rfl⟩ := e
    rw [World.cell?_setCell_same _ _ _ (h.cut x y hx hy)]
    simp
  · rw [World.cell?_setCell_other _ _ _ _ (by intro e'; injection e' with _ e' _; omega), h.cut x y hx hy, if_neg (by omega)]
end
/-- all blocks that were there stay but those of the reference's net -/
def RFr (w w' : World) : Prop := ∀ b, b < w.heap.size → ¬ Bears w b 53 → ¬ Bears w b 39 → w'.heap[b]? = w.heap[b]?
/-- the reference's net of the law's own -/
structure RNt (w0 w : World) (q : Nat) (N sent : Int) (L : List Letr) (S : Int → Int → Bool) : Prop where
  bel : Below w0.heap.size w0 w
  ex : ∃ v, RN w w0.heap.size q N sent v L S
/-- the post of a call -/
def RNP (w0 w : World) (q : Nat) (N sent : Int) (L : List Letr) (S : Int → Int → Bool) (r : Value) (e : Ending) (w' : World) : Prop := e = .returned r ∧ Hid (RNt w0 w' q N sent L S ∧ RFr w w')
section
variable {w0 w w' : World} {q : Nat} {N sent : Int} {v : Value} {L : List Letr} {S : Int → Int → Bool} {r : Value}
theorem rnp_same (h : Hid (RNt w0 w q N sent L S)) : RNP w0 w q N sent L S r (.returned r) w := ⟨rfl, Lib.hid ⟨h.out, fun _ _ _ _ => rfl⟩⟩
theorem RNt.below (h : RNt w0 w q N sent L S) (hb : Below w.heap.size w w') : RNt w0 w' q N sent L S := by
  obtain ⟨h1, v, h2⟩ := h
  exact ⟨h1.trans (hb.mono h1.size), v, h2.below hb⟩
theorem rnp_below (h : Hid (RNt w0 w q N sent L S)) (hb : Below w.heap.size w w') : RNP w0 w q N sent L S r (.returned r) w' := ⟨rfl, Lib.hid ⟨h.out.below hb, fun b hl _ _ => hb.block b hl⟩⟩
/-- behind a call that has turned the net's blocks and new ones alone -/
theorem rnp_tch {sent' : Int} {v' : Value} {L' : List Letr} {S' : Int → Int → Bool} (hb : Below w0.heap.size w0 w) (h : RN w w0.heap.size q N sent v L S) (k : RN w' w0.heap.size q N sent' v' L' S') (t : Tch w w' (fun i => i = q ∨ some i = v.ownBlock)) : RNP w0 w q N sent' L' S' r (.returned r) w' := by
  refine ⟨rfl, Lib.hid ⟨⟨t.from hb (fun i hi => ?_), v', k⟩, fun b hl hn1 hn2 => t.block b hl (fun hi => ?_)⟩⟩
  · rcases hi with rfl | hi
    · exact h.lo
    · exact (h.fly.lt i hi.symm).1
  · rcases hi with rfl | hi
    · exact hn1 h.ty
    · exact hn2 (h.fly.ty b hi.symm)
end
set_option maxHeartbeats 1000000 in
theorem node_any {w : World} {q : Nat} {N : Int} (k : Int) (hp : w.cell? ⟨q, 0, none⟩ = some (.int .i64 N)) :
    Calls Try.prog 24 #[.pointer (some ⟨q, 0, none⟩), .int .i64 k] w fun e w' => e = .returned (.bool (nodeB N k)) ∧ w = w' := by
  by_cases h0 : 0 ≤ k
  · by_cases h1 : k < N
    · have hA : nodeB N k = true := by simp [nodeB, h0, h1]
      have h1' : decide (k < N) = true := by simpa using h1
      rw [hA]
      go_enter Try.func24, Try.ntmps24
      go_wp2
      go_ret
      exact ⟨rfl, rfl⟩
    · have hA : nodeB N k = false := by simp [nodeB, h0, h1]
      have h1' : decide (k < N) = false := by simpa using h1
      rw [hA]
      go_enter Try.func24, Try.ntmps24
      go_wp2
      go_ret
      exact ⟨rfl, rfl⟩
  · have hA : nodeB N k = false := by simp [nodeB, h0]
    rw [hA]
    go_enter Try.func24, Try.ntmps24
    go_wp2
    go_ret
    exact ⟨rfl, rfl⟩
end Go.Proofs.Ytcahiogjmclnjaa
