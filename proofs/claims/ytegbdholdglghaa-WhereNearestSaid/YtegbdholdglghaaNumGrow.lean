/- The law's number, as a call that only lays new memory; calls in a region that draws its order. -/
import Derived.Test.YtegbdholdglghaaNearIs
import Derived.Test.YtegbdholdglghaaNumbers
import Derived.BigQuiet
namespace Go.Proofs.Ytegbdholdglghaa
open Go.RowKit Go.Sort Go.Shelf

set_option maxHeartbeats 400000 in
theorem number_grown (p : Pnt) (w : World) :
    Calls Try.prog 10 #[.agg #[.int .i64 p.x, .int .i64 p.y, .bool p.raw]] w fun e w' => e = .returned (.complex .f64 p.re p.im) ∧ ∃ (q : Nat) (os' : Array Obj), w' = grow (w.drewN q) os' := by
  obtain ⟨x, y, raw⟩ := p
  cases raw
  · go_enter Try.func10, Try.ntmps10
    go_wp2
    go_ret
    exact ⟨rfl, 0, _, alloc_eq_grow _ _⟩
  · have C := fun (x : Int) (w : World) => word_conv x w
    have B := fun (x : Int) (w : World) => word_call x w
    go_enter Try.func10, Try.ntmps10
    go_wp2_with (fail)
    go_quiet (fail)
    go_wp2
    go_ret
    exact ⟨rfl, _, _, by rw [alloc_eq_grow]; rfl⟩
theorem number_gr (p : Pnt) (w : World) (m : Nat) (os : Array Obj) : Calls Try.prog 10 #[.agg #[.int .i64 p.x, .int .i64 p.y, .bool p.raw]] (grow (w.drewN m) os) fun e w' => e = .returned (.complex .f64 p.re p.im) ∧ ∃ q os', w' = grow ((grow (w.drewN m) os).drewN q) os' := number_grown p _
theorem quiet_gr {f : Nat} {args : Array Value} {v : Value} (h : ∀ w, Calls Try.prog f args w fun e w' => e = .returned v ∧ w = w') (w : World) (m : Nat) (os : Array Obj) : Calls Try.prog f args (grow (w.drewN m) os) fun e w' => e = .returned v ∧ ∃ q os', w' = grow ((grow (w.drewN m) os).drewN q) os' :=
  (h _).mono fun _ _ ⟨he, hw⟩ => ⟨he, 0, #[], by rw [← hw, grow_empty]; rfl⟩
theorem grown_below {w w' : World} {q : Nat} {os : Array Obj} (h : w' = grow (w.drewN q) os) : Below w.heap.size w w' := by
  subst h
  refine ⟨rfl, rfl, rfl, by show w.heap.size ≤ (w.heap ++ os).size; simp, fun k hk => ?_⟩
  show (w.heap ++ os)[k]? = w.heap[k]?
  exact Array.getElem?_append_left hk
theorem cell_gr {w : World} {a : Addr} {v : Value} (h : w.cell? a = some v) (n : Nat) (os : Array Obj) : (grow (w.drewN n) os).cell? a = some v := by
  refine grown_cell h ?_ n os
  rcases Nat.lt_or_ge a.block w.heap.size with hlt | hge
  · exact hlt
  · have h0 := World.cell?_spot h
    obtain ⟨b, off, spot⟩ := a
    have hspot : spot = none := h0
    subst hspot
    simp [World.cell?, Array.getElem?_eq_none hge] at h
end Go.Proofs.Ytegbdholdglghaa
