/- Points as they come in, alone and in a list: their cells, what they may hold. -/
import Derived.Test.YtjjmflkdfgneoaaPlainKit
import Derived.Test.YtjjmflkdfgneoaaWhereFnsF
import Derived.Deep.Slices
import Derived.Deep.Fields
import Derived.ChangeSame
namespace Go.Proofs.Ytjjmflkdfgneoaa
open Go.RowKit Go.ChangeShapes Go.WideShapes Go.Deep

structure Pnt where
  x : Int
  y : Int
  raw : Bool
def Pnt.val (p : Pnt) : Value := .agg #[.int .i64 p.x, .int .i64 p.y, .bool p.raw]
def numA (x : Int) : Bool → Nat
  | true => numW x
  | false => floatOfInt .f64 x
def Pnt.re (p : Pnt) : Nat := numA p.x p.raw
def Pnt.im (p : Pnt) : Nat := numA p.y p.raw
noncomputable def Pnt.plc (p : Pnt) : Option (Int × Int) := Go.Proofs.Ytjjmflkdfgneoaa.plc p.re p.im
theorem number_any (p : Pnt) (w : World) :
    Calls Try.prog 7 #[.agg #[.int .i64 p.x, .int .i64 p.y, .bool p.raw]] w fun e w' => e = .returned (.complex .f64 p.re p.im) ∧ Below w.heap.size w w' := by
  obtain ⟨x, y, raw⟩ := p
  cases raw
  · exact number_plain x y w
  · exact number_raw x y w
/-- one point's reading: its three cells, its datum -/
theorem point_of {H : Type} {enc : TypeId × Value → H} {w : World} {base n : Nat} {spare : Nat → Bool} {held : Bool} {cs : List Value} {d : DataW H} {p : List MemPlace}
    (h : DataW.trod enc Try.prog w base spare held n 23 cs = some (d, p)) :
    ∃ x : Pnt, cs = [.int .i64 x.x, .int .i64 x.y, .bool x.raw] := by
  obtain ⟨ys, m, _, hx, hlen, hyl, hf⟩ := DataW.trod_struct Try.underlying23 h
  have c3 : Try.prog.cellsOf 3 = 1 := by kernel_rfl
  have c4 : Try.prog.cellsOf 4 = 1 := by kernel_rfl
  have c29 : Try.prog.cellsOf 23 = 3 := by kernel_rfl
  rw [c29] at hlen
  match cs, hlen, ys, hyl with
  | [v0, v1, v2], _, [y0, y1, y2], _ =>
    have g0 : DataW.trod enc Try.prog w base spare held m 3 [v0] = some y0 := by have := hf 0 _ rfl; simpa [c3] using this
    have g1 : DataW.trod enc Try.prog w base spare held m 3 [v1] = some y1 := by have := hf 1 _ rfl; simpa [c3] using this
    have g2 : DataW.trod enc Try.prog w base spare held m 4 [v2] = some y2 := by have := hf 2 _ rfl; simpa [c4] using this
    obtain ⟨k, e0, rfl, wk⟩ := DataW.trod_int Try.underlying3 g0
    obtain ⟨i, e1, rfl, wi⟩ := DataW.trod_int Try.underlying3 g1
    obtain ⟨b, e2, rfl⟩ := DataW.trod_bool Try.underlying4 g2
    simp only [List.cons.injEq, and_true] at e0 e1 e2
    subst e0 e1 e2
    exact ⟨⟨k, i, b⟩, rfl⟩
theorem open_point {H : Type} {enc : TypeId × Value → H} {W : World} {base : Nat} {v : Value} {d : DataW H} {p : List MemPlace}
    (hv : Value.okWide Try.prog W .any base 23 v) (h : DataW.Trod enc Try.prog W 0 (fun _ => true) true 23 v d p) : ∃ x : Pnt, v = .agg #[.int .i64 x.x, .int .i64 x.y, .bool x.raw] := by
  obtain ⟨cs, rfl, hsz⟩ := okWide_struct Try.underlying23 hv
  obtain ⟨fuel, hf⟩ := h
  obtain ⟨x, hx⟩ := point_of hf
  refine ⟨x, ?_⟩
  have : cs.toList = [.int .i64 x.x, .int .i64 x.y, .bool x.raw] := hx
  congr 1
  apply Array.ext'
  exact this
end Go.Proofs.Ytjjmflkdfgneoaa
