/- Pairs of numbers as they come in; the law's points: the complex numbers of a list of pairs. -/
import Derived.Test.YtilobnplmkmmpaaPlnPick
import Derived.Test.YtilobnplmkmmpaaLawEnd
import Derived.OwnWalk
import Derived.Deep.RegionLaw
import Derived.Deep.AppendLies
import Derived.Laws.OwnMore
import Derived.Laws.AppendOwnNone
import Derived.WalkLawsBesides
import Derived.Lib.Hide
namespace Go.Proofs.Ytilobnplmkmmpaa
open Go.RowKit Go.ChangeShapes Go.WideShapes

abbrev Pr := Int × Int
/-- the slice value holds the pairs it 0, it 1, .., all of them below B -/
def Prs (w : World) (B : Nat) (A : Option Addr) (len : Nat) (it : Nat → Pr) : Prop :=
  ∀ i, i < len → ∃ b off, A = some ⟨b, off, none⟩ ∧ b < B ∧ w.cell? ⟨b, off + i * 2, none⟩ = some (.int .i64 (it i).1) ∧ w.cell? ⟨b, off + i * 2 + 1, none⟩ = some (.int .i64 (it i).2)
theorem Prs.below {w w' : World} {B : Nat} {A : Option Addr} {n : Nat} {it : Nat → Pr} (h : Prs w B A n it) (hb : Below B w w') : Prs w' B A n it := fun i hi => by
  obtain ⟨b, off, e, hB, h1, h2⟩ := h i hi
  exact ⟨b, off, e, hB, (hb.cell (p := ⟨b, _, none⟩) hB).trans h1, (hb.cell (p := ⟨b, _, none⟩) hB).trans h2⟩
theorem Prs.up {w : World} {B B' : Nat} {A : Option Addr} {n : Nat} {it : Nat → Pr} (h : Prs w B A n it) (hb : B ≤ B') : Prs w B' A n it := fun i hi => by
  obtain ⟨b, off, e, hB, h1⟩ := h i hi
  exact ⟨b, off, e, by omega, h1⟩
noncomputable def cxP (p : Pr) : Value := .complex .f64 (floatOfInt .f64 p.1) (floatOfInt .f64 p.2)
noncomputable def cxL (it : Nat → Pr) (n : Nat) : List Value := (List.range n).map fun i => cxP (it i)
theorem cxL_succ (it : Nat → Pr) (n : Nat) : cxL it (n + 1) = cxL it n ++ [.complex .f64 (floatOfInt .f64 (it n).1) (floatOfInt .f64 (it n).2)] := by unfold cxL; rw [List.range_succ, List.map_append]; rfl
theorem infoCpx : (Try.prog.info? 32).map (fun i => (i.zero, i.size, i.bytes)) = some (some (.complex .f64 0 0), 1, 16) := by kernel_rfl
theorem complex_run (x y : Nat) (w : World) : (Builtin.complex_ #[33, 33] 32 #[.float .f64 x, .float .f64 y]).run Try.prog w = .ok (.complex .f64 x y) w := by
  first
    | rfl
    | kernel_rfl
theorem step_complex {P : Program} {ops : Array Oper} {o : Oper} {a : Act} {w : World} {K : Act → World → Prop} {Q : Exit → Act → World → Prop} {E : Prop}
    (hg : o.guard = none) (s x : Operand) (t u : TypeId) (hop : o.op = Op.call { callee := Callee.builtin Builtin.complex, args := #[s, x], argTypes := #[t, u] })
    (v d : Value) (hs : a.eval s = v) (hx : a.eval x = d) (v' : Value) (hrun : (Builtin.complex_ #[t, u] o.type #[v, d]).run P w = .ok v' w)
    (hK : K (a.put o.dst v') w) :
    if Region.wanted o (yielded ops a.tmps) = true then Oper.wp P o a w K Q else E := by
  have hw : Region.wanted o (yielded ops a.tmps) = true := by simp [Region.wanted, hg]
  rw [if_pos hw]
  unfold Oper.wp
  simp [execOp, hop, resolve, invoke, builtin, hs, hx, hrun, Result.andThen]
  exact hK
end Go.Proofs.Ytilobnplmkmmpaa
