/- The contract of the laws' speaks: true. -/
import Derived.Test.YtlenmcfdoolgbaaDoorPathRefC
namespace Go.Proofs.YtlenmcfdoolgbaaDoor
open Go.RowKit

def sAB : ByteArray := ⟨#[47, 97, 47, 98]⟩
def sA : ByteArray := ⟨#[47, 97, 47]⟩
theorem pp_ab : Path.pp (Ls sAB) = some [[97], [98]] := by decide
theorem pp_a : Path.pp (Ls sA) = none := by decide
set_option maxHeartbeats 1000000 in
theorem speaks_any (w : World) : Calls Tryd.prog 8 #[] w fun e w' => e = .returned (.bool true) ∧ Below w.heap.size w w' := by
  have c1 := psplit_ok sAB [[97], [98]] w pp_ab
  have c2 := fun w => check_no sA w pp_a (by decide)
  unfold sAB at c1
  unfold sA at c2
  go_enter Tryd.func8, Tryd.ntmps8
  go_wp2_with (fail)
  refine c1.mono ?_
  rintro e w1 ⟨A, c, rfl, hn, hb⟩
  obtain ⟨b, off, rfl, _, h0⟩ := hn.txts 0 (by decide)
  obtain ⟨b', off', e, _, h1⟩ := hn.txts 1 (by decide)
  injection e with e; injection e with e1 e2
  subst e1 e2
  have g0 : w1.cell? ⟨b, off, none⟩ = some (.string ⟨#[97]⟩) := h0
  have g1 : w1.cell? ⟨b, off + 1, none⟩ = some (.string ⟨#[98]⟩) := h1
  clear h0 h1
  have HB := Lib.hid hb
  clear hb hn
  go_wp2_with (fail)
  refine (c2 w1).mono ?_
  rintro e w2 ⟨rfl, hb2⟩
  have HB2 := Lib.hid (HB.out.trans (hb2.mono HB.out.size))
  clear hb2
  go_wp2
  go_ret
  exact ⟨rfl, HB2.out⟩
end Go.Proofs.YtlenmcfdoolgbaaDoor
