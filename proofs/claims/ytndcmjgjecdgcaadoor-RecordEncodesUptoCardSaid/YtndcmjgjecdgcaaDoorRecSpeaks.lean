/- The contract of the law's 'speaks': a small message. -/
import Derived.Test.YtndcmjgjecdgcaaDoorRecEnc
import Derived.Test.YtndcmjgjecdgcaaDoorLawEnd
namespace Go.Proofs.YtndcmjgjecdgcaaDoor
open Go.RowKit
set_option maxRecDepth 100000 in
set_option maxHeartbeats 4000000 in
theorem speaks9_any (w : World) (hS : Shp w) :
    Calls Tryd.prog 7 #[] w fun e w' => e = .returned (.bool true) ∧ Below w.heap.size w w' := by
  have HS := Lib.hid hS
  clear hS
  have hM : MsgAt (w.alloc (Obj.cells #[.string ⟨#[47]⟩] 9)) (w.alloc (Obj.cells #[.string ⟨#[47]⟩] 9)).heap.size none (some ⟨w.heap.size, 0, none⟩) [] [⟨#[47]⟩] := by
    refine ⟨fun i hi => absurd hi (by simp), fun i hi => ⟨w.heap.size, 0, rfl, by simp, ?_⟩, by simp, by simp, by simp, by simp; decide⟩
    match i, hi with
    | 0, _ => simp
    | i + 1, hi => simp at hi
  have HM := Lib.hid hM
  have henc : encL 2 1 2 [] [⟨#[47]⟩] = [4, 2, 4, 0, 2, 2, 47] := by decide +kernel
  have hes : encS 2 1 2 [] [⟨#[47]⟩] = ⟨#[4, 2, 4, 0, 2, 2, 47]⟩ := by unfold encS; rw [henc]
  have HE := Lib.hid hes
  have HL := Lib.hid henc
  have HV : validB 2 0 1 = true := by decide +kernel
  have HV2 := Lib.hid HV
  have e1 : (({ data := #[4, 2, 4, 0, 2, 2, 47] } : ByteArray).toList == ({ data := #[4, 2, 4, 0, 2, 2, 47] } : ByteArray).toList) = true := by simp
  clear hM henc hes HV
  go_enter Tryd.func7, Tryd.ntmps7
  go_wp2_with (fail)
  refine (encode_yes 2 1 2 none (some ⟨w.heap.size, 0, none⟩) 0 1 [] [⟨#[47]⟩] _ (HS.out.alloc _) HM.out HV2.out (by omega) (by omega) (by omega) (by rw [HL.out]; simp)).mono ?_
  rintro e w' ⟨rfl, hb⟩
  rw [HE.out]
  have BB := Lib.hid ((below_alloc w _).trans (hb.mono (by simp)))
  clear hb
  go_wp2
  go_ret
  exact ⟨rfl, by first | exact BB.out | exact below_drewN BB.out _⟩
end Go.Proofs.YtndcmjgjecdgcaaDoor
