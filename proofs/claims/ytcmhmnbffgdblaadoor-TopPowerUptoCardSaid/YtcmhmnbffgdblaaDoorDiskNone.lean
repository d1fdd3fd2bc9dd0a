/- Package disk: of no disk nothing is done. -/
import Derived.Test.YtcmhmnbffgdblaaDoorPlainKit
import Derived.Deep.DeepCutAuto
import Derived.Deep.QuietTactic
import Derived.BigQuiet
import Derived.IntWalk
namespace Go.Proofs.YtcmhmnbffgdblaaDoor
open Go.RowKit

set_option maxHeartbeats 1000000 in
theorem dread_nil (s : ByteArray) (w : World) :
    Calls Tryd.prog 9 #[.pointer none, .string s] w fun e w' => e = .returned (.tuple #[.string ⟨#[]⟩, .int .i64 41]) ∧ w = w' := by
  go_enter Tryd.func9, Tryd.ntmps9
  go_wp2
  first
    | (go_ret; exact ⟨rfl, rfl⟩)
    | (go_ret2; exact ⟨rfl, rfl⟩)
    | exact bodyPost_ret (v := .tuple #[.string ⟨#[]⟩, .int .i64 41]) (by simp [results, Tryd.results9, go_sem]) rfl ⟨rfl, rfl⟩
set_option maxHeartbeats 1000000 in
theorem dsync_nil (w : World) :
    Calls Tryd.prog 7 #[.pointer none] w fun e w' => e = .returned (.tuple #[]) ∧ w = w' := by
  go_enter Tryd.func7, Tryd.ntmps7
  go_wp2
  first
    | (go_ret; exact ⟨rfl, rfl⟩)
    | (go_ret2; exact ⟨rfl, rfl⟩)
    | exact bodyPost_ret (v := .tuple #[]) (by simp [results, Tryd.results7, go_sem]) rfl ⟨rfl, rfl⟩
set_option maxHeartbeats 1000000 in
theorem dcrash_nil (a b : Int) (w : World) :
    Calls Tryd.prog 8 #[.pointer none, .int .i64 a, .int .i64 b] w fun e w' => e = .returned (.tuple #[]) ∧ w = w' := by
  go_enter Tryd.func8, Tryd.ntmps8
  go_wp2
  first
    | (go_ret; exact ⟨rfl, rfl⟩)
    | (go_ret2; exact ⟨rfl, rfl⟩)
    | exact bodyPost_ret (v := .tuple #[]) (by simp [results, Tryd.results8, go_sem]) rfl ⟨rfl, rfl⟩
set_option maxHeartbeats 1000000 in
theorem dappend_nil (s t : ByteArray) (w : World) :
    Calls Tryd.prog 5 #[.pointer none, .string s, .string t] w fun e w' => e = .returned (.int .i64 2) ∧ w = w' := by
  go_enter Tryd.func5, Tryd.ntmps5
  go_wp2
  first
    | (go_ret; exact ⟨rfl, rfl⟩)
    | (go_ret2; exact ⟨rfl, rfl⟩)
    | exact bodyPost_ret (v := .int .i64 2) (by simp [results, Tryd.results5, go_sem]) rfl ⟨rfl, rfl⟩
end Go.Proofs.YtcmhmnbffgdblaaDoor
