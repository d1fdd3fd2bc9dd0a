/- Package disk: of no disk nothing is done. -/
import Derived.Test.YtmlikkjahkdilaaGreatDoorPlainKit
import Derived.Deep.DeepCutAuto
import Derived.Deep.QuietTactic
import Derived.BigQuiet
import Derived.IntWalk
namespace Go.Proofs.YtmlikkjahkdilaaGreatDoor
open Go.RowKit

set_option maxHeartbeats 1000000 in
theorem dread_nil (s : ByteArray) (w : World) :
    Calls Tryz.prog 45 #[.pointer none, .string s] w fun e w' => e = .returned (.tuple #[.string ⟨#[]⟩, .int .i64 41]) ∧ w = w' := by
  go_enter Tryz.func45, Tryz.ntmps45
  go_wp2
  first
    | (go_ret; exact ⟨rfl, rfl⟩)
    | (go_ret2; exact ⟨rfl, rfl⟩)
    | exact bodyPost_ret (v := .tuple #[.string ⟨#[]⟩, .int .i64 41]) (by simp [results, Tryz.results45, go_sem]) rfl ⟨rfl, rfl⟩
set_option maxHeartbeats 1000000 in
theorem dsync_nil (w : World) :
    Calls Tryz.prog 21 #[.pointer none] w fun e w' => e = .returned (.tuple #[]) ∧ w = w' := by
  go_enter Tryz.func21, Tryz.ntmps21
  go_wp2
  first
    | (go_ret; exact ⟨rfl, rfl⟩)
    | (go_ret2; exact ⟨rfl, rfl⟩)
    | exact bodyPost_ret (v := .tuple #[]) (by simp [results, Tryz.results21, go_sem]) rfl ⟨rfl, rfl⟩
set_option maxHeartbeats 1000000 in
theorem dcrash_nil (a b : Int) (w : World) :
    Calls Tryz.prog 15 #[.pointer none, .int .i64 a, .int .i64 b] w fun e w' => e = .returned (.tuple #[]) ∧ w = w' := by
  go_enter Tryz.func15, Tryz.ntmps15
  go_wp2
  first
    | (go_ret; exact ⟨rfl, rfl⟩)
    | (go_ret2; exact ⟨rfl, rfl⟩)
    | exact bodyPost_ret (v := .tuple #[]) (by simp [results, Tryz.results15, go_sem]) rfl ⟨rfl, rfl⟩
set_option maxHeartbeats 1000000 in
theorem dappend_nil (s t : ByteArray) (w : World) :
    Calls Tryz.prog 28 #[.pointer none, .string s, .string t] w fun e w' => e = .returned (.int .i64 2) ∧ w = w' := by
  go_enter Tryz.func28, Tryz.ntmps28
  go_wp2
  first
    | (go_ret; exact ⟨rfl, rfl⟩)
    | (go_ret2; exact ⟨rfl, rfl⟩)
    | exact bodyPost_ret (v := .int .i64 2) (by simp [results, Tryz.results28, go_sem]) rfl ⟨rfl, rfl⟩
set_option maxHeartbeats 1000000 in
theorem drename_nil (s t : ByteArray) (w : World) :
    Calls Tryz.prog 31 #[.pointer none, .string s, .string t] w fun e w' => e = .returned (.int .i64 2) ∧ w = w' := by
  go_enter Tryz.func31, Tryz.ntmps31
  go_wp2
  first
    | (go_ret; exact ⟨rfl, rfl⟩)
    | (go_ret2; exact ⟨rfl, rfl⟩)
    | exact bodyPost_ret (v := .int .i64 2) (by simp [results, Tryz.results31, go_sem]) rfl ⟨rfl, rfl⟩
set_option maxHeartbeats 1000000 in
theorem ddelete_nil (s : ByteArray) (w : World) :
    Calls Tryz.prog 20 #[.pointer none, .string s] w fun e w' => e = .returned (.int .i64 2) ∧ w = w' := by
  go_enter Tryz.func20, Tryz.ntmps20
  go_wp2
  first
    | (go_ret; exact ⟨rfl, rfl⟩)
    | (go_ret2; exact ⟨rfl, rfl⟩)
    | exact bodyPost_ret (v := .int .i64 2) (by simp [results, Tryz.results20, go_sem]) rfl ⟨rfl, rfl⟩
set_option maxHeartbeats 1000000 in
theorem dflip_nil (s : ByteArray) (a : Int) (w : World) :
    Calls Tryz.prog 17 #[.pointer none, .string s, .int .i64 a] w fun e w' => e = .returned (.int .i64 2) ∧ w = w' := by
  go_enter Tryz.func17, Tryz.ntmps17
  go_wp2
  first
    | (go_ret; exact ⟨rfl, rfl⟩)
    | (go_ret2; exact ⟨rfl, rfl⟩)
    | exact bodyPost_ret (v := .int .i64 2) (by simp [results, Tryz.results17, go_sem]) rfl ⟨rfl, rfl⟩
set_option maxHeartbeats 1000000 in
theorem dlist_nil (w : World) :
    Calls Tryz.prog 16 #[.pointer none] w fun e w' => e = .returned (.slice none 0 0) ∧ w = w' := by
  go_enter Tryz.func16, Tryz.ntmps16
  go_wp2
  first
    | (go_ret; exact ⟨rfl, rfl⟩)
    | (go_ret2; exact ⟨rfl, rfl⟩)
    | exact bodyPost_ret (v := .slice none 0 0) (by simp [results, Tryz.results16, go_sem]) rfl ⟨rfl, rfl⟩
end Go.Proofs.YtmlikkjahkdilaaGreatDoor
