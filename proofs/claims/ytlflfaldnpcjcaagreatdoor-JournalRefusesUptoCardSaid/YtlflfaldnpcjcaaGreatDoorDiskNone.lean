/- Package disk: of no disk nothing is done. -/
import Derived.Test.YtlflfaldnpcjcaaGreatDoorPlainKit
import Derived.Deep.DeepCutAuto
import Derived.Deep.QuietTactic
import Derived.BigQuiet
import Derived.IntWalk
namespace Go.Proofs.YtlflfaldnpcjcaaGreatDoor
open Go.RowKit

set_option maxHeartbeats 1000000 in
theorem dread_nil (s : ByteArray) (w : World) :
    Calls Tryz.prog 15 #[.pointer none, .string s] w fun e w' => e = .returned (.tuple #[.string ⟨#[]⟩, .int .i64 41]) ∧ w = w' := by
  go_enter Tryz.func15, Tryz.ntmps15
  go_wp2
  first
    | (go_ret; exact ⟨rfl, rfl⟩)
    | (go_ret2; exact ⟨rfl, rfl⟩)
    | exact bodyPost_ret (v := .tuple #[.string ⟨#[]⟩, .int .i64 41]) (by simp [results, Tryz.results15, go_sem]) rfl ⟨rfl, rfl⟩
set_option maxHeartbeats 1000000 in
theorem dsync_nil (w : World) :
    Calls Tryz.prog 26 #[.pointer none] w fun e w' => e = .returned (.tuple #[]) ∧ w = w' := by
  go_enter Tryz.func26, Tryz.ntmps26
  go_wp2
  first
    | (go_ret; exact ⟨rfl, rfl⟩)
    | (go_ret2; exact ⟨rfl, rfl⟩)
    | exact bodyPost_ret (v := .tuple #[]) (by simp [results, Tryz.results26, go_sem]) rfl ⟨rfl, rfl⟩
set_option maxHeartbeats 1000000 in
theorem dcrash_nil (a b : Int) (w : World) :
    Calls Tryz.prog 11 #[.pointer none, .int .i64 a, .int .i64 b] w fun e w' => e = .returned (.tuple #[]) ∧ w = w' := by
  go_enter Tryz.func11, Tryz.ntmps11
  go_wp2
  first
    | (go_ret; exact ⟨rfl, rfl⟩)
    | (go_ret2; exact ⟨rfl, rfl⟩)
    | exact bodyPost_ret (v := .tuple #[]) (by simp [results, Tryz.results11, go_sem]) rfl ⟨rfl, rfl⟩
set_option maxHeartbeats 1000000 in
theorem dappend_nil (s t : ByteArray) (w : World) :
    Calls Tryz.prog 24 #[.pointer none, .string s, .string t] w fun e w' => e = .returned (.int .i64 2) ∧ w = w' := by
  go_enter Tryz.func24, Tryz.ntmps24
  go_wp2
  first
    | (go_ret; exact ⟨rfl, rfl⟩)
    | (go_ret2; exact ⟨rfl, rfl⟩)
    | exact bodyPost_ret (v := .int .i64 2) (by simp [results, Tryz.results24, go_sem]) rfl ⟨rfl, rfl⟩
set_option maxHeartbeats 1000000 in
theorem drename_nil (s t : ByteArray) (w : World) :
    Calls Tryz.prog 47 #[.pointer none, .string s, .string t] w fun e w' => e = .returned (.int .i64 2) ∧ w = w' := by
  go_enter Tryz.func47, Tryz.ntmps47
  go_wp2
  first
    | (go_ret; exact ⟨rfl, rfl⟩)
    | (go_ret2; exact ⟨rfl, rfl⟩)
    | exact bodyPost_ret (v := .int .i64 2) (by simp [results, Tryz.results47, go_sem]) rfl ⟨rfl, rfl⟩
set_option maxHeartbeats 1000000 in
theorem ddelete_nil (s : ByteArray) (w : World) :
    Calls Tryz.prog 29 #[.pointer none, .string s] w fun e w' => e = .returned (.int .i64 2) ∧ w = w' := by
  go_enter Tryz.func29, Tryz.ntmps29
  go_wp2
  first
    | (go_ret; exact ⟨rfl, rfl⟩)
    | (go_ret2; exact ⟨rfl, rfl⟩)
    | exact bodyPost_ret (v := .int .i64 2) (by simp [results, Tryz.results29, go_sem]) rfl ⟨rfl, rfl⟩
set_option maxHeartbeats 1000000 in
theorem dflip_nil (s : ByteArray) (a : Int) (w : World) :
    Calls Tryz.prog 14 #[.pointer none, .string s, .int .i64 a] w fun e w' => e = .returned (.int .i64 2) ∧ w = w' := by
  go_enter Tryz.func14, Tryz.ntmps14
  go_wp2
  first
    | (go_ret; exact ⟨rfl, rfl⟩)
    | (go_ret2; exact ⟨rfl, rfl⟩)
    | exact bodyPost_ret (v := .int .i64 2) (by simp [results, Tryz.results14, go_sem]) rfl ⟨rfl, rfl⟩
set_option maxHeartbeats 1000000 in
theorem dlist_nil (w : World) :
    Calls Tryz.prog 16 #[.pointer none] w fun e w' => e = .returned (.slice none 0 0) ∧ w = w' := by
  go_enter Tryz.func16, Tryz.ntmps16
  go_wp2
  first
    | (go_ret; exact ⟨rfl, rfl⟩)
    | (go_ret2; exact ⟨rfl, rfl⟩)
    | exact bodyPost_ret (v := .slice none 0 0) (by simp [results, Tryz.results16, go_sem]) rfl ⟨rfl, rfl⟩
set_option maxHeartbeats 1000000 in
theorem dpending_nil (w : World) :
    Calls Tryz.prog 17 #[.pointer none] w fun e w' => e = .returned (.int .i64 0) ∧ w = w' := by
  go_enter Tryz.func17, Tryz.ntmps17
  go_wp2
  first
    | (go_ret; exact ⟨rfl, rfl⟩)
    | (go_ret2; exact ⟨rfl, rfl⟩)
    | exact bodyPost_ret (v := .int .i64 0) (by simp [results, Tryz.results17, go_sem]) rfl ⟨rfl, rfl⟩
end Go.Proofs.YtlflfaldnpcjcaaGreatDoor
