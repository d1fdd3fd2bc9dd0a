/- Package disk: of no disk nothing is done. -/
import Derived.Test.YtjlhnacdfpbchaaPlainKit
import Derived.Deep.DeepCutAuto
import Derived.Deep.QuietTactic
import Derived.BigQuiet
import Derived.IntWalk
namespace Go.Proofs.Ytjlhnacdfpbchaa
open Go.RowKit

set_option maxHeartbeats 1000000 in
theorem dread_nil (s : ByteArray) (w : World) :
    Calls Try.prog 12 #[.pointer none, .string s] w fun e w' => e = .returned (.tuple #[.string ⟨#[]⟩, .int .i64 41]) ∧ w = w' := by
  go_enter Try.func12, Try.ntmps12
  go_wp2
  first
    | (go_ret; exact ⟨rfl, rfl⟩)
    | (go_ret2; exact ⟨rfl, rfl⟩)
    | exact bodyPost_ret (v := .tuple #[.string ⟨#[]⟩, .int .i64 41]) (by simp [results, Try.results12, go_sem]) rfl ⟨rfl, rfl⟩
set_option maxHeartbeats 1000000 in
theorem dsync_nil (w : World) :
    Calls Try.prog 10 #[.pointer none] w fun e w' => e = .returned (.tuple #[]) ∧ w = w' := by
  go_enter Try.func10, Try.ntmps10
  go_wp2
  first
    | (go_ret; exact ⟨rfl, rfl⟩)
    | (go_ret2; exact ⟨rfl, rfl⟩)
    | exact bodyPost_ret (v := .tuple #[]) (by simp [results, Try.results10, go_sem]) rfl ⟨rfl, rfl⟩
set_option maxHeartbeats 1000000 in
theorem dcrash_nil (a b : Int) (w : World) :
    Calls Try.prog 11 #[.pointer none, .int .i64 a, .int .i64 b] w fun e w' => e = .returned (.tuple #[]) ∧ w = w' := by
  go_enter Try.func11, Try.ntmps11
  go_wp2
  first
    | (go_ret; exact ⟨rfl, rfl⟩)
    | (go_ret2; exact ⟨rfl, rfl⟩)
    | exact bodyPost_ret (v := .tuple #[]) (by simp [results, Try.results11, go_sem]) rfl ⟨rfl, rfl⟩
set_option maxHeartbeats 1000000 in
theorem dappend_nil (s t : ByteArray) (w : World) :
    Calls Try.prog 9 #[.pointer none, .string s, .string t] w fun e w' => e = .returned (.int .i64 2) ∧ w = w' := by
  go_enter Try.func9, Try.ntmps9
  go_wp2
  first
    | (go_ret; exact ⟨rfl, rfl⟩)
    | (go_ret2; exact ⟨rfl, rfl⟩)
    | exact bodyPost_ret (v := .int .i64 2) (by simp [results, Try.results9, go_sem]) rfl ⟨rfl, rfl⟩
set_option maxHeartbeats 1000000 in
theorem drename_nil (s t : ByteArray) (w : World) :
    Calls Try.prog 15 #[.pointer none, .string s, .string t] w fun e w' => e = .returned (.int .i64 2) ∧ w = w' := by
  go_enter Try.func15, Try.ntmps15
  go_wp2
  first
    | (go_ret; exact ⟨rfl, rfl⟩)
    | (go_ret2; exact ⟨rfl, rfl⟩)
    | exact bodyPost_ret (v := .int .i64 2) (by simp [results, Try.results15, go_sem]) rfl ⟨rfl, rfl⟩
set_option maxHeartbeats 1000000 in
theorem ddelete_nil (s : ByteArray) (w : World) :
    Calls Try.prog 17 #[.pointer none, .string s] w fun e w' => e = .returned (.int .i64 2) ∧ w = w' := by
  go_enter Try.func17, Try.ntmps17
  go_wp2
  first
    | (go_ret; exact ⟨rfl, rfl⟩)
    | (go_ret2; exact ⟨rfl, rfl⟩)
    | exact bodyPost_ret (v := .int .i64 2) (by simp [results, Try.results17, go_sem]) rfl ⟨rfl, rfl⟩
set_option maxHeartbeats 1000000 in
theorem dflip_nil (s : ByteArray) (a : Int) (w : World) :
    Calls Try.prog 20 #[.pointer none, .string s, .int .i64 a] w fun e w' => e = .returned (.int .i64 2) ∧ w = w' := by
  go_enter Try.func20, Try.ntmps20
  go_wp2
  first
    | (go_ret; exact ⟨rfl, rfl⟩)
    | (go_ret2; exact ⟨rfl, rfl⟩)
    | exact bodyPost_ret (v := .int .i64 2) (by simp [results, Try.results20, go_sem]) rfl ⟨rfl, rfl⟩
set_option maxHeartbeats 1000000 in
theorem dlist_nil (w : World) :
    Calls Try.prog 24 #[.pointer none] w fun e w' => e = .returned (.slice none 0 0) ∧ w = w' := by
  go_enter Try.func24, Try.ntmps24
  go_wp2
  first
    | (go_ret; exact ⟨rfl, rfl⟩)
    | (go_ret2; exact ⟨rfl, rfl⟩)
    | exact bodyPost_ret (v := .slice none 0 0) (by simp [results, Try.results24, go_sem]) rfl ⟨rfl, rfl⟩
set_option maxHeartbeats 1000000 in
theorem dused_nil (w : World) :
    Calls Try.prog 25 #[.pointer none] w fun e w' => e = .returned (.int .i64 0) ∧ w = w' := by
  go_enter Try.func25, Try.ntmps25
  go_wp2
  first
    | (go_ret; exact ⟨rfl, rfl⟩)
    | (go_ret2; exact ⟨rfl, rfl⟩)
    | exact bodyPost_ret (v := .int .i64 0) (by simp [results, Try.results25, go_sem]) rfl ⟨rfl, rfl⟩
set_option maxHeartbeats 1000000 in
theorem dpending_nil (w : World) :
    Calls Try.prog 27 #[.pointer none] w fun e w' => e = .returned (.int .i64 0) ∧ w = w' := by
  go_enter Try.func27, Try.ntmps27
  go_wp2
  first
    | (go_ret; exact ⟨rfl, rfl⟩)
    | (go_ret2; exact ⟨rfl, rfl⟩)
    | exact bodyPost_ret (v := .int .i64 0) (by simp [results, Try.results27, go_sem]) rfl ⟨rfl, rfl⟩
end Go.Proofs.Ytjlhnacdfpbchaa
