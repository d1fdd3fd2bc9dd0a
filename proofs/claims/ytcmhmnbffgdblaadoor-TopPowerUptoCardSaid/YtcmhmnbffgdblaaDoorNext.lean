/- The contract of wire.Next. -/
import Derived.Test.YtcmhmnbffgdblaaDoorFrame
import Derived.Test.YtcmhmnbffgdblaaDoorCloneB
import Derived.Test.YtcmhmnbffgdblaaDoorQuiet
namespace Go.Proofs.YtcmhmnbffgdblaaDoor
open Go.RowKit

def un4 (r : List UInt8) : Nat := unfour (r.getD 0 0) (r.getD 1 0) (r.getD 2 0) (r.getD 3 0)
theorem un4_lt (r : List UInt8) : un4 r < 4294967296 := by
  unfold un4 unfour
  have := (r.getD 0 0).toNat_lt
  have := (r.getD 1 0).toNat_lt
  have := (r.getD 2 0).toNat_lt
  have := (r.getD 3 0).toNat_lt
  omega
/-- what stands at the beginning of r: the body, and the error -/
def nxAt (r : List UInt8) : List UInt8 × Int :=
  if r = [] then ([], 3) else if r.length < 8 then ([], 23) else
  if (Crc.sum (r.take 4)).toNat ≠ un4 (r.drop 4) ∨ 1048576 < un4 r then ([], 24) else
  if r.length < un4 r + 12 then ([], 23) else
  if (Crc.sum ((r.drop 8).take (un4 r))).toNat ≠ un4 (r.drop (8 + un4 r)) then ([], 24) else ((r.drop 8).take (un4 r), 0)
theorem getD_at (s : ByteArray) (i : Nat) (h : i < s.size) : s.data.toList.getD i 0 = s[i] := by
  have h' : i < s.data.toList.length := by simpa using h
  rw [List.getD_eq_getElem?_getD, List.getElem?_eq_getElem h']
  rfl
theorem from_un4 (s : ByteArray) (h : 4 ≤ s.size) (w : World) :
    Calls Tryd.prog 26 #[.string s] w fun e w' => e = .returned (.int .u32 (un4 s.data.toList : Nat)) ∧ ∃ n, w' = w.drewN n := by
  refine (from_any s h w).mono ?_
  rintro e w' ⟨rfl, hw⟩
  refine ⟨?_, hw⟩
  unfold un4
  rw [getD_at s 0 (by omega), getD_at s 1 (by omega), getD_at s 2 (by omega), getD_at s 3 (by omega)]
theorem rest_data' (s : ByteArray) (i : Nat) : (s.extract i s.size).data.toList = s.data.toList.drop i := by
  rw [Lib.extract_data, List.take_of_length_le]
  simp
def nxVal (b : List UInt8) (at_ e : Int) : Value := .tuple #[.string ⟨b.toArray⟩, .int .i64 at_, .int .i64 e]
set_option maxHeartbeats 4000000 in
theorem next_arg (s : ByteArray) (at_ : Int) (w : World) (h : at_ < 0 ∨ (s.size : Int) < at_) :
    Calls Tryd.prog 21 #[.string s, .int .i64 at_] w fun e w' => e = .returned (nxVal [] 0 2) ∧ w = w' := by
  by_cases h0 : at_ < 0
  · go_enter Tryd.func21, Tryd.ntmps21
    go_wp2
    go_ret3
    exact ⟨rfl, rfl⟩
  · have t1 : (s.size : Int) < at_ := by omega
    go_enter Tryd.func21, Tryd.ntmps21
    go_wp2
    go_ret3
    exact ⟨rfl, rfl⟩
set_option maxHeartbeats 4000000 in
theorem next_short (s : ByteArray) (a : Nat) (w : World) (ha : a ≤ s.size) (hs : s.size ≤ 140737488351232) (h : s.size - a < 8) :
    Calls Tryd.prog 21 #[.string s, .int .i64 (a : Int)] w fun e w' => e = .returned (nxVal [] 0 (if a = s.size then 3 else 23)) ∧ w = w' := by
  have hsz : (s.extract a s.size).size = s.size - a := by rw [ByteArray.size_extract]; omega
  by_cases h0 : a = s.size
  · have hE : Hid (a = s.size) := h0
    have t1 : (s.extract a s.size).toList.isEmpty = true := by
      rw [ByteArray.toList_eq]
      have : (s.extract a s.size).data.toList.length = 0 := by simp; omega
      rw [List.eq_nil_of_length_eq_zero this]; rfl
    clear h0
    go_enter Tryd.func21, Tryd.ntmps21
    go_wp2
    go_ret3
    exact ⟨rfl, rfl⟩
  · have hE : Hid (¬ a = s.size) := h0
    have t1 : (s.extract a s.size).toList.isEmpty = false := by
      rw [ByteArray.toList_eq]
      cases hc : (s.extract a s.size).data.toList with
      | nil => have := congrArg List.length hc; simp at this; omega
      | cons x r => rfl
    have t2 : ((s.extract a s.size).size : Int) < 8 := by omega
    clear h0
    go_enter Tryd.func21, Tryd.ntmps21
    go_wp2
    go_ret3
    exact ⟨rfl, rfl⟩
theorem below_drewN0 (w : World) (n : Nat) : Below w.heap.size w (w.drewN n) := ⟨rfl, rfl, rfl, Nat.le_refl _, fun _ _ => rfl⟩
theorem from_quiet (s : ByteArray) (h : 4 ≤ s.size) (w : World) (n : Nat) :
    Calls Tryd.prog 26 #[.string s] (w.drewN n) fun e w' => e = .returned (.int .u32 (un4 s.data.toList : Nat)) ∧ ∃ m, w' = w.drewN m := by
  refine (from_un4 s h (w.drewN n)).mono ?_
  rintro e w' ⟨rfl, m, rfl⟩
  exact ⟨rfl, n + m, World.drewN_drewN w n m⟩
def nxEnd (a : Nat) (r : List UInt8 × Int) : Value := nxVal r.1 (if r.2 = 0 then (a : Int) + r.1.length + 12 else 0) r.2
end Go.Proofs.YtcmhmnbffgdblaaDoor
