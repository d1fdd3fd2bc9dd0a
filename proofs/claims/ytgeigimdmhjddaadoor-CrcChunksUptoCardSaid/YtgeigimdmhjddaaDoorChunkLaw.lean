/- Chunks and Bad at every size, the program's and the reference's. -/
import Derived.Test.YtgeigimdmhjddaaDoorRefBad
namespace Go.Proofs.YtgeigimdmhjddaaDoor
open Go.RowKit

def bA (z : Int) (s : Txt) (len : Nat) (f : Nat → BitVec 32) : Int := if z < 1 then 0 else badG f len 0 (chA z.toNat s)
set_option maxHeartbeats 1000000 in
theorem rchunks_no (s : ByteArray) (z : Int) (w : World) (hz : z < 1) :
    Calls Tryd.prog 6 #[.string s, .int .i64 z] w fun e w' => e = .returned (.slice none 0 0) ∧ w = w' := by
  go_enter Tryd.func6, Tryd.ntmps6
  go_wp2
  go_ret
  exact ⟨rfl, rfl⟩
theorem rchunks_int (s : Txt) (z : Int) (hz : z ≤ 9223372036854775807) (hsz : s.1.size ≤ 1099511627776) (w : World) :
    Calls Tryd.prog 6 #[.string s.1, .int .i64 z] w (SumsPost w (chA z.toNat s)) := by
  by_cases h : z < 1
  · refine (rchunks_no s.1 z w h).mono ?_
    rintro e w' ⟨rfl, rfl⟩
    have e0 : chA z.toNat s = [] := chA_nil (by omega)
    rw [e0]
    exact ⟨none, 0, rfl, fun i hi => absurd hi (Nat.not_lt_zero _), (fun a e => by cases e), fun i hi => absurd hi (Nat.not_lt_zero _), Below.refl _ _⟩
  · obtain ⟨kn, rfl⟩ : ∃ kn : Nat, z = (kn : Int) := ⟨z.toNat, by omega⟩
    exact (rchunks_any s kn (by omega) (by omega) hsz w).mono fun _ _ ⟨_, he, ho, hb⟩ => by subst he; exact sums_of ho hb
set_option maxHeartbeats 1000000 in
theorem rbad_no (s : ByteArray) (z : Int) (A : Option Addr) (len cap : Nat) (w : World) (hz : z < 1) :
    Calls Tryd.prog 10 #[.string s, .int .i64 z, .slice A len cap] w fun e w' => e = .returned (.int .i64 0) ∧ w = w' := by
  go_enter Tryd.func10, Tryd.ntmps10
  go_wp2
  go_ret
  exact ⟨rfl, rfl⟩
theorem rbad_int (s : Txt) (z : Int) (hz : z ≤ 9223372036854775807) (hsz : s.1.size ≤ 1099511627776) (A : Option Addr) (len cap : Nat) (hlen : len ≤ 1099511627776) (f : Nat → BitVec 32) (w : World) (hS : SumsAt w w.heap.size A len f) :
    Calls Tryd.prog 10 #[.string s.1, .int .i64 z, .slice A len cap] w (BadPost w (bA z s len f)) := by
  unfold bA
  by_cases h : z < 1
  · rw [if_pos h]
    refine (rbad_no s.1 z A len cap w h).mono ?_
    rintro e w' ⟨rfl, rfl⟩
    exact ⟨rfl, Below.refl _ _⟩
  · rw [if_neg h]
    obtain ⟨kn, rfl⟩ : ∃ kn : Nat, z = (kn : Int) := ⟨z.toNat, by omega⟩
    exact rbad_any s kn (by omega) (by omega) hsz A len cap hlen f w hS
theorem bad_int (s : Txt) (z : Int) (hz : z ≤ 9223372036854775807) (hsz : s.1.size ≤ 1099511627776) (A : Option Addr) (len cap : Nat) (hlen : len ≤ 1099511627776) (f : Nat → BitVec 32) (w : World) (hh : Half w) (hS : SumsAt w w.heap.size A len f) :
    Calls Tryd.prog 9 #[.string s.1, .int .i64 z, .slice A len cap] w (BadPost w (bA z s len f)) := by
  unfold bA
  by_cases h : z < 1
  · rw [if_pos h]
    exact bad_no s.1 z A len cap w h
  · rw [if_neg h]
    exact bad_any s z z.toNat rfl (by omega) hz hsz A len cap hlen f w hh hS
end Go.Proofs.YtgeigimdmhjddaaDoor
