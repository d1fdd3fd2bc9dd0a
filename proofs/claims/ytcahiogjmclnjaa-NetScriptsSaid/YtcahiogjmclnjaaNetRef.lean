/- Package net: what is refused, whatever the net carries. -/
import Derived.Test.YtcahiogjmclnjaaNetPut
namespace Go.Proofs.Ytcahiogjmclnjaa
open Go.RowKit

section
variable (base p : Nat) (N sent : Int) (cut v : Value) (L : List Letr) (w : World)
theorem has_any (g : Nat) (a b : Int) (hp : w.cell? ⟨p, 0, none⟩ = some (.int .i64 N)) (h0 : w.cell? ⟨g, 0, none⟩ = some (.int .i64 a)) (h1 : w.cell? ⟨g, 1, none⟩ = some (.int .i64 b)) (q : Bool) (hq : (nodeB N a && nodeB N b) = q) :
    Calls Try.prog 21 #[.pointer (some ⟨p, 0, none⟩), .slice (some ⟨g, 0, none⟩) 2 2] w fun e w' => e = .returned (.bool q) ∧ w = w' := by
  rw [← hq]
  exact has_two p g N a b w hp h0 h1
set_option maxHeartbeats 1000000 in
theorem send_arg (a b : Int) (s : ByteArray) (h : NetL w base p N sent cut v L) (hab : (nodeB N a && nodeB N b) = false) :
    Calls Try.prog 7 #[.pointer (some ⟨p, 0, none⟩), .int .i64 a, .int .i64 b, .string s] w fun e w' => e = .returned (.tuple #[.int .i64 0, .int .i64 2]) ∧ Below w.heap.size w w' := by
  have hb1 : Below w.heap.size w (w.alloc (.cells #[.int .i64 a, .int .i64 b] 3)) := (Below.refl _ w).alloc (Nat.le_refl _) _
  have hh := has_any p N _ w.heap.size a b (h.below hb1).at'.c0 (by simp) (by simp) false hab
  clear h hab
  go_enter Try.func7, Try.ntmps7
  go_wp2_with (fail)
  refine hh.mono ?_
  rintro e w' ⟨rfl, rfl⟩
  have HB := Lib.hid hb1
  clear hh hb1
  go_wp2
  go_ret2
  exact ⟨rfl, HB.out⟩
set_option maxHeartbeats 1000000 in
theorem send_long (a b : Int) (s : ByteArray) (h : NetL w base p N sent cut v L) (hab : (nodeB N a && nodeB N b) = true) (hs : ¬ s.size ≤ 1048576) :
    Calls Try.prog 7 #[.pointer (some ⟨p, 0, none⟩), .int .i64 a, .int .i64 b, .string s] w fun e w' => e = .returned (.tuple #[.int .i64 0, .int .i64 1]) ∧ Below w.heap.size w w' := by
  have hb1 : Below w.heap.size w (w.alloc (.cells #[.int .i64 a, .int .i64 b] 3)) := (Below.refl _ w).alloc (Nat.le_refl _) _
  have hh := has_any p N _ w.heap.size a b (h.below hb1).at'.c0 (by simp) (by simp) true hab
  have hs' : (1048576 : Int) < (s.size : Int) := by omega
  clear h hab hs
  go_enter Try.func7, Try.ntmps7
  go_wp2_with (fail)
  refine hh.mono ?_
  rintro e w' ⟨rfl, rfl⟩
  have HB := Lib.hid hb1
  clear hh hb1
  go_wp2
  go_ret2
  exact ⟨rfl, HB.out⟩
set_option maxHeartbeats 1000000 in
theorem send_full (a b : Int) (s : ByteArray) (h : NetL w base p N sent cut v L) (hab : (nodeB N a && nodeB N b) = true) (hs : s.size ≤ 1048576) (hL : 65536 ≤ L.length) :
    Calls Try.prog 7 #[.pointer (some ⟨p, 0, none⟩), .int .i64 a, .int .i64 b, .string s] w fun e w' => e = .returned (.tuple #[.int .i64 0, .int .i64 40]) ∧ Below w.heap.size w w' := by
  have hb1 : Below w.heap.size w (w.alloc (.cells #[.int .i64 a, .int .i64 b] 3)) := (Below.refl _ w).alloc (Nat.le_refl _) _
  have hh := has_any p N _ w.heap.size a b (h.below hb1).at'.c0 (by simp) (by simp) true hab
  have hs' : ¬ (1048576 : Int) < (s.size : Int) := by omega
  have hfu := full_any base p N sent cut v L _ (h.below hb1)
  rw [show decide ((65536 : Int) ≤ (L.length : Int)) = true by simp; omega] at hfu
  clear h hab hs hL
  go_enter Try.func7, Try.ntmps7
  go_wp2_with (fail)
  refine hh.mono ?_
  rintro e w' ⟨rfl, rfl⟩
  go_wp2_with (fail)
  refine hfu.mono ?_
  rintro e w' ⟨rfl, rfl⟩
  have HB := Lib.hid hb1
  clear hh hb1 hfu
  go_wp2
  go_ret2
  exact ⟨rfl, HB.out⟩
set_option maxHeartbeats 1000000 in
theorem double_arg (k : Int) (hk : ¬ (0 ≤ k ∧ k < (L.length : Int))) (h : NetL w base p N sent cut v L) :
    Calls Try.prog 13 #[.pointer (some ⟨p, 0, none⟩), .int .i64 k] w fun e w' => e = .returned (.int .i64 2) ∧ w = w' := by
  have hc := carries_any base p N sent cut v L k w h
  rw [show decide (0 ≤ k ∧ k < (L.length : Int)) = false by simpa using hk] at hc
  clear h hk
  go_enter Try.func13, Try.ntmps13
  go_wp2_with (fail)
  refine hc.mono ?_
  rintro e w' ⟨rfl, rfl⟩
  clear hc
  go_wp2
  go_ret
  exact ⟨rfl, rfl⟩
set_option maxHeartbeats 1000000 in
theorem double_full (k : Int) (hk : 0 ≤ k ∧ k < (L.length : Int)) (hL : 65536 ≤ L.length) (h : NetL w base p N sent cut v L) :
    Calls Try.prog 13 #[.pointer (some ⟨p, 0, none⟩), .int .i64 k] w fun e w' => e = .returned (.int .i64 40) ∧ w = w' := by
  have hc := carries_any base p N sent cut v L k w h
  rw [show decide (0 ≤ k ∧ k < (L.length : Int)) = true by simpa using hk] at hc
  have hfu := full_any base p N sent cut v L _ h
  rw [show decide ((65536 : Int) ≤ (L.length : Int)) = true by simp; omega] at hfu
  clear h hk hL
  go_enter Try.func13, Try.ntmps13
  go_wp2_with (fail)
  refine hc.mono ?_
  rintro e w' ⟨rfl, rfl⟩
  clear hc
  go_wp2_with (fail)
  refine hfu.mono ?_
  rintro e w' ⟨rfl, rfl⟩
  clear hfu
  go_wp2
  go_ret
  exact ⟨rfl, rfl⟩
set_option maxHeartbeats 1000000 in
theorem part_arg (a b : Int) (c : Bool) (h : NetL w base p N sent cut v L) (hab : (nodeB N a && nodeB N b) = false ∨ a = b) :
    Calls Try.prog 15 #[.pointer (some ⟨p, 0, none⟩), .int .i64 a, .int .i64 b, .bool c] w fun e w' => e = .returned (.int .i64 2) ∧ Below w.heap.size w w' := by
  have hb1 : Below w.heap.size w (w.alloc (.cells #[.int .i64 a, .int .i64 b] 3)) := (Below.refl _ w).alloc (Nat.le_refl _) _
  obtain ⟨q, hq⟩ : ∃ q, (nodeB N a && nodeB N b) = q := ⟨_, rfl⟩
  have hh := has_any p N _ w.heap.size a b (h.below hb1).at'.c0 (by simp) (by simp) q hq
  have HB := Lib.hid hb1
  cases q
  · clear h hab hb1 hq
    go_enter Try.func15, Try.ntmps15
    go_wp2_with (fail)
    refine hh.mono ?_
    rintro e w' ⟨rfl, rfl⟩
    clear hh
    go_wp2
    go_ret
    exact ⟨rfl, HB.out⟩
  · obtain rfl : a = b := by rcases hab with h | h <;> simp_all
    clear h hab hb1 hq
    go_enter Try.func15, Try.ntmps15
    go_wp2_with (fail)
    refine hh.mono ?_
    rintro e w' ⟨rfl, rfl⟩
    clear hh
    go_wp2
    go_ret
    exact ⟨rfl, HB.out⟩
end
end Go.Proofs.Ytcahiogjmclnjaa
