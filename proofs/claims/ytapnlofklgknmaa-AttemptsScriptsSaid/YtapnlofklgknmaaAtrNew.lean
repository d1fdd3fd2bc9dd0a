/- The reference's board of attempts: Clamp, New, Start. -/
import Derived.Test.YtapnlofklgknmaaAtrMay
import Derived.Test.YtapnlofklgknmaaAtmFn
namespace Go.Proofs.Ytapnlofklgknmaa
open Go.RowKit

theorem rclamp_any (n a b : Int) (hab : a ≤ b) (w : World) : Calls Try.prog 32 #[.int .i64 n, .int .i64 a, .int .i64 b] w fun e w' => e = .returned (.int .i64 (min (max n a) b)) ∧ w = w' := by
  rcases Int.lt_or_le n a with h | h
  · rw [show min (max n a) b = a by omega]
    go_enter Try.func32, Try.ntmps32
    go_wp2
    go_ret
    exact ⟨rfl, rfl⟩
  · rcases Int.lt_or_le b n with h2 | h2
    · rw [show min (max n a) b = b by omega]
      go_enter Try.func32, Try.ntmps32
      go_wp2
      go_ret
      exact ⟨rfl, rfl⟩
    · rw [show min (max n a) b = n by omega]
      go_enter Try.func32, Try.ntmps32
      go_wp2
      go_ret
      exact ⟨rfl, rfl⟩
theorem cnt_clamp (n : Int) : min (max n 0) 4096 = (cnt n : Int) := by unfold cnt; omega
set_option maxHeartbeats 4000000 in
theorem rnew_any (ma re li pa : Int) (w : World) :
    Calls Try.prog 10 #[.int .i64 ma, .int .i64 re, .int .i64 li, .int .i64 pa] w fun e w' => ∃ p, e = .returned (.pointer (some ⟨p, 0, none⟩)) ∧ RB w.heap.size w' p (cnt ma) (cnt re) (max li 1) (min (max pa 1) 1099511627776) [] (.slice none 0 0) ∧ Below w.heap.size w w' := by
  rcases Int.lt_or_le li 1 with h | h
  · rw [show max li 1 = 1 by omega]
    go_enter Try.func10, Try.ntmps10
    go_wp2_with (fail)
    refine (rclamp_any ma 0 4096 (by decide) w).mono ?_
    rintro e w1 ⟨rfl, rfl⟩
    rw [cnt_clamp]
    go_wp2_with (fail)
    refine (rclamp_any re 0 4096 (by decide) _).mono ?_
    rintro e w1 ⟨rfl, rfl⟩
    rw [cnt_clamp]
    go_wp2_with (fail)
    refine (rclamp_any pa 1 1099511627776 (by decide) _).mono ?_
    rintro e w1 ⟨rfl, rfl⟩
    go_wp2
    go_ret
    exact ⟨_, rfl, ⟨World.ownsRow_lit _ #[_, _, _, _, _] 1 (Nat.le_refl _) (by unfold maxLen; omega) rfl, World.ownsRow_nil _ _ _ _⟩, (Below.refl _ _).alloc (Nat.le_refl _) _⟩
  · rw [show max li 1 = li by omega]
    go_enter Try.func10, Try.ntmps10
    go_wp2_with (fail)
    refine (rclamp_any ma 0 4096 (by decide) w).mono ?_
    rintro e w1 ⟨rfl, rfl⟩
    rw [cnt_clamp]
    go_wp2_with (fail)
    refine (rclamp_any re 0 4096 (by decide) _).mono ?_
    rintro e w1 ⟨rfl, rfl⟩
    rw [cnt_clamp]
    go_wp2_with (fail)
    refine (rclamp_any pa 1 1099511627776 (by decide) _).mono ?_
    rintro e w1 ⟨rfl, rfl⟩
    go_wp2
    go_ret
    exact ⟨_, rfl, ⟨World.ownsRow_lit _ #[_, _, _, _, _] 1 (Nat.le_refl _) (by unfold maxLen; omega) rfl, World.ownsRow_nil _ _ _ _⟩, (Below.refl _ _).alloc (Nat.le_refl _) _⟩
def ofP (x : Int) (u : Tr) : Bool := decide (u.t = x)
def numL (x : Int) (L : List Tr) : Nat := L.countP (ofP x)
theorem num_take (x : Int) (L : List Tr) (i : Nat) (hi : i < L.length) : numL x (L.take (i + 1)) = numL x (L.take i) + (if ofP x L[i] = true then 1 else 0) := by
  unfold numL
  rw [List.take_add_one, List.getElem?_eq_getElem hi, List.countP_append]
  simp [List.countP_cons]
theorem num_le (x : Int) (L : List Tr) : numL x L ≤ L.length := List.countP_le_length
def okS (m r : Nat) (lim : Int) (L : List Tr) (x : Int) : Bool := decide (0 ≤ x) && (decide (x < (m : Int) + (r : Int)) && (!deadL m r lim L && mayL m L x))
section
variable {B : Nat} {w : World} {p : Nat} {m r : Nat} {lim pat : Int} {L : List Tr} {v : Value}
set_option maxHeartbeats 8000000 in
theorem rstart_no (h : Hid (RB B w p m r lim pat L v)) (hl : L.length ≤ 4398046511104) (hm : m ≤ 4096) (hr : r ≤ 4096) (x nd now : Int) (hno : okS m r lim L x = false) :
    Calls Try.prog 12 #[.pointer (some ⟨p, 0, none⟩), .int .i64 x, .int .i64 nd, .int .i64 now] w fun e w' => e = .returned (.int .i64 0) ∧ ∃ q, w' = w.drewN q := by
  have c0 := h.out.cells.1
  have c1 := h.out.cells.2.1
  have hw1 : IntKind.i64.wrap ((m : Int) + (r : Int)) = (m : Int) + (r : Int) := IntWalk.i64_in _ (by omega)
  have hD : ∀ q, Calls Try.prog 25 #[.pointer (some ⟨p, 0, none⟩)] (w.drewN q) fun e w'' => e = .returned (.bool (deadL m r lim L)) ∧ ∃ n, w'' = w.drewN n := fun q => (rdead_any (Lib.hid (h.out.below (bel_drew w q))) hl hm hr).mono fun e w'' ⟨a, n, b⟩ => ⟨a, q + n, by rw [b, World.drewN_drewN]⟩
  have hM : ∀ q, Calls Try.prog 35 #[.pointer (some ⟨p, 0, none⟩), .int .i64 x] (w.drewN q) fun e w'' => e = .returned (.bool (mayL m L x)) ∧ ∃ n, w'' = w.drewN n := fun q => (rmay_any (Lib.hid (h.out.below (bel_drew w q))) hl hm x).mono fun e w'' ⟨a, b⟩ => ⟨a, q, b.symm⟩
  obtain ⟨d, hd⟩ : ∃ d, d = deadL m r lim L := ⟨_, rfl⟩
  obtain ⟨y, hy⟩ : ∃ y, y = mayL m L x := ⟨_, rfl⟩
  unfold okS at hno
  rw [← hd] at hD hno
  rw [← hy] at hM hno
  have HD := Lib.hid hD
  have HM := Lib.hid hM
  clear hd hy hD hM
  by_cases h0 : x < 0
  · clear hno
    go_enter Try.func12, Try.ntmps12
    go_wp2_with (fail)
    go_quiet (fail)
    go_wp2
    go_ret
    exact ⟨rfl, _, rfl⟩
  · by_cases h1 : (m : Int) + (r : Int) ≤ x
    · clear hno
      go_enter Try.func12, Try.ntmps12
      go_wp2_with (fail)
      go_quiet (fail)
      go_wp2
      go_ret
      exact ⟨rfl, _, rfl⟩
    · rw [decide_eq_true (by omega : 0 ≤ x), decide_eq_true (by omega : x < (m : Int) + (r : Int)), Bool.true_and, Bool.true_and] at hno
      cases d
      · have hy : y = false := by simpa using hno
        subst hy
        clear hno
        go_enter Try.func12, Try.ntmps12
        go_wp2_with (fail)
        go_quiet (first | exact HD.out _ | exact HM.out _)
        go_wp2
        go_ret
        exact ⟨rfl, _, rfl⟩
      · clear hno
        go_enter Try.func12, Try.ntmps12
        go_wp2_with (fail)
        go_quiet (first | exact HD.out _ | exact HM.out _)
        go_wp2
        go_ret
        exact ⟨rfl, _, rfl⟩
end
end Go.Proofs.Ytapnlofklgknmaa
