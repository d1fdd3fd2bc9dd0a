/- Package attempts: those that may begin and count. -/
import Derived.Test.YtapnlofklgknmaaAtmRd
import Derived.OwnWalk
import Derived.Laws.AppendOwnNone
import Derived.WalkLawsBesides
namespace Go.Proofs.Ytapnlofklgknmaa
open Go.RowKit

theorem infoInt : (Try.prog.info? 3).map (fun i => (i.zero, i.size, i.bytes)) = some (some (.int .i64 0), 1, 8) := by kernel_rfl
theorem one_new (w : World) (u : Value) (t : TypeId) : ∀ j y, [u][j]? = some y → (w.alloc (.cells #[u] t)).cell? ((⟨w.heap.size, 0, none⟩ : Addr).add j) = some y := by
  intro j y hj
  match j, hj with
  | 0, hj => simp at hj; subst hj; simp [Addr.add]
def intL (l : List Nat) : List Value := l.map fun (k : Nat) => .int .i64 (k : Int)
/-- the numbers below k that count -/
def thK (P : Nat → Bool) (k : Nat) : List Nat := (List.range k).filter P
section
variable {p tb : Nat} {w : World} {hs : Nat → Value} {b : Bd}
set_option maxRecDepth 100000 in
set_option maxHeartbeats 4000000 in
theorem those_1 {B : Nat} (h : Hid (RawAt B w p tb (rawB hs b))) (hn : b.n ≤ 8192) (lb : Array Value) (P : Nat → Bool) (HC : Hid (∀ W i, Below w.heap.size w W → i < b.n → Calls Try.prog 28 (#[.pointer (some ⟨tb, i * 5, none⟩)] ++ lb) W fun e w' => e = .returned (.bool (P i)) ∧ Below W.heap.size W w')) :
    Calls Try.prog 27 #[.pointer (some ⟨p, 0, none⟩), .func (.func 28) #[] lb] w fun e w' => ∃ v, e = .returned v ∧ w'.ownsRow w.heap.size 3 1 v (thK (fun i => mayR (rawB hs b) (i : Int) && P i) b.n).length (intL (thK (fun i => mayR (rawB hs b) (i : Int) && P i) b.n)) ∧ Below w.heap.size w w' := by
  obtain ⟨i0, hi, hz0, hz1, hz2⟩ := info_parts infoInt
  have c1 : w.cell? ⟨p, 1, none⟩ = some (.slice (some ⟨tb, 0, none⟩) b.n b.n) := h.out.c1
  go_enter Try.func27, Try.ntmps27
  go_wp2
  go_loopw [5, 12] (fun vo iv wr => ∃ k : Nat, k ≤ b.n ∧ iv = .int .i64 (k : Int) ∧ Hid (wr.ownsRow w.heap.size 3 1 vo (thK (fun i => mayR (rawB hs b) (i : Int) && P i) k).length (intL (thK (fun i => mayR (rawB hs b) (i : Int) && P i) k)) ∧ Below w.heap.size w wr)) (fun _ iv _ => b.n - (intOf iv).toNat)
  case atStart => exact ⟨0, Nat.zero_le _, rfl, Lib.hid ⟨World.ownsRow_nil _ _ _ _, Below.refl _ _⟩⟩
  case round =>
    obtain ⟨k, hk, rfl, HI⟩ := hrel
    by_cases hlt : k < b.n
    · have hm := may_any (Lib.hid (h.out.below HI.out.2)) (k : Int)
      have hp := HC.out _ k HI.out.2 hlt
      have c1r : wr.cell? ⟨p, 1, none⟩ = some (.slice (some ⟨tb, 0, none⟩) b.n b.n) := (h.out.below HI.out.2).c1
      cases hmk : mayR (rawB hs b) (k : Int)
      · have hsk : thK (fun i => mayR (rawB hs b) (i : Int) && P i) (k + 1) = thK (fun i => mayR (rawB hs b) (i : Int) && P i) k := by simp [thK, List.range_succ, hmk]
        rw [hmk] at hm
        clear hp
        go_wp2_with (fail)
        refine hm.mono ?_
        rintro e w' ⟨rfl, rfl⟩
        go_wp2
        go_roundw
        case rel => exact ⟨k + 1, by omega, by first | rfl | go_num, by rw [hsk]; exact HI⟩
        case measure => simp [intOf]; omega
      · rw [hmk] at hm
        cases hpk : P k
        · have hsk : thK (fun i => mayR (rawB hs b) (i : Int) && P i) (k + 1) = thK (fun i => mayR (rawB hs b) (i : Int) && P i) k := by simp [thK, List.range_succ, hpk]
          rw [hpk] at hp
          go_wp2_with (fail)
          refine hm.mono ?_
          rintro e w' ⟨rfl, rfl⟩
          go_wp2_with (fail)
          refine hp.mono ?_
          rintro e w' ⟨rfl, hb⟩
          have HI2 := Lib.hid (And.intro (own_same HI.out.1 fun g hg => hb.block g (HI.out.1.lt g hg).2) (HI.out.2.trans (hb.mono HI.out.2.size)))
          clear hb
          go_wp2
          go_roundw
          case rel => exact ⟨k + 1, by omega, by first | rfl | go_num, by rw [hsk]; exact HI2⟩
          case measure => simp [intOf]; omega
        · have hsk : thK (fun i => mayR (rawB hs b) (i : Int) && P i) (k + 1) = thK (fun i => mayR (rawB hs b) (i : Int) && P i) k ++ [k] := by simp [thK, List.range_succ, hpk, hmk]
          rw [hpk] at hp
          go_wp2_with (fail)
          refine hm.mono ?_
          rintro e w' ⟨rfl, rfl⟩
          go_wp2_with (fail)
          refine hp.mono ?_
          rintro e w2 ⟨rfl, hb⟩
          have hl : (thK (fun i => mayR (rawB hs b) (i : Int) && P i) k).length ≤ k := Nat.le_trans (List.length_filter_le _ _) (by simp)
          have HI2 := Lib.hid (And.intro (own_same HI.out.1 fun g hg => hb.block g (HI.out.1.lt g hg).2) (HI.out.2.trans (hb.mono HI.out.2.size)))
          have k5 : (thK (fun i => mayR (rawB hs b) (i : Int) && P i) k).length + 1 ≤ maxLen := by unfold maxLen; omega
          have k6 : ((thK (fun i => mayR (rawB hs b) (i : Int) && P i) k).length + 1) * 8 ≤ 140737488355328 := by omega
          have hBw : w.heap.size ≤ w2.heap.size := HI2.out.2.size
          have hown := HI2.out.1
          clear hb
          go_wp2_with (at_builtin; refine wpList_append_own _ rfl _ _ 27 rfl w.heap.size 3 i0 _ 1 8 Try.underlying27 hi hz0 hz1 hz2 rfl (by decide) _ _ _ rfl (hown.alloc _) ⟨w2.heap.size, 0, none⟩ 1 1 [.int .i64 (k : Int)] rfl rfl (one_new _ _ _) (by intro y hy; rw [show y = .int .i64 (k : Int) by simpa using hy]; rfl) k5 k6 (by simp; omega) ?_)
          intro va' w4 hown' hg4 _
          have HI4 : Hid (w4.ownsRow w.heap.size 3 1 va' (thK (fun i => mayR (rawB hs b) (i : Int) && P i) (k + 1)).length (intL (thK (fun i => mayR (rawB hs b) (i : Int) && P i) (k + 1))) ∧ Below w.heap.size w w4) := by
            refine Lib.hid ⟨?_, (HI2.out.2.alloc hBw _).grown hg4 (by simp; omega) fun j ej => (hown.lt j ej).1⟩
            rw [hsk]
            simpa [intL] using hown'
          clear hown hown' hg4
          go_wp2
          go_roundw
          case rel => exact ⟨k + 1, by omega, by first | rfl | go_num, HI4⟩
          case measure => simp [intOf]; omega
    · obtain rfl : k = b.n := by omega
      go_wp2
      go_ret
      exact ⟨_, rfl, HI.out⟩
set_option maxRecDepth 100000 in
set_option maxHeartbeats 4000000 in
theorem those_2 {B : Nat} (h : Hid (RawAt B w p tb (rawB hs b))) (hn : b.n ≤ 8192) (lb : Array Value) (P : Nat → Bool) (HC : Hid (∀ W i, Below w.heap.size w W → i < b.n → Calls Try.prog 30 (#[.pointer (some ⟨tb, i * 5, none⟩)] ++ lb) W fun e w' => e = .returned (.bool (P i)) ∧ Below W.heap.size W w')) :
    Calls Try.prog 27 #[.pointer (some ⟨p, 0, none⟩), .func (.func 30) #[] lb] w fun e w' => ∃ v, e = .returned v ∧ w'.ownsRow w.heap.size 3 1 v (thK (fun i => mayR (rawB hs b) (i : Int) && P i) b.n).length (intL (thK (fun i => mayR (rawB hs b) (i : Int) && P i) b.n)) ∧ Below w.heap.size w w' := by
  obtain ⟨i0, hi, hz0, hz1, hz2⟩ := info_parts infoInt
  have c1 : w.cell? ⟨p, 1, none⟩ = some (.slice (some ⟨tb, 0, none⟩) b.n b.n) := h.out.c1
  go_enter Try.func27, Try.ntmps27
  go_wp2
  go_loopw [5, 12] (fun vo iv wr => ∃ k : Nat, k ≤ b.n ∧ iv = .int .i64 (k : Int) ∧ Hid (wr.ownsRow w.heap.size 3 1 vo (thK (fun i => mayR (rawB hs b) (i : Int) && P i) k).length (intL (thK (fun i => mayR (rawB hs b) (i : Int) && P i) k)) ∧ Below w.heap.size w wr)) (fun _ iv _ => b.n - (intOf iv).toNat)
  case atStart => exact ⟨0, Nat.zero_le _, rfl, Lib.hid ⟨World.ownsRow_nil _ _ _ _, Below.refl _ _⟩⟩
  case round =>
    obtain ⟨k, hk, rfl, HI⟩ := hrel
    by_cases hlt : k < b.n
    · have hm := may_any (Lib.hid (h.out.below HI.out.2)) (k : Int)
      have hp := HC.out _ k HI.out.2 hlt
      have c1r : wr.cell? ⟨p, 1, none⟩ = some (.slice (some ⟨tb, 0, none⟩) b.n b.n) := (h.out.below HI.out.2).c1
      cases hmk : mayR (rawB hs b) (k : Int)
      · have hsk : thK (fun i => mayR (rawB hs b) (i : Int) && P i) (k + 1) = thK (fun i => mayR (rawB hs b) (i : Int) && P i) k := by simp [thK, List.range_succ, hmk]
        rw [hmk] at hm
        clear hp
        go_wp2_with (fail)
        refine hm.mono ?_
        rintro e w' ⟨rfl, rfl⟩
        go_wp2
        go_roundw
        case rel => exact ⟨k + 1, by omega, by first | rfl | go_num, by rw [hsk]; exact HI⟩
        case measure => simp [intOf]; omega
      · rw [hmk] at hm
        cases hpk : P k
        · have hsk : thK (fun i => mayR (rawB hs b) (i : Int) && P i) (k + 1) = thK (fun i => mayR (rawB hs b) (i : Int) && P i) k := by simp [thK, List.range_succ, hpk]
          rw [hpk] at hp
          go_wp2_with (fail)
          refine hm.mono ?_
          rintro e w' ⟨rfl, rfl⟩
          go_wp2_with (fail)
          refine hp.mono ?_
          rintro e w' ⟨rfl, hb⟩
          have HI2 := Lib.hid (And.intro (own_same HI.out.1 fun g hg => hb.block g (HI.out.1.lt g hg).2) (HI.out.2.trans (hb.mono HI.out.2.size)))
          clear hb
          go_wp2
          go_roundw
          case rel => exact ⟨k + 1, by omega, by first | rfl | go_num, by rw [hsk]; exact HI2⟩
          case measure => simp [intOf]; omega
        · have hsk : thK (fun i => mayR (rawB hs b) (i : Int) && P i) (k + 1) = thK (fun i => mayR (rawB hs b) (i : Int) && P i) k ++ [k] := by simp [thK, List.range_succ, hpk, hmk]
          rw [hpk] at hp
          go_wp2_with (fail)
          refine hm.mono ?_
          rintro e w' ⟨rfl, rfl⟩
          go_wp2_with (fail)
          refine hp.mono ?_
          rintro e w2 ⟨rfl, hb⟩
          have hl : (thK (fun i => mayR (rawB hs b) (i : Int) && P i) k).length ≤ k := Nat.le_trans (List.length_filter_le _ _) (by simp)
          have HI2 := Lib.hid (And.intro (own_same HI.out.1 fun g hg => hb.block g (HI.out.1.lt g hg).2) (HI.out.2.trans (hb.mono HI.out.2.size)))
          have k5 : (thK (fun i => mayR (rawB hs b) (i : Int) && P i) k).length + 1 ≤ maxLen := by unfold maxLen; omega
          have k6 : ((thK (fun i => mayR (rawB hs b) (i : Int) && P i) k).length + 1) * 8 ≤ 140737488355328 := by omega
          have hBw : w.heap.size ≤ w2.heap.size := HI2.out.2.size
          have hown := HI2.out.1
          clear hb
          go_wp2_with (at_builtin; refine wpList_append_own _ rfl _ _ 27 rfl w.heap.size 3 i0 _ 1 8 Try.underlying27 hi hz0 hz1 hz2 rfl (by decide) _ _ _ rfl (hown.alloc _) ⟨w2.heap.size, 0, none⟩ 1 1 [.int .i64 (k : Int)] rfl rfl (one_new _ _ _) (by intro y hy; rw [show y = .int .i64 (k : Int) by simpa using hy]; rfl) k5 k6 (by simp; omega) ?_)
          intro va' w4 hown' hg4 _
          have HI4 : Hid (w4.ownsRow w.heap.size 3 1 va' (thK (fun i => mayR (rawB hs b) (i : Int) && P i) (k + 1)).length (intL (thK (fun i => mayR (rawB hs b) (i : Int) && P i) (k + 1))) ∧ Below w.heap.size w w4) := by
            refine Lib.hid ⟨?_, (HI2.out.2.alloc hBw _).grown hg4 (by simp; omega) fun j ej => (hown.lt j ej).1⟩
            rw [hsk]
            simpa [intL] using hown'
          clear hown hown' hg4
          go_wp2
          go_roundw
          case rel => exact ⟨k + 1, by omega, by first | rfl | go_num, HI4⟩
          case measure => simp [intOf]; omega
    · obtain rfl : k = b.n := by omega
      go_wp2
      go_ret
      exact ⟨_, rfl, HI.out⟩
end
end Go.Proofs.Ytapnlofklgknmaa
