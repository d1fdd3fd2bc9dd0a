/- The reference's board of attempts: may, Finished, Dead. -/
import Derived.Test.YtapnlofklgknmaaAtrSt
namespace Go.Proofs.Ytapnlofklgknmaa
open Go.RowKit

def wonL (L : List Tr) (x : Int) : Bool := decide (0 ≤ fstI (wonP x) L)
/-- are all these tasks won? -/
def allW (L : List Tr) (a k : Nat) : Bool := (List.range k).all fun i => wonL L ((a + i : Nat) : Int)
theorem allW_succ (L : List Tr) (a k : Nat) : allW L a (k + 1) = (allW L a k && wonL L ((a + k : Nat) : Int)) := by simp [allW, List.range_succ]
theorem allW_no {L : List Tr} {a k j : Nat} (hj : j < k) (h : wonL L ((a + j : Nat) : Int) = false) : allW L a k = false := by
  unfold allW
  rw [List.all_eq_false]
  exact ⟨j, List.mem_range.2 hj, by rw [h]; decide⟩
theorem fst_ge (P : Tr → Bool) (L : List Tr) : -1 ≤ fstI P L ∧ fstI P L < (L.length : Int) := by
  unfold fstI
  split
  · omega
  · omega
def mayL (m : Nat) (L : List Tr) (x : Int) : Bool := !wonL L x && (decide (x < (m : Int)) || allW L 0 m)
section
variable {B : Nat} {w : World} {p : Nat} {m r : Nat} {lim pat : Int} {L : List Tr} {v : Value}
set_option maxHeartbeats 4000000 in
theorem rmay_any (h : Hid (RB B w p m r lim pat L v)) (hl : L.length ≤ 4398046511104) (hm : m ≤ 4096) (x : Int) :
    Calls Try.prog 35 #[.pointer (some ⟨p, 0, none⟩), .int .i64 x] w fun e w' => e = .returned (.bool (mayL m L x)) ∧ w = w' := by
  obtain ⟨y, hy⟩ : ∃ y, y = mayL m L x := ⟨_, rfl⟩
  have HY := Lib.hid hy
  rw [← hy]
  clear hy
  have c0 := h.out.cells.1
  go_enter Try.func35, Try.ntmps35
  go_wp2_with (fail)
  refine (rwin_any h hl x).mono ?_
  rintro e w' ⟨rfl, rfl⟩
  obtain ⟨f, hf⟩ : ∃ f, f = fstI (wonP x) L := ⟨_, rfl⟩
  have HF := Lib.hid hf
  rw [← hf]
  clear hf
  by_cases h0 : 0 ≤ f
  · obtain rfl : y = false := by rw [HY.out]; unfold mayL wonL; rw [← HF.out, decide_eq_true h0]; rfl
    go_wp2
    go_ret
    exact ⟨rfl, rfl⟩
  · by_cases h1 : x < (m : Int)
    · obtain rfl : y = true := by rw [HY.out]; unfold mayL wonL; rw [← HF.out, decide_eq_false h0, decide_eq_true h1]; rfl
      go_wp2
      go_ret
      exact ⟨rfl, rfl⟩
    · have hyy : y = allW L 0 m := by rw [HY.out]; unfold mayL wonL; rw [← HF.out, decide_eq_false h0, decide_eq_false h1]; rfl
      have HYY := Lib.hid hyy
      clear hyy HY
      go_wp2
      clear h0 h1
      go_loopw [5] (fun iv wr => ∃ i : Nat, i ≤ m ∧ iv = .int .i64 (i : Int) ∧ Hid (allW L 0 i = true) ∧ wr = w) (fun iv _ => m - (intOf iv).toNat)
      case atStart => exact ⟨0, Nat.zero_le _, rfl, Lib.hid rfl, rfl⟩
      case round =>
        obtain ⟨i, hi, rfl, HI, rfl⟩ := hrel
        by_cases hlt : i < m
        · go_wp2_with (fail)
          refine (rwin_any h hl (i : Int)).mono ?_
          rintro e w' ⟨rfl, rfl⟩
          have hno := fun hf => allW_no (L := L) (a := 0) (k := m) hlt (by rw [Nat.zero_add]; exact hf)
          have hyes := fun (hf : wonL L (i : Int) = true) => (allW_succ L 0 i).trans (by first | (rw [HI.out, Nat.zero_add, hf]; done) | (rw [HI.out, Nat.zero_add, hf]; rfl))
          obtain ⟨f2, hf2⟩ : ∃ f2, f2 = fstI (wonP (i : Int)) L := ⟨_, rfl⟩
          have hw : wonL L (i : Int) = decide (0 ≤ f2) := by unfold wonL; rw [hf2]
          have HNO := Lib.hid hno
          have HYES := Lib.hid hyes
          have HW := Lib.hid hw
          rw [← hf2]
          clear hf2 hw hno hyes
          have hi1 : i + 1 ≤ m := hlt
          by_cases h2 : 0 ≤ f2
          · have HS := Lib.hid (HYES.out (by rw [HW.out]; exact decide_eq_true h2))
            go_wp2
            go_roundw
            case rel => exact ⟨i + 1, hi1, by first | rfl | go_num, HS, trivial⟩
            case measure => simp [intOf]; omega
          · have HS := HNO.out (by rw [HW.out, decide_eq_false h2])
            obtain rfl : y = false := HYY.out.trans HS
            go_wp2
            go_ret
            exact ⟨rfl, by first | rfl | trivial⟩
        · obtain rfl : i = m := by omega
          obtain rfl : y = true := HYY.out.trans HI.out
          go_wp2
          go_ret
          exact ⟨rfl, by first | rfl | trivial⟩
theorem bel_drew (w : World) (q : Nat) : Below w.heap.size w (w.drewN q) := ⟨rfl, rfl, rfl, Nat.le_refl _, fun _ _ => rfl⟩
set_option maxHeartbeats 4000000 in
theorem rfin_any (h : Hid (RB B w p m r lim pat L v)) (hl : L.length ≤ 4398046511104) (hm : m ≤ 4096) (hr : r ≤ 4096) :
    Calls Try.prog 24 #[.pointer (some ⟨p, 0, none⟩)] w fun e w' => e = .returned (.bool (allW L m r)) ∧ ∃ q, w' = w.drewN q := by
  have c0 := h.out.cells.1
  have c1 := h.out.cells.2.1
  obtain ⟨y, hy⟩ : ∃ y, y = allW L m r := ⟨_, rfl⟩
  have HYY := Lib.hid hy
  rw [← hy]
  clear hy
  go_enter Try.func24, Try.ntmps24
  go_wp2
  go_loopw [3] (fun iv wr => ∃ i : Nat, i ≤ r ∧ iv = .int .i64 ((m + i : Nat) : Int) ∧ Hid (allW L m i = true) ∧ Hid (∃ q, wr = w.drewN q)) (fun iv _ => m + r - (intOf iv).toNat)
  case atStart => exact ⟨0, Nat.zero_le _, rfl, Lib.hid rfl, Lib.hid ⟨0, rfl⟩⟩
  case round =>
    obtain ⟨i, hi, rfl, HI, HW⟩ := hrel
    obtain ⟨q, rfl⟩ := HW.out
    clear HW
    have hw1 : IntKind.i64.wrap ((m : Int) + (r : Int)) = (m : Int) + (r : Int) := IntWalk.i64_in _ (by omega)
    by_cases hlt : i < r
    · have hw2 : (((m + i : Nat) : Int)) < (m : Int) + (r : Int) := by omega
      go_wp2_with (fail)
      go_quiet (fail)
      rw [World.drewN_drewN]
      go_wp2_with (fail)
      refine (rwin_any (Lib.hid (h.out.below (bel_drew w (q + nq)))) hl ((m + i : Nat) : Int)).mono ?_
      rintro e w' ⟨rfl, rfl⟩
      have hno := fun hf => allW_no (L := L) (a := m) (k := r) hlt hf
      have hyes := fun (hf : wonL L ((m + i : Nat) : Int) = true) => (allW_succ L m i).trans (by first | (rw [HI.out, hf]; rfl) | rw [HI.out, hf])
      obtain ⟨f2, hf2⟩ : ∃ f2, f2 = fstI (wonP ((m + i : Nat) : Int)) L := ⟨_, rfl⟩
      have hw : wonL L ((m + i : Nat) : Int) = decide (0 ≤ f2) := by unfold wonL; rw [hf2]
      have HNO := Lib.hid hno
      have HYES := Lib.hid hyes
      have HW := Lib.hid hw
      rw [← hf2]
      clear hf2 hw hno hyes
      have hi1 : i + 1 ≤ r := hlt
      by_cases h2 : 0 ≤ f2
      · have HS := Lib.hid (HYES.out (by rw [HW.out]; exact decide_eq_true h2))
        go_wp2
        go_roundw
        case rel => exact ⟨i + 1, hi1, by first | rfl | go_num, HS, Lib.hid ⟨_, rfl⟩⟩
        case measure => simp [intOf]; omega
      · have HS := HNO.out (by rw [HW.out, decide_eq_false h2])
        obtain rfl : y = false := HYY.out.trans HS
        go_wp2
        go_ret
        exact ⟨rfl, _, rfl⟩
    · obtain rfl : i = r := by omega
      have hw2 : ¬ (((m + i : Nat) : Int)) < (m : Int) + (i : Int) := by omega
      obtain rfl : y = true := HYY.out.trans HI.out
      go_wp2_with (fail)
      go_quiet (fail)
      rw [World.drewN_drewN]
      go_wp2
      go_ret
      exact ⟨rfl, _, rfl⟩
/-- how many of these tries of this task were full -/
def fulP (x : Int) (u : Tr) : Bool := decide (u.t = x) && decide (u.st = 3)
def fulL (x : Int) (L : List Tr) : Nat := L.countP (fulP x)
/-- has none of the first tasks failed too often? -/
def aliL (lim : Int) (L : List Tr) (k : Nat) : Bool := (List.range k).all fun i => decide (¬ lim ≤ (fulL (i : Int) L : Int))
theorem aliL_succ (lim : Int) (L : List Tr) (k : Nat) : aliL lim L (k + 1) = (aliL lim L k && decide (¬ lim ≤ (fulL (k : Int) L : Int))) := by simp [aliL, List.range_succ]
theorem aliL_no {lim : Int} {L : List Tr} {k j : Nat} (hj : j < k) (h : lim ≤ (fulL (j : Int) L : Int)) : aliL lim L k = false := by
  unfold aliL
  rw [List.all_eq_false]
  exact ⟨j, List.mem_range.2 hj, by simp [h]⟩
def deadL (m r : Nat) (lim : Int) (L : List Tr) : Bool := !aliL lim L (m + r)
theorem ful_take (x : Int) (L : List Tr) (i : Nat) (hi : i < L.length) : fulL x (L.take (i + 1)) = fulL x (L.take i) + (if fulP x L[i] = true then 1 else 0) := by
  unfold fulL
  rw [List.take_add_one, List.getElem?_eq_getElem hi, List.countP_append]
  simp [List.countP_cons]
theorem ful_le (x : Int) (L : List Tr) : fulL x L ≤ L.length := List.countP_le_length
set_option maxHeartbeats 4000000 in
theorem rdead_any (h : Hid (RB B w p m r lim pat L v)) (hl : L.length ≤ 4398046511104) (hm : m ≤ 4096) (hr : r ≤ 4096) :
    Calls Try.prog 25 #[.pointer (some ⟨p, 0, none⟩)] w fun e w' => e = .returned (.bool (deadL m r lim L)) ∧ ∃ q, w' = w.drewN q := by
  obtain ⟨a, c, rfl⟩ := h.out.form
  obtain ⟨c0, c1, c2, c3, c4⟩ := h.out.cells
  obtain ⟨y, hy⟩ : ∃ y, y = deadL m r lim L := ⟨_, rfl⟩
  have HYY := Lib.hid hy
  obtain ⟨N, hN⟩ : ∃ N, N = L.length := ⟨_, rfl⟩
  have HN := Lib.hid hN
  rw [← hN] at c4 hl
  rw [← hy]
  clear hy hN
  go_enter Try.func25, Try.ntmps25
  go_wp2
  go_loopw [3] (fun iv wr => ∃ t : Nat, t ≤ m + r ∧ iv = .int .i64 (t : Int) ∧ Hid (aliL lim L t = true) ∧ Hid (∃ q, wr = w.drewN q)) (fun iv _ => m + r - (intOf iv).toNat)
  case atStart => exact ⟨0, Nat.zero_le _, rfl, Lib.hid rfl, Lib.hid ⟨0, rfl⟩⟩
  case round =>
    obtain ⟨t, ht, rfl, HI, HW⟩ := hrel
    obtain ⟨q, rfl⟩ := HW.out
    clear HW
    have hw1 : IntKind.i64.wrap ((m : Int) + (r : Int)) = (m : Int) + (r : Int) := IntWalk.i64_in _ (by omega)
    by_cases hlt : t < m + r
    · have hw2 : (t : Int) < (m : Int) + (r : Int) := by omega
      have ht1 : t + 1 ≤ m + r := hlt
      go_wp2_with (fail)
      go_quiet (fail)
      rw [World.drewN_drewN]
      go_wp2
      go_loopw [4, 5] (fun nv iv wr => ∃ i : Nat, i ≤ N ∧ iv = .int .i64 (i : Int) ∧ nv = .int .i64 ((fulL (t : Int) (L.take i) : Nat) : Int) ∧ Hid (∃ q, wr = w.drewN q)) (fun _ iv _ => N - (intOf iv).toNat)
      case atStart => exact ⟨0, Nat.zero_le _, rfl, rfl, Lib.hid ⟨_, rfl⟩⟩
      case round =>
        obtain ⟨i, hi, rfl, rfl, HW⟩ := hrel
        obtain ⟨q2, rfl⟩ := HW.out
        clear HW
        by_cases hil : i < N
        · have hiL : i < L.length := by have := HN.out; omega
          obtain ⟨g, rfl, t0, _, _, _, t4, _⟩ := h.out.try' i hiL
          have hft := ful_take (t : Int) L i hiL
          have hfb : fulL (t : Int) (L.take i) ≤ i := Nat.le_trans (ful_le _ _) (by rw [List.length_take]; omega)
          obtain ⟨tt, htt⟩ : ∃ tt, tt = L[i].t := ⟨_, rfl⟩
          obtain ⟨st, hst⟩ : ∃ st, st = L[i].st := ⟨_, rfl⟩
          have hP : fulP (t : Int) L[i] = (decide (tt = (t : Int)) && decide (st = 3)) := by unfold fulP; rw [htt, hst]
          rw [hP] at hft
          rw [← htt] at t0
          rw [← hst] at t4
          obtain ⟨fl, hfl⟩ : ∃ fl, fl = fulL (t : Int) (L.take i) := ⟨_, rfl⟩
          rw [← hfl] at hft hfb ⊢
          have hi1 : i + 1 ≤ N := hil
          clear htt hst hP hfl
          by_cases e1 : tt = (t : Int)
          · by_cases e2 : st = 3
            · have HFT := Lib.hid (show fulL (t : Int) (L.take (i + 1)) = fl + 1 by rw [hft, decide_eq_true e1, decide_eq_true e2]; rfl)
              clear hft
              subst e1 e2
              go_wp2
              go_roundw
              case rel => exact ⟨i + 1, hi1, by first | rfl | go_num, by first | (rw [HFT.out]; done) | (rw [HFT.out]; first | rfl | go_num), Lib.hid ⟨_, rfl⟩⟩
              case measure => simp [intOf]; omega
            · have HFT := Lib.hid (show fulL (t : Int) (L.take (i + 1)) = fl by rw [hft, decide_eq_true e1, decide_eq_false e2]; first | done | rfl)
              have e3 : (st == 3) = false := by simpa using e2
              clear hft
              subst e1
              go_wp2
              go_roundw
              case rel => exact ⟨i + 1, hi1, by first | rfl | go_num, by first | (rw [HFT.out]; done) | (rw [HFT.out]; first | rfl | go_num), Lib.hid ⟨_, rfl⟩⟩
              case measure => simp [intOf]; omega
          · have HFT := Lib.hid (show fulL (t : Int) (L.take (i + 1)) = fl by rw [hft, decide_eq_false e1]; first | done | rfl)
            have e3 : (tt == (t : Int)) = false := by simpa using e1
            clear hft
            go_wp2
            go_roundw
            case rel => exact ⟨i + 1, hi1, by first | rfl | go_num, by first | (rw [HFT.out]; done) | (rw [HFT.out]; first | rfl | go_num), Lib.hid ⟨_, rfl⟩⟩
            case measure => simp [intOf]; omega
        · obtain rfl : i = N := by omega
          have hall : fulL (t : Int) (L.take i) = fulL (t : Int) L := by rw [HN.out, List.take_length]
          rw [hall]
          have hno := fun hf => aliL_no (L := L) (lim := lim) (k := m + r) hlt hf
          have hyes := fun (hf : decide (¬ lim ≤ (fulL (t : Int) L : Int)) = true) => (aliL_succ lim L t).trans (by first | (rw [HI.out, hf]; rfl) | rw [HI.out, hf])
          obtain ⟨fl, hfl⟩ : ∃ fl, fl = fulL (t : Int) L := ⟨_, rfl⟩
          rw [← hfl] at hno hyes ⊢
          have HNO := Lib.hid hno
          have HYES := Lib.hid hyes
          clear hno hyes hall hfl
          by_cases h2 : lim ≤ (fl : Int)
          · obtain rfl : y = true := by rw [HYY.out]; unfold deadL; rw [HNO.out h2]; rfl
            go_wp2
            go_ret
            exact ⟨rfl, _, rfl⟩
          · have HS := Lib.hid (HYES.out (decide_eq_true h2))
            go_wp2
            go_roundw
            case rel => exact ⟨t + 1, ht1, by first | rfl | go_num, HS, Lib.hid ⟨_, rfl⟩⟩
            case measure => simp [intOf]; omega
    · obtain rfl : t = m + r := by omega
      have hw2 : ¬ (((m + r : Nat) : Int)) < (m : Int) + (r : Int) := by omega
      obtain rfl : y = false := by rw [HYY.out]; unfold deadL; rw [HI.out]; rfl
      go_wp2_with (fail)
      go_quiet (fail)
      rw [World.drewN_drewN]
      go_wp2
      go_ret
      exact ⟨rfl, _, rfl⟩
end
end Go.Proofs.Ytapnlofklgknmaa
