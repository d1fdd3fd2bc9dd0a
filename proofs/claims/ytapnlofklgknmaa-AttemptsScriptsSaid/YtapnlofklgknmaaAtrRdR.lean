/- Both boards of attempts beside each other: new boards, what may begin, whether it is over. Numbers alone. -/
import Derived.Test.YtapnlofklgknmaaAtrRel
namespace Go.Proofs.Ytapnlofklgknmaa
open Go.RowKit

theorem Rel.new (ma re li pa : Int) (hl : 1 ≤ max li 1) : Rel (newB ma re li pa) (cnt ma) (cnt re) (max li 1) (min (max pa 1) 1099511627776) [] := by
  refine ⟨rfl, rfl, rfl, rfl, ?_, fun j => rfl, fun j => rfl, fun i hi => absurd hi (by simp), fun u hu => absurd hu (by simp), fun u hu => absurd hu (by simp), fun j hj => absurd rfl hj⟩
  show false = _
  symm
  rw [Bool.eq_false_iff]
  intro h
  rw [deadL_iff] at h
  obtain ⟨j, _, h⟩ := h
  have : fulL (j : Int) [] = 0 := rfl
  omega
section
variable {b : Bd} {m r : Nat} {lim pat : Int} {L : List Tr}
theorem Rel.all (h : Rel b m r lim pat L) (a : Nat) : ∀ k, allW L a k = decide (opn b.T a k = 0)
  | 0 => rfl
  | k + 1 => by
    have ih := Rel.all h a k
    have e1 : allW L a (k + 1) = (allW L a k && wonL L ((a + k : Nat) : Int)) := by simp [allW, List.range_succ]
    rw [e1, ih, h.isDone, opn_succ]
    by_cases e : (b.T (a + k)).wi = 0
    · simp [e]
    · simp [e]
theorem Rel.may (h : Rel b m r lim pat L) (hs : Nat → Value) (j : Nat) (hj : j < m + r) : mayR (rawB hs b) (j : Int) = mayL m L (j : Int) := by
  unfold mayR mayL
  rw [h.isDone, h.all 0 m]
  show (decide (0 ≤ (j : Int) ∧ (j : Int) < (b.n : Int)) && (((b.T ((j : Int)).toNat).wi : Int) == 0) && (decide ((j : Int) < (b.m : Int)) || ((b.om : Int) == 0))) = _
  rw [Int.toNat_natCast, decide_eq_true (show 0 ≤ (j : Int) ∧ (j : Int) < (b.n : Int) by rw [h.hn]; omega), Bool.true_and, h.hm]
  congr 1
  · rw [Bool.eq_iff_iff]
    simp
  · congr 1
    rw [Bool.eq_iff_iff]
    show ((b.om : Int) == 0) = true ↔ decide (opn b.T 0 m = 0) = true
    unfold Bd.om
    rw [h.hm]
    simp
theorem Rel.finished (h : Rel b m r lim pat L) : allW L m r = ((b.orr : Int) == 0) := by
  rw [h.all m r, Bool.eq_iff_iff]
  unfold Bd.orr
  rw [h.hm, h.hn, show m + r - m = r by omega]
  simp
theorem run_cons (x : Int) (u : Tr) (L : List Tr) : runN x (u :: L) = runN x L + (if runP x u = true then 1 else 0) := by
  unfold runN
  rw [List.countP_cons]
theorem run_lv (x : Int) : ∀ L : List Tr, runN x L = lvA (attL x L)
  | [] => rfl
  | u :: L => by
    rw [run_cons, run_lv x L, attL_cons]
    by_cases e : u.t = x
    · rw [if_pos e]
      unfold lvA
      rw [List.countP_cons]
      congr 1
      have : runP x u = rn1 (attR u) := by
        unfold runP rn1
        rw [decide_eq_true e, Bool.true_and, decide_eq_decide]
        exact ⟨fun k => by show stA u.st = 0; rw [k]; rfl, fun k => stA_zero k⟩
      rw [this]
    · rw [if_neg e, if_neg (by simp [runP, e])]
      rfl
theorem Rel.live (h : Rel b m r lim pat L) (j : Nat) : runN (j : Int) L = (b.T j).lv := by
  rw [run_lv]
  show _ = lvA (b.T j).A
  rw [h.att j]
theorem find_one {α : Type} {p : α → Bool} : ∀ (A : List α) (q : Nat) (h : q < A.length), A.countP p = 1 → p A[q] = true → A.findIdx p = q
  | a :: A, 0, _, _, hp => by
    have hp : p a = true := hp
    simp [List.findIdx_cons, hp]
  | a :: A, q + 1, h, hc, hp => by
    have hp' : p (A[q]'(by simpa using h)) = true := hp
    have hpos : 0 < A.countP p := List.countP_pos_iff.2 ⟨_, List.getElem_mem _, hp'⟩
    rw [List.countP_cons] at hc
    have ha : p a = false := by
      cases e : p a with
      | false => rfl
      | true => rw [e, if_pos rfl] at hc; omega
    rw [ha, if_neg (by decide)] at hc
    have ih := find_one A q (by simpa using h) hc hp'
    rw [List.findIdx_cons, ha, ih]
    rfl
theorem last_run (x : Int) (L : List Tr) : ∀ k, k ≤ L.length → 0 < runN x (L.take k) → ∃ h : lastR x L k < L.length, runP x L[lastR x L k] = true
  | 0, _, h => by simp [runN] at h
  | k + 1, hk, h => by
    by_cases e : runP x (L[k]'(by omega)) = true
    · have el : lastR x L (k + 1) = k := by rw [last_succ x L k (by omega), if_pos e]
      simp only [el]
      exact ⟨by omega, e⟩
    · have el : lastR x L (k + 1) = lastR x L k := by rw [last_succ x L k (by omega), if_neg e]
      rw [run_take x L k (by omega), if_neg e] at h
      simp only [el]
      exact last_run x L k (by omega) (by omega)
theorem Rel.slow (h : Rel b m r lim pat L) (nd now : Int) (j : Nat) : slowP m pat L nd now j = (mayL m L (j : Int) && slowT (b.T j) nd (mom now - b.pat)) := by
  unfold slowP slowT
  congr 1
  rw [h.live j, h.hpat]
  by_cases h1 : (b.T j).lv = 1
  · have hr : 0 < runN (j : Int) (L.take L.length) := by rw [List.take_length, h.live j]; omega
    obtain ⟨hi, hp⟩ := last_run (j : Int) L L.length (Nat.le_refl _) hr
    have hp' := hp
    unfold runP at hp'
    simp only [Bool.and_eq_true, decide_eq_true_eq] at hp'
    have hat := attL_at (j : Int) L _ hi hp'.1
    obtain ⟨hq, hqe⟩ := List.getElem?_eq_some_iff.1 hat
    have hfi : (b.T j).fi = numL (j : Int) (L.take (lastR (j : Int) L L.length)) := by
      show (b.T j).A.findIdx rn1 = _
      rw [h.att j]
      refine find_one (attL (j : Int) L) _ hq ?_ ?_
      · have : lvA (b.T j).A = 1 := h1
        rw [h.att j] at this
        exact this
      · rw [hqe]
        show decide (stA _ = 0) = true
        rw [hp'.2]
        rfl
    rw [hfi, h.att j, hat, List.getElem?_eq_getElem hi, h1]
    show (decide (1 = 1) && (!decide _ && decide _)) = ((1 == 1) && ((_ != nd) && decide _))
    show (decide (1 = 1) && (!decide (L[lastR (j : Int) L L.length].nd = nd) && decide (L[lastR (j : Int) L L.length].bg ≤ mom now - pat))) = ((1 == 1) && ((L[lastR (j : Int) L L.length].nd != nd) && decide (L[lastR (j : Int) L L.length].bg ≤ mom now - pat)))
    congr 2
  · rw [decide_eq_false h1]
    have : ((b.T j).lv == 1) = false := by simpa using h1
    rw [this]
    rfl
theorem Rel.ready (h : Rel b m r lim pat L) (nd now : Int) : rdyL m r lim pat L nd now = readyB b nd now := by
  have e1 : thK (idleP m L) (m + r) = thK (fun i => mayR (rawB (fun _ => .bool true) b) (i : Int) && ((b.T i).lv == 0)) b.n := by
    unfold thK
    rw [h.hn]
    refine List.filter_congr fun j hj => ?_
    rw [h.may _ j (List.mem_range.1 hj)]
    unfold idleP
    rw [h.live j]
    rfl
  have e2 : thK (slowP m pat L nd now) (m + r) = thK (fun i => mayR (rawB (fun _ => .bool true) b) (i : Int) && slowT (b.T i) nd (mom now - b.pat)) b.n := by
    unfold thK
    rw [h.hn]
    refine List.filter_congr fun j hj => ?_
    rw [h.may _ j (List.mem_range.1 hj), h.slow nd now j]
  unfold rdyL readyB
  rw [← h.dead, e1, e2]
  cases b.dead
  · simp only [Bool.false_eq_true, if_false]
    by_cases hz : thK (fun i => mayR (rawB (fun _ => .bool true) b) (i : Int) && ((b.T i).lv == 0)) b.n = []
    · rw [if_pos hz, if_neg (by rw [hz]; decide)]
    · rw [if_neg hz, if_pos (List.length_pos_iff.2 hz)]
  · rfl
/-- Start on both boards -/
theorem Rel.may_start (h : Rel b m r lim pat L) (x : Int) : okS m r lim L x = (mayB b x && !b.dead) := by
  by_cases hx : 0 ≤ x ∧ x < (m : Int) + (r : Int)
  · obtain ⟨j, rfl⟩ : ∃ k : Nat, x = (k : Int) := ⟨x.toNat, by omega⟩
    unfold okS mayB
    rw [h.may _ j (by omega), decide_eq_true hx.1, decide_eq_true hx.2, ← h.dead, Bool.true_and, Bool.true_and, Bool.and_comm]
  · have e1 : mayB b x = false := by
      unfold mayB mayR
      rw [decide_eq_false (by show ¬ (0 ≤ x ∧ x < (b.n : Int)); rw [h.hn]; omega)]
      rfl
    unfold okS
    rw [e1]
    by_cases h0 : 0 ≤ x
    · rw [decide_eq_false (show ¬ x < (m : Int) + (r : Int) by omega)]
      simp
    · rw [decide_eq_false h0]
      simp
/-- Winner on both boards -/
theorem Rel.win (h : Rel b m r lim pat L) (x : Int) : (fstI (wonP x) L < 0 ∧ winA b x = (0, 0, false)) ∨ ∃ i, ∃ hi : i < L.length, fstI (wonP x) L = (i : Int) ∧ winA b x = (L[i].nd, L[i].k, true) := by
  by_cases hx : 0 ≤ x ∧ x < (b.n : Int)
  · obtain ⟨j, rfl⟩ : ∃ k : Nat, x = (k : Int) := ⟨x.toNat, by omega⟩
    have hin : inB b (j : Int) = true := by unfold inB; exact decide_eq_true hx
    by_cases hw : (b.T j).wi = 0
    · refine .inl ⟨?_, ?_⟩
      · have hd := h.isDone j
        rw [decide_eq_false (by simp [hw])] at hd
        unfold wonL at hd
        have := of_decide_eq_false hd
        omega
      · unfold winA
        rw [hin, Int.toNat_natCast, if_neg (by simp [hw])]
    · obtain ⟨i, hi, _, hf, ht, _, hk, _⟩ := h.winner j hw
      refine .inr ⟨i, hi, hf, ?_⟩
      have hn := h.num i hi
      rw [ht, hk] at hn
      have hat := attL_at (j : Int) L i hi ht
      rw [← h.att j, show numL (j : Int) (L.take i) = (b.T j).wi - 1 by omega] at hat
      unfold winA
      rw [hin, Int.toNat_natCast, if_pos (by simp [hw]), hat, hk]
      rfl
  · refine .inl ⟨?_, ?_⟩
    · have hno : ∀ u ∈ L, ¬ wonP x u = true := fun u hu hw => by
        unfold wonP at hw
        simp only [Bool.and_eq_true, decide_eq_true_eq] at hw
        have hg := h.rng u hu
        rw [hw.1] at hg
        exact hx ⟨hg.1, by rw [h.hn]; omega⟩
      unfold fstI
      rw [if_neg (fun e => by
        obtain ⟨u, hu, hw⟩ := List.findIdx_lt_length.1 e
        exact hno u hu hw)]
      omega
    · have hin : inB b x = false := by unfold inB; exact decide_eq_false hx
      unfold winA
      rw [hin]
      rfl
end
end Go.Proofs.Ytapnlofklgknmaa
