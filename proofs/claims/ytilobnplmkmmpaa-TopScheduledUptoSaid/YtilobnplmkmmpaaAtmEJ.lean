/- Package attempts: whoever does what is ready, on any node: what stays true, and how many attempts there are. -/
import Derived.Test.YtilobnplmkmmpaaAtmEI
namespace Go.Proofs.Ytilobnplmkmmpaa
open Go.RowKit

theorem end_len (b : Bd) (i k s j : Nat) : ((endB b i k s).T j).A.length = (b.T j).A.length := by
  by_cases e : j = i
  · subst e
    simp only [endB, setTk_at, setSt_len]
  · simp only [endB]
    rw [setTk_off _ _ e]
theorem win_len (b : Bd) (i a j : Nat) : ((winB b i a).T j).A.length = (b.T j).A.length := by
  unfold winB
  split
  · by_cases e : j = i
    · subst e
      rw [setTk_at]
    · rw [setTk_off _ _ e]
  · rfl
theorem ful_len (b : Bd) (i j : Nat) : ((fulB b i).T j).A.length = (b.T j).A.length := by
  by_cases e : j = i
  · subst e
    show (updN b.T j _ j).A.length = _
    rw [updN_same]
  · show (updN b.T i _ j).A.length = _
    rw [updN_other _ _ e]
theorem rep_len (b : Bd) (x a how : Int) (j : Nat) : ((reportB b x a how).T j).A.length = (b.T j).A.length := by
  unfold reportB
  repeat' split
  all_goals first | rfl | (simp only [win_len, end_len, ful_len])
theorem EI.startN {b : Bd} {m n won i r : Nat} (h : EI b m n won i) (hr : r < b.n ∧ (b.T r).wi = 0 ∧ (r < b.m ∨ b.om = 0)) (nd now : Int) : startA b (r : Int) = (((b.T r).A.length + 1 : Nat) : Int) ∧ startB b (r : Int) nd now = setTk b r (begT (b.T r) nd (mom now)) := by
  have e1 := mayB_of hr.1 hr.2.1 hr.2.2
  constructor
  · unfold startA
    rw [e1, h.dead, Int.toNat_natCast]
    rfl
  · unfold startB
    rw [e1, h.dead, Int.toNat_natCast]
    rfl
section
variable {b : Bd} {m n won i r : Nat}
theorem EI.runN (h : EI b m n won i) (hr : r < b.n) (nd now : Int) : ∃ hk : (b.T r).A.length < ((setTk b r (begT (b.T r) nd now)).T r).A.length, (((setTk b r (begT (b.T r) nd now)).T r).A[(b.T r).A.length]).st = 0 ∧ runT ((setTk b r (begT (b.T r) nd now)).T r) (((b.T r).A.length : Int) + 1) = true := by
  have e : (setTk b r (begT (b.T r) nd now)).T r = begT (b.T r) nd now := setTk_at _ _ _
  have hk : (b.T r).A.length < (begT (b.T r) nd now).A.length := by rw [beg_len]; omega
  have h0 : ((begT (b.T r) nd now).A[(b.T r).A.length]'hk).st = 0 := by rw [beg_last]
  rw [e]
  exact ⟨hk, h0, runT_of hk h0⟩
theorem EI.oneN (h : EI b m n won i) (nd now : Int) : lvA ((setTk b r (begT (b.T r) nd now)).T r).A = 1 ∧ ∀ j, j ≠ r → ((setTk b r (begT (b.T r) nd now)).T j).lv = 0 := by
  refine ⟨?_, fun j e => by rw [setTk_off _ _ e]; exact h.idle j⟩
  rw [setTk_at]
  have h1 := begT_lv (b.T r) nd now
  have h2 := h.idle r
  show (begT (b.T r) nd now).lv = 1
  omega
/-- it failed -/
theorem EI.failN0 (h : EI b m n won i) (hr : r < b.n) (nd now : Int) : reportA (setTk b r (begT (b.T r) nd now)) (r : Int) (((b.T r).A.length : Int) + 1) 2 = true ∧ EI (reportB (setTk b r (begT (b.T r) nd now)) (r : Int) (((b.T r).A.length : Int) + 1) 2) m n won (i + 1) := by
  obtain ⟨hk, h0, hrun⟩ := h.runN hr nd now
  have hin : inB (setTk b r (begT (b.T r) nd now)) (r : Int) = true := inB_of hr
  obtain ⟨h1, hj⟩ := h.oneN (r := r) nd now
  have hb1 : BI (setTk b r (begT (b.T r) nd now)) (i + 1) := bi_set h.bi (Nat.le_succ _) r (tok_beg (h.bi.win r) _ _) (by rw [beg_len]; have := h.bi.len r; omega) (by have := h.bi.fu r; show (b.T r).fu ≤ i + 1; omega)
  obtain ⟨o1, o2⟩ := beg_opn b r nd now
  obtain ⟨b1, hb⟩ : ∃ b1, b1 = setTk b r (begT (b.T r) nd now) := ⟨_, rfl⟩
  have hbm : b1.m = b.m ∧ b1.n = b.n ∧ b1.dead = b.dead := by rw [hb]; exact ⟨rfl, rfl, rfl⟩
  rw [← hb] at hk hrun hin h1 hj hb1 o1 o2 ⊢
  simp only [← hb] at h0
  constructor
  · simp [reportA, hin, hrun]
  · have e : reportB b1 (r : Int) (((b.T r).A.length : Int) + 1) 2 = endB b1 r (b.T r).A.length 2 := by
      unfold reportB
      rw [hin, Int.toNat_natCast, hrun, show (((b.T r).A.length : Int) + 1).toNat - 1 = (b.T r).A.length by omega]
      rfl
    rw [e]
    obtain ⟨p1, p2⟩ := end_opn b1 r (b.T r).A.length 2
    exact ⟨hbm.1.trans h.hm, hbm.2.1.trans h.hn, hbm.2.2.trans h.dead, end_idle b1 r _ 2 hk h0 (by decide) h1 hj, bi_end hb1 r _ 2 hk h0, by have := h.cnt; omega⟩
/-- it was good -/
theorem EI.goodN (h : EI b m n won i) (hmn : b.m ≤ b.n) (hr : r < b.n) (hw : (b.T r).wi = 0) (nd now : Int) :
    reportA (setTk b r (begT (b.T r) nd now)) (r : Int) (((b.T r).A.length : Int) + 1) 1 = true ∧
    reportA (reportB (setTk b r (begT (b.T r) nd now)) (r : Int) (((b.T r).A.length : Int) + 1) 1) (r : Int) (((b.T r).A.length : Int) + 1) 1 = false ∧
    reportB (reportB (setTk b r (begT (b.T r) nd now)) (r : Int) (((b.T r).A.length : Int) + 1) 1) (r : Int) (((b.T r).A.length : Int) + 1) 1 = reportB (setTk b r (begT (b.T r) nd now)) (r : Int) (((b.T r).A.length : Int) + 1) 1 ∧
    EI (reportB (setTk b r (begT (b.T r) nd now)) (r : Int) (((b.T r).A.length : Int) + 1) 1) m n (won + 1) (i + 1) := by
  obtain ⟨hk, h0, hrun⟩ := h.runN hr nd now
  have hin : inB (setTk b r (begT (b.T r) nd now)) (r : Int) = true := inB_of hr
  obtain ⟨h1, hj⟩ := h.oneN (r := r) nd now
  have hb1 : BI (setTk b r (begT (b.T r) nd now)) (i + 1) := bi_set h.bi (Nat.le_succ _) r (tok_beg (h.bi.win r) _ _) (by rw [beg_len]; have := h.bi.len r; omega) (by have := h.bi.fu r; show (b.T r).fu ≤ i + 1; omega)
  obtain ⟨o1, o2⟩ := beg_opn b r nd now
  have hw1 : ((setTk b r (begT (b.T r) nd now)).T r).wi = 0 := by rw [setTk_at]; exact hw
  obtain ⟨b1, hb⟩ : ∃ b1, b1 = setTk b r (begT (b.T r) nd now) := ⟨_, rfl⟩
  have hbm : b1.m = b.m ∧ b1.n = b.n ∧ b1.dead = b.dead := by rw [hb]; exact ⟨rfl, rfl, rfl⟩
  rw [← hb] at hk hrun hin h1 hj hb1 o1 o2 hw1 ⊢
  simp only [← hb] at h0
  obtain ⟨k, hkd⟩ : ∃ k, k = (b.T r).A.length := ⟨_, rfl⟩
  simp only [← hkd] at h0
  rw [← hkd] at hk hrun ⊢
  have e : reportB b1 (r : Int) ((k : Int) + 1) 1 = winB (endB b1 r k 1) r (k + 1) := by
    unfold reportB
    rw [hin, Int.toNat_natCast, hrun, show ((k : Int) + 1).toNat - 1 = k by omega, show ((k : Int) + 1).toNat = k + 1 by omega]
    rfl
  have hwe : ((endB b1 r k 1).T r).wi = 0 := by rw [wi_end]; exact hw1
  have e2 : winB (endB b1 r k 1) r (k + 1) = setTk (endB b1 r k 1) r { (endB b1 r k 1).T r with wi := k + 1 } := by unfold winB; rw [if_pos hwe]
  have eA : ((endB b1 r k 1).T r).A = setSt (b1.T r).A k 1 := by simp only [endB, setTk_at]
  have hbi : BI (winB (endB b1 r k 1) r (k + 1)) (i + 1) := bi_win (bi_end hb1 r k 1 hk h0) r k (by rw [eA, setSt_len]; exact hk) (by simp only [eA]; exact end_st _ _ _ hk _)
  have hidl : ∀ j, ((winB (endB b1 r k 1) r (k + 1)).T j).lv = 0 := fun j => by
    have h9 := end_idle b1 r k 1 hk h0 (by decide) h1 hj j
    rw [e2]
    by_cases ej : j = r
    · subst ej
      rw [setTk_at]
      exact h9
    · rw [setTk_off _ _ ej]
      exact h9
  have hTr : ((winB (endB b1 r k 1) r (k + 1)).T r).A = setSt (b1.T r).A k 1 := by rw [e2, setTk_at]; exact eA
  have hnr : runT ((winB (endB b1 r k 1) r (k + 1)).T r) ((k : Int) + 1) = false := runT_not (by rw [hTr, setSt_len]; exact hk) (by simp only [hTr]; rw [end_st _ _ _ hk]; decide)
  have hcnt : (winB (endB b1 r k 1) r (k + 1)).om + (winB (endB b1 r k 1) r (k + 1)).orr + 1 = b.om + b.orr := by
    obtain ⟨p1, p2⟩ := end_opn b1 r k 1
    rw [e2]
    have q1 : (setTk (endB b1 r k 1) r { (endB b1 r k 1).T r with wi := k + 1 }).om = opn (updN (endB b1 r k 1).T r { (endB b1 r k 1).T r with wi := k + 1 }) 0 b1.m := rfl
    have q2 : (setTk (endB b1 r k 1) r { (endB b1 r k 1).T r with wi := k + 1 }).orr = opn (updN (endB b1 r k 1).T r { (endB b1 r k 1).T r with wi := k + 1 }) b1.m (b1.n - b1.m) := rfl
    have p1 : opn (endB b1 r k 1).T 0 b1.m = b1.om := p1
    have p2 : opn (endB b1 r k 1).T b1.m (b1.n - b1.m) = b1.orr := p2
    by_cases hrm : r < b1.m
    · have s1 := opn_won (T := (endB b1 r k 1).T) (i := r) (t := { (endB b1 r k 1).T r with wi := k + 1 }) hwe (by simp) 0 b1.m (Nat.zero_le _) (by omega)
      have s2 := opn_far (T := (endB b1 r k 1).T) (i := r) (t := { (endB b1 r k 1).T r with wi := k + 1 }) b1.m (b1.n - b1.m) (.inl hrm)
      omega
    · have s1 := opn_won (T := (endB b1 r k 1).T) (i := r) (t := { (endB b1 r k 1).T r with wi := k + 1 }) hwe (by simp) b1.m (b1.n - b1.m) (by omega) (by omega)
      have s2 := opn_far (T := (endB b1 r k 1).T) (i := r) (t := { (endB b1 r k 1).T r with wi := k + 1 }) 0 b1.m (.inr (by omega))
      omega
  have hmm : (winB (endB b1 r k 1) r (k + 1)).m = b1.m ∧ (winB (endB b1 r k 1) r (k + 1)).n = b1.n ∧ (winB (endB b1 r k 1) r (k + 1)).dead = b1.dead := by rw [e2]; exact ⟨rfl, rfl, rfl⟩
  rw [e]
  refine ⟨by simp [reportA, hin, hrun], ?_, ?_, ⟨hmm.1.trans (hbm.1.trans h.hm), hmm.2.1.trans (hbm.2.1.trans h.hn), hmm.2.2.trans (hbm.2.2.trans h.dead), hidl, hbi, by have := h.cnt; omega⟩⟩
  · unfold reportA
    rw [Int.toNat_natCast, hnr, Bool.and_false, Bool.false_and]
  · unfold reportB
    rw [Int.toNat_natCast, hnr, Bool.and_false, if_neg (by decide)]
theorem rep2_om (b1 : Bd) (x a : Int) : (reportB b1 x a 2).om = b1.om := by
  unfold reportB
  split
  · rw [if_neg (by decide), if_pos rfl]
    exact (end_opn b1 _ _ 2).1
  · rfl
theorem EI.goodM (h : EI b m n won i) (hr : r < b.n) (hw : (b.T r).wi = 0) (nd now : Int) :
    (r < b.m → (reportB (setTk b r (begT (b.T r) nd now)) (r : Int) (((b.T r).A.length : Int) + 1) 1).om + 1 = b.om) ∧ (¬ r < b.m → (reportB (setTk b r (begT (b.T r) nd now)) (r : Int) (((b.T r).A.length : Int) + 1) 1).om = b.om) := by
  obtain ⟨hk, h0, hrun⟩ := h.runN hr nd now
  have hin : inB (setTk b r (begT (b.T r) nd now)) (r : Int) = true := inB_of hr
  obtain ⟨o1, o2⟩ := beg_opn b r nd now
  have hw1 : ((setTk b r (begT (b.T r) nd now)).T r).wi = 0 := by rw [setTk_at]; exact hw
  obtain ⟨b1, hb⟩ : ∃ b1, b1 = setTk b r (begT (b.T r) nd now) := ⟨_, rfl⟩
  have hbm : b1.m = b.m := by rw [hb]; rfl
  rw [← hb] at hk hrun hin o1 o2 hw1 ⊢
  obtain ⟨k, hkd⟩ : ∃ k, k = (b.T r).A.length := ⟨_, rfl⟩
  rw [← hkd] at hk hrun ⊢
  have e : reportB b1 (r : Int) ((k : Int) + 1) 1 = winB (endB b1 r k 1) r (k + 1) := by
    unfold reportB
    rw [hin, Int.toNat_natCast, hrun, show ((k : Int) + 1).toNat - 1 = k by omega, show ((k : Int) + 1).toNat = k + 1 by omega]
    rfl
  have hwe : ((endB b1 r k 1).T r).wi = 0 := by rw [wi_end]; exact hw1
  have e2 : winB (endB b1 r k 1) r (k + 1) = setTk (endB b1 r k 1) r { (endB b1 r k 1).T r with wi := k + 1 } := by unfold winB; rw [if_pos hwe]
  obtain ⟨p1, p2⟩ := end_opn b1 r k 1
  have p1 : opn (endB b1 r k 1).T 0 b1.m = b1.om := p1
  have q1 : (setTk (endB b1 r k 1) r { (endB b1 r k 1).T r with wi := k + 1 }).om = opn (updN (endB b1 r k 1).T r { (endB b1 r k 1).T r with wi := k + 1 }) 0 b1.m := rfl
  rw [e, e2, ← hbm]
  constructor
  · intro hrm
    have s1 := opn_won (T := (endB b1 r k 1).T) (i := r) (t := { (endB b1 r k 1).T r with wi := k + 1 }) hwe (by simp) 0 b1.m (Nat.zero_le _) (by omega)
    omega
  · intro hrm
    have s2 := opn_far (T := (endB b1 r k 1).T) (i := r) (t := { (endB b1 r k 1).T r with wi := k + 1 }) 0 b1.m (.inr (by omega))
    omega
end
end Go.Proofs.Ytilobnplmkmmpaa
