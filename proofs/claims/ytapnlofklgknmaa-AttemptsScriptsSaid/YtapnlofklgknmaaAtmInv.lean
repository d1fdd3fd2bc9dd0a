/- Package attempts: what stays true of a board, whatever is called. -/
import Derived.Test.YtapnlofklgknmaaAtmLst
namespace Go.Proofs.Ytapnlofklgknmaa
open Go.RowKit

def TOk (t : Tk) : Prop := t.wi ≠ 0 → ∃ hk : t.wi - 1 < t.A.length, (t.A[t.wi - 1]).st = 1
theorem tok_beg {t : Tk} (h : TOk t) (nd now : Int) : TOk (begT t nd now) := fun h0 => by
  obtain ⟨hk, hs⟩ := h h0
  refine ⟨by simp only [begT, List.length_append]; exact Nat.lt_of_lt_of_le hk (Nat.le_add_right _ _), ?_⟩
  simp only [begT]
  rw [List.getElem_append_left hk]
  exact hs
theorem tok_set {t : Tk} (h : TOk t) (k s : Nat) (hk : k < t.A.length) (h0 : t.A[k].st = 0) : TOk { t with A := setSt t.A k s } := fun hw => by
  obtain ⟨hk1, hs⟩ := h hw
  refine ⟨by rw [setSt_len]; exact hk1, ?_⟩
  show ((setSt t.A k s)[t.wi - 1]'(by rw [setSt_len]; exact hk1)).st = 1
  rw [setSt_get]
  split
  · rename_i e
    simp only [e] at h0
    omega
  · exact hs
theorem tok_win {t : Tk} (k : Nat) (hk : k < t.A.length) (h1 : t.A[k].st = 1) : TOk { t with wi := k + 1 } := fun _ => ⟨by show k + 1 - 1 < t.A.length; omega, by simpa using h1⟩
theorem tok_gone {t : Tk} (h : TOk t) (nd : Int) : TOk (lvT nd t) := fun hw => by
  obtain ⟨hk1, hs⟩ := h hw
  refine ⟨by simp only [lvT, List.length_map]; exact hk1, ?_⟩
  simp only [lvT, List.getElem_map]
  unfold lvN
  split
  · rename_i e
    omega
  · exact hs
theorem tok_los (t : Tk) : TOk (losT t) := fun h => absurd rfl h
theorem tok_fu {t : Tk} (h : TOk t) (f : Nat) : TOk { t with fu := f } := h
theorem winOk_set {b : Bd} (h : WinOk b) (i : Nat) {t : Tk} (ht : TOk t) : WinOk (setTk b i t) := fun j => by
  show TOk (updN b.T i t j)
  by_cases e : j = i
  · subst e; rw [updN_same]; exact ht
  · rw [updN_other _ _ e]; exact h j
/-- what stays true; so many calls at most -/
structure BI (b : Bd) (N : Nat) : Prop where
  win : WinOk b
  len : ∀ i, (b.T i).A.length ≤ N
  fu : ∀ i, (b.T i).fu ≤ N
theorem BI.more {b : Bd} {N N' : Nat} (h : BI b N) (hn : N ≤ N') : BI b N' := ⟨h.win, fun i => Nat.le_trans (h.len i) hn, fun i => Nat.le_trans (h.fu i) hn⟩
theorem bi_set {b : Bd} {N N' : Nat} (h : BI b N) (hn : N ≤ N') (i : Nat) {t : Tk} (ht : TOk t) (h1 : t.A.length ≤ N') (h2 : t.fu ≤ N') : BI (setTk b i t) N' :=
  ⟨winOk_set h.win i ht, fun j => by
    show (updN b.T i t j).A.length ≤ N'
    by_cases e : j = i
    · subst e; rw [updN_same]; exact h1
    · rw [updN_other _ _ e]; exact Nat.le_trans (h.len j) hn, fun j => by
    show (updN b.T i t j).fu ≤ N'
    by_cases e : j = i
    · subst e; rw [updN_same]; exact h2
    · rw [updN_other _ _ e]; exact Nat.le_trans (h.fu j) hn⟩
theorem bi_start {b : Bd} {N : Nat} (h : BI b N) (x nd now : Int) : BI (startB b x nd now) (N + 1) := by
  unfold startB
  split
  · exact bi_set h (Nat.le_succ _) _ (tok_beg (h.win _) _ _) (by simp only [begT, List.length_append, List.length_cons, List.length_nil]; have := h.len x.toNat; omega) (by have := h.fu x.toNat; simp only [begT]; omega)
  · exact h.more (Nat.le_succ _)
theorem setTk_at (b : Bd) (i : Nat) (t : Tk) : (setTk b i t).T i = t := updN_same _ _ _
theorem setTk_off (b : Bd) {i j : Nat} (t : Tk) (h : j ≠ i) : (setTk b i t).T j = b.T j := updN_other _ _ h
theorem bi_end {b : Bd} {N : Nat} (h : BI b N) (i k s : Nat) (hk : k < (b.T i).A.length) (h0 : (b.T i).A[k].st = 0) : BI (endB b i k s) N :=
  bi_set h (Nat.le_refl _) i (tok_set (h.win i) k s hk h0) (by rw [setSt_len]; exact h.len i) (h.fu i)
theorem bi_win {b : Bd} {N : Nat} (h : BI b N) (i k : Nat) (hk : k < (b.T i).A.length) (h1 : (b.T i).A[k].st = 1) : BI (winB b i (k + 1)) N := by
  unfold winB
  split
  · exact bi_set h (Nat.le_refl _) i (tok_win k hk h1) (h.len i) (h.fu i)
  · exact h
theorem end_st (A : List Att) (k s : Nat) (hk : k < A.length) (hk2 : k < (setSt A k s).length) : (setSt A k s)[k].st = s := by
  rw [setSt_get, if_pos rfl]
theorem bi_report {b : Bd} {N : Nat} (h : BI b N) (x a how : Int) : BI (reportB b x a how) (N + 1) := by
  unfold reportB
  obtain ⟨i, hi⟩ : ∃ i, i = x.toNat := ⟨_, rfl⟩
  rw [← hi]
  by_cases hr : (inB b x && runT (b.T i) a) = true
  · rw [if_pos hr]
    simp only [Bool.and_eq_true] at hr
    obtain ⟨k, hk, rfl, hst⟩ := runT_at hr.2
    have e1 : ((k : Int) + 1).toNat - 1 = k := by omega
    have e2 : ((k : Int) + 1).toNat = k + 1 := by omega
    rw [e1, e2]
    split
    · have h1 := bi_end h i k 1 hk hst
      have eA : ((endB b i k 1).T i).A = setSt (b.T i).A k 1 := by simp only [endB, setTk_at]
      exact (bi_win h1 i k (by rw [eA, setSt_len]; exact hk) (by simp only [eA]; exact end_st _ _ _ hk _)).more (Nat.le_succ _)
    · split
      · exact (bi_end h i k 2 hk hst).more (Nat.le_succ _)
      · split
        · have hf : BI (fulB b i) (N + 1) := by
            have h9 := bi_set h (Nat.le_succ N) i (t := { b.T i with fu := (b.T i).fu + 1 }) (tok_fu (h.win i) _) (Nat.le_succ_of_le (h.len i)) (by have := h.fu i; show (b.T i).fu + 1 ≤ N + 1; omega)
            exact ⟨h9.win, h9.len, h9.fu⟩
          have eA : ((fulB b i).T i).A = (b.T i).A := by
            show ((setTk b i { b.T i with fu := (b.T i).fu + 1 }).T i).A = _
            rw [setTk_at]
          exact bi_end hf i k 2 (by rw [eA]; exact hk) (by simp only [eA]; exact hst)
        · exact h.more (Nat.le_succ _)
  · rw [if_neg hr]
    exact h.more (Nat.le_succ _)
theorem bi_gone {b : Bd} {N : Nat} (h : BI b N) (nd : Int) : BI (goneB b nd) N := by
  have key : ∀ i, (goneB b nd).T i = lvT nd (b.T i) ∨ (goneB b nd).T i = b.T i := fun i => by
    show (if i < b.n then lvT nd (b.T i) else b.T i) = _ ∨ (if i < b.n then lvT nd (b.T i) else b.T i) = _
    split
    · exact .inl rfl
    · exact .inr rfl
  refine ⟨fun i => ?_, fun i => ?_, fun i => ?_⟩
  · show TOk _
    rcases key i with e | e <;> rw [e]
    · exact tok_gone (h.win i) nd
    · exact h.win i
  · rcases key i with e | e <;> rw [e]
    · simp only [lvT, List.length_map]; exact h.len i
    · exact h.len i
  · rcases key i with e | e <;> rw [e]
    · exact h.fu i
    · exact h.fu i
theorem bi_lost {b : Bd} {N : Nat} (h : BI b N) (x a : Int) : BI (lostB b x a) N := by
  unfold lostB
  split
  · exact bi_set h (Nat.le_refl _) _ (tok_los _) (by simp only [losT, setSt_len]; exact h.len _) (h.fu _)
  · exact h
theorem bi_new (m r lim pat : Int) : BI (newB m r lim pat) 0 := ⟨fun _ h => absurd rfl h, fun _ => Nat.le_refl _, fun _ => Nat.le_refl _⟩
/-! winners -/
theorem wi_start (b : Bd) (x nd now : Int) (i : Nat) : ((startB b x nd now).T i).wi = (b.T i).wi := by
  unfold startB
  split
  · exact upd_off b.T Tk.wi _ i (begT (b.T x.toNat) nd (mom now)) rfl
  · rfl
theorem wi_gone (b : Bd) (nd : Int) (i : Nat) : ((goneB b nd).T i).wi = (b.T i).wi := by
  show (if i < b.n then lvT nd (b.T i) else b.T i).wi = _
  split <;> rfl
theorem wi_end (b : Bd) (i k s j : Nat) : ((endB b i k s).T j).wi = (b.T j).wi := upd_off b.T Tk.wi i j { b.T i with A := setSt (b.T i).A k s } rfl
theorem wi_ful (b : Bd) (i j : Nat) : ((fulB b i).T j).wi = (b.T j).wi := upd_off b.T Tk.wi i j { b.T i with fu := (b.T i).fu + 1 } rfl
theorem wi_win (b : Bd) (i a j : Nat) (h : (b.T j).wi ≠ 0) : ((winB b i a).T j).wi = (b.T j).wi := by
  unfold winB
  split
  · rename_i h0
    have e : j ≠ i := fun e => h (e ▸ h0)
    rw [setTk_off b _ e]
  · rfl
theorem wi_report (b : Bd) (x a how : Int) (i : Nat) (h : (b.T i).wi ≠ 0) : ((reportB b x a how).T i).wi = (b.T i).wi := by
  unfold reportB
  split
  · split
    · rw [wi_win _ _ _ _ (by rw [wi_end]; exact h), wi_end]
    · split
      · rw [wi_end]
      · split
        · rw [wi_end, wi_ful]
        · rfl
  · rfl
theorem wi_lost (b : Bd) (x a : Int) (i : Nat) : ((lostB b x a).T i).wi = if lostA b x a = true ∧ i = x.toNat then 0 else (b.T i).wi := by
  unfold lostB
  by_cases h : lostA b x a = true
  · rw [if_pos h]
    by_cases e : i = x.toNat
    · rw [if_pos ⟨h, e⟩, e, setTk_at]
      rfl
    · rw [if_neg (fun q => e q.2), setTk_off b _ e]
  · rw [if_neg h, if_neg (fun q => h q.1)]
theorem same_m (b : Bd) (x nd now a how : Int) : (startB b x nd now).m = b.m ∧ (startB b x nd now).n = b.n ∧ (reportB b x a how).m = b.m ∧ (reportB b x a how).n = b.n ∧ (goneB b nd).m = b.m ∧ (goneB b nd).n = b.n ∧ (lostB b x a).m = b.m ∧ (lostB b x a).n = b.n := by
  refine ⟨?_, ?_, ?_, ?_, rfl, rfl, ?_, ?_⟩
  · unfold startB; split <;> rfl
  · unfold startB; split <;> rfl
  · unfold reportB winB; repeat (first | rfl | split)
  · unfold reportB winB; repeat (first | rfl | split)
  · unfold lostB; split <;> rfl
  · unfold lostB; split <;> rfl
end Go.Proofs.Ytapnlofklgknmaa
