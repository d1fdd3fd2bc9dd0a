/- Package attempts: whoever does what is ready: what stays true. -/
import Derived.Test.YtilobnplmkmmpaaAtmKT
namespace Go.Proofs.Ytilobnplmkmmpaa
open Go.RowKit

theorem lv_zero {A : List Att} (h : lvA A = 0) : ∀ a ∈ A, a.st ≠ 0 := fun a ha h0 => by
  have := List.countP_pos_iff.2 ⟨a, ha, (by simp [rn1, h0] : rn1 a = true)⟩
  unfold lvA at h
  omega
theorem lv_none {A : List Att} (h : ∀ a ∈ A, a.st ≠ 0) : lvA A = 0 := by
  unfold lvA
  rw [List.countP_eq_zero]
  intro a ha
  simp [rn1, h a ha]
theorem mayB_of {b : Bd} {r : Nat} (h1 : r < b.n) (h2 : (b.T r).wi = 0) (h3 : r < b.m ∨ b.om = 0) : mayB b (r : Int) = true := by
  have e1 : decide (0 ≤ (r : Int) ∧ (r : Int) < (b.n : Int)) = true := decide_eq_true (by omega)
  have e2 : (((b.T r).wi : Int) == 0) = true := by rw [h2]; rfl
  have e3 : (decide ((r : Int) < (b.m : Int)) || ((b.om : Int) == 0)) = true := by
    rw [Bool.or_eq_true]
    rcases h3 with h | h
    · exact .inl (decide_eq_true (by omega))
    · exact .inr (by rw [h]; rfl)
  show (decide (0 ≤ (r : Int) ∧ (r : Int) < (b.n : Int)) && (((b.T ((r : Int)).toNat).wi : Int) == 0) && (decide ((r : Int) < (b.m : Int)) || ((b.om : Int) == 0))) = true
  rw [Int.toNat_natCast, e1, e2, e3]
  rfl
theorem opn_some {T : Nat → Tk} {a : Nat} : ∀ k, opn T a k ≠ 0 → ∃ j, j < k ∧ (T (a + j)).wi = 0
  | 0, h => absurd rfl h
  | k + 1, h => by
    rw [opn_succ] at h
    by_cases e : (T (a + k)).wi = 0
    · exact ⟨k, by omega, e⟩
    · rw [if_neg e] at h
      obtain ⟨j, hj, h0⟩ := opn_some k (by omega)
      exact ⟨j, by omega, h0⟩
theorem ready_none {b : Bd} {nd now : Int} (hd : b.dead = false) (hl : ∀ j, (b.T j).lv = 0) (hmn : b.m ≤ b.n) (h : readyB b nd now = []) : b.om = 0 ∧ b.orr = 0 := by
  have key : ∀ i, i < b.n → (b.T i).wi = 0 → (i < b.m ∨ b.om = 0) → False := fun i h1 h2 h3 => by
    have hm : i ∈ thK (fun i => mayR (rawB (fun _ => .bool true) b) (i : Int) && ((b.T i).lv == 0)) b.n := by
      unfold thK
      rw [List.mem_filter]
      refine ⟨List.mem_range.2 h1, ?_⟩
      have e1 : mayR (rawB (fun _ => .bool true) b) (i : Int) = true := mayB_of h1 h2 h3
      rw [e1, hl i]
      rfl
    unfold readyB at h
    rw [hd, if_neg (by decide)] at h
    split at h
    · rename_i h9
      rw [h9] at hm
      cases hm
    · rw [h] at hm
      cases hm
  have h1 : b.om = 0 := by
    by_cases e : b.om = 0
    · exact e
    · obtain ⟨j, hj, h0⟩ := opn_some (T := b.T) (a := 0) b.m e
      rw [Nat.zero_add] at h0
      exact (key j (by omega) h0 (.inl hj)).elim
  refine ⟨h1, ?_⟩
  by_cases e : b.orr = 0
  · exact e
  · obtain ⟨j, hj, h0⟩ := opn_some (T := b.T) (a := b.m) (b.n - b.m) e
    exact (key (b.m + j) (by omega) h0 (.inr h1)).elim
/-- what stays true: nothing runs between the rounds -/
structure EI (b : Bd) (m n won : Nat) (i : Nat) : Prop where
  hm : b.m = m
  hn : b.n = n
  dead : b.dead = false
  idle : ∀ j, (b.T j).lv = 0
  bi : BI b i
  cnt : won + b.om + b.orr = n
theorem EI.start {b : Bd} {m n won i r : Nat} (h : EI b m n won i) (hr : r < b.n ∧ (b.T r).wi = 0 ∧ (r < b.m ∨ b.om = 0)) (now : Int) : startA b (r : Int) = (((b.T r).A.length + 1 : Nat) : Int) ∧ startB b (r : Int) 1 now = setTk b r (begT (b.T r) 1 (mom now)) := by
  have e1 := mayB_of hr.1 hr.2.1 hr.2.2
  constructor
  · unfold startA
    rw [e1, h.dead, Int.toNat_natCast]
    rfl
  · unfold startB
    rw [e1, h.dead, Int.toNat_natCast]
    rfl
theorem runT_of {t : Tk} {k : Nat} (hk : k < t.A.length) (h0 : t.A[k].st = 0) : runT t ((k : Int) + 1) = true := by
  unfold runT
  rw [show ((k : Int) + 1).toNat - 1 = k by omega, List.getElem?_eq_getElem hk]
  simp only [Bool.and_eq_true, decide_eq_true_eq]
  exact ⟨by omega, by omega, h0⟩
theorem runT_not {t : Tk} {k : Nat} (hk : k < t.A.length) (h0 : t.A[k].st ≠ 0) : runT t ((k : Int) + 1) = false := by
  unfold runT
  rw [show ((k : Int) + 1).toNat - 1 = k by omega, List.getElem?_eq_getElem hk]
  simp [h0]
theorem beg_len (t : Tk) (nd now : Int) : (begT t nd now).A.length = t.A.length + 1 := by simp [begT]
theorem beg_last (t : Tk) (nd now : Int) : ((begT t nd now).A[t.A.length]'(by rw [beg_len]; omega)) = ⟨0, nd, now⟩ := by
  simp only [begT]
  rw [List.getElem_append_right (Nat.le_refl _)]
  simp
theorem inB_of {b : Bd} {r : Nat} (h : r < b.n) : inB b (r : Int) = true := decide_eq_true (by omega)
section
variable {b : Bd} {m n won i r : Nat}
theorem EI.run (h : EI b m n won i) (hr : r < b.n) (now : Int) : ∃ hk : (b.T r).A.length < ((setTk b r (begT (b.T r) 1 now)).T r).A.length, (((setTk b r (begT (b.T r) 1 now)).T r).A[(b.T r).A.length]).st = 0 ∧ runT ((setTk b r (begT (b.T r) 1 now)).T r) (((b.T r).A.length : Int) + 1) = true := by
  have e : (setTk b r (begT (b.T r) 1 now)).T r = begT (b.T r) 1 now := setTk_at _ _ _
  have hk : (b.T r).A.length < (begT (b.T r) 1 now).A.length := by rw [beg_len]; omega
  have h0 : ((begT (b.T r) 1 now).A[(b.T r).A.length]'hk).st = 0 := by rw [beg_last]
  rw [e]
  exact ⟨hk, h0, runT_of hk h0⟩
theorem beg_opn (b : Bd) (r : Nat) (nd now : Int) : (setTk b r (begT (b.T r) nd now)).om = b.om ∧ (setTk b r (begT (b.T r) nd now)).orr = b.orr :=
  ⟨opn_same (fun j => upd_off b.T Tk.wi r j (begT (b.T r) nd now) rfl) _ _, opn_same (fun j => upd_off b.T Tk.wi r j (begT (b.T r) nd now) rfl) _ _⟩
theorem end_opn (b : Bd) (i k s : Nat) : (endB b i k s).om = b.om ∧ (endB b i k s).orr = b.orr :=
  ⟨opn_same (fun j => wi_end b i k s j) _ _, opn_same (fun j => wi_end b i k s j) _ _⟩
theorem gone_opn (b : Bd) (nd : Int) : (goneB b nd).om = b.om ∧ (goneB b nd).orr = b.orr :=
  ⟨opn_same (fun j => wi_gone b nd j) _ _, opn_same (fun j => wi_gone b nd j) _ _⟩
theorem end_idle (b : Bd) (r k s : Nat) (hk : k < (b.T r).A.length) (h0 : (b.T r).A[k].st = 0) (hs : s ≠ 0) (h1 : lvA (b.T r).A = 1) (hj : ∀ j, j ≠ r → (b.T j).lv = 0) : ∀ j, ((endB b r k s).T j).lv = 0 := fun j => by
  by_cases e : j = r
  · subst e
    have := lv_set (b.T j).A k s hk h0 hs
    rw [show (endB b j k s).T j = { b.T j with A := setSt (b.T j).A k s } from setTk_at _ _ _]
    show lvA (setSt (b.T j).A k s) = 0
    omega
  · rw [show (endB b r k s).T j = b.T j from setTk_off _ _ e]
    exact hj j e
theorem EI.one (h : EI b m n won i) (now : Int) : lvA ((setTk b r (begT (b.T r) 1 now)).T r).A = 1 ∧ ∀ j, j ≠ r → ((setTk b r (begT (b.T r) 1 now)).T j).lv = 0 := by
  refine ⟨?_, fun j e => by rw [setTk_off _ _ e]; exact h.idle j⟩
  rw [setTk_at]
  have h1 := begT_lv (b.T r) 1 now
  have h2 := h.idle r
  show (begT (b.T r) 1 now).lv = 1
  omega
/-- it failed -/
theorem EI.fail (h : EI b m n won i) (hr : r < b.n) (now : Int) : reportA (setTk b r (begT (b.T r) 1 now)) (r : Int) (((b.T r).A.length : Int) + 1) 2 = true ∧ EI (reportB (setTk b r (begT (b.T r) 1 now)) (r : Int) (((b.T r).A.length : Int) + 1) 2) m n won (i + 1) := by
  obtain ⟨hk, h0, hrun⟩ := h.run hr now
  have hin : inB (setTk b r (begT (b.T r) 1 now)) (r : Int) = true := inB_of hr
  obtain ⟨h1, hj⟩ := h.one (r := r) now
  have hb1 : BI (setTk b r (begT (b.T r) 1 now)) (i + 1) := bi_set h.bi (Nat.le_succ _) r (tok_beg (h.bi.win r) _ _) (by rw [beg_len]; have := h.bi.len r; omega) (by have := h.bi.fu r; show (b.T r).fu ≤ i + 1; omega)
  obtain ⟨o1, o2⟩ := beg_opn b r 1 now
  obtain ⟨b1, hb⟩ : ∃ b1, b1 = setTk b r (begT (b.T r) 1 now) := ⟨_, rfl⟩
  have hbm : b1.m = b.m ∧ b1.n = b.n ∧ b1.dead = b.dead := by rw [hb]; exact ⟨rfl, rfl, rfl⟩
  rw [← hb] at hk hrun hin h1 hj hb1 o1 o2 ⊢
  simp only [← hb] at h0
  constructor
  · simp [reportA, hin, hrun]
  · have e : reportB b1 (r : Int) (((b.T r).A.length : Int) + 1) 2 = endB b1 r (b.T r).A.length 2 := by
      unfold reportB
      rw [hin, Int.toNat_natCast, hrun, show (((b.T r).A.length : Int) + 1).toNat - 1 = (b.T r).A.length by omega]
      rfl
    rw [e]
    obtain ⟨p1, p2⟩ := end_opn b1 r (b.T r).A.length 2
    exact ⟨hbm.1.trans h.hm, hbm.2.1.trans h.hn, hbm.2.2.trans h.dead, end_idle b1 r _ 2 hk h0 (by decide) h1 hj, bi_end hb1 r _ 2 hk h0, by have := h.cnt; omega⟩
/-- its node was gone -/
theorem EI.gone (h : EI b m n won i) (hr : r < b.n) (now : Int) : reportA (goneB (setTk b r (begT (b.T r) 1 now)) 1) (r : Int) (((b.T r).A.length : Int) + 1) 1 = false ∧ reportB (goneB (setTk b r (begT (b.T r) 1 now)) 1) (r : Int) (((b.T r).A.length : Int) + 1) 1 = goneB (setTk b r (begT (b.T r) 1 now)) 1 ∧ EI (goneB (setTk b r (begT (b.T r) 1 now)) 1) m n won (i + 1) := by
  have hb1 : BI (setTk b r (begT (b.T r) 1 now)) (i + 1) := bi_set h.bi (Nat.le_succ _) r (tok_beg (h.bi.win r) _ _) (by rw [beg_len]; have := h.bi.len r; omega) (by have := h.bi.fu r; show (b.T r).fu ≤ i + 1; omega)
  obtain ⟨o1, o2⟩ := beg_opn b r 1 now
  obtain ⟨p1, p2⟩ := gone_opn (setTk b r (begT (b.T r) 1 now)) 1
  have hT : (goneB (setTk b r (begT (b.T r) 1 now)) 1).T r = lvT 1 (begT (b.T r) 1 now) := by
    show (if r < b.n then lvT 1 ((setTk b r (begT (b.T r) 1 now)).T r) else _) = _
    rw [if_pos hr, setTk_at]
  have hk : (b.T r).A.length < (lvT 1 (begT (b.T r) 1 now)).A.length := by
    simp only [lvT, List.length_map, beg_len]
    omega
  have hst : ((lvT 1 (begT (b.T r) 1 now)).A[(b.T r).A.length]'hk).st ≠ 0 := by
    simp only [lvT, List.getElem_map]
    rw [beg_last]
    simp [lvN]
  have hrun : runT ((goneB (setTk b r (begT (b.T r) 1 now)) 1).T r) (((b.T r).A.length : Int) + 1) = false := by rw [hT]; exact runT_not hk hst
  refine ⟨?_, ?_, ⟨h.hm, h.hn, h.dead, fun j => ?_, bi_gone hb1 1, by have := h.cnt; omega⟩⟩
  · unfold reportA
    rw [Int.toNat_natCast, hrun, Bool.and_false, Bool.false_and]
  · unfold reportB
    rw [Int.toNat_natCast, hrun, Bool.and_false, if_neg (by decide)]
  · have hidle : ∀ j, ∀ a ∈ ((setTk b r (begT (b.T r) 1 now)).T j).A, a.st = 0 → a.nd = 1 := fun j a ha h0 => by
      by_cases e : j = r
      · subst e
        rw [setTk_at] at ha
        simp only [begT, List.mem_append, List.mem_cons, List.not_mem_nil, or_false] at ha
        rcases ha with ha | ha
        · exact absurd h0 (lv_zero (h.idle j) a ha)
        · rw [ha]
      · rw [setTk_off _ _ e] at ha
        exact absurd h0 (lv_zero (h.idle j) a ha)
    have hnone : ∀ t : Tk, (∀ a ∈ t.A, a.st = 0 → a.nd = 1) → (lvT 1 t).lv = 0 := fun t ht => lv_none fun a ha => by
      simp only [lvT] at ha
      obtain ⟨c, hc, rfl⟩ := List.mem_map.1 ha
      unfold lvN
      split
      · simp
      · rename_i hn
        exact fun h0 => hn ⟨h0, ht c hc h0⟩
    show (if j < b.n then lvT 1 ((setTk b r (begT (b.T r) 1 now)).T j) else (setTk b r (begT (b.T r) 1 now)).T j).lv = 0
    split
    · exact hnone _ (hidle j)
    · rename_i hjn
      rw [setTk_off _ _ (by omega)]
      exact h.idle j
/-- it was good -/
theorem EI.good (h : EI b m n won i) (hmn : b.m ≤ b.n) (hr : r < b.n) (hw : (b.T r).wi = 0) (now : Int) :
    reportA (setTk b r (begT (b.T r) 1 now)) (r : Int) (((b.T r).A.length : Int) + 1) 1 = true ∧
    reportA (reportB (setTk b r (begT (b.T r) 1 now)) (r : Int) (((b.T r).A.length : Int) + 1) 1) (r : Int) (((b.T r).A.length : Int) + 1) 1 = false ∧
    reportB (reportB (setTk b r (begT (b.T r) 1 now)) (r : Int) (((b.T r).A.length : Int) + 1) 1) (r : Int) (((b.T r).A.length : Int) + 1) 1 = reportB (setTk b r (begT (b.T r) 1 now)) (r : Int) (((b.T r).A.length : Int) + 1) 1 ∧
    EI (reportB (setTk b r (begT (b.T r) 1 now)) (r : Int) (((b.T r).A.length : Int) + 1) 1) m n (won + 1) (i + 1) := by
  obtain ⟨hk, h0, hrun⟩ := h.run hr now
  have hin : inB (setTk b r (begT (b.T r) 1 now)) (r : Int) = true := inB_of hr
  obtain ⟨h1, hj⟩ := h.one (r := r) now
  have hb1 : BI (setTk b r (begT (b.T r) 1 now)) (i + 1) := bi_set h.bi (Nat.le_succ _) r (tok_beg (h.bi.win r) _ _) (by rw [beg_len]; have := h.bi.len r; omega) (by have := h.bi.fu r; show (b.T r).fu ≤ i + 1; omega)
  obtain ⟨o1, o2⟩ := beg_opn b r 1 now
  have hw1 : ((setTk b r (begT (b.T r) 1 now)).T r).wi = 0 := by rw [setTk_at]; exact hw
  obtain ⟨b1, hb⟩ : ∃ b1, b1 = setTk b r (begT (b.T r) 1 now) := ⟨_, rfl⟩
  have hbm : b1.m = b.m ∧ b1.n = b.n ∧ b1.dead = b.dead := by rw [hb]; exact ⟨rfl, rfl, rfl⟩
  rw [← hb] at hk hrun hin h1 hj hb1 o1 o2 hw1 ⊢
  simp only [← hb] at h0
  obtain ⟨k, hkd⟩ : ∃ k, k = (b.T r).A.length := ⟨_, rfl⟩
  simp only [← hkd] at h0
  rw [← hkd] at hk hrun ⊢
  have e : reportB b1 (r : Int) ((k : Int) + 1) 1 = winB (endB b1 r k 1) r (k + 1) := by
    unfold reportB
    rw [hin, Int.toNat_natCast, hrun, show ((k : Int) + 1).toNat - 1 = k by omega, show ((k : Int) + 1).toNat = k + 1 by omega]
    rfl
  have hwe : ((endB b1 r k 1).T r).wi = 0 := by rw [wi_end]; exact hw1
  have e2 : winB (endB b1 r k 1) r (k + 1) = setTk (endB b1 r k 1) r { (endB b1 r k 1).T r with wi := k + 1 } := by unfold winB; rw [if_pos hwe]
  have eA : ((endB b1 r k 1).T r).A = setSt (b1.T r).A k 1 := by simp only [endB, setTk_at]
  have hbi : BI (winB (endB b1 r k 1) r (k + 1)) (i + 1) := bi_win (bi_end hb1 r k 1 hk h0) r k (by rw [eA, setSt_len]; exact hk) (by simp only [eA]; exact end_st _ _ _ hk _)
  have hidl : ∀ j, ((winB (endB b1 r k 1) r (k + 1)).T j).lv = 0 := fun j => by
    have h9 := end_idle b1 r k 1 hk h0 (by decide) h1 hj j
    rw [e2]
    by_cases ej : j = r
    · subst ej
      rw [setTk_at]
      exact h9
    · rw [setTk_off _ _ ej]
      exact h9
  have hTr : ((winB (endB b1 r k 1) r (k + 1)).T r).A = setSt (b1.T r).A k 1 := by rw [e2, setTk_at]; exact eA
  have hnr : runT ((winB (endB b1 r k 1) r (k + 1)).T r) ((k : Int) + 1) = false := runT_not (by rw [hTr, setSt_len]; exact hk) (by simp only [hTr]; rw [end_st _ _ _ hk]; decide)
  have hcnt : (winB (endB b1 r k 1) r (k + 1)).om + (winB (endB b1 r k 1) r (k + 1)).orr + 1 = b.om + b.orr := by
    obtain ⟨p1, p2⟩ := end_opn b1 r k 1
    rw [e2]
    have q1 : (setTk (endB b1 r k 1) r { (endB b1 r k 1).T r with wi := k + 1 }).om = opn (updN (endB b1 r k 1).T r { (endB b1 r k 1).T r with wi := k + 1 }) 0 b1.m := rfl
    have q2 : (setTk (endB b1 r k 1) r { (endB b1 r k 1).T r with wi := k + 1 }).orr = opn (updN (endB b1 r k 1).T r { (endB b1 r k 1).T r with wi := k + 1 }) b1.m (b1.n - b1.m) := rfl
    have p1 : opn (endB b1 r k 1).T 0 b1.m = b1.om := p1
    have p2 : opn (endB b1 r k 1).T b1.m (b1.n - b1.m) = b1.orr := p2
    by_cases hrm : r < b1.m
    · have s1 := opn_won (T := (endB b1 r k 1).T) (i := r) (t := { (endB b1 r k 1).T r with wi := k + 1 }) hwe (by simp) 0 b1.m (Nat.zero_le _) (by omega)
      have s2 := opn_far (T := (endB b1 r k 1).T) (i := r) (t := { (endB b1 r k 1).T r with wi := k + 1 }) b1.m (b1.n - b1.m) (.inl hrm)
      omega
    · have s1 := opn_won (T := (endB b1 r k 1).T) (i := r) (t := { (endB b1 r k 1).T r with wi := k + 1 }) hwe (by simp) b1.m (b1.n - b1.m) (by omega) (by omega)
      have s2 := opn_far (T := (endB b1 r k 1).T) (i := r) (t := { (endB b1 r k 1).T r with wi := k + 1 }) 0 b1.m (.inr (by omega))
      omega
  have hmm : (winB (endB b1 r k 1) r (k + 1)).m = b1.m ∧ (winB (endB b1 r k 1) r (k + 1)).n = b1.n ∧ (winB (endB b1 r k 1) r (k + 1)).dead = b1.dead := by rw [e2]; exact ⟨rfl, rfl, rfl⟩
  rw [e]
  refine ⟨by simp [reportA, hin, hrun], ?_, ?_, ⟨hmm.1.trans (hbm.1.trans h.hm), hmm.2.1.trans (hbm.2.1.trans h.hn), hmm.2.2.trans (hbm.2.2.trans h.dead), hidl, hbi, by have := h.cnt; omega⟩⟩
  · unfold reportA
    rw [Int.toNat_natCast, hnr, Bool.and_false, Bool.false_and]
  · unfold reportB
    rw [Int.toNat_natCast, hnr, Bool.and_false, if_neg (by decide)]
end
theorem ei_new (m r : Nat) (hm : m ≤ 50) (hr : r ≤ 50) : EI (newB (m : Int) (r : Int) 1 9) m (m + r) 0 0 := by
  have e1 : cnt (m : Int) = m := by unfold cnt; omega
  have e2 : cnt (r : Int) = r := by unfold cnt; omega
  have eb : newB (m : Int) (r : Int) 1 9 = ⟨m, m + r, fun _ => ⟨[], 0, 0⟩, 1, 9, false⟩ := by unfold newB; rw [e1, e2]; rfl
  rw [eb]
  refine ⟨rfl, rfl, rfl, fun _ => rfl, ⟨fun _ h => absurd rfl h, fun _ => Nat.le_refl _, fun _ => Nat.le_refl _⟩, ?_⟩
  show 0 + opn _ 0 m + opn _ m (m + r - m) = m + r
  rw [opn_new, opn_new]
  omega
end Go.Proofs.Ytilobnplmkmmpaa
