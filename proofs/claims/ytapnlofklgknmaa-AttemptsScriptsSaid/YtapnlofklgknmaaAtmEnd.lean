/- Package attempts: an attempt ends. -/
import Derived.Test.YtapnlofklgknmaaAtmStart
namespace Go.Proofs.Ytapnlofklgknmaa
open Go.RowKit

theorem setSt_get (A : List Att) (j s i : Nat) (h : i < (setSt A j s).length) : (setSt A j s)[i] = if j = i then { A[i]'(by rw [setSt_len] at h; exact h) with st := s } else A[i]'(by rw [setSt_len] at h; exact h) := by
  simp only [setSt, List.getElem_modify]
theorem lv_set : ∀ (A : List Att) (j s : Nat) (h : j < A.length), A[j].st = 0 → s ≠ 0 → lvA (setSt A j s) + 1 = lvA A
  | [], j, _, h, _, _ => absurd h (Nat.not_lt_zero _)
  | a :: A, 0, s, _, h0, hs => by
    have h0 : a.st = 0 := h0
    simp [setSt, lvA, rn1, h0, hs]
  | a :: A, j + 1, s, h, h0, hs => by
    have ih := lv_set A j s (by simpa using h) h0 hs
    simp only [setSt, lvA, List.modify_succ_cons, List.countP_cons] at ih ⊢
    omega
theorem lv_off : ∀ (A : List Att) (j s : Nat) (h : j < A.length), A[j].st ≠ 0 → s ≠ 0 → lvA (setSt A j s) = lvA A
  | [], j, _, h, _, _ => absurd h (Nat.not_lt_zero _)
  | a :: A, 0, s, _, h0, hs => by
    have h0 : a.st ≠ 0 := h0
    simp [setSt, lvA, rn1, h0, hs]
  | a :: A, j + 1, s, h, h0, hs => by
    have ih := lv_off A j s (by simpa using h) h0 hs
    simp only [setSt, lvA, List.modify_succ_cons, List.countP_cons] at ih ⊢
    omega
theorem fi_of {A : List Att} {f : Nat} (h2 : f ≤ A.length) (h1 : ∀ j (hj : j < f), rn1 (A[j]'(by omega)) = false) (h3 : ∀ hl : f < A.length, rn1 A[f] = true) : fiA A = f := by
  unfold fiA
  by_cases h : f < A.length
  · exact (List.findIdx_eq h).2 ⟨h3 h, h1⟩
  · obtain rfl : f = A.length := by omega
    refine List.findIdx_eq_length.2 fun x hx => ?_
    obtain ⟨j, hj, e⟩ := List.getElem_of_mem hx
    rw [← e]
    exact h1 j hj
theorem fi_le (A : List Att) : fiA A ≤ A.length := List.findIdx_le_length
theorem fi_before (A : List Att) (j : Nat) (hj : j < fiA A) : rn1 (A[j]'(Nat.lt_of_lt_of_le hj (fi_le A))) = false := by
  have := List.not_of_lt_findIdx hj
  simpa using this
theorem fi_off (A : List Att) (j s : Nat) (h : j < A.length) (h0 : A[j].st ≠ 0) (hs : s ≠ 0) : fiA (setSt A j s) = fiA A := by
  refine fi_of (by rw [setSt_len]; exact fi_le A) (fun i hi => ?_) (fun hl => ?_)
  · have := fi_before A i hi
    rw [setSt_get]
    split
    · simp [rn1, hs]
    · exact this
  · have hl' : fiA A < A.length := by rw [setSt_len] at hl; exact hl
    have ht : rn1 A[fiA A] = true := List.findIdx_getElem (w := hl')
    rw [setSt_get]
    split
    · rename_i e
      subst e
      simp [rn1, h0] at ht
    · exact ht
/-- is the attempt with this number running? -/
def runT (t : Tk) (x : Int) : Bool := decide (1 ≤ x) && (decide (x ≤ (t.A.length : Int)) && (match t.A[x.toNat - 1]? with | some a => decide (a.st = 0) | none => false))
section
variable {B p tb : Nat} {w : World} {hs : Nat → Value} {b : Bd}
set_option maxHeartbeats 1000000 in
theorem runs_any (h : Hid (RawAt B w p tb (rawB hs b))) (i : Nat) (hi : i < b.n) (hl : (b.T i).A.length < 4398046511105) (x : Int) : Calls Try.prog 37 #[.pointer (some ⟨tb, i * 5, none⟩), .int .i64 x] w fun e w' => e = .returned (.bool (runT (b.T i) x)) ∧ w = w' := by
  have c0 : w.cell? ⟨tb, i * 5, none⟩ = some (hs i) := h.out.t0 i hi
  obtain ⟨A0, cp, hv⟩ := own_slice (h.out.at' i hi)
  have hv : hs i = .slice A0 (b.T i).A.length cp := hv
  by_cases h1 : 1 ≤ x
  · by_cases h2 : x ≤ ((b.T i).A.length : Int)
    · obtain ⟨k, rfl⟩ : ∃ k : Nat, x = (k : Int) + 1 := ⟨x.toNat - 1, by omega⟩
      have hk : k < (b.T i).A.length := by omega
      obtain ⟨g, c, hv2, k0, _, _⟩ := att_at h.out hi hk
      rw [hv2] at c0
      have e : runT (b.T i) ((k : Int) + 1) = decide ((b.T i).A[k].st = 0) := by
        simp only [runT, decide_eq_true h1, decide_eq_true h2, Bool.true_and]
        rw [show ((k : Int) + 1).toNat - 1 = k by omega, List.getElem?_eq_getElem hk]
      have e2 : decide ((b.T i).A[k].st = 0) = (((b.T i).A[k].st : Int) == 0) := Bool.eq_iff_iff.2 (by simp only [decide_eq_true_eq, beq_iff_eq]; omega)
      rw [e, e2]
      obtain ⟨L, hL⟩ : ∃ L, L = (b.T i).A.length := ⟨_, rfl⟩
      rw [← hL] at c0 h2 hk hl
      have hw1 : IntKind.i64.wrap ((k : Int) + 1 - 1) = (k : Int) := by rw [show (k : Int) + 1 - 1 = (k : Int) by omega]; exact IntWalk.i64_in _ (by omega)
      have hw2 : wrap64 ((k : Int) + 1 - 1) = (k : Int) := by rw [show (k : Int) + 1 - 1 = (k : Int) by omega]; exact IntWalk.wrap64_in _ ⟨by omega, by omega⟩
      have h1d : decide (1 ≤ (k : Int) + 1) = true := decide_eq_true h1
      have h2d : decide ((k : Int) + 1 ≤ (L : Int)) = true := decide_eq_true h2
      clear e e2 hv2 hv hL h1 h2
      go_enter Try.func37, Try.ntmps37
      go_wp2
      go_ret
      exact ⟨rfl, rfl⟩
    · have e : runT (b.T i) x = false := by simp [runT, h2]
      rw [e]
      rw [hv] at c0
      have h1d : decide (1 ≤ x) = true := decide_eq_true h1
      have h2d : decide (x ≤ ((b.T i).A.length : Int)) = false := decide_eq_false h2
      go_enter Try.func37, Try.ntmps37
      go_wp2
      go_ret
      exact ⟨rfl, rfl⟩
  · have e : runT (b.T i) x = false := by simp [runT, h1]
    rw [e]
    have h1d : decide (1 ≤ x) = false := decide_eq_false h1
    go_enter Try.func37, Try.ntmps37
    go_wp2
    go_ret
    exact ⟨rfl, rfl⟩
/-- a board with raw cells in one task -/
def rawM (hs : Nat → Value) (b : Bd) (i : Nat) (A : List Att) (f lv : Int) : Raw := { rawB hs b with R := updN (rawB hs b).R i { (rawB hs b).R i with fi := f, lv := lv }, A := updN (rawB hs b).A i A }
theorem rawM_done {hs : Nat → Value} {b : Bd} {i : Nat} {A : List Att} {f lv : Nat} (hf : fiA A = f) (hl : lvA A = lv) : rawM hs b i A (f : Int) (lv : Int) = rawB hs (setTk b i { b.T i with A := A }) := by
  have hw : ∀ j, ((setTk b i { b.T i with A := A }).T j).wi = (b.T j).wi := fun j => by
    show (updN b.T i _ j).wi = _
    exact upd_off b.T Tk.wi i j _ rfl
  have e1 : (setTk b i { b.T i with A := A }).om = b.om := opn_same hw _ _
  have e2 : (setTk b i { b.T i with A := A }).orr = b.orr := opn_same hw _ _
  unfold rawM rawB
  simp only [e1, e2]
  congr 1
  · funext j
    show updN _ i _ j = TkR.mk (hs j) _ _ _ _
    by_cases e : j = i
    · subst e
      simp only [updN_same, setTk]
      rw [show Tk.fi { b.T j with A := A } = f from hf, show Tk.lv { b.T j with A := A } = lv from hl]
    · simp only [updN_other _ _ e, setTk]
  · funext j
    show updN _ i _ j = (updN b.T i _ j).A
    by_cases e : j = i
    · subst e
      simp only [updN_same]
    · simp only [updN_other _ _ e]
theorem updN_twice {α : Type} (f : Nat → α) (i : Nat) (x y : α) : updN (updN f i x) i y = updN f i y := by
  funext j
  by_cases e : j = i
  · subst e; simp only [updN_same]
  · simp only [updN_other _ _ e]
theorem meas_up {L f : Nat} (h : f < L) : L - (intOf ((some (Value.int .i64 ((f : Int) + 1))).getD undef)).toNat < L - (intOf ((some (Value.int .i64 (f : Int))).getD undef)).toNat := by
  show L - ((f : Int) + 1).toNat < L - ((f : Int)).toNat
  omega
set_option maxRecDepth 100000 in
set_option maxHeartbeats 4000000 in
theorem end_any (h : Hid (RawAt B w p tb (rawB hs b))) (i : Nat) (hi : i < b.n) (hl : (b.T i).A.length < 4398046511105) (k s : Nat) (hk : k < (b.T i).A.length) (hr : (b.T i).A[k].st = 0) (hs0 : s ≠ 0) (hs4 : s ≤ 4) :
    Calls Try.prog 38 #[.pointer (some ⟨tb, i * 5, none⟩), .int .i64 ((k : Int) + 1), .int .i64 (s : Int)] w fun e w' => e = .returned (.tuple #[]) ∧ Hid (RawAt B w' p tb (rawB hs (setTk b i { b.T i with A := setSt (b.T i).A k s })) ∧ AF w w' ∧ (B ≤ w.heap.size → Below B w w')) := by
  have c0 : w.cell? ⟨tb, i * 5, none⟩ = some (hs i) := h.out.t0 i hi
  have c2 : w.cell? ⟨tb, i * 5 + 2, none⟩ = some (.int .i64 ((b.T i).lv : Int)) := h.out.t2 i hi
  obtain ⟨g, c, hv2, u0, k0⟩ : ∃ g c, hs i = .slice (some ⟨g, 0, none⟩) (b.T i).A.length c ∧ ∃ u, w.cell? ⟨g, k * 3, none⟩ = some u := by
    obtain ⟨g, c, hv2, k0, _, _⟩ := att_at h.out hi hk
    exact ⟨g, c, hv2, _, k0⟩
  rw [hv2] at c0
  have hA := h.out.setA (i := i) (j := k) (g := g) (c := c) (s := s) hi hk hv2
  have f0 := bears_free (own_bears (h.out.at' i hi) (show (hs i).ownBlock = some g by rw [hv2]; rfl)) (k * 3)
  have hlv := lv_set (b.T i).A k s hk hr hs0
  obtain ⟨L, hL⟩ : ∃ L, L = (b.T i).A.length := ⟨_, rfl⟩
  rw [← hL] at c0
  have hkL : k < L := by omega
  have hlL : L < 4398046511105 := by omega
  have hw1 : IntKind.i64.wrap ((k : Int) + 1 - 1) = (k : Int) := by rw [show (k : Int) + 1 - 1 = (k : Int) by omega]; exact IntWalk.i64_in _ (by omega)
  have hw2 : wrap64 ((k : Int) + 1 - 1) = (k : Int) := by rw [show (k : Int) + 1 - 1 = (k : Int) by omega]; exact IntWalk.wrap64_in _ ⟨by omega, by omega⟩
  go_enter Try.func38, Try.ntmps38
  have d2 : (w.setCell ⟨g, k * 3, none⟩ (.int .i64 (s : Int))).cell? ⟨tb, i * 5 + 2, none⟩ = some (.int .i64 ((b.T i).lv : Int)) := hA.t2 i hi
  have df2 := bears_free hA.tt (i * 5 + 2)
  obtain ⟨v, hv⟩ : ∃ v, v = lvA (setSt (b.T i).A k s) := ⟨_, rfl⟩
  have hlvv : ((b.T i).lv : Int) - 1 = (v : Int) := by
    have : (b.T i).lv = lvA (b.T i).A := rfl
    omega
  have hvb : v < 4398046511105 := by have := lv_le (b.T i); have : (b.T i).lv = lvA (b.T i).A := rfl; omega
  have hw3 : IntKind.i64.wrap (((b.T i).lv : Int) - 1) = (v : Int) := by rw [hlvv]; exact IntWalk.i64_in _ (by omega)
  have hw4 : wrap64 (((b.T i).lv : Int) - 1) = (v : Int) := by rw [hlvv]; exact IntWalk.wrap64_in _ ⟨by omega, by omega⟩
  have hA2 := hA.setLv i (v : Int)
  have hR0 : Hid (RawAt B ((w.setCell ⟨g, k * 3, none⟩ (.int .i64 (s : Int))).setCell ⟨tb, i * 5 + 2, none⟩ (.int .i64 (v : Int))) p tb (rawM hs b i (setSt (b.T i).A k s) ((b.T i).fi : Int) (v : Int))) := Lib.hid hA2
  have hgb : Bears w g 73 := own_bears (h.out.at' i hi) (show (hs i).ownBlock = some g by rw [hv2]; rfl)
  have hgB : B ≤ g := ((h.out.at' i hi).lt g (show (hs i).ownBlock = some g by rw [hv2]; rfl)).1
  obtain ⟨A', hA'⟩ : ∃ A', A' = setSt (b.T i).A k s := ⟨_, rfl⟩
  rw [← hA'] at hR0 hv ⊢
  have hAL : A'.length = L := by rw [hA', setSt_len, hL]
  have hbef : ∀ j (hj : j < fiA (b.T i).A) (hl : j < A'.length), rn1 A'[j] = false := fun j hj hl => by
    subst hA'
    have := fi_before _ j hj
    rw [setSt_get]
    split
    · simp [rn1, hs0]
    · exact this
  have hfi : fiA (b.T i).A ≤ L := by rw [hL]; exact fi_le _
  obtain ⟨f0', hf0'⟩ : ∃ f, f = fiA (b.T i).A := ⟨_, rfl⟩
  rw [show (b.T i).fi = f0' from hf0'.symm] at hR0
  rw [← hf0'] at hbef hfi
  have hAF0 : Hid (AF w ((w.setCell ⟨g, k * 3, none⟩ (.int .i64 (s : Int))).setCell ⟨tb, i * 5 + 2, none⟩ (.int .i64 (v : Int))) ∧ (B ≤ w.heap.size → Below B w ((w.setCell ⟨g, k * 3, none⟩ (.int .i64 (s : Int))).setCell ⟨tb, i * 5 + 2, none⟩ (.int .i64 (v : Int))))) := by
    refine Lib.hid ⟨fun c e hb h1 h2 h3 => ?_, fun hB => ((Below.refl B w).setCell (p := ⟨g, k * 3, none⟩) hgB _).setCell (p := ⟨tb, i * 5 + 2, none⟩) h.out.ht _⟩
    rw [set_block _ _ _ (bears_apart hb h.out.tt h2), set_block _ _ _ (bears_apart hb hgb h3)]
  have hAt : Bears w tb 63 := h.out.tt
  have hhs : hs i = .slice (some ⟨g, 0, none⟩) L c := by rw [hv2, hL]
  obtain ⟨W2, hW2⟩ : ∃ W2, W2 = (w.setCell ⟨g, k * 3, none⟩ (.int .i64 (s : Int))).setCell ⟨tb, i * 5 + 2, none⟩ (.int .i64 (v : Int)) := ⟨_, rfl⟩
  rw [← hW2] at hR0 hAF0
  have HW2 := Lib.hid hW2
  have HV := Lib.hid hv
  have HHS := Lib.hid hhs
  have HB := Lib.hid hbef
  have HAL := Lib.hid hAL
  have HH := h
  clear hA hA2 hW2 hv hhs hbef hAL hv2 hlv hlvv hf0' hL h hgb hAt hA' hr hvb hk hl
  go_wp2
  rw [← HW2.out]
  go_loopw [] (fun wr => ∃ f : Nat, f0' ≤ f ∧ f ≤ L ∧ Hid (RawAt B wr p tb (rawM hs b i A' (f : Int) (v : Int)) ∧ (∀ j (_ : j < f) (hl : j < A'.length), rn1 A'[j] = false) ∧ AF w wr ∧ (B ≤ w.heap.size → Below B w wr))) (fun wr => L - (intOf ((wr.cell? ⟨tb, i * 5 + 1, none⟩).getD undef)).toNat)
  case atStart => exact ⟨f0', Nat.le_refl _, hfi, Lib.hid ⟨hR0.out, HB.out, hAF0.out⟩⟩
  case round =>
    clear hw1 hw2 hw3 hw4
    obtain ⟨f, hf1, hf2, HI⟩ := hrel
    have hR := HI.out.1
    have c1r : wr.cell? ⟨tb, i * 5 + 1, none⟩ = some (.int .i64 (f : Int)) := by
      have h9 := hR.t1 i hi
      simp only [rawM, updN_same] at h9
      exact h9
    have c0r : wr.cell? ⟨tb, i * 5, none⟩ = some (.slice (some ⟨g, 0, none⟩) L c) := by
      have h9 := hR.t0 i hi
      simp only [rawM, updN_same] at h9
      rw [← HHS.out]
      exact h9
    have f1r := bears_free hR.tt (i * 5 + 1)
    by_cases hlt : f < L
    · have hlA : f < A'.length := by have := HAL.out; omega
      have kf : wr.cell? ⟨g, f * 3, none⟩ = some (.int .i64 (A'[f].st : Int)) := by
        have h9 := hR.at' i hi
        simp only [rawM, updN_same] at h9
        rw [show ((rawB hs b).R i).h = hs i from rfl, HHS.out, ← HAL.out] at h9
        exact (h9.cellAt (f * 3) (Nat.mul_lt_mul_of_pos_right hlA (by decide))).trans (atC_get A' f hlA).1
      have hltd : decide (f < L) = true := decide_eq_true hlt
      by_cases hst : A'[f].st = 0
      · rw [hst] at kf
        have hfin : Hid (RawAt B wr p tb (rawB hs (setTk b i { b.T i with A := A' })) ∧ AF w wr ∧ (B ≤ w.heap.size → Below B w wr)) := by
          have h9 := HI.out
          rw [rawM_done (fi_of (by have := HAL.out; omega) (fun j hj => h9.2.1 j hj _) (fun _ => by simp [rn1, hst])) HV.out.symm] at h9
          exact Lib.hid ⟨h9.1, h9.2.2⟩
        clear hR HI c2 c0 k0 f0 d2 df2
        go_wp2_with (fail)
        go_quiet (fail)
        go_wp2
        first
          | (go_end0; exact ⟨rfl, Lib.hid ⟨hfin.out.1.drewN _, hfin.out.2.1, fun hB => ⟨(hfin.out.2.2 hB).os, (hfin.out.2.2 hB).tape, (hfin.out.2.2 hB).output, (hfin.out.2.2 hB).size, (hfin.out.2.2 hB).block⟩⟩⟩)
          | exact bodyPost_ret (v := .tuple #[]) (results_none rfl _ _ _) rfl ⟨rfl, Lib.hid ⟨hfin.out.1.drewN _, hfin.out.2.1, fun hB => ⟨(hfin.out.2.2 hB).os, (hfin.out.2.2 hB).tape, (hfin.out.2.2 hB).output, (hfin.out.2.2 hB).size, (hfin.out.2.2 hB).block⟩⟩⟩
      · have hne : ((A'[f].st : Int) != 0) = true := by simp; omega
        have hnx : ∀ m, Hid (RawAt B ((wr.drewN m).setCell ⟨tb, i * 5 + 1, none⟩ (.int .i64 ((f : Int) + 1))) p tb (rawM hs b i A' ((f + 1 : Nat) : Int) (v : Int)) ∧ (∀ j (_ : j < f + 1) (hl : j < A'.length), rn1 A'[j] = false) ∧ AF w ((wr.drewN m).setCell ⟨tb, i * 5 + 1, none⟩ (.int .i64 ((f : Int) + 1))) ∧ (B ≤ w.heap.size → Below B w ((wr.drewN m).setCell ⟨tb, i * 5 + 1, none⟩ (.int .i64 ((f : Int) + 1))))) := fun m => by
          have h9 := (hR.drewN m).setFi i ((f : Int) + 1)
          have e9 : ({ rawM hs b i A' (f : Int) (v : Int) with R := updN (rawM hs b i A' (f : Int) (v : Int)).R i { (rawM hs b i A' (f : Int) (v : Int)).R i with fi := (f : Int) + 1 } } : Raw) = rawM hs b i A' ((f + 1 : Nat) : Int) (v : Int) := by
            unfold rawM
            simp only [updN_same, updN_twice]
            congr 1
          rw [e9] at h9
          refine Lib.hid ⟨h9, fun j hj hl => ?_, fun c9 e hb h1 h2 h3 => ?_, fun hB => ?_⟩
          · by_cases ej : j = f
            · subst ej
              simp [rn1, hst]
            · exact HI.out.2.1 j (by omega) hl
          · rw [set_block _ _ _ (bears_apart hb HH.out.tt h2)]
            exact HI.out.2.2.1 c9 e hb h1 h2 h3
          · have h5 := HI.out.2.2.2 hB
            have h6 : Below B w (wr.drewN m) := ⟨h5.os, h5.tape, h5.output, h5.size, h5.block⟩
            exact h6.setCell (p := ⟨tb, i * 5 + 1, none⟩) HH.out.ht _
        have HNX := Lib.hid hnx
        have HM1 : Hid (∀ m, ((wr.drewN m).setCell ⟨tb, i * 5 + 1, none⟩ (.int .i64 ((f : Int) + 1))).cell? ⟨tb, i * 5 + 1, none⟩ = some (.int .i64 ((f : Int) + 1))) := Lib.hid fun m => World.cell?_setCell_same _ _ _ (show (wr.drewN m).cell? _ = _ from c1r)
        have hw5 : IntKind.i64.wrap ((f : Int) + 1) = (f : Int) + 1 := IntWalk.i64_in _ (by omega)
        have hw6 : wrap64 ((f : Int) + 1) = (f : Int) + 1 := IntWalk.wrap64_in _ ⟨by omega, by omega⟩
        clear hR HI c2 c0 k0 f0 d2 df2 hst hnx
        go_wp2_with (fail)
        go_quiet (fail)
        go_wp2
        go_roundw
        case rel => exact ⟨f + 1, Nat.le_succ_of_le hf1, hlt, HNX.out _⟩
        case measure =>
          rw [HM1.out, c1r]
          exact meas_up hlt
    · obtain rfl : f = L := by omega
      have hltd : decide (f < f) = false := decide_eq_false (by omega)
      have hfin : Hid (RawAt B wr p tb (rawB hs (setTk b i { b.T i with A := A' })) ∧ AF w wr ∧ (B ≤ w.heap.size → Below B w wr)) := by
        have h9 := HI.out
        rw [rawM_done (fi_of (by have := HAL.out; omega) (fun j hj => h9.2.1 j hj _) (fun hl => absurd hl (by have := HAL.out; omega))) HV.out.symm] at h9
        exact Lib.hid ⟨h9.1, h9.2.2⟩
      clear hR HI c2 c0 k0 f0 d2 df2
      go_wp2_with (fail)
      go_quiet (fail)
      go_wp2
      first
        | (go_end0; exact ⟨rfl, Lib.hid ⟨hfin.out.1.drewN _, hfin.out.2.1, fun hB => ⟨(hfin.out.2.2 hB).os, (hfin.out.2.2 hB).tape, (hfin.out.2.2 hB).output, (hfin.out.2.2 hB).size, (hfin.out.2.2 hB).block⟩⟩⟩)
        | exact bodyPost_ret (v := .tuple #[]) (results_none rfl _ _ _) rfl ⟨rfl, Lib.hid ⟨hfin.out.1.drewN _, hfin.out.2.1, fun hB => ⟨(hfin.out.2.2 hB).os, (hfin.out.2.2 hB).tape, (hfin.out.2.2 hB).output, (hfin.out.2.2 hB).size, (hfin.out.2.2 hB).block⟩⟩⟩
end
end Go.Proofs.Ytapnlofklgknmaa
