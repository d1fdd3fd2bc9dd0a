/- Package attempts: a node is gone. -/
import Derived.Test.YtapnlofklgknmaaAtmRep
namespace Go.Proofs.Ytapnlofklgknmaa
open Go.RowKit

def lvN (nd : Int) (a : Att) : Att := if a.st = 0 ∧ a.nd = nd then { a with st := 3 } else a
def lvK (A : List Att) (nd : Int) (j : Nat) : List Att := (A.take j).map (lvN nd) ++ A.drop j
theorem lvK_len (A : List Att) (nd : Int) (j : Nat) : (lvK A nd j).length = A.length := by
  simp [lvK]
  omega
theorem lvK_get (A : List Att) (nd : Int) (j i : Nat) (h : i < A.length) : (lvK A nd j)[i]? = some (if i < j then lvN nd A[i] else A[i]) := by
  unfold lvK
  by_cases hij : i < j
  · rw [List.getElem?_append_left (by simp; omega)]
    simp [hij, h]
  · rw [List.getElem?_append_right (by simp; omega)]
    simp only [List.length_map, List.length_take, hij, if_false]
    rw [List.getElem?_drop, List.getElem?_eq_some_iff]
    refine ⟨by omega, ?_⟩
    congr 1
    omega
theorem lvK_ext {A B : List Att} (nd : Int) (j : Nat) (hl : B.length = A.length) (h : ∀ i (hi : i < A.length), B[i]? = some (if i < j then lvN nd A[i] else A[i])) : B = lvK A nd j := by
  apply List.ext_getElem?
  intro i
  by_cases hi : i < A.length
  · rw [h i hi, lvK_get A nd j i hi]
  · rw [List.getElem?_eq_none (by omega), List.getElem?_eq_none (by rw [lvK_len]; omega)]
theorem lvK_at (A : List Att) (nd : Int) (j i : Nat) (h : i < (lvK A nd j).length) (h2 : i < A.length) : (lvK A nd j)[i] = if i < j then lvN nd A[i] else A[i] := by
  have := lvK_get A nd j i h2
  rw [List.getElem?_eq_getElem h] at this
  injection this
theorem lvK_first (A : List Att) (nd : Int) : lvK A nd (fiA A) = A := by
  refine (lvK_ext nd _ rfl fun i hi => ?_).symm
  rw [List.getElem?_eq_getElem hi]
  by_cases h : i < fiA A
  · have := fi_before A i h
    have hne : ¬ (A[i].st = 0) := by simpa [rn1] using this
    simp [h, lvN, hne]
  · simp [h]
theorem lvK_yes (A : List Att) (nd : Int) (j : Nat) (h : j < A.length) (h0 : A[j].st = 0 ∧ A[j].nd = nd) : setSt (lvK A nd j) j 3 = lvK A nd (j + 1) := by
  refine lvK_ext nd _ (by rw [setSt_len, lvK_len]) fun i hi => ?_
  rw [List.getElem?_eq_getElem (by rw [setSt_len, lvK_len]; exact hi), setSt_get, lvK_at A nd j i (by rw [lvK_len]; exact hi) hi]
  by_cases e : j = i
  · subst e
    simp [lvN, h0]
  · by_cases e2 : i < j
    · simp [e, e2, show i < j + 1 by omega]
    · simp [e, e2, show ¬ i < j + 1 by omega]
theorem lvK_no (A : List Att) (nd : Int) (j : Nat) (h : j < A.length) (h0 : ¬ (A[j].st = 0 ∧ A[j].nd = nd)) : lvK A nd j = lvK A nd (j + 1) := by
  refine lvK_ext nd _ (by rw [lvK_len]) fun i hi => ?_
  rw [lvK_get A nd j i hi]
  by_cases e : j = i
  · subst e
    simp [lvN, h0]
  · by_cases e2 : i < j
    · simp [e2, show i < j + 1 by omega]
    · simp [e2, show ¬ i < j + 1 by omega]
theorem lvK_all (A : List Att) (nd : Int) : lvK A nd A.length = A.map (lvN nd) := by simp [lvK]
theorem setTk_same (b : Bd) (i : Nat) (t : Tk) (h : t = b.T i) : setTk b i t = b := by
  subst h
  unfold setTk
  have : updN b.T i (b.T i) = b.T := by
    funext j
    by_cases e : j = i
    · subst e; exact updN_same _ _ _
    · exact updN_other _ _ e
  rw [this]
theorem setTk_twice (b : Bd) (i : Nat) (t t' : Tk) : setTk (setTk b i t) i t' = setTk b i t' := by
  unfold setTk
  simp only [updN_twice]
theorem meas_up2 {L f : Nat} (h : f < L) : L - (intOf (Value.int .i64 ((f : Int) + 1))).toNat < L - (intOf (Value.int .i64 (f : Int))).toNat := by
  show L - ((f : Int) + 1).toNat < L - ((f : Int)).toNat
  omega
section
variable {B p tb : Nat} {w : World} {hs : Nat → Value} {b : Bd}
set_option maxRecDepth 100000 in
set_option maxHeartbeats 8000000 in
theorem leave_any (h : Hid (RawAt B w p tb (rawB hs b))) (hB : B ≤ w.heap.size) (i : Nat) (hi : i < b.n) (hl : (b.T i).A.length < 4398046511105) (nd : Int) :
    Calls Try.prog 40 #[.pointer (some ⟨tb, i * 5, none⟩), .int .i64 nd] w fun e w' => e = .returned (.tuple #[]) ∧ Hid (RawAt B w' p tb (rawB hs (setTk b i { b.T i with A := (b.T i).A.map (lvN nd) })) ∧ AF w w' ∧ Below B w w') := by
  have c1 : w.cell? ⟨tb, i * 5 + 1, none⟩ = some (.int .i64 ((b.T i).fi : Int)) := h.out.t1 i hi
  obtain ⟨A, hA⟩ : ∃ A, A = (b.T i).A := ⟨_, rfl⟩
  obtain ⟨L, hL⟩ : ∃ L, L = A.length := ⟨_, rfl⟩
  obtain ⟨f0, hf0⟩ : ∃ f, f = fiA A := ⟨_, rfl⟩
  rw [show (b.T i).fi = f0 by rw [hf0, hA]; rfl] at c1
  have hf0L : f0 ≤ L := by rw [hf0, hL]; exact fi_le A
  have hst : Hid (RawAt B w p tb (rawB hs (setTk b i { b.T i with A := lvK A nd f0 })) ∧ AF w w ∧ Below B w w) := by
    rw [setTk_same b i _ (by rw [hf0, lvK_first, hA])]
    exact Lib.hid ⟨h.out, af_refl _, Below.refl _ _⟩
  rw [← hA] at hl ⊢
  rw [← hL] at hl
  rw [← lvK_all A nd, ← hL]
  have HL := Lib.hid hL
  clear hL hf0 hA
  go_enter Try.func40, Try.ntmps40
  go_wp2
  go_loopw [4] (fun iv wr => ∃ j : Nat, f0 ≤ j ∧ j ≤ L ∧ iv = .int .i64 (j : Int) ∧ Hid (RawAt B wr p tb (rawB hs (setTk b i { b.T i with A := lvK A nd j })) ∧ AF w wr ∧ Below B w wr)) (fun iv _ => L - (intOf iv).toNat)
  case atStart => exact ⟨f0, Nat.le_refl _, hf0L, rfl, hst⟩
  case round =>
    obtain ⟨j, hj1, hj2, rfl, HI⟩ := hrel
    have hR := HI.out.1
    have hBr : B ≤ wr.heap.size := Nat.le_trans hB HI.out.2.2.size
    have hAi : ((setTk b i { b.T i with A := lvK A nd j }).T i).A = lvK A nd j := by
      show (updN b.T i _ i).A = _
      rw [updN_same]
    have hAL : (lvK A nd j).length = L := by rw [lvK_len, HL.out]
    obtain ⟨A0, cp, hv⟩ := own_slice (hR.at' i hi)
    have hv : hs i = .slice A0 L cp := by
      have h9 : hs i = .slice A0 ((setTk b i { b.T i with A := lvK A nd j }).T i).A.length cp := hv
      rw [hAi, hAL] at h9
      exact h9
    have c0 : wr.cell? ⟨tb, i * 5, none⟩ = some (hs i) := hR.t0 i hi
    by_cases hlt : j < L
    · have hjA : j < A.length := by have := HL.out; omega
      obtain ⟨g, c, hv2, k0, k1, k2⟩ := att_at (b := setTk b i { b.T i with A := lvK A nd j }) hR hi (j := j) (by rw [hAi, hAL]; exact hlt)
      have eA : ((setTk b i { b.T i with A := lvK A nd j }).T i).A[j]'(by rw [hAi, hAL]; exact hlt) = A[j] := by
        simp only [hAi]
        rw [lvK_at A nd j j (by rw [hAL]; exact hlt) hjA, if_neg (Nat.lt_irrefl _)]
      rw [eA] at k0 k1 k2
      rw [hAi, hAL] at hv2
      rw [hv2] at c0
      obtain ⟨a, ha⟩ : ∃ a, a = A[j] := ⟨_, rfl⟩
      rw [← ha] at k0 k1 k2
      have hb1 : Below wr.heap.size wr (wr.alloc (.cells #[.int .i64 (a.st : Int), .int .i64 a.nd, .int .i64 a.bg] 73)) := (Below.refl _ _).alloc (Nat.le_refl _) _
      have hR1 := Lib.hid (hR.below hb1)
      have hA1 : Hid (AF w (wr.alloc (.cells #[.int .i64 (a.st : Int), .int .i64 a.nd, .int .i64 a.bg] 73)) ∧ Below B w (wr.alloc (.cells #[.int .i64 (a.st : Int), .int .i64 a.nd, .int .i64 a.bg] 73))) := Lib.hid ⟨af_trans HI.out.2.1 (af_below hb1), HI.out.2.2.trans (hb1.mono hBr)⟩
      by_cases hm : A[j].st = 0 ∧ A[j].nd = nd
      · have hend := end_any (b := setTk b i { b.T i with A := lvK A nd j }) hR1 i hi (by rw [hAi, hAL]; exact hl) j 3 (by rw [hAi, hAL]; exact hlt) (by rw [eA]; exact hm.1) (by decide) (by decide)
        have e9 : setTk (setTk b i { b.T i with A := lvK A nd j }) i { (setTk b i { b.T i with A := lvK A nd j }).T i with A := setSt ((setTk b i { b.T i with A := lvK A nd j }).T i).A j 3 } = setTk b i { b.T i with A := lvK A nd (j + 1) } := by
          rw [hAi, lvK_yes A nd j hjA hm, setTk_twice]
          congr 1
          show ({ updN b.T i { b.T i with A := lvK A nd j } i with A := _ } : Tk) = _
          rw [updN_same]
        rw [e9] at hend
        have HEND := Lib.hid hend
        have hs0 : (a.st : Int) = 0 := by rw [ha, hm.1]; rfl
        have hn0 : a.nd = nd := by rw [ha, hm.2]
        rw [hs0] at k0 hA1
        rw [hn0] at k1 hA1
        rw [hs0, hn0] at HEND
        have hb1s : B ≤ (wr.alloc (.cells #[.int .i64 0, .int .i64 nd, .int .i64 a.bg] 73)).heap.size := by simp; omega
        clear hend hR hR1 hb1 hm hs0 hn0 ha eA hv2 hv HI e9 hAi
        go_wp2_with (fail)
        refine HEND.out.mono ?_
        rintro e w2 ⟨rfl, hE⟩
        have HI2 := Lib.hid (And.intro hE.out.1 (And.intro (af_trans hA1.out.1 hE.out.2.1) (hA1.out.2.trans (hE.out.2.2 hb1s))))
        clear hE
        go_wp2
        go_roundw
        case rel => exact ⟨j + 1, Nat.le_succ_of_le hj1, hlt, by first | rfl | go_num, HI2⟩
        case measure => exact meas_up2 hlt
      · have HI2 : Hid (RawAt B (wr.alloc (.cells #[.int .i64 (a.st : Int), .int .i64 a.nd, .int .i64 a.bg] 73)) p tb (rawB hs (setTk b i { b.T i with A := lvK A nd (j + 1) })) ∧ AF w (wr.alloc (.cells #[.int .i64 (a.st : Int), .int .i64 a.nd, .int .i64 a.bg] 73)) ∧ Below B w (wr.alloc (.cells #[.int .i64 (a.st : Int), .int .i64 a.nd, .int .i64 a.bg] 73))) := by
          rw [← lvK_no A nd j hjA hm]
          exact Lib.hid ⟨hR1.out, hA1.out⟩
        have hm2 : (((a.st : Int) == 0) && (a.nd == nd)) = false := by
          rw [Bool.eq_false_iff]
          intro h9
          simp only [Bool.and_eq_true, beq_iff_eq] at h9
          exact hm ⟨by rw [← ha]; omega, by rw [← ha]; exact h9.2⟩
        clear hR hR1 hb1 hm ha eA hv2 hv HI hA1 hAi
        by_cases hs0 : (a.st : Int) = 0
        · have d1 : ((a.st : Int) == 0) = true := by simp [hs0]
          have d2 : (a.nd == nd) = false := by simpa [d1] using hm2
          clear hm2 hs0
          go_wp2
          go_roundw
          case rel => exact ⟨j + 1, Nat.le_succ_of_le hj1, hlt, by first | rfl | go_num, HI2⟩
          case measure => exact meas_up2 hlt
        · have d1 : ((a.st : Int) == 0) = false := by simp; omega
          clear hm2 hs0
          go_wp2
          go_roundw
          case rel => exact ⟨j + 1, Nat.le_succ_of_le hj1, hlt, by first | rfl | go_num, HI2⟩
          case measure => exact meas_up2 hlt
    · obtain rfl : j = L := by omega
      rw [hv] at c0
      clear hR hv hAi
      go_wp2
      go_end0
      exact ⟨rfl, HI⟩
end
def lvT (nd : Int) (t : Tk) : Tk := { t with A := t.A.map (lvN nd) }
def goneK (b : Bd) (nd : Int) (j : Nat) : Bd := { b with T := fun i => if i < j then lvT nd (b.T i) else b.T i }
def goneB (b : Bd) (nd : Int) : Bd := goneK b nd b.n
theorem goneK_zero (b : Bd) (nd : Int) : goneK b nd 0 = b := by
  unfold goneK
  simp
theorem goneK_succ (b : Bd) (nd : Int) (j : Nat) : setTk (goneK b nd j) j { (goneK b nd j).T j with A := ((goneK b nd j).T j).A.map (lvN nd) } = goneK b nd (j + 1) := by
  have e : (goneK b nd j).T j = b.T j := by simp [goneK]
  rw [e]
  unfold setTk goneK
  congr 1
  funext i
  by_cases ei : i = j
  · subst ei
    rw [updN_same, if_pos (by omega)]
    rfl
  · rw [updN_other _ _ ei]
    show (if i < j then lvT nd (b.T i) else b.T i) = _
    by_cases h : i < j
    · rw [if_pos h, if_pos (by omega)]
    · rw [if_neg h, if_neg (by omega)]
set_option maxRecDepth 100000 in
set_option maxHeartbeats 8000000 in
theorem gone_any {w0 w : World} {p : Nat} {b : Bd} (h : Hid (AB w0 w p b)) (hl : ∀ i, i < b.n → (b.T i).A.length < 4398046511105) (nd : Int) :
    Calls Try.prog 15 #[.pointer (some ⟨p, 0, none⟩), .int .i64 nd] w fun e w' => e = .returned (.tuple #[]) ∧ Hid (AB w0 w' p (goneB b nd) ∧ AF w w') := by
  obtain ⟨tb, hs, HR⟩ := abd_raw h.out
  have hbel := h.out.bel.size
  have hbn := h.out.nn
  have c1 : w.cell? ⟨p, 1, none⟩ = some (.slice (some ⟨tb, 0, none⟩) b.n b.n) := HR.out.c1
  have hst : Hid (RawAt w0.heap.size w p tb (rawB hs (goneK b nd 0)) ∧ AF w w ∧ Below w0.heap.size w w) := by
    rw [goneK_zero]
    exact Lib.hid ⟨HR.out, af_refl _, Below.refl _ _⟩
  go_enter Try.func15, Try.ntmps15
  go_wp2
  go_loopw [12] (fun iv wr => ∃ k : Nat, k ≤ b.n ∧ iv = .int .i64 (k : Int) ∧ Hid (RawAt w0.heap.size wr p tb (rawB hs (goneK b nd k)) ∧ AF w wr ∧ Below w0.heap.size w wr)) (fun iv _ => b.n - (intOf iv).toNat)
  case atStart => exact ⟨0, Nat.zero_le _, rfl, hst⟩
  case round =>
    obtain ⟨k, hk, rfl, HI⟩ := hrel
    by_cases hlt : k < b.n
    · have hT : (goneK b nd k).T k = b.T k := by simp [goneK]
      have hlv := leave_any (b := goneK b nd k) (Lib.hid HI.out.1) (Nat.le_trans hbel HI.out.2.2.size) k hlt (by rw [hT]; exact hl k hlt) nd
      rw [goneK_succ] at hlv
      have HLV := Lib.hid hlv
      have c1r : wr.cell? ⟨p, 1, none⟩ = some (.slice (some ⟨tb, 0, none⟩) b.n b.n) := HI.out.1.c1
      clear hlv hT
      go_wp2_with (fail)
      refine HLV.out.mono ?_
      rintro e w2 ⟨rfl, hE⟩
      have HI2 := Lib.hid (And.intro hE.out.1 (And.intro (af_trans HI.out.2.1 hE.out.2.1) (HI.out.2.2.trans hE.out.2.2)))
      clear hE
      go_wp2
      go_roundw
      case rel => exact ⟨k + 1, hlt, by first | rfl | go_num, HI2⟩
      case measure => exact meas_up2 hlt
    · obtain rfl : k = b.n := by omega
      have hfin : Hid (AB w0 wr p (goneB b nd) ∧ AF w wr) := Lib.hid ⟨ab_after h.out HI.out.2.2 ⟨tb, hs, HI.out.1⟩ rfl rfl rfl rfl, HI.out.2.1⟩
      clear HI
      go_wp2
      go_end0
      exact ⟨rfl, hfin⟩
end Go.Proofs.Ytapnlofklgknmaa
