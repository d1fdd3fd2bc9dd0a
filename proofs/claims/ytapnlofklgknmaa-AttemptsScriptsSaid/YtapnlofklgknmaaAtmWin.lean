/- Package attempts: a winner; what is reported. -/
import Derived.Test.YtapnlofklgknmaaAtmEnd
namespace Go.Proofs.Ytapnlofklgknmaa
open Go.RowKit

theorem opn_zero (T : Nat → Tk) (a : Nat) : opn T a 0 = 0 := rfl
theorem opn_succ (T : Nat → Tk) (a k : Nat) : opn T a (k + 1) = opn T a k + (if (T (a + k)).wi = 0 then 1 else 0) := by
  unfold opn
  rw [List.range_succ, List.countP_append]
  simp [List.countP_cons]
theorem opn_congr {T T' : Nat → Tk} (a : Nat) : ∀ k, (∀ j, j < k → (T' (a + j)).wi = (T (a + j)).wi) → opn T' a k = opn T a k
  | 0, _ => rfl
  | k + 1, h => by rw [opn_succ, opn_succ, opn_congr a k (fun j hj => h j (by omega)), h k (by omega)]
theorem opn_le (T : Nat → Tk) (a : Nat) : ∀ k, opn T a k ≤ k
  | 0 => Nat.le_refl _
  | k + 1 => by
    have := opn_le T a k
    rw [opn_succ]
    split <;> omega
/-- one of these tasks is won -/
theorem opn_won {T : Nat → Tk} {i : Nat} {t : Tk} (h0 : (T i).wi = 0) (h1 : t.wi ≠ 0) (a : Nat) : ∀ k, a ≤ i → i < a + k → opn (updN T i t) a k + 1 = opn T a k
  | 0, h2, h3 => by omega
  | k + 1, h2, h3 => by
    rw [opn_succ, opn_succ]
    by_cases e : i = a + k
    · subst e
      rw [updN_same, if_neg h1, if_pos h0, opn_congr a k (fun j hj => by rw [updN_other _ _ (by omega)])]
    · have ih := opn_won h0 h1 a k h2 (by omega)
      rw [updN_other _ _ (fun q => e q.symm)]
      omega
theorem opn_lost {T : Nat → Tk} {i : Nat} {t : Tk} (h0 : (T i).wi ≠ 0) (h1 : t.wi = 0) (a : Nat) : ∀ k, a ≤ i → i < a + k → opn (updN T i t) a k = opn T a k + 1
  | 0, h2, h3 => by omega
  | k + 1, h2, h3 => by
    rw [opn_succ, opn_succ]
    by_cases e : i = a + k
    · subst e
      rw [updN_same, if_pos h1, if_neg h0, opn_congr a k (fun j hj => by rw [updN_other _ _ (by omega)])]
    · have ih := opn_lost h0 h1 a k h2 (by omega)
      rw [updN_other _ _ (fun q => e q.symm)]
      omega
theorem opn_far {T : Nat → Tk} {i : Nat} {t : Tk} (a k : Nat) (h : i < a ∨ a + k ≤ i) : opn (updN T i t) a k = opn T a k := opn_congr a k fun j hj => by rw [updN_other _ _ (by omega)]
def winB (b : Bd) (i a : Nat) : Bd := if (b.T i).wi = 0 then setTk b i { b.T i with wi := a } else b
theorem raw_ext {q q' : Raw} (h1 : q.m = q'.m) (h2 : q.n = q'.n) (h3 : q.R = q'.R) (h4 : q.A = q'.A) (h5 : q.lim = q'.lim) (h6 : q.pat = q'.pat) (h7 : q.om = q'.om) (h8 : q.orr = q'.orr) (h9 : q.dead = q'.dead) : q = q' := by
  cases q
  cases q'
  simp_all
theorem raw_won {hs : Nat → Value} {b : Bd} {i a : Nat} (om orr : Int) (h1 : om = ((setTk b i { b.T i with wi := a }).om : Int)) (h2 : orr = ((setTk b i { b.T i with wi := a }).orr : Int)) :
    ({ rawB hs b with R := updN (rawB hs b).R i { (rawB hs b).R i with wi := (a : Int) }, om := om, orr := orr } : Raw) = rawB hs (setTk b i { b.T i with wi := a }) := by
  refine raw_ext rfl rfl (funext fun j => ?_) (funext fun j => ?_) rfl rfl h1 h2 rfl
  · show updN _ i _ j = TkR.mk (hs j) _ _ _ _
    by_cases e : j = i
    · subst e
      simp only [updN_same, rawB, setTk]
      rfl
    · simp only [updN_other _ _ e, rawB, setTk]
  · show (b.T j).A = (updN b.T i _ j).A
    exact (upd_off b.T Tk.A i j { b.T i with wi := a } rfl).symm
section
variable {B p tb : Nat} {w : World} {hs : Nat → Value} {b : Bd}
set_option maxRecDepth 100000 in
set_option maxHeartbeats 4000000 in
theorem win_any (h : Hid (RawAt B w p tb (rawB hs b))) (hmn : b.m ≤ b.n) (hnn : b.n ≤ 8192) (i : Nat) (hi : i < b.n) (a : Nat) (ha : a ≠ 0) :
    Calls Try.prog 39 #[.pointer (some ⟨p, 0, none⟩), .int .i64 (i : Int), .int .i64 (a : Int)] w fun e w' => e = .returned (.tuple #[]) ∧ Hid (RawAt B w' p tb (rawB hs (winB b i a)) ∧ AF w w' ∧ (B ≤ w.heap.size → Below B w w')) := by
  have c1 : w.cell? ⟨p, 1, none⟩ = some (.slice (some ⟨tb, 0, none⟩) b.n b.n) := h.out.c1
  have hd := done_any h i hi
  rw [show ((rawB hs b).R i).wi = ((b.T i).wi : Int) from rfl] at hd
  have hm := fun W (hW : RawAt B W p tb { rawB hs b with R := updN (rawB hs b).R i { (rawB hs b).R i with wi := (a : Int) } }) => isMap_any (Lib.hid hW) (i : Int)
  by_cases h0 : (b.T i).wi = 0
  · have e : winB b i a = setTk b i { b.T i with wi := a } := by unfold winB; rw [if_pos h0]
    rw [e]
    rw [h0] at hd
    have hset := h.out.setWi i (a : Int)
    have hm1 := hm _ hset
    have c4 : w.cell? ⟨tb, i * 5 + 4, none⟩ = some (.int .i64 ((b.T i).wi : Int)) := h.out.t4 i hi
    have f4 := bears_free h.out.tt (i * 5 + 4)
    have h1 : (setTk b i { b.T i with wi := a }).T i = { b.T i with wi := a } := updN_same _ _ _
    have hF : AF w (w.setCell ⟨tb, i * 5 + 4, none⟩ (.int .i64 (a : Int))) ∧ (B ≤ w.heap.size → Below B w (w.setCell ⟨tb, i * 5 + 4, none⟩ (.int .i64 (a : Int)))) :=
      ⟨fun c e hb k1 k2 k3 => set_block _ _ _ (bears_apart hb h.out.tt k2), fun _ => (Below.refl B w).setCell (p := ⟨tb, i * 5 + 4, none⟩) h.out.ht _⟩
    obtain ⟨W1, hW1⟩ : ∃ W1, W1 = w.setCell ⟨tb, i * 5 + 4, none⟩ (.int .i64 (a : Int)) := ⟨_, rfl⟩
    rw [← hW1] at hset hm1 hF
    have hom := opn_le b.T 0 b.m
    have hor := opn_le b.T b.m (b.n - b.m)
    have HSET := Lib.hid hset
    have HW1 := Lib.hid hW1
    have HF := Lib.hid hF
    have HH := h
    by_cases him : i < b.m
    · have hw : (setTk b i { b.T i with wi := a }).om + 1 = b.om := opn_won h0 ha 0 b.m (Nat.zero_le _) (by omega)
      have ho : (setTk b i { b.T i with wi := a }).orr = b.orr := opn_far b.m (b.n - b.m) (.inl him)
      obtain ⟨q, hq⟩ : ∃ q, q = (setTk b i { b.T i with wi := a }).om := ⟨_, rfl⟩
      have hqb : q ≤ 8192 := by have : b.om ≤ b.m := hom; omega
      have eq1 : (b.om : Int) = (q : Int) + 1 := by omega
      have c5 : W1.cell? ⟨p, 4, none⟩ = some (.int .i64 ((q : Int) + 1)) := by
        rw [← eq1]
        exact hset.c4
      have f5 := bears_free hset.ty 4
      have hfin : Hid (RawAt B (W1.setCell ⟨p, 4, none⟩ (.int .i64 (q : Int))) p tb (rawB hs (setTk b i { b.T i with wi := a })) ∧ AF w (W1.setCell ⟨p, 4, none⟩ (.int .i64 (q : Int))) ∧ (B ≤ w.heap.size → Below B w (W1.setCell ⟨p, 4, none⟩ (.int .i64 (q : Int))))) := by
        have h9 := hset.setOm (q : Int)
        rw [← raw_won (hs := hs) (q : Int) (b.orr : Int) (by rw [hq]) (by rw [ho])]
        refine Lib.hid ⟨h9, fun c e hb k1 k2 k3 => ?_, fun hB => (HF.out.2 hB).setCell (p := ⟨p, 4, none⟩) h.out.hp _⟩
        rw [set_block _ _ _ (bears_apart hb h.out.ty k1)]
        exact HF.out.1 c e hb k1 k2 k3
      have hdm : decide ((i : Int) < (b.m : Int)) = true := decide_eq_true (by omega)
      have hm2 : Calls Try.prog 41 #[.pointer (some ⟨p, 0, none⟩), .int .i64 (i : Int)] W1 fun e w' => e = .returned (.bool true) ∧ W1 = w' := by
        have h9 := hm1
        rw [show decide ((i : Int) < (({ rawB hs b with R := updN (rawB hs b).R i { (rawB hs b).R i with wi := (a : Int) } } : Raw).m : Int)) = true from hdm] at h9
        exact h9
      have hw1 : IntKind.i64.wrap ((q : Int) + 1 - 1) = (q : Int) := by rw [show (q : Int) + 1 - 1 = (q : Int) by omega]; exact IntWalk.i64_in _ (by omega)
      have hw2 : wrap64 ((q : Int) + 1 - 1) = (q : Int) := by rw [show (q : Int) + 1 - 1 = (q : Int) by omega]; exact IntWalk.wrap64_in _ ⟨by omega, by omega⟩
      have hw3 : wrap64 (q : Int) = (q : Int) := IntWalk.wrap64_in _ ⟨by omega, by omega⟩
      clear hset hm1 hF hW1 hw ho hq hom hor eq1 hm h1 e h hqb h0
      go_enter Try.func39, Try.ntmps39
      go_wp2_with (fail)
      refine hd.mono ?_
      rintro e w' ⟨rfl, rfl⟩
      go_wp2_with (fail)
      rw [← HW1.out]
      refine hm2.mono ?_
      rintro e w' ⟨rfl, rfl⟩
      go_wp2
      go_end0
      exact ⟨rfl, hfin⟩
    · have hw : (setTk b i { b.T i with wi := a }).orr + 1 = b.orr := opn_won h0 ha b.m (b.n - b.m) (by omega) (by omega)
      have ho : (setTk b i { b.T i with wi := a }).om = b.om := opn_far 0 b.m (.inr (by omega))
      obtain ⟨q, hq⟩ : ∃ q, q = (setTk b i { b.T i with wi := a }).orr := ⟨_, rfl⟩
      have hqb : q ≤ 8192 := by have : b.orr ≤ b.n - b.m := hor; omega
      have eq1 : (b.orr : Int) = (q : Int) + 1 := by omega
      have c5 : W1.cell? ⟨p, 5, none⟩ = some (.int .i64 ((q : Int) + 1)) := by
        rw [← eq1]
        exact hset.c5
      have f5 := bears_free hset.ty 5
      have hfin : Hid (RawAt B (W1.setCell ⟨p, 5, none⟩ (.int .i64 (q : Int))) p tb (rawB hs (setTk b i { b.T i with wi := a })) ∧ AF w (W1.setCell ⟨p, 5, none⟩ (.int .i64 (q : Int))) ∧ (B ≤ w.heap.size → Below B w (W1.setCell ⟨p, 5, none⟩ (.int .i64 (q : Int))))) := by
        have h9 := hset.setOr (q : Int)
        rw [← raw_won (hs := hs) (b.om : Int) (q : Int) (by rw [ho]) (by rw [hq])]
        refine Lib.hid ⟨h9, fun c e hb k1 k2 k3 => ?_, fun hB => (HF.out.2 hB).setCell (p := ⟨p, 5, none⟩) h.out.hp _⟩
        rw [set_block _ _ _ (bears_apart hb h.out.ty k1)]
        exact HF.out.1 c e hb k1 k2 k3
      have hdm : decide ((i : Int) < (b.m : Int)) = false := decide_eq_false (by omega)
      have hm2 : Calls Try.prog 41 #[.pointer (some ⟨p, 0, none⟩), .int .i64 (i : Int)] W1 fun e w' => e = .returned (.bool false) ∧ W1 = w' := by
        have h9 := hm1
        rw [show decide ((i : Int) < (({ rawB hs b with R := updN (rawB hs b).R i { (rawB hs b).R i with wi := (a : Int) } } : Raw).m : Int)) = false from hdm] at h9
        exact h9
      have hw1 : IntKind.i64.wrap ((q : Int) + 1 - 1) = (q : Int) := by rw [show (q : Int) + 1 - 1 = (q : Int) by omega]; exact IntWalk.i64_in _ (by omega)
      have hw2 : wrap64 ((q : Int) + 1 - 1) = (q : Int) := by rw [show (q : Int) + 1 - 1 = (q : Int) by omega]; exact IntWalk.wrap64_in _ ⟨by omega, by omega⟩
      have hw3 : wrap64 (q : Int) = (q : Int) := IntWalk.wrap64_in _ ⟨by omega, by omega⟩
      clear hset hm1 hF hW1 hw ho hq hom hor eq1 hm h1 e h hqb h0
      go_enter Try.func39, Try.ntmps39
      go_wp2_with (fail)
      refine hd.mono ?_
      rintro e w' ⟨rfl, rfl⟩
      go_wp2_with (fail)
      rw [← HW1.out]
      refine hm2.mono ?_
      rintro e w' ⟨rfl, rfl⟩
      go_wp2
      first
        | (go_end0; exact ⟨rfl, hfin⟩)
        | exact bodyPost_ret (v := .tuple #[]) (results_none rfl _ _ _) rfl ⟨rfl, hfin⟩
  · have e : winB b i a = b := by unfold winB; rw [if_neg h0]
    rw [e]
    have e1 : (((b.T i).wi : Int) != 0) = true := by simp; omega
    rw [e1] at hd
    have hfin : Hid (RawAt B w p tb (rawB hs b) ∧ AF w w ∧ (B ≤ w.heap.size → Below B w w)) := Lib.hid ⟨h.out, af_refl _, fun _ => Below.refl _ _⟩
    clear e e1 hm
    go_enter Try.func39, Try.ntmps39
    go_wp2_with (fail)
    refine hd.mono ?_
    rintro e w' ⟨rfl, rfl⟩
    go_wp2
    first
      | (go_end0; exact ⟨rfl, hfin⟩)
      | exact bodyPost_ret (v := .tuple #[]) (results_none rfl _ _ _) rfl ⟨rfl, hfin⟩
end
end Go.Proofs.Ytapnlofklgknmaa
