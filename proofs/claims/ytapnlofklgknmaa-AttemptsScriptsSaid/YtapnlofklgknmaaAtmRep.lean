/- Package attempts: Report. -/
import Derived.Test.YtapnlofklgknmaaAtmWin
namespace Go.Proofs.Ytapnlofklgknmaa
open Go.RowKit

def endB (b : Bd) (i k s : Nat) : Bd := setTk b i { b.T i with A := setSt (b.T i).A k s }
def fulB (b : Bd) (i : Nat) : Bd := { setTk b i { b.T i with fu := (b.T i).fu + 1 } with dead := b.dead || decide (b.lim ≤ (((b.T i).fu + 1 : Nat) : Int)) }
def inB (b : Bd) (x : Int) : Bool := decide (0 ≤ x ∧ x < (b.n : Int))
def reportA (b : Bd) (x a how : Int) : Bool := inB b x && runT (b.T x.toNat) a && (decide (how = 1) || decide (how = 2) || decide (how = 3))
def reportB (b : Bd) (x a how : Int) : Bd :=
  if inB b x && runT (b.T x.toNat) a then
    if how = 1 then winB (endB b x.toNat (a.toNat - 1) 1) x.toNat a.toNat
    else if how = 2 then endB b x.toNat (a.toNat - 1) 2
    else if how = 3 then endB (fulB b x.toNat) x.toNat (a.toNat - 1) 2
    else b
  else b
theorem raw_fu (hs : Nat → Value) (b : Bd) (i : Nat) : ({ rawB hs b with R := updN (rawB hs b).R i { (rawB hs b).R i with fu := (((b.T i).fu + 1 : Nat) : Int) } } : Raw) = rawB hs (setTk b i { b.T i with fu := (b.T i).fu + 1 }) := by
  have hw : ∀ j, ((setTk b i { b.T i with fu := (b.T i).fu + 1 }).T j).wi = (b.T j).wi := fun j => upd_off b.T Tk.wi i j { b.T i with fu := (b.T i).fu + 1 } rfl
  refine raw_ext rfl rfl (funext fun j => ?_) (funext fun j => ?_) rfl rfl ?_ ?_ rfl
  · show updN _ i _ j = TkR.mk (hs j) _ _ _ _
    by_cases e : j = i
    · subst e
      simp only [updN_same, rawB, setTk]
      rfl
    · simp only [updN_other _ _ e, rawB, setTk]
  · show (b.T j).A = (updN b.T i _ j).A
    exact (upd_off b.T Tk.A i j { b.T i with fu := (b.T i).fu + 1 } rfl).symm
  · exact congrArg (fun (z : Nat) => (z : Int)) (opn_same hw _ _).symm
  · exact congrArg (fun (z : Nat) => (z : Int)) (opn_same hw _ _).symm
theorem runT_at {t : Tk} {a : Int} (h : runT t a = true) : ∃ k : Nat, ∃ hk : k < t.A.length, a = (k : Int) + 1 ∧ t.A[k].st = 0 := by
  simp only [runT, Bool.and_eq_true, decide_eq_true_eq] at h
  obtain ⟨h1, h2, h3⟩ := h
  have hk : a.toNat - 1 < t.A.length := by omega
  rw [List.getElem?_eq_getElem hk] at h3
  exact ⟨a.toNat - 1, hk, by omega, by simpa using h3⟩
theorem abd_raw {w0 w : World} {p : Nat} {b : Bd} (h : AB w0 w p b) : ∃ tb hs, Hid (RawAt w0.heap.size w p tb (rawB hs b)) := by
  obtain ⟨tb, hs, hr⟩ := h.raw
  exact ⟨tb, hs, Lib.hid hr⟩
set_option maxRecDepth 100000 in
set_option maxHeartbeats 8000000 in
theorem report_any {w0 w : World} {p : Nat} {b : Bd} (h : Hid (AB w0 w p b)) (hl : ∀ i, i < b.n → (b.T i).A.length < 4398046511105) (hfu : ∀ i, i < b.n → (b.T i).fu < 1152921504606846976) (x a how : Int) :
    Calls Try.prog 13 #[.pointer (some ⟨p, 0, none⟩), .int .i64 x, .int .i64 a, .int .i64 how] w fun e w' => e = .returned (.bool (reportA b x a how)) ∧ Hid (AB w0 w' p (reportB b x a how) ∧ AF w w') := by
  obtain ⟨tb, hs, HR⟩ := abd_raw h.out
  have hf := find_any HR x
  rw [show (rawB hs b).n = b.n from rfl] at hf
  have hbel := h.out.bel.size
  by_cases hx : 0 ≤ x ∧ x < (b.n : Int)
  · obtain ⟨i, rfl⟩ : ∃ k : Nat, x = (k : Int) := ⟨x.toNat, by omega⟩
    have hi : i < b.n := by omega
    rw [ptrT, if_pos hx, show ((i : Int).toNat) = i by omega] at hf
    have hin : inB b (i : Int) = true := decide_eq_true hx
    have hru := runs_any HR i hi (hl i hi) a
    cases hr : runT (b.T i) a
    · have e1 : reportA b (i : Int) a how = false := by simp [reportA, hr]
      have e2 : reportB b (i : Int) a how = b := by simp [reportB, hr]
      rw [hr] at hru
      rw [e1, e2]
      clear e1 e2 hr hin hx
      go_enter Try.func13, Try.ntmps13
      go_wp2_with (fail)
      refine hf.mono ?_
      rintro e w' ⟨rfl, rfl⟩
      go_wp2_with (fail)
      refine hru.mono ?_
      rintro e w' ⟨rfl, rfl⟩
      go_wp2
      go_ret
      exact ⟨rfl, Lib.hid ⟨h.out, af_refl _⟩⟩
    · rw [hr] at hru
      obtain ⟨k, hk, rfl, hst⟩ := runT_at hr
      have ek : ((k : Int) + 1).toNat - 1 = k := by omega
      have ek1 : ((k : Int) + 1).toNat = k + 1 := by omega
      have e1 : reportA b (i : Int) ((k : Int) + 1) how = (decide (how = 1) || decide (how = 2) || decide (how = 3)) := by simp [reportA, hr, hin]
      have e2 : reportB b (i : Int) ((k : Int) + 1) how = (if how = 1 then winB (endB b i k 1) i (k + 1) else if how = 2 then endB b i k 2 else if how = 3 then endB (fulB b i) i k 2 else b) := by
        simp only [reportB, hin, Int.toNat_natCast, hr, ek1, Nat.add_sub_cancel, Bool.and_self, if_true]
      rw [e1, e2]
      clear e1 e2 hin hx hr ek ek1
      by_cases h1 : how = 1
      · subst h1
        rw [if_pos rfl]
        have hend := end_any HR i hi (hl i hi) k 1 hk hst (by decide) (by decide)
        clear hk hst
        go_enter Try.func13, Try.ntmps13
        go_wp2_with (fail)
        refine hf.mono ?_
        rintro e w' ⟨rfl, rfl⟩
        go_wp2_with (fail)
        refine hru.mono ?_
        rintro e w' ⟨rfl, rfl⟩
        go_wp2_with (fail)
        refine hend.mono ?_
        rintro e w2 ⟨rfl, hE⟩
        have hwin := win_any (b := endB b i k 1) (Lib.hid hE.out.1) h.out.mn h.out.nn i hi (k + 1) (by omega)
        have ec : (((k + 1 : Nat)) : Int) = (k : Int) + 1 := by omega
        rw [ec] at hwin
        have HWIN := Lib.hid hwin
        clear hwin ec
        go_wp2_with (fail)
        refine HWIN.out.mono ?_
        rintro e w3 ⟨rfl, hW⟩
        have hmm : (winB (endB b i k 1) i (k + 1)).m = b.m ∧ (winB (endB b i k 1) i (k + 1)).n = b.n ∧ (winB (endB b i k 1) i (k + 1)).lim = b.lim ∧ (winB (endB b i k 1) i (k + 1)).pat = b.pat := by
          unfold winB
          split <;> exact ⟨rfl, rfl, rfl, rfl⟩
        have hfin : Hid (AB w0 w3 p (winB (endB b i k 1) i (k + 1)) ∧ AF w w3) := Lib.hid ⟨ab_after h.out ((hE.out.2.2 hbel).trans (hW.out.2.2 (Nat.le_trans hbel (hE.out.2.2 hbel).size))) ⟨tb, hs, hW.out.1⟩ hmm.1 hmm.2.1 hmm.2.2.1 hmm.2.2.2, af_trans hE.out.2.1 hW.out.2.1⟩
        clear hW hE hmm
        go_wp2
        go_ret
        exact ⟨rfl, hfin⟩
      · rw [if_neg h1]
        have d1 : (how == 1) = false := by simp [h1]
        by_cases h2 : how = 2
        · subst h2
          rw [if_pos rfl]
          have hend := end_any HR i hi (hl i hi) k 2 hk hst (by decide) (by decide)
          clear hk hst
          go_enter Try.func13, Try.ntmps13
          go_wp2_with (fail)
          refine hf.mono ?_
          rintro e w' ⟨rfl, rfl⟩
          go_wp2_with (fail)
          refine hru.mono ?_
          rintro e w' ⟨rfl, rfl⟩
          go_wp2_with (fail)
          refine hend.mono ?_
          rintro e w2 ⟨rfl, hE⟩
          have hfin : Hid (AB w0 w2 p (endB b i k 2) ∧ AF w w2) := Lib.hid ⟨ab_after h.out (hE.out.2.2 hbel) ⟨tb, hs, hE.out.1⟩ rfl rfl rfl rfl, hE.out.2.1⟩
          clear hE
          go_wp2
          go_ret
          exact ⟨rfl, hfin⟩
        · rw [if_neg h2]
          have d2 : (how == 2) = false := by simp [h2]
          by_cases h3 : how = 3
          · subst h3
            rw [if_pos rfl]
            have hbl := h.out.lim
            have hfi := hfu i hi
            obtain ⟨F, hF⟩ : ∃ F, F = (b.T i).fu := ⟨_, rfl⟩
            have c3 : w.cell? ⟨tb, i * 5 + 3, none⟩ = some (.int .i64 (F : Int)) := by rw [hF]; exact HR.out.t3 i hi
            have f3 := bears_free HR.out.tt (i * 5 + 3)
            have hs1 := HR.out.setFu i (((b.T i).fu + 1 : Nat) : Int)
            rw [raw_fu, ← hF] at hs1
            rw [← hF] at hfi
            have ecF : ((F + 1 : Nat) : Int) = (F : Int) + 1 := by omega
            rw [ecF] at hs1
            obtain ⟨b1, hb1⟩ : ∃ b1, b1 = setTk b i { b.T i with fu := F + 1 } := ⟨_, rfl⟩
            rw [← hb1] at hs1
            obtain ⟨W1, hW1⟩ : ∃ W1, W1 = w.setCell ⟨tb, i * 5 + 3, none⟩ (.int .i64 ((F : Int) + 1)) := ⟨_, rfl⟩
            have hF1 : AF w W1 ∧ Below w0.heap.size w W1 := by
              rw [hW1]
              exact ⟨fun c e hb k1 k2 k3 => set_block _ _ _ (bears_apart hb HR.out.tt k2), (Below.refl _ w).setCell (p := ⟨tb, i * 5 + 3, none⟩) HR.out.ht _⟩
            rw [← hW1] at hs1
            have c6 : W1.cell? ⟨p, 6, none⟩ = some (.bool b.dead) := by rw [show b.dead = b1.dead by rw [hb1]; rfl]; exact hs1.c6
            have f6 := bears_free hs1.drew.ty 6
            have c6d : W1.drew.cell? ⟨p, 6, none⟩ = some (.bool b.dead) := c6
            have c2 : W1.cell? ⟨p, 2, none⟩ = some (.int .i64 b.lim) := by rw [show b.lim = b1.lim by rw [hb1]; rfl]; exact hs1.c2
            have c33 : W1.cell? ⟨tb, i * 5 + 3, none⟩ = some (.int .i64 ((F : Int) + 1)) := by
              have h9 := hs1.t3 i (by rw [hb1]; exact hi)
              rw [hb1] at h9
              simp only [rawB, setTk, updN_same] at h9
              rw [ecF] at h9
              exact h9
            have hs2 := (hs1.setDead (b.dead || decide (b.lim ≤ (F : Int) + 1))).drew
            have hfb : fulB b i = { b1 with dead := (b.dead || decide (b.lim ≤ (F : Int) + 1)) } := by
              unfold fulB
              rw [← hF, ecF, ← hb1]
            have hs3 : Hid (RawAt w0.heap.size ((W1.setCell ⟨p, 6, none⟩ (.bool (b.dead || decide (b.lim ≤ (F : Int) + 1)))).drew) p tb (rawB hs (fulB b i))) := by
              rw [hfb]
              exact Lib.hid hs2
            have hfT : ((fulB b i).T i).A = (b.T i).A := by
              rw [hfb, hb1]
              show (updN b.T i _ i).A = _
              rw [updN_same]
            have hend := end_any (b := fulB b i) hs3 i hi (by rw [hfT]; exact hl i hi) k 2 (by rw [hfT]; exact hk) (by simp only [hfT]; exact hst) (by decide) (by decide)
            have hAF2 : Hid (AF w ((W1.setCell ⟨p, 6, none⟩ (.bool (b.dead || decide (b.lim ≤ (F : Int) + 1)))).drew) ∧ Below w0.heap.size w ((W1.setCell ⟨p, 6, none⟩ (.bool (b.dead || decide (b.lim ≤ (F : Int) + 1)))).drew)) := by
              refine Lib.hid ⟨fun c e hb k1 k2 k3 => ?_, (hF1.2.setCell (p := ⟨p, 6, none⟩) HR.out.hp _).drew⟩
              show (W1.setCell _ _).heap[c]? = _
              rw [set_block _ _ _ (bears_apart hb HR.out.ty k1)]
              exact hF1.1 c e hb k1 k2 k3
            obtain ⟨D, hD⟩ : ∃ D, D = (b.dead || decide (b.lim ≤ (F : Int) + 1)) := ⟨_, rfl⟩
            rw [← hD] at hend hAF2
            have HEND := Lib.hid hend
            have HW1 := Lib.hid hW1
            have hw1 : IntKind.i64.wrap ((F : Int) + 1) = (F : Int) + 1 := IntWalk.i64_in _ (by omega)
            have hw2 : wrap64 ((F : Int) + 1) = (F : Int) + 1 := IntWalk.wrap64_in _ ⟨by omega, by omega⟩
            clear hend hs1 hs2 hs3 hfT hfb hW1 hF1 hb1 hF hk hst ecF hfi
            cases hdd : b.dead
            · rw [hdd] at c6 c6d hD
              rw [Bool.false_or] at hD
              have hDd := hD.symm
              clear hD
              go_enter Try.func13, Try.ntmps13
              go_wp2_with (fail)
              refine hf.mono ?_
              rintro e w' ⟨rfl, rfl⟩
              go_wp2_with (fail)
              refine hru.mono ?_
              rintro e w' ⟨rfl, rfl⟩
              go_wp2_with (fail)
              rw [← HW1.out]
              go_still_tail 18, (by kernel_rfl)
              change wpList _ _ _ _ _ W1.drew
              go_wp2_with (fail)
              refine HEND.out.mono ?_
              rintro e w2 ⟨rfl, hE⟩
              have hfin : Hid (AB w0 w2 p (endB (fulB b i) i k 2) ∧ AF w w2) := Lib.hid ⟨ab_after h.out (hAF2.out.2.trans (hE.out.2.2 (Nat.le_trans hbel hAF2.out.2.size))) ⟨tb, hs, hE.out.1⟩ rfl rfl rfl rfl, af_trans hAF2.out.1 hE.out.2.1⟩
              clear hE hw1 hw2 c6 c6d c2 c3 c33 f3 f6
              go_wp2
              go_ret
              exact ⟨rfl, hfin⟩
            · rw [hdd] at c6 c6d hD
              rw [Bool.true_or] at hD
              rw [hD] at HEND hAF2
              clear hD
              go_enter Try.func13, Try.ntmps13
              go_wp2_with (fail)
              refine hf.mono ?_
              rintro e w' ⟨rfl, rfl⟩
              go_wp2_with (fail)
              refine hru.mono ?_
              rintro e w' ⟨rfl, rfl⟩
              go_wp2_with (fail)
              rw [← HW1.out]
              refine wp_region_still_tail 18 (by kernel_rfl) (by kernel_rfl) ?_
              simp only [List.take_succ_cons, List.take_zero, List.drop_succ_cons, List.drop_zero]
              iterate 18 (with_reducible refine wpStill_step (fun K hK => ?_); go_simp; with_reducible refine hK _ ?_; clear hK K)
              with_reducible refine wpStill_nil ?_
              change wpList _ _ _ _ _ W1.drew
              go_wp2_with (fail)
              refine HEND.out.mono ?_
              rintro e w2 ⟨rfl, hE⟩
              have hfin : Hid (AB w0 w2 p (endB (fulB b i) i k 2) ∧ AF w w2) := Lib.hid ⟨ab_after h.out (hAF2.out.2.trans (hE.out.2.2 (Nat.le_trans hbel hAF2.out.2.size))) ⟨tb, hs, hE.out.1⟩ rfl rfl rfl rfl, af_trans hAF2.out.1 hE.out.2.1⟩
              clear hE hw1 hw2 c6 c6d c2 c3 c33 f3 f6
              go_wp2
              go_ret
              exact ⟨rfl, hfin⟩
          · rw [if_neg h3]
            have d3 : (how == 3) = false := by simp [h3]
            rw [decide_eq_false h1, decide_eq_false h2, decide_eq_false h3]
            clear hk hst
            go_enter Try.func13, Try.ntmps13
            go_wp2_with (fail)
            refine hf.mono ?_
            rintro e w' ⟨rfl, rfl⟩
            go_wp2_with (fail)
            refine hru.mono ?_
            rintro e w' ⟨rfl, rfl⟩
            go_wp2
            go_ret
            exact ⟨rfl, Lib.hid ⟨h.out, af_refl _⟩⟩
  · rw [ptrT, if_neg hx] at hf
    have hin : inB b x = false := decide_eq_false hx
    have e1 : reportA b x a how = false := by simp [reportA, hin]
    have e2 : reportB b x a how = b := by simp [reportB, hin]
    rw [e1, e2]
    clear e1 e2
    go_enter Try.func13, Try.ntmps13
    go_wp2_with (fail)
    refine hf.mono ?_
    rintro e w' ⟨rfl, rfl⟩
    go_wp2
    go_ret
    exact ⟨rfl, Lib.hid ⟨h.out, af_refl _⟩⟩
end Go.Proofs.Ytapnlofklgknmaa
