/- Package attempts: Start. -/
import Derived.Test.YtapnlofklgknmaaAtmBeg
namespace Go.Proofs.Ytapnlofklgknmaa
open Go.RowKit

def r0 : Nat → Value := fun _ => .bool true
def mayB (b : Bd) (x : Int) : Bool := mayR (rawB r0 b) x
def startA (b : Bd) (x : Int) : Int := if mayB b x && !b.dead then (((b.T x.toNat).A.length + 1 : Nat) : Int) else 0
def startB (b : Bd) (x nd now : Int) : Bd := if mayB b x && !b.dead then setTk b x.toNat (begT (b.T x.toNat) nd (mom now)) else b
theorem ab_after {w0 w w' : World} {p : Nat} {b b' : Bd} (h : AB w0 w p b) (hb : Below w0.heap.size w w') (hr : ∃ tb hs, RawAt w0.heap.size w' p tb (rawB hs b')) (hm : b'.m = b.m) (hn : b'.n = b.n) (hl : b'.lim = b.lim) (hp : b'.pat = b.pat) : AB w0 w' p b' :=
  ⟨h.bel.trans hb, hr, by rw [hm, hn]; exact h.mn, by rw [hn]; exact h.nn, by rw [hl]; exact h.lim, by rw [hp]; exact h.pat⟩
set_option maxRecDepth 100000 in
set_option maxHeartbeats 4000000 in
theorem start_any {w0 w : World} {p : Nat} {b : Bd} (h : Hid (AB w0 w p b)) (hl : ∀ i, i < b.n → (b.T i).A.length < 4398046511104) (x nd now : Int) :
    Calls Try.prog 11 #[.pointer (some ⟨p, 0, none⟩), .int .i64 x, .int .i64 nd, .int .i64 now] w fun e w' => e = .returned (.int .i64 (startA b x)) ∧ Hid (AB w0 w' p (startB b x nd now) ∧ AF w w') := by
  obtain ⟨tb, hs, hr⟩ := h.out.raw
  have HR := Lib.hid hr
  have hm := may_any HR x
  rw [may_hs hs r0] at hm
  have c6 : w.cell? ⟨p, 6, none⟩ = some (.bool b.dead) := hr.c6
  have c1 : w.cell? ⟨p, 1, none⟩ = some (.slice (some ⟨tb, 0, none⟩) b.n b.n) := hr.c1
  clear hr
  cases hy : mayB b x
  · rw [show mayR (rawB r0 b) x = false from hy] at hm
    have e1 : startA b x = 0 := by simp [startA, hy]
    have e2 : startB b x nd now = b := by simp [startB, hy]
    rw [e1, e2]
    clear e1 e2
    go_enter Try.func11, Try.ntmps11
    go_wp2_with (fail)
    refine hm.mono ?_
    rintro e w' ⟨rfl, rfl⟩
    go_wp2
    go_ret
    exact ⟨rfl, Lib.hid ⟨h.out, af_refl _⟩⟩
  · rw [show mayR (rawB r0 b) x = true from hy] at hm
    cases hd : b.dead
    · have e1 : startA b x = (((b.T x.toNat).A.length + 1 : Nat) : Int) := by simp [startA, hy, hd]
      have e2 : startB b x nd now = setTk b x.toNat (begT (b.T x.toNat) nd (mom now)) := by simp [startB, hy, hd]
      rw [e1, e2]
      have hx : 0 ≤ x ∧ x < (b.n : Int) := by
        have h9 : mayR (rawB r0 b) x = true := hy
        simp only [mayR, Bool.and_eq_true, decide_eq_true_eq] at h9
        exact h9.1.1
      obtain ⟨k, rfl⟩ : ∃ k : Nat, x = (k : Int) := ⟨x.toNat, by omega⟩
      have hk : k < b.n := by omega
      rw [show ((k : Int).toNat) = k by omega]
      have hbg := fun W (hW : W = w ∨ W = w.drew) => begin_any (w := W) (Lib.hid (by rcases hW with rfl | rfl; exact HR.out; exact HR.out.drew)) (by rcases hW with rfl | rfl; exact h.out.bel.size; exact h.out.bel.size) k hk (hl k hk) nd (mom now)
      have HBG := Lib.hid hbg
      clear hbg
      rw [hd] at c6
      clear e1 e2 hx hy hl
      go_enter Try.func11, Try.ntmps11
      go_wp2_with (fail)
      refine hm.mono ?_
      rintro e w' ⟨rfl, rfl⟩
      go_wp2_with (fail)
      go_region_with (first | (go_at_call 29; refine (moment_any now _).mono ?_; rintro e w3 ⟨rfl, rfl⟩) | (go_at_call 34; refine (HBG.out _ (by first | exact .inl rfl | exact .inr rfl)).mono ?_; rintro e w3 ⟨rfl, hst, haf⟩))
      all_goals (go_wp2; go_ret; exact ⟨by first | rfl | go_num, Lib.hid ⟨ab_after h.out ⟨haf.out.2.os, haf.out.2.tape, haf.out.2.output, haf.out.2.size, haf.out.2.block⟩ (by obtain ⟨hs', k9⟩ := hst.out; exact ⟨tb, hs', k9⟩) rfl rfl rfl rfl, haf.out.1⟩⟩)
    · have e1 : startA b x = 0 := by simp [startA, hd]
      have e2 : startB b x nd now = b := by simp [startB, hd]
      rw [e1, e2]
      rw [hd] at c6
      clear e1 e2
      go_enter Try.func11, Try.ntmps11
      go_wp2_with (fail)
      refine hm.mono ?_
      rintro e w' ⟨rfl, rfl⟩
      go_wp2
      go_ret
      exact ⟨rfl, Lib.hid ⟨h.out, af_refl _⟩⟩
theorem start_nil (x nd now : Int) (w : World) : Calls Try.prog 11 #[.pointer none, .int .i64 x, .int .i64 nd, .int .i64 now] w fun e w' => e = .returned (.int .i64 0) ∧ w = w' := by
  go_enter Try.func11, Try.ntmps11
  go_wp2_with (fail)
  refine (may_nil x _).mono ?_
  rintro e w' ⟨rfl, rfl⟩
  go_wp2
  go_ret
  exact ⟨rfl, rfl⟩
/-! no board -/
theorem report_nil (x a how : Int) (w : World) : Calls Try.prog 13 #[.pointer none, .int .i64 x, .int .i64 a, .int .i64 how] w fun e w' => e = .returned (.bool false) ∧ w = w' := by
  go_enter Try.func13, Try.ntmps13
  go_wp2_with (fail)
  refine (find_nil x _).mono ?_
  rintro e w' ⟨rfl, rfl⟩
  go_wp2
  go_ret
  exact ⟨rfl, rfl⟩
theorem gone_nil (x : Int) (w : World) : Calls Try.prog 15 #[.pointer none, .int .i64 x] w fun e w' => e = .returned (.tuple #[]) ∧ w = w' := by
  go_enter Try.func15, Try.ntmps15
  go_wp2
  first
    | (go_ret; exact ⟨rfl, rfl⟩)
    | exact bodyPost_ret (v := .tuple #[]) (results_none rfl _ _ _) rfl ⟨rfl, rfl⟩
theorem lost_nil (x a : Int) (w : World) : Calls Try.prog 17 #[.pointer none, .int .i64 x, .int .i64 a] w fun e w' => e = .returned (.bool false) ∧ w = w' := by
  go_enter Try.func17, Try.ntmps17
  go_wp2_with (fail)
  refine (find_nil x _).mono ?_
  rintro e w' ⟨rfl, rfl⟩
  go_wp2
  go_ret
  exact ⟨rfl, rfl⟩
theorem winner_nil (x : Int) (w : World) : Calls Try.prog 19 #[.pointer none, .int .i64 x] w fun e w' => e = .returned (.tuple #[.int .i64 0, .int .i64 0, .bool false]) ∧ w = w' := by
  go_enter Try.func19, Try.ntmps19
  go_wp2_with (fail)
  refine (find_nil x _).mono ?_
  rintro e w' ⟨rfl, rfl⟩
  go_wp2
  go_ret3
  exact ⟨rfl, rfl⟩
theorem ready_nil (x y : Int) (w : World) : Calls Try.prog 9 #[.pointer none, .int .i64 x, .int .i64 y] w fun e w' => e = .returned (.slice none 0 0) ∧ Below w.heap.size w w' := by
  have hfin : Hid (Below w.heap.size w (w.alloc (.cells #[.int .i64 x] 3))) := Lib.hid ((Below.refl _ _).alloc (Nat.le_refl _) _)
  go_enter Try.func9, Try.ntmps9
  go_wp2
  go_ret
  exact ⟨rfl, hfin.out⟩
theorem finished_nil (w : World) : Calls Try.prog 23 #[.pointer none] w fun e w' => e = .returned (.bool false) ∧ w = w' := by
  go_enter Try.func23, Try.ntmps23
  go_wp2
  go_ret
  exact ⟨rfl, rfl⟩
theorem dead_nil (w : World) : Calls Try.prog 8 #[.pointer none] w fun e w' => e = .returned (.bool false) ∧ w = w' := by
  go_enter Try.func8, Try.ntmps8
  go_wp2
  go_ret
  exact ⟨rfl, rfl⟩
end Go.Proofs.Ytapnlofklgknmaa
