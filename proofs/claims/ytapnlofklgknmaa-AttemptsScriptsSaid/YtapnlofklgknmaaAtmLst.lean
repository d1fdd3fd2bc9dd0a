/- Package attempts: Lost, Winner, Finished, Dead. -/
import Derived.Test.YtapnlofklgknmaaAtmLos
namespace Go.Proofs.Ytapnlofklgknmaa
open Go.RowKit

def winA (b : Bd) (x : Int) : Int × Int × Bool :=
  if inB b x && ((b.T x.toNat).wi != 0) then (match (b.T x.toNat).A[(b.T x.toNat).wi - 1]? with | some a => a.nd | none => 0, ((b.T x.toNat).wi : Int), true) else (0, 0, false)
set_option maxRecDepth 100000 in
set_option maxHeartbeats 8000000 in
theorem winner_any {w0 w : World} {p : Nat} {b : Bd} (h : Hid (AB w0 w p b)) (hl : ∀ i, i < b.n → (b.T i).A.length < 4398046511105) (hw : WinOk b) (x : Int) :
    Calls Try.prog 19 #[.pointer (some ⟨p, 0, none⟩), .int .i64 x] w fun e w' => e = .returned (.tuple #[.int .i64 (winA b x).1, .int .i64 (winA b x).2.1, .bool (winA b x).2.2]) ∧ ∃ m, w' = w.drewN m := by
  obtain ⟨tb, hs, HR⟩ := abd_raw h.out
  have hf := find_any HR x
  rw [show (rawB hs b).n = b.n from rfl] at hf
  by_cases hx : 0 ≤ x ∧ x < (b.n : Int)
  · obtain ⟨i, rfl⟩ : ∃ k : Nat, x = (k : Int) := ⟨x.toNat, by omega⟩
    have hi : i < b.n := by omega
    rw [ptrT, if_pos hx, show ((i : Int).toNat) = i by omega] at hf
    have hin : inB b (i : Int) = true := decide_eq_true hx
    have hd := done_any HR i hi
    rw [show ((rawB hs b).R i).wi = ((b.T i).wi : Int) from rfl] at hd
    by_cases h0 : (b.T i).wi = 0
    · have e : winA b (i : Int) = (0, 0, false) := by simp [winA, hin, h0]
      rw [e]
      rw [show (((b.T i).wi : Int) != 0) = false by rw [h0]; rfl] at hd
      clear e h0 hx
      go_enter Try.func19, Try.ntmps19
      go_wp2_with (fail)
      refine hf.mono ?_
      rintro e w' ⟨rfl, rfl⟩
      go_wp2_with (fail)
      refine hd.mono ?_
      rintro e w' ⟨rfl, rfl⟩
      go_wp2
      go_ret3
      exact ⟨rfl, 0, rfl⟩
    · obtain ⟨hk, hst9⟩ := hw i h0
      obtain ⟨k, hk1⟩ : ∃ k, (b.T i).wi = k + 1 := ⟨(b.T i).wi - 1, by omega⟩
      have hkA : k < (b.T i).A.length := by omega
      have hlL := hl i hi
      obtain ⟨g, c, hv2, k0, k1, k2⟩ := att_at HR.out hi hkA
      have e : winA b (i : Int) = ((b.T i).A[k].nd, (k : Int) + 1, true) := by
        simp only [winA, hin, Int.toNat_natCast, hk1, Nat.add_sub_cancel, List.getElem?_eq_getElem hkA]
        simp
      rw [e]
      rw [show (((b.T i).wi : Int) != 0) = true by rw [hk1]; simp; omega] at hd
      have c0 : w.cell? ⟨tb, i * 5, none⟩ = some (hs i) := HR.out.t0 i hi
      have c4 : w.cell? ⟨tb, i * 5 + 4, none⟩ = some (.int .i64 ((b.T i).wi : Int)) := HR.out.t4 i hi
      rw [hk1, show ((k + 1 : Nat) : Int) = (k : Int) + 1 by omega] at c4
      rw [hv2] at c0
      obtain ⟨a, ha⟩ : ∃ a, a = (b.T i).A[k] := ⟨_, rfl⟩
      rw [← ha] at k0 k1 k2 ⊢
      obtain ⟨L, hL⟩ : ∃ L, L = (b.T i).A.length := ⟨_, rfl⟩
      rw [← hL] at c0 hkA hlL
      have hw1 : IntKind.i64.wrap ((k : Int) + 1 - 1) = (k : Int) := by rw [show (k : Int) + 1 - 1 = (k : Int) by omega]; exact IntWalk.i64_in _ (by omega)
      have hw4 : IntKind.i64.wrap (k : Int) = (k : Int) := IntWalk.i64_in _ (by omega)
      have hw3 : wrap64 (k : Int) = (k : Int) := IntWalk.wrap64_in _ ⟨by omega, by omega⟩
      dsimp only
      clear e h0 hx hst9 hk ha hL hv2 hk1
      go_enter Try.func19, Try.ntmps19
      go_wp2_with (fail)
      refine hf.mono ?_
      rintro e w' ⟨rfl, rfl⟩
      go_wp2_with (fail)
      refine hd.mono ?_
      rintro e w' ⟨rfl, rfl⟩
      go_wp2_with (fail)
      go_quiet (fail)
      go_wp2
      go_ret3
      exact ⟨rfl, _, rfl⟩
  · rw [ptrT, if_neg hx] at hf
    have hin : inB b x = false := decide_eq_false hx
    have e : winA b x = (0, 0, false) := by simp [winA, hin]
    rw [e]
    clear e hin hx
    go_enter Try.func19, Try.ntmps19
    go_wp2_with (fail)
    refine hf.mono ?_
    rintro e w' ⟨rfl, rfl⟩
    go_wp2
    go_ret3
    exact ⟨rfl, 0, rfl⟩
theorem finished_any {w0 w : World} {p : Nat} {b : Bd} (h : Hid (AB w0 w p b)) :
    Calls Try.prog 23 #[.pointer (some ⟨p, 0, none⟩)] w fun e w' => e = .returned (.bool ((b.orr : Int) == 0)) ∧ w = w' := by
  obtain ⟨tb, hs, HR⟩ := abd_raw h.out
  have c5 : w.cell? ⟨p, 5, none⟩ = some (.int .i64 (b.orr : Int)) := HR.out.c5
  go_enter Try.func23, Try.ntmps23
  go_wp2
  go_ret
  exact ⟨rfl, rfl⟩
theorem dead_any {w0 w : World} {p : Nat} {b : Bd} (h : Hid (AB w0 w p b)) :
    Calls Try.prog 8 #[.pointer (some ⟨p, 0, none⟩)] w fun e w' => e = .returned (.bool b.dead) ∧ w = w' := by
  obtain ⟨tb, hs, HR⟩ := abd_raw h.out
  have c6 : w.cell? ⟨p, 6, none⟩ = some (.bool b.dead) := HR.out.c6
  go_enter Try.func8, Try.ntmps8
  go_wp2
  go_ret
  exact ⟨rfl, rfl⟩
set_option maxRecDepth 100000 in
set_option maxHeartbeats 8000000 in
theorem lost_any {w0 w : World} {p : Nat} {b : Bd} (h : Hid (AB w0 w p b)) (hl : ∀ i, i < b.n → (b.T i).A.length < 4398046511105) (hw : WinOk b) (x a : Int) :
    Calls Try.prog 17 #[.pointer (some ⟨p, 0, none⟩), .int .i64 x, .int .i64 a] w fun e w' => e = .returned (.bool (lostA b x a)) ∧ Hid (AB w0 w' p (lostB b x a) ∧ AF w w') := by
  obtain ⟨tb, hs, HR⟩ := abd_raw h.out
  have hf := find_any HR x
  rw [show (rawB hs b).n = b.n from rfl] at hf
  have hno : lostA b x a = false → lostB b x a = b := fun e => by unfold lostB; rw [e]; rfl
  by_cases hx : 0 ≤ x ∧ x < (b.n : Int)
  · obtain ⟨i, rfl⟩ : ∃ k : Nat, x = (k : Int) := ⟨x.toNat, by omega⟩
    have hi : i < b.n := by omega
    rw [ptrT, if_pos hx, show ((i : Int).toNat) = i by omega] at hf
    have hin : inB b (i : Int) = true := decide_eq_true hx
    have hd := done_any HR i hi
    rw [show ((rawB hs b).R i).wi = ((b.T i).wi : Int) from rfl] at hd
    have hm := isMap_any HR (i : Int)
    rw [show (rawB hs b).m = b.m from rfl] at hm
    have c4 : w.cell? ⟨tb, i * 5 + 4, none⟩ = some (.int .i64 ((b.T i).wi : Int)) := HR.out.t4 i hi
    by_cases him : i < b.m
    · rw [show decide ((i : Int) < (b.m : Int)) = true from decide_eq_true (by omega)] at hm
      by_cases h0 : (b.T i).wi = 0
      · have e : lostA b (i : Int) a = false := by simp [lostA, h0]
        rw [e, hno e]
        rw [show (((b.T i).wi : Int) != 0) = false by rw [h0]; rfl] at hd
        clear e h0 hx c4 hno
        go_enter Try.func17, Try.ntmps17
        go_wp2_with (fail)
        refine hf.mono ?_
        rintro e w' ⟨rfl, rfl⟩
        go_wp2_with (fail)
        refine hm.mono ?_
        rintro e w' ⟨rfl, rfl⟩
        go_wp2_with (fail)
        refine hd.mono ?_
        rintro e w' ⟨rfl, rfl⟩
        go_wp2
        go_ret
        exact ⟨rfl, Lib.hid ⟨h.out, af_refl _⟩⟩
      · rw [show (((b.T i).wi : Int) != 0) = true by simp; omega] at hd
        by_cases ha : ((b.T i).wi : Int) = a
        · have e : lostA b (i : Int) a = true := by
            have e0 : ((b.T i).wi != 0) = true := by simp [h0]
            simp only [lostA, hin, Int.toNat_natCast, e0, decide_eq_true ha, decide_eq_true (show (i : Int) < (b.m : Int) by omega), Bool.and_self]
          have e2 : lostB b (i : Int) a = setTk b i (losT (b.T i)) := by unfold lostB; rw [e]; rfl
          rw [e, e2]
          obtain ⟨hk, hst⟩ := hw i h0
          obtain ⟨k, hk1⟩ : ∃ k, (b.T i).wi = k + 1 := ⟨(b.T i).wi - 1, by omega⟩
          have hkA : k < (b.T i).A.length := by omega
          have hstk : (b.T i).A[k].st = 1 := by
            have : (b.T i).wi - 1 = k := by omega
            simp only [this] at hst
            exact hst
          obtain ⟨g, c, hv2, q1, q2, q3⟩ := att_at HR.out hi hkA
          clear q1 q2 q3
          have hlo := lose_any HR i hi (hl i hi) k g c hk1 hkA hv2
          have HLO := Lib.hid hlo
          have hlos : losT (b.T i) = { b.T i with A := setSt (b.T i).A k 3, wi := 0 } := by unfold losT; rw [hk1]; rfl
          rw [hlos]
          have hom := opn_le b.T 0 b.m
          have hnn := h.out.nn
          have hmn := h.out.mn
          have e3 : (setTk b i { b.T i with A := setSt (b.T i).A k 3, wi := 0 }).om = b.om + 1 := opn_lost h0 rfl 0 b.m (Nat.zero_le _) (by omega)
          have e4 : (setTk b i { b.T i with A := setSt (b.T i).A k 3, wi := 0 }).orr = b.orr := opn_far b.m (b.n - b.m) (.inl him)
          have hraw := raw_los (hs := hs) (b := b) (i := i) (A := setSt (b.T i).A k 3) ((b.om : Int) + 1) (b.orr : Int) (fi_off _ _ _ hkA (by omega) (by decide)) (lv_off _ _ _ hkA (by omega) (by decide)) (by rw [e3]; rfl) (by rw [e4])
          have HRAW := Lib.hid hraw
          have c4w : (b.om : Int) + 1 ≤ 8193 := by have : b.om ≤ b.m := hom; omega
          have hna : (((b.T i).wi : Int) != a) = false := by simpa using ha
          have hw1 : IntKind.i64.wrap ((b.om : Int) + 1) = (b.om : Int) + 1 := IntWalk.i64_in _ (by omega)
          have hw2 : wrap64 ((b.om : Int) + 1) = (b.om : Int) + 1 := IntWalk.wrap64_in _ ⟨by omega, by omega⟩
          clear hlo hraw e3 e4 hlos hk1 hkA hstk hst hk hom e e2 h0 ha hx hno hv2
          go_enter Try.func17, Try.ntmps17
          go_wp2_with (fail)
          refine hf.mono ?_
          rintro e w' ⟨rfl, rfl⟩
          go_wp2_with (fail)
          refine hm.mono ?_
          rintro e w' ⟨rfl, rfl⟩
          go_wp2_with (fail)
          refine hd.mono ?_
          rintro e w' ⟨rfl, rfl⟩
          go_wp2_with (fail)
          refine HLO.out.mono ?_
          rintro e w2 ⟨rfl, hE⟩
          have c5 : w2.cell? ⟨p, 4, none⟩ = some (.int .i64 (b.om : Int)) := hE.out.1.c4
          have f5 := bears_free hE.out.1.ty 4
          have hfin : Hid (AB w0 (w2.setCell ⟨p, 4, none⟩ (.int .i64 ((b.om : Int) + 1))) p (setTk b i { b.T i with A := setSt (b.T i).A k 3, wi := 0 }) ∧ AF w (w2.setCell ⟨p, 4, none⟩ (.int .i64 ((b.om : Int) + 1)))) := by
            have h9 := hE.out.1.setOm ((b.om : Int) + 1)
            have h10 : RawAt w0.heap.size (w2.setCell ⟨p, 4, none⟩ (.int .i64 ((b.om : Int) + 1))) p tb (rawB hs (setTk b i { b.T i with A := setSt (b.T i).A k 3, wi := 0 })) := by
              rw [← HRAW.out]
              exact h9
            refine Lib.hid ⟨ab_after h.out (hE.out.2.2.setCell (p := ⟨p, 4, none⟩) HR.out.hp _) ⟨tb, hs, h10⟩ rfl rfl rfl rfl, fun c e hb k1 k2 k3 => ?_⟩
            rw [set_block _ _ _ (bears_apart hb HR.out.ty k1)]
            exact hE.out.2.1 c e hb k1 k2 k3
          clear hE
          go_wp2
          go_ret
          exact ⟨rfl, hfin⟩
        · have e : lostA b (i : Int) a = false := by simp [lostA, ha]
          rw [e, hno e]
          have hna : (((b.T i).wi : Int) != a) = true := by simpa using ha
          clear e h0 hx hno ha
          go_enter Try.func17, Try.ntmps17
          go_wp2_with (fail)
          refine hf.mono ?_
          rintro e w' ⟨rfl, rfl⟩
          go_wp2_with (fail)
          refine hm.mono ?_
          rintro e w' ⟨rfl, rfl⟩
          go_wp2_with (fail)
          refine hd.mono ?_
          rintro e w' ⟨rfl, rfl⟩
          go_wp2
          go_ret
          exact ⟨rfl, Lib.hid ⟨h.out, af_refl _⟩⟩
    · rw [show decide ((i : Int) < (b.m : Int)) = false from decide_eq_false (by omega)] at hm
      have e : lostA b (i : Int) a = false := by simp [lostA, him]
      rw [e, hno e]
      clear e hx hno c4
      go_enter Try.func17, Try.ntmps17
      go_wp2_with (fail)
      refine hf.mono ?_
      rintro e w' ⟨rfl, rfl⟩
      go_wp2_with (fail)
      refine hm.mono ?_
      rintro e w' ⟨rfl, rfl⟩
      go_wp2
      go_ret
      exact ⟨rfl, Lib.hid ⟨h.out, af_refl _⟩⟩
  · rw [ptrT, if_neg hx] at hf
    have e : lostA b x a = false := by unfold lostA; rw [show inB b x = false from decide_eq_false hx, Bool.false_and]
    rw [e, hno e]
    clear e hno hx
    go_enter Try.func17, Try.ntmps17
    go_wp2_with (fail)
    refine hf.mono ?_
    rintro e w' ⟨rfl, rfl⟩
    go_wp2
    go_ret
    exact ⟨rfl, Lib.hid ⟨h.out, af_refl _⟩⟩
end Go.Proofs.Ytapnlofklgknmaa
