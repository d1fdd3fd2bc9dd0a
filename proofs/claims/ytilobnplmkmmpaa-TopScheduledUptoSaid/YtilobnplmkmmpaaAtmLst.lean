/- Package attempts: Lost, Winner, Finished, Dead. -/
import Derived.Test.YtilobnplmkmmpaaAtmLos
namespace Go.Proofs.Ytilobnplmkmmpaa
open Go.RowKit

def winA (b : Bd) (x : Int) : Int × Int × Bool :=
  if inB b x && ((b.T x.toNat).wi != 0) then (match (b.T x.toNat).A[(b.T x.toNat).wi - 1]? with | some a => a.nd | none => 0, ((b.T x.toNat).wi : Int), true) else (0, 0, false)
set_option maxRecDepth 100000 in
set_option maxHeartbeats 8000000 in
theorem winner_any {w0 w : World} {p : Nat} {b : Bd} (h : Hid (AB w0 w p b)) (hl : ∀ i, i < b.n → (b.T i).A.length < 4398046511105) (hw : WinOk b) (x : Int) :
    Calls Try.prog 10 #[.pointer (some ⟨p, 0, none⟩), .int .i64 x] w fun e w' => e = .returned (.tuple #[.int .i64 (winA b x).1, .int .i64 (winA b x).2.1, .bool (winA b x).2.2]) ∧ ∃ m, w' = w.drewN m := by
  obtain ⟨tb, hs, HR⟩ := abd_raw h.out
  have hf := find_any HR x
  rw [show (rawB hs b).n = b.n from rfl] at hf
  by_cases hx : 0 ≤ x ∧ x < (b.n : Int)
  · obtain ⟨i, rfl⟩ : ∃ k : Nat, x = (k : Int) := ⟨x.toNat, by omega⟩
    have hi : i < b.n := by omega
    rw [ptrT, if_pos hx, show ((i : Int).toNat) = i by omega] at hf
    have hin : inB b (i : Int) = true := decide_eq_true hx
    have hd := done_any HR i hi
    rw [show ((rawB hs b).R i).wi = ((b.T i).wi : Int) from rfl] at hd
    by_cases h0 : (b.T i).wi = 0
    · have e : winA b (i : Int) = (0, 0, false) := by simp [winA, hin, h0]
      rw [e]
      rw [show (((b.T i).wi : Int) != 0) = false by rw [h0]; rfl] at hd
      clear e h0 hx
      go_enter Try.func10, Try.ntmps10
      go_wp2_with (fail)
      refine hf.mono ?_
      rintro e w' ⟨rfl, rfl⟩
      go_wp2_with (fail)
      refine hd.mono ?_
      rintro e w' ⟨rfl, rfl⟩
      go_wp2
      go_ret3
      exact ⟨rfl, 0, rfl⟩
    · obtain ⟨hk, hst9⟩ := hw i h0
      obtain ⟨k, hk1⟩ : ∃ k, (b.T i).wi = k + 1 := ⟨(b.T i).wi - 1, by omega⟩
      have hkA : k < (b.T i).A.length := by omega
      have hlL := hl i hi
      obtain ⟨g, c, hv2, k0, k1, k2⟩ := att_at HR.out hi hkA
      have e : winA b (i : Int) = ((b.T i).A[k].nd, (k : Int) + 1, true) := by
        simp only [winA, hin, Int.toNat_natCast, hk1, Nat.add_sub_cancel, List.getElem?_eq_getElem hkA]
        simp
      rw [e]
      rw [show (((b.T i).wi : Int) != 0) = true by rw [hk1]; simp; omega] at hd
      have c0 : w.cell? ⟨tb, i * 5, none⟩ = some (hs i) := HR.out.t0 i hi
      have c4 : w.cell? ⟨tb, i * 5 + 4, none⟩ = some (.int .i64 ((b.T i).wi : Int)) := HR.out.t4 i hi
      rw [hk1, show ((k + 1 : Nat) : Int) = (k : Int) + 1 by omega] at c4
      rw [hv2] at c0
      obtain ⟨a, ha⟩ : ∃ a, a = (b.T i).A[k] := ⟨_, rfl⟩
      rw [← ha] at k0 k1 k2 ⊢
      obtain ⟨L, hL⟩ : ∃ L, L = (b.T i).A.length := ⟨_, rfl⟩
      rw [← hL] at c0 hkA hlL
      have hw1 : IntKind.i64.wrap ((k : Int) + 1 - 1) = (k : Int) := by rw [show (k : Int) + 1 - 1 = (k : Int) by omega]; exact IntWalk.i64_in _ (by omega)
      have hw4 : IntKind.i64.wrap (k : Int) = (k : Int) := IntWalk.i64_in _ (by omega)
      have hw3 : wrap64 (k : Int) = (k : Int) := IntWalk.wrap64_in _ ⟨by omega, by omega⟩
      dsimp only
      clear e h0 hx hst9 hk ha hL hv2 hk1
      go_enter Try.func10, Try.ntmps10
      go_wp2_with (fail)
      refine hf.mono ?_
      rintro e w' ⟨rfl, rfl⟩
      go_wp2_with (fail)
      refine hd.mono ?_
      rintro e w' ⟨rfl, rfl⟩
      go_wp2_with (fail)
      go_quiet (fail)
      go_wp2
      go_ret3
      exact ⟨rfl, _, rfl⟩
  · rw [ptrT, if_neg hx] at hf
    have hin : inB b x = false := decide_eq_false hx
    have e : winA b x = (0, 0, false) := by simp [winA, hin]
    rw [e]
    clear e hin hx
    go_enter Try.func10, Try.ntmps10
    go_wp2_with (fail)
    refine hf.mono ?_
    rintro e w' ⟨rfl, rfl⟩
    go_wp2
    go_ret3
    exact ⟨rfl, 0, rfl⟩
theorem finished_any {w0 w : World} {p : Nat} {b : Bd} (h : Hid (AB w0 w p b)) :
    Calls Try.prog 5 #[.pointer (some ⟨p, 0, none⟩)] w fun e w' => e = .returned (.bool ((b.orr : Int) == 0)) ∧ w = w' := by
  obtain ⟨tb, hs, HR⟩ := abd_raw h.out
  have c5 : w.cell? ⟨p, 5, none⟩ = some (.int .i64 (b.orr : Int)) := HR.out.c5
  go_enter Try.func5, Try.ntmps5
  go_wp2
  go_ret
  exact ⟨rfl, rfl⟩
theorem dead_any {w0 w : World} {p : Nat} {b : Bd} (h : Hid (AB w0 w p b)) :
    Calls Try.prog 11 #[.pointer (some ⟨p, 0, none⟩)] w fun e w' => e = .returned (.bool b.dead) ∧ w = w' := by
  obtain ⟨tb, hs, HR⟩ := abd_raw h.out
  have c6 : w.cell? ⟨p, 6, none⟩ = some (.bool b.dead) := HR.out.c6
  go_enter Try.func11, Try.ntmps11
  go_wp2
  go_ret
  exact ⟨rfl, rfl⟩
end Go.Proofs.Ytilobnplmkmmpaa
