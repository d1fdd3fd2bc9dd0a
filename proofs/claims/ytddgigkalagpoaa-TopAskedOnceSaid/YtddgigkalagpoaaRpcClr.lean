/- Package rpc: a caller: what it is, and what each of its calls makes of it. -/
import Derived.Test.YtddgigkalagpoaaPlainKit
import Derived.Test.YtddgigkalagpoaaTch
import Derived.Lib.Hide
import Derived.IntWalk
import Derived.Deep.QuietTactic
import Derived.BigQuiet
namespace Go.Proofs.Ytddgigkalagpoaa
open Go.RowKit

/-- a moment, a length of time -/
def mom (n : Int) : Int := min (max n 0) 1099511627776
def lenT (n : Int) : Int := min (max n 1) 1099511627776
theorem mom_b (n : Int) : 0 ≤ mom n ∧ mom n ≤ 1099511627776 := by unfold mom; omega
theorem lenT_b (n : Int) : 1 ≤ lenT n ∧ lenT n ≤ 1099511627776 := by unfold lenT; omega
structure Clr where
  wait : Int
  most : Int
  call : Int
  und : Bool
  begun : Int
  sent : Int
structure ClrOk (c : Clr) : Prop where
  w : 1 ≤ c.wait ∧ c.wait ≤ 1099511627776
  m : 1 ≤ c.most ∧ c.most ≤ 1099511627776
  b : 0 ≤ c.begun ∧ c.begun ≤ 1099511627776
  s : 0 ≤ c.sent ∧ c.sent ≤ 1099511627776
structure ClrAt (w : World) (p : Nat) (c : Clr) : Prop where
  c0 : w.cell? ⟨p, 0, none⟩ = some (.int .i64 c.wait)
  c1 : w.cell? ⟨p, 1, none⟩ = some (.int .i64 c.most)
  c2 : w.cell? ⟨p, 2, none⟩ = some (.int .i64 c.call)
  c3 : w.cell? ⟨p, 3, none⟩ = some (.bool c.und)
  c4 : w.cell? ⟨p, 4, none⟩ = some (.int .i64 c.begun)
  c5 : w.cell? ⟨p, 5, none⟩ = some (.int .i64 c.sent)
  ty : Bears w p 57
theorem bears_free {w : World} {p : Nat} {e : TypeId} (h : Bears w p e) (i : Nat) : w.frozen? ⟨p, i, none⟩ = false := by
  obtain ⟨cs, h⟩ := h
  simp [World.frozen?, h]
theorem ClrAt.same {w w' : World} {p : Nat} {c : Clr} (h : ClrAt w p c) (e : w'.heap[p]? = w.heap[p]?) : ClrAt w' p c :=
  ⟨(cell_eq e 0).trans h.c0, (cell_eq e 1).trans h.c1, (cell_eq e 2).trans h.c2, (cell_eq e 3).trans h.c3, (cell_eq e 4).trans h.c4, (cell_eq e 5).trans h.c5, by obtain ⟨cs, k⟩ := h.ty; exact ⟨cs, e.trans k⟩⟩
/-- a caller of the law's own at p -/
structure ClrSt (w0 w : World) (p : Nat) (c : Clr) : Prop where
  bel : Below w0.heap.size w0 w
  lo : w0.heap.size ≤ p
  at' : ClrAt w p c
/-- all blocks that were there stay but one -/
def CF (p : Nat) (w w' : World) : Prop := ∀ b, b < w.heap.size → ¬ b = p → w'.heap[b]? = w.heap[b]?
theorem cf_refl (p : Nat) (w : World) : CF p w w := fun _ _ _ => rfl
theorem cf_set {p : Nat} {w w' : World} (h : CF p w w') (i : Nat) (v : Value) : CF p w (w'.setCell ⟨p, i, none⟩ v) := fun b hb hn => (Below.heap_setCell _ _ _ _ hn).trans (h b hb hn)
theorem cf_drew {p : Nat} {w w' : World} (h : CF p w w') : CF p w w'.drew := h
theorem ClrSt.below {w0 w w' : World} {p : Nat} {c : Clr} (h : ClrSt w0 w p c) (hb : Below w.heap.size w w') : ClrSt w0 w' p c :=
  ⟨h.bel.trans (hb.mono h.bel.size), h.lo, h.at'.same (hb.block p h.at'.ty.lt)⟩
section
variable {w0 w : World} {p : Nat} {c : Clr}
theorem ClrAt.setCall (h : ClrAt w p c) (x : Int) : ClrAt (w.setCell ⟨p, 2, none⟩ (.int .i64 x)) p { c with call := x } :=
  ⟨(World.cell?_setCell_other _ _ _ _ (by simp)).trans h.c0, (World.cell?_setCell_other _ _ _ _ (by simp)).trans h.c1, World.cell?_setCell_same _ _ _ h.c2, (World.cell?_setCell_other _ _ _ _ (by simp)).trans h.c3, (World.cell?_setCell_other _ _ _ _ (by simp)).trans h.c4, (World.cell?_setCell_other _ _ _ _ (by simp)).trans h.c5, bears_set _ h.ty⟩
theorem ClrAt.setUnd (h : ClrAt w p c) (x : Bool) : ClrAt (w.setCell ⟨p, 3, none⟩ (.bool x)) p { c with und := x } :=
  ⟨(World.cell?_setCell_other _ _ _ _ (by simp)).trans h.c0, (World.cell?_setCell_other _ _ _ _ (by simp)).trans h.c1, (World.cell?_setCell_other _ _ _ _ (by simp)).trans h.c2, World.cell?_setCell_same _ _ _ h.c3, (World.cell?_setCell_other _ _ _ _ (by simp)).trans h.c4, (World.cell?_setCell_other _ _ _ _ (by simp)).trans h.c5, bears_set _ h.ty⟩
theorem ClrAt.setBegun (h : ClrAt w p c) (x : Int) : ClrAt (w.setCell ⟨p, 4, none⟩ (.int .i64 x)) p { c with begun := x } :=
  ⟨(World.cell?_setCell_other _ _ _ _ (by simp)).trans h.c0, (World.cell?_setCell_other _ _ _ _ (by simp)).trans h.c1, (World.cell?_setCell_other _ _ _ _ (by simp)).trans h.c2, (World.cell?_setCell_other _ _ _ _ (by simp)).trans h.c3, World.cell?_setCell_same _ _ _ h.c4, (World.cell?_setCell_other _ _ _ _ (by simp)).trans h.c5, bears_set _ h.ty⟩
theorem ClrAt.setSent (h : ClrAt w p c) (x : Int) : ClrAt (w.setCell ⟨p, 5, none⟩ (.int .i64 x)) p { c with sent := x } :=
  ⟨(World.cell?_setCell_other _ _ _ _ (by simp)).trans h.c0, (World.cell?_setCell_other _ _ _ _ (by simp)).trans h.c1, (World.cell?_setCell_other _ _ _ _ (by simp)).trans h.c2, (World.cell?_setCell_other _ _ _ _ (by simp)).trans h.c3, (World.cell?_setCell_other _ _ _ _ (by simp)).trans h.c4, World.cell?_setCell_same _ _ _ h.c5, bears_set _ h.ty⟩
theorem bel_set (hb : Below w0.heap.size w0 w) (hp : w0.heap.size ≤ p) (i : Nat) (v : Value) : Below w0.heap.size w0 (w.setCell ⟨p, i, none⟩ v) := hb.setCell (p := ⟨p, i, none⟩) hp v
theorem ClrSt.setCall (h : ClrSt w0 w p c) (x : Int) : ClrSt w0 (w.setCell ⟨p, 2, none⟩ (.int .i64 x)) p { c with call := x } := ⟨bel_set h.bel h.lo _ _, h.lo, h.at'.setCall x⟩
theorem ClrSt.setUnd (h : ClrSt w0 w p c) (x : Bool) : ClrSt w0 (w.setCell ⟨p, 3, none⟩ (.bool x)) p { c with und := x } := ⟨bel_set h.bel h.lo _ _, h.lo, h.at'.setUnd x⟩
theorem ClrSt.setBegun (h : ClrSt w0 w p c) (x : Int) : ClrSt w0 (w.setCell ⟨p, 4, none⟩ (.int .i64 x)) p { c with begun := x } := ⟨bel_set h.bel h.lo _ _, h.lo, h.at'.setBegun x⟩
theorem ClrSt.setSent (h : ClrSt w0 w p c) (x : Int) : ClrSt w0 (w.setCell ⟨p, 5, none⟩ (.int .i64 x)) p { c with sent := x } := ⟨bel_set h.bel h.lo _ _, h.lo, h.at'.setSent x⟩
theorem ClrSt.drewN (h : ClrSt w0 w p c) (n : Nat) : ClrSt w0 (w.drewN n) p c :=
  ⟨⟨h.bel.os, h.bel.tape, h.bel.output, h.bel.size, h.bel.block⟩, h.lo, h.at'.same rfl⟩
end
set_option maxHeartbeats 1000000 in
theorem moment_any (n : Int) (w : World) : Calls Try.prog 20 #[.int .i64 n] w fun e w' => e = .returned (.int .i64 (mom n)) ∧ w = w' := by
  rcases Int.lt_or_le n 0 with h | h
  · rw [show mom n = 0 by unfold mom; omega]
    go_enter Try.func20, Try.ntmps20
    go_wp2
    go_ret
    exact ⟨rfl, rfl⟩
  · rcases Int.lt_or_le 1099511627776 n with h2 | h2
    · rw [show mom n = 1099511627776 by unfold mom; omega]
      go_enter Try.func20, Try.ntmps20
      go_wp2
      go_ret
      exact ⟨rfl, rfl⟩
    · rw [show mom n = n by unfold mom; omega]
      go_enter Try.func20, Try.ntmps20
      go_wp2
      go_ret
      exact ⟨rfl, rfl⟩
set_option maxHeartbeats 1000000 in
theorem length_any (n : Int) (w : World) : Calls Try.prog 19 #[.int .i64 n] w fun e w' => e = .returned (.int .i64 (lenT n)) ∧ w = w' := by
  rcases Int.lt_or_le n 1 with h | h
  · rw [show lenT n = 1 by unfold lenT; omega]
    go_enter Try.func19, Try.ntmps19
    go_wp2
    go_ret
    exact ⟨rfl, rfl⟩
  · rcases Int.lt_or_le 1099511627776 n with h2 | h2
    · rw [show lenT n = 1099511627776 by unfold lenT; omega]
      go_enter Try.func19, Try.ntmps19
      go_wp2
      go_ret
      exact ⟨rfl, rfl⟩
    · rw [show lenT n = n by unfold lenT; omega]
      go_enter Try.func19, Try.ntmps19
      go_wp2
      go_ret
      exact ⟨rfl, rfl⟩
/-- a caller that has begun no call -/
def clrNew (a b : Int) : Clr := ⟨lenT a, lenT b, 0, false, 0, 0⟩
set_option maxHeartbeats 1000000 in
theorem newcaller_any (a b : Int) (w : World) : Calls Try.prog 5 #[.int .i64 a, .int .i64 b] w fun e w' =>
    e = .returned (.pointer (some ⟨w.heap.size, 0, none⟩)) ∧ w.alloc (.cells #[.int .i64 (lenT a), .int .i64 (lenT b), .int .i64 0, .bool false, .int .i64 0, .int .i64 0] 57) = w' := by
  go_enter Try.func5, Try.ntmps5
  go_wp2_with (fail)
  refine (length_any a _).mono ?_
  rintro e w1 ⟨rfl, rfl⟩
  go_wp2_with (fail)
  refine (length_any b _).mono ?_
  rintro e w1 ⟨rfl, rfl⟩
  go_wp2
  go_ret
  exact ⟨rfl, rfl⟩
theorem clr_new {w0 : World} (a b : Int) (w : World) (hb : Below w0.heap.size w0 w) : Calls Try.prog 5 #[.int .i64 a, .int .i64 b] w fun e w' =>
    e = .returned (.pointer (some ⟨w.heap.size, 0, none⟩)) ∧ Hid (ClrSt w0 w' w.heap.size (clrNew a b) ∧ Below w.heap.size w w') := by
  refine (newcaller_any a b w).mono ?_
  rintro e w' ⟨he, rfl⟩
  have hbl : Below w.heap.size w (w.alloc (.cells #[.int .i64 (lenT a), .int .i64 (lenT b), .int .i64 0, .bool false, .int .i64 0, .int .i64 0] 57)) := (Below.refl _ w).alloc (Nat.le_refl _) _
  refine ⟨he, Lib.hid ⟨⟨hb.trans (hbl.mono hb.size), hb.size, ?_, ?_, ?_, ?_, ?_, ?_, ⟨_, heap_alloc_new w _⟩⟩, hbl⟩⟩ <;> simp [clrNew]
set_option maxHeartbeats 2000000 in
theorem start_any {w0 : World} (p : Nat) (c : Clr) (now : Int) (w : World) (hc : 0 ≤ c.call ∧ c.call < 9223372036854775807) (h : Hid (ClrSt w0 w p c)) :
    Calls Try.prog 6 #[.pointer (some ⟨p, 0, none⟩), .int .i64 now] w fun e w' => e = .returned (.int .i64 (c.call + 1)) ∧ Hid (ClrSt w0 w' p ⟨c.wait, c.most, c.call + 1, true, mom now, mom now⟩ ∧ CF p w w') := by
  have HF : Hid (∀ x y z u, x = c.call + 1 → ClrSt w0 ((((w.setCell ⟨p, 2, none⟩ (.int .i64 x)).setCell ⟨p, 3, none⟩ (.bool y)).setCell ⟨p, 4, none⟩ (.int .i64 z)).setCell ⟨p, 5, none⟩ (.int .i64 u)) p ⟨c.wait, c.most, c.call + 1, y, z, u⟩) :=
    Lib.hid (fun x y z u e => by subst e; exact (((h.out.setCall _).setUnd y).setBegun z).setSent u)
  obtain ⟨c0, c1, c2, c3, c4, c5, ty⟩ := h.out.at'
  have f := bears_free ty
  have f2 := f 2
  have f3 := f 3
  have f4 := f 4
  have f5 := f 5
  clear f ty h
  have hw : wrap64 (c.call + 1) = c.call + 1 := IntWalk.wrap64_in _ ⟨by omega, by omega⟩
  go_enter Try.func6, Try.ntmps6
  go_wp2_with (fail)
  refine (moment_any now _).mono ?_
  rintro e w1 ⟨rfl, rfl⟩
  go_wp2
  go_ret
  exact ⟨rfl, Lib.hid ⟨HF.out _ _ _ _ rfl, cf_set (cf_set (cf_set (cf_set (cf_refl p w) 2 _) 3 _) 4 _) 5 _⟩⟩
def tickA (c : Clr) (now : Int) : Int := if c.und = false then 0 else if c.begun ≤ mom now - c.most then 2 else if c.sent ≤ mom now - c.wait then 1 else 0
def tickC (c : Clr) (now : Int) : Clr := if tickA c now = 2 then { c with und := false } else if tickA c now = 1 then { c with sent := mom now } else c
set_option maxHeartbeats 2000000 in
set_option maxRecDepth 100000 in
theorem tick_any {w0 : World} (p : Nat) (c : Clr) (now : Int) (w : World) (hok : ClrOk c) (h : Hid (ClrSt w0 w p c)) :
    Calls Try.prog 17 #[.pointer (some ⟨p, 0, none⟩), .int .i64 now] w fun e w' => e = .returned (.int .i64 (tickA c now)) ∧ Hid (ClrSt w0 w' p (tickC c now) ∧ CF p w w') := by
  obtain ⟨⟨a1, a2⟩, ⟨b1, b2⟩, ⟨d1, d2⟩, g1, g2⟩ := hok
  obtain ⟨m1, m2⟩ := mom_b now
  have HH := h
  obtain ⟨c0, c1, c2, c3, c4, c5, ty⟩ := h.out.at'
  have f := bears_free ty
  have f3 := f 3
  have f5 := f 5
  clear f ty h
  have hw1 : wrap64 (mom now - c.most) = mom now - c.most := IntWalk.wrap64_in _ ⟨by omega, by omega⟩
  have hw2 : wrap64 (mom now - c.wait) = mom now - c.wait := IntWalk.wrap64_in _ ⟨by omega, by omega⟩
  have hw3 : IntKind.i64.wrap (mom now - c.most) = mom now - c.most := IntWalk.i64_in _ (by omega)
  have hw4 : IntKind.i64.wrap (mom now - c.wait) = mom now - c.wait := IntWalk.i64_in _ (by omega)
  cases hu : c.und
  · have hA : tickA c now = 0 := by simp [tickA, hu]
    have hC : tickC c now = c := by simp [tickC, hA]
    rw [hA, hC]
    rw [hu] at c3
    clear hA hC hu
    go_enter Try.func17, Try.ntmps17
    go_wp2
    go_ret
    exact ⟨rfl, Lib.hid ⟨HH.out, cf_refl _ _⟩⟩
  · rw [hu] at c3
    by_cases hl : c.begun ≤ mom now - c.most
    · have hA : tickA c now = 2 := by simp [tickA, hu, hl]
      have hC : tickC c now = { c with und := false } := by simp [tickC, hA]
      have hl1 : decide (c.begun ≤ mom now - c.most) = true := by simpa using hl
      rw [hA, hC]
      clear hA hC hu
      go_enter Try.func17, Try.ntmps17
      go_wp2_with (fail)
      refine (moment_any now _).mono ?_
      rintro e w1 ⟨rfl, rfl⟩
      go_wp2_with (fail)
      go_quiet (fail)
      go_wp2
      go_ret
      exact ⟨rfl, Lib.hid ⟨(HH.out.drewN _).setUnd false, cf_set (fun b _ _ => rfl) 3 _⟩⟩
    · have hl1 : decide (c.begun ≤ mom now - c.most) = false := by simpa using hl
      by_cases hs : c.sent ≤ mom now - c.wait
      · have hA : tickA c now = 1 := by simp [tickA, hu, hl, hs]
        have hC : tickC c now = { c with sent := mom now } := by simp [tickC, hA]
        have hs1 : decide (c.sent ≤ mom now - c.wait) = true := by simpa using hs
        rw [hA, hC]
        clear hA hC hu
        go_enter Try.func17, Try.ntmps17
        go_wp2_with (fail)
        refine (moment_any now _).mono ?_
        rintro e w1 ⟨rfl, rfl⟩
        go_wp2_with (fail)
        go_quiet (fail)
        go_wp2_with (fail)
        go_quiet (fail)
        go_wp2
        go_ret
        exact ⟨rfl, Lib.hid ⟨(HH.out.drewN _).setSent (mom now), cf_set (fun b _ _ => rfl) 5 _⟩⟩
      · have hA : tickA c now = 0 := by simp [tickA, hu, hl, hs]
        have hC : tickC c now = c := by simp [tickC, hA]
        have hs1 : decide (c.sent ≤ mom now - c.wait) = false := by simpa using hs
        rw [hA, hC]
        clear hA hC hu
        go_enter Try.func17, Try.ntmps17
        go_wp2_with (fail)
        refine (moment_any now _).mono ?_
        rintro e w1 ⟨rfl, rfl⟩
        go_wp2_with (fail)
        go_quiet (fail)
        go_wp2_with (fail)
        go_quiet (fail)
        go_wp2
        go_ret
        exact ⟨rfl, Lib.hid ⟨((HH.out.drewN _).drewN _), fun b _ _ => rfl⟩⟩
def gotB (c : Clr) (n : Int) : Bool := c.und && decide (c.call = n)
def gotC (c : Clr) (n : Int) : Clr := if gotB c n then { c with und := false } else c
set_option maxHeartbeats 2000000 in
theorem got_any {w0 : World} (p : Nat) (c : Clr) (n : Int) (w : World) (h : Hid (ClrSt w0 w p c)) :
    Calls Try.prog 14 #[.pointer (some ⟨p, 0, none⟩), .int .i64 n] w fun e w' => e = .returned (.bool (gotB c n)) ∧ Hid (ClrSt w0 w' p (gotC c n) ∧ CF p w w') := by
  have HH := h
  obtain ⟨c0, c1, c2, c3, c4, c5, ty⟩ := h.out.at'
  have f3 := bears_free ty 3
  clear ty h
  cases hu : c.und
  · have hA : gotB c n = false := by simp [gotB, hu]
    have hC : gotC c n = c := by simp [gotC, hA]
    rw [hA, hC]
    rw [hu] at c3
    clear hA hC hu
    go_enter Try.func14, Try.ntmps14
    go_wp2
    go_ret
    exact ⟨rfl, Lib.hid ⟨HH.out, cf_refl _ _⟩⟩
  · rw [hu] at c3
    by_cases hl : c.call = n
    · have hA : gotB c n = true := by simp [gotB, hu, hl]
      have hC : gotC c n = { c with und := false } := by simp [gotC, hA]
      rw [hA, hC]
      clear hA hC hu
      have hl1 : (c.call != n) = false := by simpa using hl
      clear hl
      go_enter Try.func14, Try.ntmps14
      go_wp2
      go_ret
      exact ⟨rfl, Lib.hid ⟨HH.out.setUnd false, cf_set (cf_refl _ _) 3 _⟩⟩
    · have hA : gotB c n = false := by simp [gotB, hl]
      have hC : gotC c n = c := by simp [gotC, hA]
      rw [hA, hC]
      clear hA hC hu
      have hl1 : (c.call != n) = true := by simpa using hl
      clear hl
      go_enter Try.func14, Try.ntmps14
      go_wp2
      go_ret
      exact ⟨rfl, Lib.hid ⟨HH.out, cf_refl _ _⟩⟩
set_option maxHeartbeats 2000000 in
theorem call_any {w0 : World} (p : Nat) (c : Clr) (w : World) (h : Hid (ClrSt w0 w p c)) :
    Calls Try.prog 9 #[.pointer (some ⟨p, 0, none⟩)] w fun e w' => e = .returned (.tuple #[.int .i64 c.call, .bool c.und]) ∧ Hid (ClrSt w0 w' p c ∧ CF p w w') := by
  have HH := h
  obtain ⟨c0, c1, c2, c3, c4, c5, ty⟩ := h.out.at'
  clear ty h
  go_enter Try.func9, Try.ntmps9
  go_wp2_with (fail)
  go_quiet (fail)
  go_wp2
  go_ret2
  exact ⟨rfl, Lib.hid ⟨HH.out.drewN _, fun b _ _ => rfl⟩⟩
/-! no caller -/
theorem start_nil (now : Int) (w : World) : Calls Try.prog 6 #[.pointer none, .int .i64 now] w fun e w' => e = .returned (.int .i64 0) ∧ w = w' := by
  go_enter Try.func6, Try.ntmps6
  go_wp2
  go_ret
  exact ⟨rfl, rfl⟩
theorem tick_nil (now : Int) (w : World) : Calls Try.prog 17 #[.pointer none, .int .i64 now] w fun e w' => e = .returned (.int .i64 0) ∧ w = w' := by
  go_enter Try.func17, Try.ntmps17
  go_wp2
  go_ret
  exact ⟨rfl, rfl⟩
theorem got_nil (now : Int) (w : World) : Calls Try.prog 14 #[.pointer none, .int .i64 now] w fun e w' => e = .returned (.bool false) ∧ w = w' := by
  go_enter Try.func14, Try.ntmps14
  go_wp2
  go_ret
  exact ⟨rfl, rfl⟩
theorem call_nil (w : World) : Calls Try.prog 9 #[.pointer none] w fun e w' => e = .returned (.tuple #[.int .i64 0, .bool false]) ∧ w = w' := by
  go_enter Try.func9, Try.ntmps9
  go_wp2
  go_ret2
  exact ⟨rfl, rfl⟩
theorem ok_tick {c : Clr} (h : ClrOk c) (now : Int) : ClrOk (tickC c now) ∧ (tickC c now).call = c.call := by
  obtain ⟨m1, m2⟩ := mom_b now
  unfold tickC
  split
  · exact ⟨⟨h.w, h.m, h.b, h.s⟩, rfl⟩
  · split
    · exact ⟨⟨h.w, h.m, h.b, m1, m2⟩, rfl⟩
    · exact ⟨h, rfl⟩
theorem ok_got {c : Clr} (h : ClrOk c) (n : Int) : ClrOk (gotC c n) ∧ (gotC c n).call = c.call := by
  unfold gotC
  split
  · exact ⟨⟨h.w, h.m, h.b, h.s⟩, rfl⟩
  · exact ⟨h, rfl⟩
end Go.Proofs.Ytddgigkalagpoaa
