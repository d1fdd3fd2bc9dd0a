/- The reference's caller, and both callers beside each other. -/
import Derived.Test.YtcjpllojgmaofaaRpcActs
namespace Go.Proofs.Ytcjpllojgmaofaa
open Go.RowKit

structure RAt (w : World) (q : Nat) (c : Clr) : Prop where
  ty : Bears w q 48
  c0 : w.cell? ⟨q, 0, none⟩ = some (.int .i64 c.wait)
  c1 : w.cell? ⟨q, 1, none⟩ = some (.int .i64 c.most)
  c2 : w.cell? ⟨q, 2, none⟩ = some (.int .i64 c.call)
  c3 : w.cell? ⟨q, 3, none⟩ = some (.int .i64 c.begun)
  c4 : w.cell? ⟨q, 4, none⟩ = some (.int .i64 c.sent)
  c5 : w.cell? ⟨q, 5, none⟩ = some (.bool c.und)
theorem RAt.same {w w' : World} {q : Nat} {c : Clr} (h : RAt w q c) (e : w'.heap[q]? = w.heap[q]?) : RAt w' q c :=
  ⟨by obtain ⟨cs, k⟩ := h.ty; exact ⟨cs, e.trans k⟩, (cell_eq e 0).trans h.c0, (cell_eq e 1).trans h.c1, (cell_eq e 2).trans h.c2, (cell_eq e 3).trans h.c3, (cell_eq e 4).trans h.c4, (cell_eq e 5).trans h.c5⟩
section
variable {w : World} {q : Nat} {c : Clr}
theorem RAt.setCall (h : RAt w q c) (x : Int) : RAt (w.setCell ⟨q, 2, none⟩ (.int .i64 x)) q { c with call := x } :=
  ⟨bears_set _ h.ty, (World.cell?_setCell_other _ _ _ _ (by simp)).trans h.c0, (World.cell?_setCell_other _ _ _ _ (by simp)).trans h.c1, World.cell?_setCell_same _ _ _ h.c2, (World.cell?_setCell_other _ _ _ _ (by simp)).trans h.c3, (World.cell?_setCell_other _ _ _ _ (by simp)).trans h.c4, (World.cell?_setCell_other _ _ _ _ (by simp)).trans h.c5⟩
theorem RAt.setBegun (h : RAt w q c) (x : Int) : RAt (w.setCell ⟨q, 3, none⟩ (.int .i64 x)) q { c with begun := x } :=
  ⟨bears_set _ h.ty, (World.cell?_setCell_other _ _ _ _ (by simp)).trans h.c0, (World.cell?_setCell_other _ _ _ _ (by simp)).trans h.c1, (World.cell?_setCell_other _ _ _ _ (by simp)).trans h.c2, World.cell?_setCell_same _ _ _ h.c3, (World.cell?_setCell_other _ _ _ _ (by simp)).trans h.c4, (World.cell?_setCell_other _ _ _ _ (by simp)).trans h.c5⟩
theorem RAt.setSent (h : RAt w q c) (x : Int) : RAt (w.setCell ⟨q, 4, none⟩ (.int .i64 x)) q { c with sent := x } :=
  ⟨bears_set _ h.ty, (World.cell?_setCell_other _ _ _ _ (by simp)).trans h.c0, (World.cell?_setCell_other _ _ _ _ (by simp)).trans h.c1, (World.cell?_setCell_other _ _ _ _ (by simp)).trans h.c2, (World.cell?_setCell_other _ _ _ _ (by simp)).trans h.c3, World.cell?_setCell_same _ _ _ h.c4, (World.cell?_setCell_other _ _ _ _ (by simp)).trans h.c5⟩
theorem RAt.setUnd (h : RAt w q c) (x : Bool) : RAt (w.setCell ⟨q, 5, none⟩ (.bool x)) q { c with und := x } :=
  ⟨bears_set _ h.ty, (World.cell?_setCell_other _ _ _ _ (by simp)).trans h.c0, (World.cell?_setCell_other _ _ _ _ (by simp)).trans h.c1, (World.cell?_setCell_other _ _ _ _ (by simp)).trans h.c2, (World.cell?_setCell_other _ _ _ _ (by simp)).trans h.c3, (World.cell?_setCell_other _ _ _ _ (by simp)).trans h.c4, World.cell?_setCell_same _ _ _ h.c5⟩
end
set_option maxHeartbeats 1000000 in
theorem clamp0_any (n : Int) (w : World) : Calls Try.prog 16 #[.int .i64 n, .int .i64 0] w fun e w' => e = .returned (.int .i64 (mom n)) ∧ w = w' := by
  rcases Int.lt_or_le n 0 with h | h
  · rw [show mom n = 0 by unfold mom; omega]
    go_enter Try.func16, Try.ntmps16
    go_wp2
    go_ret
    exact ⟨rfl, rfl⟩
  · rcases Int.lt_or_le 1099511627776 n with h2 | h2
    · rw [show mom n = 1099511627776 by unfold mom; omega]
      go_enter Try.func16, Try.ntmps16
      go_wp2
      go_ret
      exact ⟨rfl, rfl⟩
    · rw [show mom n = n by unfold mom; omega]
      go_enter Try.func16, Try.ntmps16
      go_wp2
      go_ret
      exact ⟨rfl, rfl⟩
set_option maxHeartbeats 1000000 in
theorem clamp1_any (n : Int) (w : World) : Calls Try.prog 16 #[.int .i64 n, .int .i64 1] w fun e w' => e = .returned (.int .i64 (lenT n)) ∧ w = w' := by
  rcases Int.lt_or_le n 1 with h | h
  · rw [show lenT n = 1 by unfold lenT; omega]
    go_enter Try.func16, Try.ntmps16
    go_wp2
    go_ret
    exact ⟨rfl, rfl⟩
  · rcases Int.lt_or_le 1099511627776 n with h2 | h2
    · rw [show lenT n = 1099511627776 by unfold lenT; omega]
      go_enter Try.func16, Try.ntmps16
      go_wp2
      go_ret
      exact ⟨rfl, rfl⟩
    · rw [show lenT n = n by unfold lenT; omega]
      go_enter Try.func16, Try.ntmps16
      go_wp2
      go_ret
      exact ⟨rfl, rfl⟩
set_option maxHeartbeats 2000000 in
set_option maxRecDepth 100000 in
theorem rtick_any (q : Nat) (c : Clr) (now : Int) (w : World) (hok : ClrOk c) (h : Hid (RAt w q c)) :
    Calls Try.prog 19 #[.pointer (some ⟨q, 0, none⟩), .int .i64 now] w fun e w' => e = .returned (.int .i64 (tickA c now)) ∧ Hid (RAt w' q (tickC c now) ∧ CF q w w' ∧ w'.heap.size = w.heap.size ∧ w'.os = w.os ∧ w'.tape = w.tape ∧ w'.output = w.output) := by
  obtain ⟨⟨a1, a2⟩, ⟨b1, b2⟩, ⟨d1, d2⟩, g1, g2⟩ := hok
  obtain ⟨m1, m2⟩ := mom_b now
  have HH := h
  obtain ⟨ty, c0, c1, c2, c3, c4, c5⟩ := h.out
  have f := bears_free ty
  have f4 := f 4
  have f5 := f 5
  clear f ty h
  have hw1 : wrap64 (mom now - c.most) = mom now - c.most := IntWalk.wrap64_in _ ⟨by omega, by omega⟩
  have hw2 : wrap64 (mom now - c.wait) = mom now - c.wait := IntWalk.wrap64_in _ ⟨by omega, by omega⟩
  have hw3 : IntKind.i64.wrap (mom now - c.most) = mom now - c.most := IntWalk.i64_in _ (by omega)
  have hw4 : IntKind.i64.wrap (mom now - c.wait) = mom now - c.wait := IntWalk.i64_in _ (by omega)
  cases hu : c.und
  · have hA : tickA c now = 0 := by simp [tickA, hu]
    have hC : tickC c now = c := by simp [tickC, hA]
    rw [hA, hC]
    rw [hu] at c5
    clear hA hC hu
    go_enter Try.func19, Try.ntmps19
    go_wp2_with (fail)
    refine (clamp0_any now _).mono ?_
    rintro e w1 ⟨rfl, rfl⟩
    go_wp2
    go_ret
    exact ⟨rfl, Lib.hid ⟨HH.out, cf_refl _ _, rfl, rfl, rfl, rfl⟩⟩
  · rw [hu] at c5
    by_cases hl : c.begun ≤ mom now - c.most
    · have hA : tickA c now = 2 := by simp [tickA, hu, hl]
      have hC : tickC c now = { c with und := false } := by simp [tickC, hA]
      have hl1 : decide (c.begun ≤ mom now - c.most) = true := by simpa using hl
      rw [hA, hC]
      clear hA hC hu
      go_enter Try.func19, Try.ntmps19
      go_wp2_with (fail)
      refine (clamp0_any now _).mono ?_
      rintro e w1 ⟨rfl, rfl⟩
      go_wp2_with (fail)
      go_quiet (fail)
      go_wp2
      go_ret
      exact ⟨rfl, Lib.hid ⟨RAt.setUnd (w := w.drewN _) (HH.out.same rfl) false, cf_set (fun b _ _ => rfl) 5 _, by simp [World.setCell], rfl, rfl, rfl⟩⟩
    · have hl1 : decide (c.begun ≤ mom now - c.most) = false := by simpa using hl
      by_cases hs : c.sent ≤ mom now - c.wait
      · have hA : tickA c now = 1 := by simp [tickA, hu, hl, hs]
        have hC : tickC c now = { c with sent := mom now } := by simp [tickC, hA]
        have hs1 : decide (c.sent ≤ mom now - c.wait) = true := by simpa using hs
        rw [hA, hC]
        clear hA hC hu
        go_enter Try.func19, Try.ntmps19
        go_wp2_with (fail)
        refine (clamp0_any now _).mono ?_
        rintro e w1 ⟨rfl, rfl⟩
        go_wp2_with (fail)
        go_quiet (fail)
        go_wp2_with (fail)
        go_quiet (fail)
        go_wp2
        go_ret
        exact ⟨rfl, Lib.hid ⟨RAt.setSent (w := w.drewN _) (HH.out.same rfl) (mom now), cf_set (fun b _ _ => rfl) 4 _, by simp [World.setCell], rfl, rfl, rfl⟩⟩
      · have hA : tickA c now = 0 := by simp [tickA, hu, hl, hs]
        have hC : tickC c now = c := by simp [tickC, hA]
        have hs1 : decide (c.sent ≤ mom now - c.wait) = false := by simpa using hs
        rw [hA, hC]
        clear hA hC hu
        go_enter Try.func19, Try.ntmps19
        go_wp2_with (fail)
        refine (clamp0_any now _).mono ?_
        rintro e w1 ⟨rfl, rfl⟩
        go_wp2_with (fail)
        go_quiet (fail)
        go_wp2_with (fail)
        go_quiet (fail)
        go_wp2
        go_ret
        exact ⟨rfl, Lib.hid ⟨HH.out.same rfl, fun b _ _ => rfl, rfl, rfl, rfl, rfl⟩⟩
/-- both callers beside each other, and the act that is done -/
structure CS (w0 w : World) (p q g : Nat) (c d : Clr) (x : Ac) : Prop where
  clr : ClrSt w0 w p c
  qlo : w0.heap.size ≤ q
  ref : RAt w q d
  box : AcB w g x
section
variable {w0 w w' : World} {p q g : Nat} {c d c' d' : Clr} {x : Ac}
theorem CS.pq (h : CS w0 w p q g c d x) : ¬ q = p := bears_apart h.ref.ty h.clr.at'.ty (by decide)
theorem CS.pg (h : CS w0 w p q g c d x) : ¬ g = p := bears_apart h.box.ty h.clr.at'.ty (by decide)
theorem CS.gq (h : CS w0 w p q g c d x) : ¬ g = q := bears_apart h.box.ty h.ref.ty (by decide)
theorem CS.drew (h : CS w0 w p q g c d x) : CS w0 w.drew p q g c d x := ⟨h.clr.drewN 1, h.qlo, h.ref.same rfl, h.box.same rfl⟩
theorem CS.left (h : CS w0 w p q g c d x) (k : ClrSt w0 w' p c') (f : CF p w w') : CS w0 w' p q g c' d x :=
  ⟨k, h.qlo, h.ref.same (f q h.ref.ty.lt h.pq), h.box.same (f g h.box.ty.lt h.pg)⟩
theorem CS.right (h : CS w0 w p q g c d x) (k : RAt w' q d') (f : CF q w w') (hs : w'.heap.size = w.heap.size) (h1 : w'.os = w.os) (h2 : w'.tape = w.tape) (h3 : w'.output = w.output) : CS w0 w' p q g c d' x := by
  have hb := h.clr.bel
  have hq := h.qlo
  have hpq : ¬ p = q := fun e => h.pq e.symm
  refine ⟨⟨⟨h1.trans hb.os, h2.trans hb.tape, h3.trans hb.output, by rw [hs]; exact hb.size, fun b hb' => ?_⟩, h.clr.lo, h.clr.at'.same (f p h.clr.at'.ty.lt hpq)⟩, h.qlo, k, h.box.same (f g h.box.ty.lt h.gq)⟩
  have := hb.size
  exact (f b (by omega) (by omega)).trans (hb.block b hb')
theorem CS.setq (h : CS w0 w p q g c d x) (i : Nat) (v : Value) (k : RAt (w.setCell ⟨q, i, none⟩ v) q d') : CS w0 (w.setCell ⟨q, i, none⟩ v) p q g c d' x :=
  h.right k (cf_set (cf_refl q w) i v) (by simp [World.setCell]) rfl rfl rfl
theorem cs_start (now : Int) (hc : 0 ≤ c.call ∧ c.call < 9223372036854775807) (h : Hid (CS w0 w p q g c d x)) :
    Calls Try.prog 17 #[.pointer (some ⟨p, 0, none⟩), .int .i64 now] w fun e w' => e = .returned (.int .i64 (c.call + 1)) ∧ Hid (CS w0 w' p q g ⟨c.wait, c.most, c.call + 1, true, mom now, mom now⟩ d x) :=
  (start_any p c now w hc (Lib.hid h.out.clr)).mono fun _ _ ⟨he, k⟩ => ⟨he, Lib.hid (h.out.left k.out.1 k.out.2)⟩
theorem cs_tick (now : Int) (hok : ClrOk c) (h : Hid (CS w0 w p q g c d x)) :
    Calls Try.prog 18 #[.pointer (some ⟨p, 0, none⟩), .int .i64 now] w fun e w' => e = .returned (.int .i64 (tickA c now)) ∧ Hid (CS w0 w' p q g (tickC c now) d x) :=
  (tick_any p c now w hok (Lib.hid h.out.clr)).mono fun _ _ ⟨he, k⟩ => ⟨he, Lib.hid (h.out.left k.out.1 k.out.2)⟩
theorem cs_got (n : Int) (h : Hid (CS w0 w p q g c d x)) :
    Calls Try.prog 20 #[.pointer (some ⟨p, 0, none⟩), .int .i64 n] w fun e w' => e = .returned (.bool (gotB c n)) ∧ Hid (CS w0 w' p q g (gotC c n) d x) :=
  (got_any p c n w (Lib.hid h.out.clr)).mono fun _ _ ⟨he, k⟩ => ⟨he, Lib.hid (h.out.left k.out.1 k.out.2)⟩
theorem cs_call (h : Hid (CS w0 w p q g c d x)) :
    Calls Try.prog 21 #[.pointer (some ⟨p, 0, none⟩)] w fun e w' => e = .returned (.tuple #[.int .i64 c.call, .bool c.und]) ∧ Hid (CS w0 w' p q g c d x) :=
  (call_any p c w (Lib.hid h.out.clr)).mono fun _ _ ⟨he, k⟩ => ⟨he, Lib.hid (h.out.left k.out.1 k.out.2)⟩
theorem cs_rtick (now : Int) (hok : ClrOk d) (h : Hid (CS w0 w p q g c d x)) :
    Calls Try.prog 19 #[.pointer (some ⟨q, 0, none⟩), .int .i64 now] w fun e w' => e = .returned (.int .i64 (tickA d now)) ∧ Hid (CS w0 w' p q g c (tickC d now) x) :=
  (rtick_any q d now w hok (Lib.hid h.out.ref)).mono fun _ _ ⟨he, k⟩ => ⟨he, Lib.hid (h.out.right k.out.1 k.out.2.1 k.out.2.2.1 k.out.2.2.2.1 k.out.2.2.2.2.1 k.out.2.2.2.2.2)⟩
end
/-- both callers between two acts -/
structure CP (w0 w : World) (p q : Nat) (c : Clr) : Prop where
  clr : ClrSt w0 w p c
  qlo : w0.heap.size ≤ q
  ref : RAt w q c
theorem CP.box {w0 w : World} {p q : Nat} {c : Clr} (h : CP w0 w p q c) (x : Ac) : CS w0 (w.alloc (.cells #[.int .i64 x.k, .int .i64 x.a, .int .i64 x.b, .string x.s] 32)) p q w.heap.size c c x := by
  have hb : Below w.heap.size w (w.alloc (.cells #[.int .i64 x.k, .int .i64 x.a, .int .i64 x.b, .string x.s] 32)) := (Below.refl _ w).alloc (Nat.le_refl _) _
  exact ⟨h.clr.below hb, h.qlo, h.ref.same (hb.block q h.ref.ty.lt), acb_new w x⟩
theorem CS.off {w0 w : World} {p q g : Nat} {c : Clr} {x : Ac} (h : CS w0 w p q g c c x) : CP w0 w p q c := ⟨h.clr, h.qlo, h.ref⟩
theorem ok_tick {c : Clr} (h : ClrOk c) (now : Int) : ClrOk (tickC c now) ∧ (tickC c now).call = c.call := by
  obtain ⟨m1, m2⟩ := mom_b now
  unfold tickC
  split
  · exact ⟨⟨h.w, h.m, h.b, h.s⟩, rfl⟩
  · split
    · exact ⟨⟨h.w, h.m, h.b, m1, m2⟩, rfl⟩
    · exact ⟨h, rfl⟩
theorem ok_got {c : Clr} (h : ClrOk c) (n : Int) : ClrOk (gotC c n) ∧ (gotC c n).call = c.call := by
  unfold gotC
  split
  · exact ⟨⟨h.w, h.m, h.b, h.s⟩, rfl⟩
  · exact ⟨h, rfl⟩
end Go.Proofs.Ytcjpllojgmaofaa
