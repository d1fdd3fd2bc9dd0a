/- The reference's net: Deliver; two lists of letters beside each other. -/
import Derived.Test.YtcahiogjmclnjaaNetRefT
namespace Go.Proofs.Ytcahiogjmclnjaa
open Go.RowKit
section
variable {w0 : World} {q : Nat} {N sent : Int} {L : List Letr} {S : Int → Int → Bool}
theorem alloc_letter (w : World) (x : Letr) : Below w.heap.size w (w.alloc (.cells #[.int .i64 x.id, .int .i64 x.a, .int .i64 x.b, .string x.s] 39)) := (Below.refl _ w).alloc (Nat.le_refl _) _
theorem below_four {w w' : World} {g : Nat} (h : Below w.heap.size w w') (hg : w.heap.size ≤ g) (a b c d : Value) : Below w.heap.size w ((((w'.setCell ⟨g, 0, none⟩ a).setCell ⟨g, 1, none⟩ b).setCell ⟨g, 2, none⟩ c).setCell ⟨g, 3, none⟩ d) :=
  (((h.setCell (p := ⟨g, 0, none⟩) hg a).setCell (p := ⟨g, 1, none⟩) hg b).setCell (p := ⟨g, 2, none⟩) hg c).setCell (p := ⟨g, 3, none⟩) hg d
set_option maxRecDepth 100000 in
set_option maxHeartbeats 4000000 in
theorem rdeliver_no (k : Int) (w : World) (hk : ¬ (0 ≤ k ∧ k < (L.length : Int))) (hL : L.length ≤ 65536) (h : Hid (RNt w0 w q N sent L S)) :
    Calls Try.prog 10 #[.pointer (some ⟨q, 0, none⟩), .int .i64 k] w (RNP w0 w q N sent L S (.tuple #[noLet, .int .i64 2])) := by
  obtain ⟨hb0, v, hR⟩ := h.out
  obtain ⟨a', c', hv⟩ := hR.is_slice
  subst hv
  have hb1 := alloc_letter w ⟨0, 0, 0, ⟨#[]⟩⟩
  have hqw : ¬ q = w.heap.size := by have := hR.ty.lt; omega
  have c2 := (hR.below hb1).c2
  have HF := Lib.hid (below_four hb1 (Nat.le_refl _) (.int .i64 0) (.int .i64 0) (.int .i64 0) (.string ⟨#[]⟩))
  obtain ⟨m, hm⟩ : ∃ m, m = L.length := ⟨_, rfl⟩
  rw [← hm] at c2 hk hL
  clear hR hm hb1
  by_cases h0 : k < 0
  · go_enter Try.func10, Try.ntmps10
    go_wp2
    refine bodyPost_ret (v := .tuple #[noLet, .int .i64 2]) ?_ rfl ?_
    · simp [results, Try.results10, go_sem]
    · first | exact rnp_below h HF.out | exact rnp_below h (alloc_letter w ⟨0, 0, 0, ⟨#[]⟩⟩)
  · have h1 : (m : Int) ≤ k := by omega
    go_enter Try.func10, Try.ntmps10
    go_wp2
    refine bodyPost_ret (v := .tuple #[noLet, .int .i64 2]) ?_ rfl ?_
    · simp [results, Try.results10, go_sem]
    · first | exact rnp_below h HF.out | exact rnp_below h (alloc_letter w ⟨0, 0, 0, ⟨#[]⟩⟩)
set_option maxRecDepth 100000 in
set_option maxHeartbeats 4000000 in
theorem rdeliver_any (k : Nat) (l : Letr) (w : World) (hk : L[k]? = some l) (hL : L.length ≤ 65536) (hN : N ≤ 64) (ha : nodeB N l.a = true) (hb : nodeB N l.b = true) (h : Hid (RNt w0 w q N sent L S)) :
    Calls Try.prog 10 #[.pointer (some ⟨q, 0, none⟩), .int .i64 k] w (RNP w0 w q N sent (if S l.a l.b then L else L.eraseIdx k) S (.tuple #[if S l.a l.b then noLet else letV l, .int .i64 (if S l.a l.b then 140 else 0)])) := by
  obtain ⟨hb0, v, hR⟩ := h.out
  have hkl := (List.getElem?_eq_some_iff.1 hk).1
  obtain ⟨lid, la, lb, ls⟩ := l
  simp only at ha hb ⊢
  obtain ⟨x, rfl, hx⟩ := node_nat hN ha
  obtain ⟨y, rfl, hy⟩ := node_nat hN hb
  have hb1 := alloc_letter w ⟨0, 0, 0, ⟨#[]⟩⟩
  have hb2 : Below w.heap.size w ((w.alloc (.cells #[.int .i64 0, .int .i64 0, .int .i64 0, .string ⟨#[]⟩] 39)).alloc (.cells #[.int .i64 lid, .int .i64 (x : Int), .int .i64 (y : Int), .string ls] 39)) := hb1.alloc (by simp) _
  have hR1 := hR.below hb1
  obtain ⟨g, o, cap, hv, hgs, e0, e1, e2, e3⟩ := hR1.cell hk
  subst hv
  have c2 := hR1.c2
  have hR2 := hR.below hb2
  have hcut := hR2.cut x y hx hy
  obtain ⟨u, hu⟩ : ∃ u, u = S (x : Int) (y : Int) := ⟨_, rfl⟩
  rw [← hu] at hcut ⊢
  have hqw : ¬ q = w.heap.size := by have := hR.ty.lt; omega
  have hqw2 : ¬ q = w.heap.size + 1 := by have := hR.ty.lt; omega
  have HB2 := Lib.hid hb2
  have HT2 := Lib.hid (show RNt w0 ((w.alloc (.cells #[.int .i64 0, .int .i64 0, .int .i64 0, .string ⟨#[]⟩] 39)).alloc (.cells #[.int .i64 lid, .int .i64 (x : Int), .int .i64 (y : Int), .string ls] 39)) q N sent L S from h.out.below hb2)
  have hk1 : ¬ (L.length : Int) ≤ (k : Int) := by omega
  have hk2 : ¬ L.length ≤ k := by omega
  have hk3 : decide (L.length ≤ k) = false := by simpa using hk2
  have hk4 : (k : Int) < L.length := by omega
  have hxa1 : (0 : Int) ≤ (x : Int) := by omega
  have hxa2 : (x : Int) < 64 := by omega
  have hya1 : (0 : Int) ≤ (y : Int) := by omega
  have hya2 : (y : Int) < 64 := by omega
  have HK := Lib.hid (And.intro hkl hL)
  clear hR hR1 hR2 hb0 hb1 hb2 hkl hk hL ha hb hgs hu
  go_enter Try.func10, Try.ntmps10
  go_upto_region 4 with (fail)
  obtain ⟨w2, hw2⟩ : ∃ w2, w2 = (w.alloc (.cells #[.int .i64 0, .int .i64 0, .int .i64 0, .string ⟨#[]⟩] 39)).alloc (.cells #[.int .i64 lid, .int .i64 (x : Int), .int .i64 (y : Int), .string ls] 39) := ⟨_, rfl⟩
  have hbx : w2.cell? ⟨w.heap.size + 1, 0, none⟩ = some (.int .i64 lid) ∧ w2.cell? ⟨w.heap.size + 1, 1, none⟩ = some (.int .i64 (x : Int)) ∧ w2.cell? ⟨w.heap.size + 1, 2, none⟩ = some (.int .i64 (y : Int)) ∧ w2.cell? ⟨w.heap.size + 1, 3, none⟩ = some (.string ls) := by rw [hw2]; simp
  have hrx : w2.cell? ⟨w.heap.size, 0, none⟩ = some (.int .i64 0) ∧ w2.cell? ⟨w.heap.size, 1, none⟩ = some (.int .i64 0) ∧ w2.cell? ⟨w.heap.size, 2, none⟩ = some (.int .i64 0) ∧ w2.cell? ⟨w.heap.size, 3, none⟩ = some (.string ⟨#[]⟩) := by rw [hw2]; simp
  have hty0 : Bears w2 w.heap.size 39 := ⟨#[.int .i64 0, .int .i64 0, .int .i64 0, .string ⟨#[]⟩], by rw [hw2]; exact (Below.heap_alloc _ _ _ (by simp)).trans (heap_alloc_new w _)⟩
  have hty1 : Bears w2 (w.heap.size + 1) 39 := ⟨#[.int .i64 lid, .int .i64 (x : Int), .int .i64 (y : Int), .string ls], by
    rw [hw2]
    have := heap_alloc_new (w.alloc (.cells #[.int .i64 0, .int .i64 0, .int .i64 0, .string ⟨#[]⟩] 39)) (.cells #[.int .i64 lid, .int .i64 (x : Int), .int .i64 (y : Int), .string ls] 39)
    rwa [World.size_alloc] at this⟩
  rw [← hw2] at HB2 HT2 hcut ⊢
  have HBX := Lib.hid (And.intro hbx (And.intro hrx (And.intro hty0 hty1)))
  obtain ⟨b0, b1, b2, b3⟩ := hbx
  obtain ⟨r0, r1, r2, r3⟩ := hrx
  have fz := free_of hty0
  have z0 := fz 0
  have z1 := fz 1
  have z2 := fz 2
  have z3 := fz 3
  clear e0 e1 e2 e3 c2 fz hty0 hty1 hw2
  go_quiet (fail)
  have HB3 : Hid (∀ n, Below w.heap.size w (w2.drewN n) ∧ RNt w0 (w2.drewN n) q N sent L S) := Lib.hid (fun n => ⟨⟨HB2.out.os, HB2.out.tape, HB2.out.output, HB2.out.size, HB2.out.block⟩, HT2.out.below ⟨rfl, rfl, rfl, Nat.le_refl _, fun _ _ => rfl⟩⟩)
  cases u
  · go_wp2_with (fail)
    refine (rtake_any k _ HK.out.1 HK.out.2 (Lib.hid (HB3.out _).2)).mono ?_
    rintro e w3 ⟨rfl, H3⟩
    have hq0 : ∀ b, b < w2.heap.size → ¬ b = q → w3.heap[b]? = w2.heap[b]? := fun b hb hn => H3.out.2.1.block b hb hn
    have hl0 := HBX.out.2.2.1.lt
    have hl1 := HBX.out.2.2.2.lt
    have k0 := hq0 _ hl0 (fun e => hqw e.symm)
    have k1 := hq0 _ hl1 (fun e => hqw2 e.symm)
    have n0 := (cell_eq k1 0).trans b0
    have n1 := (cell_eq k1 1).trans b1
    have n2 := (cell_eq k1 2).trans b2
    have n3 := (cell_eq k1 3).trans b3
    have m0 := (cell_eq k0 0).trans r0
    have m1 := (cell_eq k0 1).trans r1
    have m2 := (cell_eq k0 2).trans r2
    have m3 := (cell_eq k0 3).trans r3
    have y0 := (frozen_eq k0 0).trans z0
    have y1 := (frozen_eq k0 1).trans z1
    have y2 := (frozen_eq k0 2).trans z2
    have y3 := (frozen_eq k0 3).trans z3
    have HFIN : Hid (∀ a b c d, RNt w0 ((((w3.setCell ⟨w.heap.size, 0, none⟩ a).setCell ⟨w.heap.size, 1, none⟩ b).setCell ⟨w.heap.size, 2, none⟩ c).setCell ⟨w.heap.size, 3, none⟩ d) q N sent (L.eraseIdx k) S ∧ RFr w ((((w3.setCell ⟨w.heap.size, 0, none⟩ a).setCell ⟨w.heap.size, 1, none⟩ b).setCell ⟨w.heap.size, 2, none⟩ c).setCell ⟨w.heap.size, 3, none⟩ d)) := Lib.hid (fun a b c d => by
      have hs : Sole w3 ((((w3.setCell ⟨w.heap.size, 0, none⟩ a).setCell ⟨w.heap.size, 1, none⟩ b).setCell ⟨w.heap.size, 2, none⟩ c).setCell ⟨w.heap.size, 3, none⟩ d) w.heap.size := (((sole_setCell _ _ _ _).trans (sole_setCell _ _ _ _)).trans (sole_setCell _ _ _ _)).trans (sole_setCell _ _ _ _)
      obtain ⟨g1, _⟩ := H3.out.1
      obtain ⟨v1, g2, g3⟩ := H3.out.2.2
      have hlo := h.out.bel.size
      have hqw3 : ¬ q = w.heap.size := hqw
      refine ⟨⟨⟨hs.os.trans g1.os, hs.tape.trans g1.tape, hs.output.trans g1.output, by rw [hs.size]; exact g1.size, fun b hb => (hs.block b (by omega)).trans (g1.block b hb)⟩, v1, g2.same (hs.block q hqw3) (fun b hb => hs.block b (fun e => ?_))⟩, fun b hl hn1 hn2 => ?_⟩
      · have g4 := g3 b hb
        have : w.heap.size < w2.heap.size := HBX.out.2.2.1.lt
        have h9 : ∀ n, (w2.drewN n).heap.size = w2.heap.size := fun _ => rfl
        rw [h9] at g4
        omega
      · have hbl := (HB3.out 0).1.block b hl
        have e3 := H3.out.2.1.block b (by have := (HB3.out 0).1.size; show b < w2.heap.size; have h9 : (w2.drewN 0).heap.size = w2.heap.size := rfl; omega) (fun e => by
          obtain ⟨_, v0, hR0⟩ := h.out
          exact hn1 (by rw [e]; exact hR0.ty))
        exact (hs.block b (by omega)).trans (e3.trans hbl))
    clear hq0 k0 k1 H3
    go_wp2
    refine bodyPost_ret (v := .tuple #[letV ⟨lid, (x : Int), (y : Int), ls⟩, .int .i64 0]) ?_ rfl ?_
    · simp [results, Try.results10, go_sem, m0, m1, m2, m3]
    · exact ⟨rfl, Lib.hid (HFIN.out _ _ _ _)⟩
  · go_wp2
    refine bodyPost_ret (v := .tuple #[noLet, .int .i64 140]) ?_ rfl ?_
    · simp [results, Try.results10, go_sem, r0, r1, r2, r3]
    · exact rnp_below h (below_four (HB3.out _).1 (Nat.le_refl _) _ _ _ _)
end
end Go.Proofs.Ytcahiogjmclnjaa
