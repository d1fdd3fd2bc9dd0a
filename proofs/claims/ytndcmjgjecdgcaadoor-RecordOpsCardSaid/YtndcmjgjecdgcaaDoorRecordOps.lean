/- RecordOps is true of every three numbers, every change and every message: a change as a message, and back; other messages are none. -/
import Derived.Test.YtndcmjgjecdgcaaDoorRecOps7
import Derived.Deep.DeepCutAuto

import Derived.Test.YtndcmjgjecdgcaaDoorLawEnd

import Derived.Test.YtndcmjgjecdgcaaDoorRecLaid

namespace Go.Proofs.YtndcmjgjecdgcaaDoor.fnRecordOps
open Go.ChangeShapes Go.WideShapes Go.ChangeAt Go.RowKit Go.WideMaps Go.WideElems
open Go.ChangeMaps (open_string)

theorem below_undrewN {a w : World} {n : Nat} (h : Below (a.drewN n).heap.size (a.drewN n) w) : Below a.heap.size a w := ⟨h.os, h.tape, h.output, h.size, h.block⟩
set_option maxRecDepth 100000 in
set_option maxHeartbeats 4000000 in
theorem walk (x0 x1 x2 : Int) (k c q : Int) (P T : ByteArray) (bc bl bt sz su : Int) (lk lc li : Int) (A C : Option Addr) (cn ct : Nat) (ns : List Int) (ts : List ByteArray) (w : World) (hS : Shp w)
    (gx0 : i64 x0) (gx1 : i64 x1) (gx2 : i64 x2) (gk : i64 k) (gc : i64 c) (gq : i64 q) (gbc : i64 bc) (gbl : i64 bl) (gbt : i64 bt) (gsz : i64 sz) (gsu : 0 ≤ su ∧ su ≤ 4294967295) (hP : P.size ≤ 140737488351232) (hT : T.size ≤ 140737488351232)
    (glk : i64 lk) (glc : i64 lc) (gli : i64 li) (hM : MsgAt w w.heap.size A C ns ts) :
    Calls Tryd.prog 5 #[.agg #[.int .i64 x0, .int .i64 x1, .int .i64 x2], .agg #[.int .i64 k, .int .i64 c, .int .i64 q, .string P, .string T, .int .i64 bc, .int .i64 bl, .int .i64 bt, .int .i64 sz, .int .u32 su], .agg #[.int .i64 lk, .int .i64 lc, .int .i64 li, .slice A ns.length cn, .slice C ts.length ct]] w fun e w' => e = .returned (.bool true) ∧ Below w.heap.size w w' := by
  have HS := Lib.hid hS
  have HM := Lib.hid hM
  have HB1 := Lib.hid (And.intro gx0 (And.intro gx1 gx2))
  have HNB : Hid (∀ n ∈ [k, c, bc, bl, bt, sz, su, q, x2], -9223372036854775808 ≤ n ∧ n ≤ 9223372036854775807) := Lib.hid (by
    intro n hn
    simp only [List.mem_cons, List.not_mem_nil, or_false] at hn
    unfold i64 at *
    rcases hn with rfl | rfl | rfl | rfl | rfl | rfl | rfl | rfl | rfl <;> omega)
  have HSU := Lib.hid gsu
  have HPT := Lib.hid (And.intro hP hT)
  clear hS hM gx0 gx1 gx2 gk gc gq gbc gbl gbt gsz gsu hP hT glk glc gli
  go_enter Tryd.func5, Tryd.ntmps5
  go_wp2_with (fail)
  go_quiet (fail)
  go_wp2_with (fail)
  refine (speaks9_any _ (HS.out.below (below_drewN (((below_alloc w _).alloc (by simp) _).alloc (by simp; omega) _) _) (Nat.le_refl _))).mono ?_
  rintro e w1 ⟨rfl, hb0⟩
  have hb1 := below_undrewN hb0
  clear hb0
  have BB := Lib.hid ((((below_alloc w (.cells #[.int .i64 x0, .int .i64 x1, .int .i64 x2] 43)).alloc (by simp) (.cells #[.int .i64 k, .int .i64 c, .int .i64 q, .string P, .string T, .int .i64 bc, .int .i64 bl, .int .i64 bt, .int .i64 sz, .int .u32 su] 50)).alloc (by simp; omega) (.cells #[.int .i64 lk, .int .i64 lc, .int .i64 li, .slice A ns.length cn, .slice C ts.length ct] 25)).trans (hb1.mono (by simp; omega)))
  have F1 : Hid (Cs w1 w.heap.size [.int .i64 x0, .int .i64 x1, .int .i64 x2]) := Lib.hid ((((Cs.new w #[.int .i64 x0, .int .i64 x1, .int .i64 x2] 43).alloc (.cells #[.int .i64 k, .int .i64 c, .int .i64 q, .string P, .string T, .int .i64 bc, .int .i64 bl, .int .i64 bt, .int .i64 sz, .int .u32 su] 50)).alloc (.cells #[.int .i64 lk, .int .i64 lc, .int .i64 li, .slice A ns.length cn, .slice C ts.length ct] 25)).below hb1)
  have F2 : Hid (Cs w1 (w.heap.size + 1) [.int .i64 k, .int .i64 c, .int .i64 q, .string P, .string T, .int .i64 bc, .int .i64 bl, .int .i64 bt, .int .i64 sz, .int .u32 su]) := Lib.hid (by
    have h := ((Cs.new (w.alloc (.cells #[.int .i64 x0, .int .i64 x1, .int .i64 x2] 43)) #[.int .i64 k, .int .i64 c, .int .i64 q, .string P, .string T, .int .i64 bc, .int .i64 bl, .int .i64 bt, .int .i64 sz, .int .u32 su] 50).alloc (.cells #[.int .i64 lk, .int .i64 lc, .int .i64 li, .slice A ns.length cn, .slice C ts.length ct] 25)).below hb1
    rw [World.size_alloc] at h; exact h)
  have F3 : Hid (Cs w1 (w.heap.size + 1 + 1) [.int .i64 lk, .int .i64 lc, .int .i64 li, .slice A ns.length cn, .slice C ts.length ct]) := Lib.hid (by
    have h := (Cs.new ((w.alloc (.cells #[.int .i64 x0, .int .i64 x1, .int .i64 x2] 43)).alloc (.cells #[.int .i64 k, .int .i64 c, .int .i64 q, .string P, .string T, .int .i64 bc, .int .i64 bl, .int .i64 bt, .int .i64 sz, .int .u32 su] 50)) #[.int .i64 lk, .int .i64 lc, .int .i64 li, .slice A ns.length cn, .slice C ts.length ct] 25).below hb1
    rw [World.size_alloc, World.size_alloc] at h; exact h)
  have HA := Lib.hid ((HM.out.below BB.out).up BB.out.size)
  have HS1 := Lib.hid (HS.out.below BB.out (Nat.le_refl _))
  clear hb1 HS HM
  obtain ⟨Q, hQ⟩ : ∃ Q, Q = w.heap.size := ⟨_, rfl⟩
  have HQ := Lib.hid hQ
  rw [← hQ] at F1 F2 F3 ⊢
  clear hQ
  have a0 := F2.out 0 _ rfl
  have a1 := F2.out 1 _ rfl
  have a2 := F2.out 2 _ rfl
  have a3 := F2.out 3 _ rfl
  have a4 := F2.out 4 _ rfl
  have a5 := F2.out 5 _ rfl
  have a6 := F2.out 6 _ rfl
  have a7 := F2.out 7 _ rfl
  have a8 := F2.out 8 _ rfl
  have a9 := F2.out 9 _ rfl
  have b2 : ∀ o, (w1.alloc o).cell? ⟨Q, 2, none⟩ = some (.int .i64 x2) := fun o => alloc_cell (F1.out 2 _ rfl)
  go_wp2_with (fail)
  refine (of_any x0 x1 x2 k P T c bc bl bt sz su q _ HSU.out HPT.out.1 HPT.out.2 HNB.out).mono ?_
  rintro e w2 ⟨A', cn', C', ct', rfl, hb2, hm2⟩
  obtain ⟨b, o, hA', _, _⟩ := hm2.n 0 (by simp)
  obtain ⟨b', o', hC', _, _⟩ := hm2.t 0 (by simp)
  subst hA' hC'
  have HM2 := Lib.hid hm2
  have F4 : Hid (Cs w2 w1.heap.size [.int .i64 k, .string P, .string T, .int .i64 c, .int .i64 bc, .int .i64 bl, .int .i64 bt, .int .i64 sz, .int .u32 su, .int .i64 q]) := Lib.hid ((Cs.new w1 #[.int .i64 k, .string P, .string T, .int .i64 c, .int .i64 bc, .int .i64 bl, .int .i64 bt, .int .i64 sz, .int .u32 su, .int .i64 q] 52).below hb2)
  have B2 := Lib.hid ((below_alloc w1 (.cells #[.int .i64 k, .string P, .string T, .int .i64 c, .int .i64 bc, .int .i64 bl, .int .i64 bt, .int .i64 sz, .int .u32 su, .int .i64 q] 52)).trans (hb2.mono (by simp)))
  have HS2 := Lib.hid (HS1.out.below B2.out (Nat.le_refl _))
  obtain ⟨r9, hr9⟩ : ∃ r, r = w1.heap.size := ⟨_, rfl⟩
  have R9 := Lib.hid hr9
  rw [← hr9] at F4 ⊢
  clear hb2 hm2 a0 a1 a2 a3 a4 a5 a6 a7 a8 a9 b2 hr9
  go_wp2_with (fail)
  refine (op_yes x0 x1 b o b' o' cn' ct' k c bc bl bt sz su q x2 P T _ (HS2.out.alloc _) ((HM2.out.below (below_alloc w2 _)).up (by simp)) HSU.out).mono ?_
  rintro e w3 ⟨rfl, hb3⟩
  have hw4 : Below (w2.alloc (.cells #[.int .i64 1, .int .i64 x0, .int .i64 x1, .slice (some ⟨b, o, none⟩) 9 cn', .slice (some ⟨b', o', none⟩) 2 ct'] 27)).heap.size (w2.alloc (.cells #[.int .i64 1, .int .i64 x0, .int .i64 x1, .slice (some ⟨b, o, none⟩) 9 cn', .slice (some ⟨b', o', none⟩) 2 ct'] 27)) (w3.alloc (.cells #[.int .i64 k, .string P, .string T, .int .i64 c, .int .i64 bc, .int .i64 bl, .int .i64 bt, .int .i64 sz, .int .u32 su, .int .i64 q] 52)) := hb3.alloc hb3.size _
  have M := M5.new w2 1 x0 x1 (some ⟨b, o, none⟩) 9 cn' (some ⟨b', o', none⟩) 2 ct' 27
  have hb4 : Below w2.heap.size w2 (w3.alloc (.cells #[.int .i64 k, .string P, .string T, .int .i64 c, .int .i64 bc, .int .i64 bl, .int .i64 bt, .int .i64 sz, .int .u32 su, .int .i64 q] 52)) := (below_alloc w2 (.cells #[.int .i64 1, .int .i64 x0, .int .i64 x1, .slice (some ⟨b, o, none⟩) 9 cn', .slice (some ⟨b', o', none⟩) 2 ct'] 27)).trans (hw4.mono (by simp))
  have N4 := Cs.new w3 #[.int .i64 k, .string P, .string T, .int .i64 c, .int .i64 bc, .int .i64 bl, .int .i64 bt, .int .i64 sz, .int .u32 su, .int .i64 q] 52
  have HM4 := HM2.out.below hb4
  have SS : SO (w3.alloc (.cells #[.int .i64 k, .string P, .string T, .int .i64 c, .int .i64 bc, .int .i64 bl, .int .i64 bt, .int .i64 sz, .int .u32 su, .int .i64 q] 52)) Q r9 w2.heap.size w3.heap.size b o b' o' cn' ct' x0 x1 x2 k P T c bc bl bt sz su q (w3.alloc (.cells #[.int .i64 k, .string P, .string T, .int .i64 c, .int .i64 bc, .int .i64 bl, .int .i64 bt, .int .i64 sz, .int .u32 su, .int .i64 q] 52)) :=
    ⟨Lib.hid (Below.refl _ _), below_cell (M.c0) hw4, below_cell (M.c1) hw4, below_cell (M.c2) hw4, below_cell (M.c3) hw4, below_cell (M.c4) hw4, N4 0 _ rfl, N4 1 _ rfl, N4 2 _ rfl, N4 3 _ rfl, N4 4 _ rfl, N4 5 _ rfl, N4 6 _ rfl, N4 7 _ rfl, N4 8 _ rfl, N4 9 _ rfl, F4.out.below hb4 0 _ rfl, F4.out.below hb4 1 _ rfl, F4.out.below hb4 2 _ rfl, F4.out.below hb4 3 _ rfl, F4.out.below hb4 4 _ rfl, F4.out.below hb4 5 _ rfl, F4.out.below hb4 6 _ rfl, F4.out.below hb4 7 _ rfl, F4.out.below hb4 8 _ rfl, F4.out.below hb4 9 _ rfl, (F2.out.below B2.out).below hb4 0 _ rfl, (F2.out.below B2.out).below hb4 2 _ rfl, (F2.out.below B2.out).below hb4 3 _ rfl, (F2.out.below B2.out).below hb4 4 _ rfl, (F1.out.below B2.out).below hb4 2 _ rfl, slof_at HM4.n 0 (by simp), slof_at HM4.n 7 (by simp), slof_at HM4.n 8 (by simp), slof_at HM4.t 0 (by simp), slof_at HM4.t 1 (by simp)⟩
  have B4 := Lib.hid (B2.out.trans (hb4.mono B2.out.size))
  have HS4 := Lib.hid (HS2.out.below hb4 (Nat.le_refl _))
  clear hw4 M hb4 N4 HM4 hb3
  go_upto_region 7 with (fail)
  obtain ⟨w4, hw4⟩ : ∃ w4, w4 = (w3.alloc (.cells #[.int .i64 k, .string P, .string T, .int .i64 c, .int .i64 bc, .int .i64 bl, .int .i64 bt, .int .i64 sz, .int .u32 su, .int .i64 q] 52)) := ⟨_, rfl⟩
  obtain ⟨r10, hr10⟩ : ∃ r, r = w2.heap.size := ⟨_, rfl⟩
  obtain ⟨r11, hr11⟩ : ∃ r, r = w3.heap.size := ⟨_, rfl⟩
  rw [← hw4, ← hr10, ← hr11] at SS ⊢
  rw [← hw4] at HS4 B4
  clear hw4 hr10 hr11 HS2 HS1
  go_cut [119] (fun s119 wx => s119 = .bool false ∧ SO w4 Q r9 r10 r11 b o b' o' cn' ct' x0 x1 x2 k P T c bc bl bt sz su q wx)
  case first =>
    go_wp2_with (fail)
    refine reg7_any HS4 SS _ _ _ _ _ _ _ _ _ _ _ _ _ _ _ _ _ _ _ _ _ _ _ _ _ _ _ _ _ _ _ _ _ _ _ _ _ _ _ _ _ _ _ _ _ _ _ _ _ _ _ _ _ _ _ _ _ _ _ _ _ _ _ _ _ _ _ _ _ _ _ _ _ _ _ _ _ _ _ _ _ _ _ _ _ _ _ _ _ _ _ _ _ _ _ _ _ _ _ _ _ _ _ _ _ _ _ _ _ _ _ _ _ _ _ _ _ _ _ _ _ _ _ _ _ _ _ _ _ _ _ _ _ _ _ _ _ _ _ _ _ _ _ _ _ _ _ _ _ _ _ _ _ _ _ _ _ _ _ _ _ _ _ _ _ _ _ _ _ _ _ _ _ _ _ _ _ _ _ _ _ _ _ _ _ _ _ _ _ _ _ _ _ _ _ _ _ _ _ _ _ _ _ _ _ _ _ _ _ _ _ _ _ _ _ _ _ _ _ _ _ _ _ _ _ _ _ _ _ _ _ _ _ _ _ _ _ _ _ _ _ _ _ ?_
    intro w5 hS5
    intros
    go_wp2_with (fail)
    go_meet
    exact ⟨rfl, hS5⟩
  case rest =>
    obtain ⟨rfl, hS5⟩ := hcut
    have B5 := Lib.hid (B4.out.trans ((so_out hS5).mono B4.out.size))
    have F5 := Lib.hid (F3.out.below B5.out)
    have HA5 := Lib.hid ((HA.out.below B5.out).up B5.out.size)
    have HS6 := Lib.hid (HS4.out.below (so_out hS5) (Nat.le_refl _))
    have BW := Lib.hid (BB.out.trans (B5.out.mono BB.out.size))
    have l0 := F5.out 0 _ rfl
    have l1 := F5.out 1 _ rfl
    have l2 := F5.out 2 _ rfl
    have l3 := F5.out 3 _ rfl
    have l4 := F5.out 4 _ rfl
    clear hS5 F3 HA B4 HS4 SS
    go_wp2_with (fail)
    refine (message_any lk lc li A C cn ct ns ts _ HA5.out).mono ?_
    rintro e w6 ⟨A3, cn3, C3, ct3, rfl, hb6, hm6⟩
    have HM6 := Lib.hid hm6
    have HS7 := Lib.hid (HS6.out.below hb6 (Nat.le_refl _))
    have BX := Lib.hid (BW.out.trans (hb6.mono BW.out.size))
    have F6 := Lib.hid (F5.out.below hb6)
    have HA6 := Lib.hid ((HA5.out.below hb6).up hb6.size)
    clear hb6 hm6 l0 l1 l2 l3 l4
    by_cases hk1 : lk = 1
    · subst hk1
      by_cases hn : ns.length = 9
      · by_cases ht : ts.length = 2
        · obtain ⟨n0, n1, n2, n3, n4, n5, n6, n7, n8, rfl⟩ : ∃ n0 n1 n2 n3 n4 n5 n6 n7 n8, ns = [n0, n1, n2, n3, n4, n5, n6, n7, n8] := by
            match ns, hn with
            | [a0, a1, a2, a3, a4, a5, a6, a7, a8], _ => exact ⟨a0, a1, a2, a3, a4, a5, a6, a7, a8, rfl⟩
          obtain ⟨s0, s1, rfl⟩ : ∃ s0 s1, ts = [s0, s1] := by
            match ts, ht with
            | [a0, a1], _ => exact ⟨a0, a1, rfl⟩
          clear hn ht
          obtain ⟨b3, o3, hb3, _, _⟩ := HM6.out.n 0 (by simp)
          obtain ⟨b4, o4, hb4, _, _⟩ := HM6.out.t 0 (by simp)
          obtain ⟨ab, ao, hab, _, _⟩ := HA6.out.n 0 (by simp)
          obtain ⟨cb, co, hcb, _, _⟩ := HA6.out.t 0 (by simp)
          subst hb3 hb4 hab hcb
          by_cases h6 : n6 < 0
          · have H6 := Lib.hid h6
            have g6 : ¬ 0 ≤ n6 := by omega
            have g7 : decide (0 ≤ n6) = false := decide_eq_false g6
            clear h6
            go_wp2_with (fail)
            refine (op_bad1 lc li b3 o3 b4 o4 cn3 ct3 n0 n1 n2 n3 n4 n5 n6 n7 n8 s0 s1 _ HS7.out HM6.out H6.out).mono ?_
            rintro e w7 ⟨rfl, hb7⟩
            have HX := Lib.hid (BX.out.trans (hb7.mono BX.out.size))
            have l0 : ∀ o, (w7.alloc o).cell? ⟨Q + 1 + 1, 0, none⟩ = some (.int .i64 1) := fun o => alloc_cell (F6.out.below hb7 0 _ rfl)
            have l3 : ∀ o, (w7.alloc o).cell? ⟨Q + 1 + 1, 3, none⟩ = some (.slice (some ⟨ab, ao, none⟩) 9 cn) := fun o => alloc_cell (F6.out.below hb7 3 _ rfl)
            have l4 : ∀ o, (w7.alloc o).cell? ⟨Q + 1 + 1, 4, none⟩ = some (.slice (some ⟨cb, co, none⟩) 2 ct) := fun o => alloc_cell (F6.out.below hb7 4 _ rfl)
            have l6 : ∀ o, (w7.alloc o).cell? ⟨ab, ao + 6, none⟩ = some (.int .i64 n6) := fun o => alloc_cell (below_cell (slof_at HA6.out.n 6 (by simp)) hb7)
            clear hb7
            go_wp2_with (fail)
            go_ret
            exact ⟨rfl, HX.out.alloc HX.out.size _⟩
          · by_cases h7 : 4294967295 < n6
            · have H6 := Lib.hid h7
              have g6 : 0 ≤ n6 := by omega
              have g7 : decide (0 ≤ n6) = true := decide_eq_true g6
              have g8 : ¬ n6 ≤ 4294967295 := by omega
              have g9 : decide (n6 ≤ 4294967295) = false := decide_eq_false g8
              clear h6 h7
              go_wp2_with (fail)
              refine (op_bad2 lc li b3 o3 b4 o4 cn3 ct3 n0 n1 n2 n3 n4 n5 n6 n7 n8 s0 s1 _ HS7.out HM6.out H6.out).mono ?_
              rintro e w7 ⟨rfl, hb7⟩
              have HX := Lib.hid (BX.out.trans (hb7.mono BX.out.size))
              have l0 : ∀ o, (w7.alloc o).cell? ⟨Q + 1 + 1, 0, none⟩ = some (.int .i64 1) := fun o => alloc_cell (F6.out.below hb7 0 _ rfl)
              have l3 : ∀ o, (w7.alloc o).cell? ⟨Q + 1 + 1, 3, none⟩ = some (.slice (some ⟨ab, ao, none⟩) 9 cn) := fun o => alloc_cell (F6.out.below hb7 3 _ rfl)
              have l4 : ∀ o, (w7.alloc o).cell? ⟨Q + 1 + 1, 4, none⟩ = some (.slice (some ⟨cb, co, none⟩) 2 ct) := fun o => alloc_cell (F6.out.below hb7 4 _ rfl)
              have l6 : ∀ o, (w7.alloc o).cell? ⟨ab, ao + 6, none⟩ = some (.int .i64 n6) := fun o => alloc_cell (below_cell (slof_at HA6.out.n 6 (by simp)) hb7)
              clear hb7
              go_wp2_with (fail)
              go_ret
              exact ⟨rfl, HX.out.alloc HX.out.size _⟩
            · have H6 : Hid (0 ≤ n6 ∧ n6 ≤ 4294967295) := Lib.hid (by omega)
              have g6 : 0 ≤ n6 := by omega
              have g7 : decide (0 ≤ n6) = true := decide_eq_true g6
              have g8 : n6 ≤ 4294967295 := by omega
              have g9 : decide (n6 ≤ 4294967295) = true := decide_eq_true g8
              have hsu : IntKind.i64.wrap n6 = n6 := IntWalk.i64_in _ (by omega)
              clear h6 h7
              go_wp2_with (fail)
              refine (op_yes lc li b3 o3 b4 o4 cn3 ct3 n0 n1 n2 n3 n4 n5 n6 n7 n8 s0 s1 _ HS7.out HM6.out H6.out).mono ?_
              rintro e w7 ⟨rfl, hb7⟩
              have HX := Lib.hid (BX.out.trans (hb7.mono BX.out.size))
              have l0 : ∀ o, (w7.alloc o).cell? ⟨Q + 1 + 1, 0, none⟩ = some (.int .i64 1) := fun o => alloc_cell (F6.out.below hb7 0 _ rfl)
              have l3 : ∀ o, (w7.alloc o).cell? ⟨Q + 1 + 1, 3, none⟩ = some (.slice (some ⟨ab, ao, none⟩) 9 cn) := fun o => alloc_cell (F6.out.below hb7 3 _ rfl)
              have l4 : ∀ o, (w7.alloc o).cell? ⟨Q + 1 + 1, 4, none⟩ = some (.slice (some ⟨cb, co, none⟩) 2 ct) := fun o => alloc_cell (F6.out.below hb7 4 _ rfl)
              have l6 : ∀ o, (w7.alloc o).cell? ⟨ab, ao + 6, none⟩ = some (.int .i64 n6) := fun o => alloc_cell (below_cell (slof_at HA6.out.n 6 (by simp)) hb7)
              have k0 : ∀ o, (w7.alloc o).cell? ⟨ab, ao, none⟩ = some (.int .i64 n0) := fun o => alloc_cell (below_cell (slof_at HA6.out.n 0 (by simp)) hb7)
              have k1 : ∀ o, (w7.alloc o).cell? ⟨ab, ao + 1, none⟩ = some (.int .i64 n1) := fun o => alloc_cell (below_cell (slof_at HA6.out.n 1 (by simp)) hb7)
              have k2 : ∀ o, (w7.alloc o).cell? ⟨ab, ao + 2, none⟩ = some (.int .i64 n2) := fun o => alloc_cell (below_cell (slof_at HA6.out.n 2 (by simp)) hb7)
              have k3 : ∀ o, (w7.alloc o).cell? ⟨ab, ao + 3, none⟩ = some (.int .i64 n3) := fun o => alloc_cell (below_cell (slof_at HA6.out.n 3 (by simp)) hb7)
              have k4 : ∀ o, (w7.alloc o).cell? ⟨ab, ao + 4, none⟩ = some (.int .i64 n4) := fun o => alloc_cell (below_cell (slof_at HA6.out.n 4 (by simp)) hb7)
              have k5 : ∀ o, (w7.alloc o).cell? ⟨ab, ao + 5, none⟩ = some (.int .i64 n5) := fun o => alloc_cell (below_cell (slof_at HA6.out.n 5 (by simp)) hb7)
              have k7 : ∀ o, (w7.alloc o).cell? ⟨ab, ao + 7, none⟩ = some (.int .i64 n7) := fun o => alloc_cell (below_cell (slof_at HA6.out.n 7 (by simp)) hb7)
              have p0 : ∀ o, (w7.alloc o).cell? ⟨cb, co, none⟩ = some (.string s0) := fun o => alloc_cell (below_cell (slof_at HA6.out.t 0 (by simp)) hb7)
              have p1 : ∀ o, (w7.alloc o).cell? ⟨cb, co + 1, none⟩ = some (.string s1) := fun o => alloc_cell (below_cell (slof_at HA6.out.t 1 (by simp)) hb7)
              clear hb7
              go_wp2_with (fail)
              have N8 := Cs.new w7 #[.int .i64 n0, .string s0, .string s1, .int .i64 n1, .int .i64 n2, .int .i64 n3, .int .i64 n4, .int .i64 n5, .int .u32 n6, .int .i64 n7] 52
              have hS8 : SP (w7.alloc (.cells #[.int .i64 n0, .string s0, .string s1, .int .i64 n1, .int .i64 n2, .int .i64 n3, .int .i64 n4, .int .i64 n5, .int .u32 n6, .int .i64 n7] 52)) w7.heap.size (Q + 1 + 1) ab ao cb co cn ct n0 n1 n2 n3 n4 n5 n6 n7 s0 s1 (w7.alloc (.cells #[.int .i64 n0, .string s0, .string s1, .int .i64 n1, .int .i64 n2, .int .i64 n3, .int .i64 n4, .int .i64 n5, .int .u32 n6, .int .i64 n7] 52)) := ⟨Lib.hid (Below.refl _ _), N8 0 _ rfl, N8 1 _ rfl, N8 2 _ rfl, N8 3 _ rfl, N8 4 _ rfl, N8 5 _ rfl, N8 6 _ rfl, N8 7 _ rfl, N8 8 _ rfl, N8 9 _ rfl, l3 _, l4 _, k0 _, k1 _, k2 _, k3 _, k4 _, k5 _, l6 _, k7 _, p0 _, p1 _⟩
              have HX8 := Lib.hid (HX.out.alloc HX.out.size (.cells #[.int .i64 n0, .string s0, .string s1, .int .i64 n1, .int .i64 n2, .int .i64 n3, .int .i64 n4, .int .i64 n5, .int .u32 n6, .int .i64 n7] 52))
              clear N8 l0 l3 l4 l6 k0 k1 k2 k3 k4 k5 k7 p0 p1
              obtain ⟨w8, hw8⟩ : ∃ w8, w8 = (w7.alloc (.cells #[.int .i64 n0, .string s0, .string s1, .int .i64 n1, .int .i64 n2, .int .i64 n3, .int .i64 n4, .int .i64 n5, .int .u32 n6, .int .i64 n7] 52)) := ⟨_, rfl⟩
              obtain ⟨r13, hr13⟩ : ∃ r, r = w7.heap.size := ⟨_, rfl⟩
              rw [← hw8, ← hr13] at hS8 ⊢
              rw [← hw8] at HX8
              clear hw8 hr13
              refine reg13_any (And.intro g6 g8) hS8 _ _ _ _ _ _ _ _ _ _ _ _ _ _ _ _ _ _ _ _ _ _ _ _ _ _ _ _ _ _ _ _ _ _ _ _ _ _ _ _ _ _ _ _ _ _ _ _ _ _ _ _ _ _ _ _ _ _ _ _ _ _ _ _ _ _ _ _ _ _ _ _ _ _ _ _ _ _ _ _ _ _ _ _ _ _ _ _ _ _ _ _ _ _ _ _ _ _ _ _ _ _ _ _ _ _ _ _ _ _ _ _ _ _ _ _ _ _ _ _ _ _ _ _ _ _ _ _ _ _ _ _ _ _ _ _ _ _ _ _ _ _ _ _ _ _ _ _ _ _ _ _ _ _ _ _ _ _ _ _ _ _ _ _ _ _ _ _ _ _ _ _ _ _ _ _ _ _ _ _ _ _ _ _ _ _ _ _ _ _ _ _ _ _ _ _ _ _ _ _ _ _ _ _ _ _ _ _ _ _ _ _ _ _ _ _ _ _ _ _ _ _ _ _ _ _ _ _ _ _ _ _ _ _ _ _ _ _ _ _ _ _ _ _ _ _ _ _ ?_
              intros
              go_wp2
              go_ret
              exact ⟨rfl, by first | exact HX8.out | exact below_drewN HX8.out _⟩
        · have hn2 : ((ns.length : Int) == 9) = true := by simp; omega
          have ht2 : ((ts.length : Int) == 2) = false := by simp; omega
          have hv : validB 1 ns.length ts.length = false := by rw [valid1]; simp; omega
          have HV := Lib.hid hv
          clear hn ht hv
          go_wp2_with (fail)
          refine (op_no 1 lc li A3 C3 cn3 ct3 ns ts _ HS7.out HM6.out (.inl HV.out)).mono ?_
          rintro e w7 ⟨rfl, hb7⟩
          have HX := Lib.hid (BX.out.trans (hb7.mono BX.out.size))
          have l0 : ∀ o, (w7.alloc o).cell? ⟨Q + 1 + 1, 0, none⟩ = _ := fun o => alloc_cell (F6.out.below hb7 0 _ rfl)
          have l3 : ∀ o, (w7.alloc o).cell? ⟨Q + 1 + 1, 3, none⟩ = _ := fun o => alloc_cell (F6.out.below hb7 3 _ rfl)
          have l4 : ∀ o, (w7.alloc o).cell? ⟨Q + 1 + 1, 4, none⟩ = _ := fun o => alloc_cell (F6.out.below hb7 4 _ rfl)
          clear hb7
          go_wp2_with (fail)
          go_ret
          exact ⟨rfl, HX.out.alloc HX.out.size _⟩
      · have hn2 : ((ns.length : Int) == 9) = false := by simp; omega
        have hv : validB 1 ns.length ts.length = false := by rw [valid1]; simp; omega
        have HV := Lib.hid hv
        clear hn hv
        go_wp2_with (fail)
        refine (op_no 1 lc li A3 C3 cn3 ct3 ns ts _ HS7.out HM6.out (.inl HV.out)).mono ?_
        rintro e w7 ⟨rfl, hb7⟩
        have HX := Lib.hid (BX.out.trans (hb7.mono BX.out.size))
        have l0 : ∀ o, (w7.alloc o).cell? ⟨Q + 1 + 1, 0, none⟩ = _ := fun o => alloc_cell (F6.out.below hb7 0 _ rfl)
        have l3 : ∀ o, (w7.alloc o).cell? ⟨Q + 1 + 1, 3, none⟩ = _ := fun o => alloc_cell (F6.out.below hb7 3 _ rfl)
        have l4 : ∀ o, (w7.alloc o).cell? ⟨Q + 1 + 1, 4, none⟩ = _ := fun o => alloc_cell (F6.out.below hb7 4 _ rfl)
        clear hb7
        go_wp2_with (fail)
        go_ret
        exact ⟨rfl, HX.out.alloc HX.out.size _⟩
    · have hk2 : (lk == 1) = false := by simpa using hk1
      have HK := Lib.hid hk1
      clear hk1
      go_wp2_with (fail)
      refine (op_no lk lc li A3 C3 cn3 ct3 ns ts _ HS7.out HM6.out (.inr HK.out)).mono ?_
      rintro e w7 ⟨rfl, hb7⟩
      have HX := Lib.hid (BX.out.trans (hb7.mono BX.out.size))
      have l0 : ∀ o, (w7.alloc o).cell? ⟨Q + 1 + 1, 0, none⟩ = _ := fun o => alloc_cell (F6.out.below hb7 0 _ rfl)
      have l3 : ∀ o, (w7.alloc o).cell? ⟨Q + 1 + 1, 3, none⟩ = _ := fun o => alloc_cell (F6.out.below hb7 3 _ rfl)
      have l4 : ∀ o, (w7.alloc o).cell? ⟨Q + 1 + 1, 4, none⟩ = _ := fun o => alloc_cell (F6.out.below hb7 4 _ rfl)
      clear hb7
      go_wp2_with (fail)
      go_ret
      exact ⟨rfl, HX.out.alloc HX.out.size _⟩

set_option maxRecDepth 100000 in
theorem contract (H : Type) (enc : TypeId × Value → H) (W : World) (base : Nat) (args : Array Value) (ds gs : List (DataW H)) (before : List MemPlace)
    (hval : ∀ (j : Nat) t v, Tryd.f5.params[j]? = some t → args[j]? = some v → Value.okWide Tryd.prog W .any base t v)
    (hW : DataW.Whole enc Tryd.prog Tryd.f5.params.toList Rows.recordOpsSpec.vars false W args.toList ds gs before) (hL : laidMetH Tryd.prog Rows.recordOpsRow.laid W)
    (hz : (DataW.weightsEach Tryd.prog (Tryd.f5.params.toList ++ []) (ds ++ gs)).all (· ≤ reachBytes) = true) :
    Calls Tryd.prog 5 args W fun e W' => ∃ v, e = .returned v ∧ Rows.recordOpsSpec.post enc Tryd.prog Tryd.f5 false true false false W args v W' := by
  have hW' := hW
  obtain ⟨p, q, hA0, hV, rfl, hfz, hnd⟩ := hW
  have hA : DataW.TrodAll enc Tryd.prog W 0 (fun _ => true) true Tryd.f5.params.toList args.toList ds p := hA0
  rw [Tryd.params5] at hA hval hz
  obtain ⟨v0, vs0, d0, ds0, p0, q0, hargs, rfl, rfl, h0, r0⟩ := trodAll_cons hA
  obtain ⟨v1, vs1, d1, ds1, p1, q1, rfl, rfl, rfl, h1, r1⟩ := trodAll_cons r0
  obtain ⟨v2, vs2, d2, ds2, p2, q2, rfl, rfl, rfl, h2, r2⟩ := trodAll_cons r1
  obtain ⟨rfl, rfl, rfl⟩ := trodAll_nil r2
  obtain rfl : args = #[v0, v1, v2] := by cases args; simp_all
  obtain ⟨rfl, rfl⟩ := trodVars_none hV
  obtain ⟨x00, x10, x20, rfl, g00, g10, g20⟩ := open_triple (hval 0 43 v0 rfl rfl) h0
  have hw1 : ∀ m ∈ d1.weights Tryd.prog 50, m ≤ reachBytes := fun m hm => by
    have hall := List.all_eq_true.1 hz m (DataW.weights_mem_each (j := 1) (t := 50) rfl rfl m hm)
    simpa using hall
  obtain ⟨k1, c1, q1, P1, T1, bc1, bl1, bt1, sz1, su1, rfl, gk1, gc1, gq1, gbc1, gbl1, gbt1, gsz1, gsu1, hP1, hT1⟩ := open_change (hval 1 50 v1 rfl rfl) h1 hw1
  have hw2 : ∀ m ∈ d2.weights Tryd.prog 25, m ≤ reachBytes := fun m hm => by
    have hall := List.all_eq_true.1 hz m (DataW.weights_mem_each (j := 2) (t := 25) rfl rfl m hm)
    simpa using hall
  obtain ⟨k2, c2, i2, A2, cn2, C2, ct2, ns2, ts2, rfl, gk2, gc2, gi2, M2, hb2⟩ := open_letter (hval 2 25 v2 rfl rfl) h2 hw2
  clear hA0
  refine (walk x00 x10 x20 k1 c1 q1 P1 T1 bc1 bl1 bt1 sz1 su1 k2 c2 i2 A2 C2 cn2 ct2 ns2 ts2 W (shp_of hL) g00 g10 g20 gk1 gc1 gq1 gbc1 gbl1 gbt1 gsz1 gsu1 hP1 hT1 gk2 gc2 gi2 M2).mono fun e W' ⟨he, hb⟩ => ?_
  subst he
  exact ⟨_, rfl, law_end hW' rfl rfl hb laidOut (by kernel_rfl) (by kernel_rfl) Tryd.underlying4⟩

theorem reads (os : Os) {H : Type} (enc : TypeId × Value → H) : ∃ places, DataW.whole enc Tryd.prog ((laidWorld os).forCall (fun _ _ => 0) ⟨#[], #[.agg #[.int .i64 0, .int .i64 0, .int .i64 0], .agg #[.int .i64 0, .int .i64 0, .int .i64 0, .string ⟨#[]⟩, .string ⟨#[]⟩, .int .i64 0, .int .i64 0, .int .i64 0, .int .i64 0, .int .u32 0], .agg #[.int .i64 0, .int .i64 0, .int .i64 0, .slice none 0 0, .slice none 0 0]], []⟩).memory Tryd.f5.params.toList Rows.recordOpsSpec.vars false [Value.agg #[.int .i64 0, .int .i64 0, .int .i64 0], Value.agg #[.int .i64 0, .int .i64 0, .int .i64 0, .string ⟨#[]⟩, .string ⟨#[]⟩, .int .i64 0, .int .i64 0, .int .i64 0, .int .i64 0, .int .u32 0], Value.agg #[.int .i64 0, .int .i64 0, .int .i64 0, .slice none 0 0, .slice none 0 0]] 8 = some ([.agg [.lit (.int .i64 0), .lit (.int .i64 0), .lit (.int .i64 0)], .agg [.lit (.int .i64 0), .lit (.int .i64 0), .lit (.int .i64 0), .lit (.string []), .lit (.string []), .agg [.agg [.lit (.int .i64 0), .lit (.int .i64 0), .lit (.int .i64 0)], .lit (.int .i64 0), .lit (.int .u32 0)]], .agg [.lit (.int .i64 0), .lit (.int .i64 0), .lit (.int .i64 0), .nil, .nil]], [], places) :=
  ⟨[], by kernel_rfl⟩

set_option maxRecDepth 100000 in
theorem lifted (os : Os) (started : os.Started) (H : Type) (enc : TypeId × Value → H) (F : Stop.Interp) :
    ReturnsInHanded {} Tryd.checked os 5 .any ((OpenSpec.ofChange Rows.recordOpsSpec).preRow enc Tryd.prog Tryd.f5 Rows.recordOpsRow.domain false Rows.recordOpsRow.laid) (((OpenSpec.ofChange Rows.recordOpsSpec).at F).post enc Tryd.prog Tryd.f5 false true false false) := by
  obtain ⟨places, hx⟩ := reads os enc
  have laid_met : laidMet Tryd.prog Rows.recordOpsRow.laid ((laidWorld os).forCall (fun _ _ => 0) ⟨#[], #[.agg #[.int .i64 0, .int .i64 0, .int .i64 0], .agg #[.int .i64 0, .int .i64 0, .int .i64 0, .string ⟨#[]⟩, .string ⟨#[]⟩, .int .i64 0, .int .i64 0, .int .i64 0, .int .i64 0, .int .u32 0], .agg #[.int .i64 0, .int .i64 0, .int .i64 0, .slice none 0 0, .slice none 0 0]], []⟩).memory := (laidMet_of_run' 8 (by kernel_rfl) (by kernel_rfl))
  refine returnsInHanded_of_row (C := Tryd.checked) (s := OpenSpec.ofChange Rows.recordOpsSpec) own started (by kernel_rfl) Tryd.func5
    (witness_row_at (enc := enc) (C := Tryd.checked) false (laidWorld os) #[.agg #[.int .i64 0, .int .i64 0, .int .i64 0], .agg #[.int .i64 0, .int .i64 0, .int .i64 0, .string ⟨#[]⟩, .string ⟨#[]⟩, .int .i64 0, .int .i64 0, .int .i64 0, .int .i64 0, .int .u32 0], .agg #[.int .i64 0, .int .i64 0, .int .i64 0, .slice none 0 0, .slice none 0 0]] rfl (by kernel_rfl) (by kernel_rfl) (by kernel_rfl)
      (OpenSpec.preRow_of_cond 8 hx (by kernel_rfl) (fun k hk => by cases hk) (by kernel_rfl) laid_met)) ?_
  intro W base args ds gs before hval hW _ _ hz hL _ _
  exact contract H enc W base args ds gs before hval hW hL hz

theorem said : Rows.RecordOpsSaid :=
  OpenClaim.holds_of_cond 5 Tryd.f5 rfl rfl rfl rfl rfl rfl rfl ⟨rfl, rfl, rfl, rfl, rfl⟩ rfl rfl rfl rfl rfl (by kernel_rfl) Tryd.func5 (by kernel_rfl)
    (of_decide_eq_true (by kernel_rfl)) (by unfold Func.isWrapper; first | (rw [if_pos (by decide +kernel)]; kernel_rfl) | (rw [if_neg (by decide +kernel)]; exact ⟨rfl, rfl⟩))
    (fun os started H enc _ F => by rw [OpenClaim.pre_eq_preRow]; exact lifted os started H enc F)

theorem plain (f : FuncId) (fn : Func) (hf : Tryd.pinned.checked.prog.funcNamed "mahout/mahoutlaw09.RecordOps" = some f) (hfn : Tryd.pinned.checked.prog.funcs[f]? = some fn) :
    ∀ (j : Nat) t, fn.params[j]? = some t → Tryd.pinned.checked.prog.wantsStandIn t = false := by
  obtain rfl : f = 5 := Option.some.inj ((show Tryd.prog.funcNamed "mahout/mahoutlaw09.RecordOps" = some 5 by kernel_rfl).symm.trans hf) |>.symm
  obtain rfl : fn = Tryd.f5 := (Option.some.inj (Tryd.func5.symm.trans hfn)).symm
  exact fun j t ht => by
    rw [Tryd.params5] at ht
    have hm : t ∈ [43, 50, 25] := by simpa using Array.mem_of_getElem? ht
    have hall : ([43, 50, 25].all fun u => !Tryd.prog.wantsStandIn u) = true := by kernel_rfl
    exact (show Tryd.prog.wantsStandIn t = false by simpa using List.all_eq_true.1 hall t hm)
/-- THE CARD -/
theorem card : Rows.RecordOpsCardSaid :=
  Claim7.holds_tied_plain_at .later [] _ _ _ _ said (fun _ h => by cases h) (by kernel_rfl) (fun _ h => by cases h) recordOps_row_tie rfl ⟨rfl, rfl⟩ (by kernel_rfl) rfl (fun f fn hf hfn => ⟨by kernel_rfl, plain f fn hf hfn⟩) (by kernel_rfl)

end Go.Proofs.YtndcmjgjecdgcaaDoor.fnRecordOps
