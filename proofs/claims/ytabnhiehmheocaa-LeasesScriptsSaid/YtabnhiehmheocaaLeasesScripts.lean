/- LeasesScripts: every script of grants, renewals and drops is answered as the document says, whatever the input. -/
import Derived.Test.YtabnhiehmheocaaLeaLX
import Derived.Deep.CutBlock

import Derived.Test.YtabnhiehmheocaaLawEnd

import Derived.Test.YtabnhiehmheocaaPlainKit

namespace Go.Proofs.Ytabnhiehmheocaa.fnLeasesScripts
open Go.ChangeShapes Go.WideShapes Go.ChangeAt Go.RowKit Go.WideMaps Go.WideElems
open Go.ChangeMaps (open_string)

theorem below_dn (w : World) (n : Nat) : Below w.heap.size w (w.drewN n) := ⟨rfl, rfl, rfl, Nat.le_refl _, fun _ _ => rfl⟩
set_option maxRecDepth 100000 in
set_option maxHeartbeats 8000000 in
theorem walk (ln : Int) (A : Option Addr) (len cap : Nat) (it : Nat → Ac) (W : World) (hl : len * 40 ≤ 140737488351232) (hS : Acts W W.heap.size A len it) :
    Calls Try.prog 3 #[.int .i64 ln, .slice A len cap] W fun e w' => e = .returned (.bool true) ∧ Below W.heap.size W w' := by
  have HS := Lib.hid hS
  have HL := Lib.hid hl
  have hl' : (len : Int) ≤ 9223372036854775807 := by omega
  clear hS hl
  go_enter Try.func3, Try.ntmps3
  go_wp2_with (fail)
  refine (speaks_any _).mono ?_
  rintro e w1 ⟨rfl, hb1⟩
  have HB1 := Lib.hid hb1
  clear hb1
  go_wp2_with (fail)
  refine (newtab_any (w0 := W) ln _ HB1.out).mono ?_
  rintro e w2 ⟨rfl, H2⟩
  obtain ⟨p, hp⟩ : ∃ p, p = w1.heap.size := ⟨_, rfl⟩
  rw [← hp] at H2 ⊢
  have H2T : Hid (TabSt W w2 p ln 0 []) := Lib.hid H2.out.1
  clear H2 hp HB1
  go_wp2_with (fail)
  obtain ⟨w3, hw3⟩ : ∃ w3, w3 = w2.alloc (.cells #[.int .i64 ln, .slice none 0 0] 29) := ⟨_, rfl⟩
  have H3T : Hid (TabSt W w3 p ln 0 []) := Lib.hid (by rw [hw3]; exact H2T.out.below ((Below.refl _ w2).alloc (Nat.le_refl _) _))
  have H3R : Hid (RefSt W w3 w2.heap.size ln (.slice none 0 0) []) := Lib.hid (by
    rw [hw3]
    exact ⟨H2T.out.bel.alloc H2T.out.bel.size _, H2T.out.bel.size, ⟨_, heap_alloc_new w2 _⟩, by simp, by simp, World.ownsRow_nil _ _ _ _⟩)
  have hq' : w2.heap.size < w3.heap.size := by rw [hw3]; simp
  obtain ⟨q, hq⟩ : ∃ q, q = w2.heap.size := ⟨_, rfl⟩
  rw [← hq] at H3R hq'
  rw [← hw3, ← hq]
  clear hw3 hq H2T
  refine (newtab_eq ln _).mono ?_
  rintro e w4 ⟨rfl, hw4⟩
  obtain ⟨o, ho⟩ : ∃ o, o = w3.heap.size := ⟨_, rfl⟩
  rw [← ho]
  have HX : Hid (LX W w4 p q o ln 0 [] []) := Lib.hid (by
    have hb : Below w3.heap.size w3 w4 := by rw [hw4]; exact (Below.refl _ w3).alloc (Nat.le_refl _) _
    refine ⟨H3T.out.below hb, ⟨_, H3R.out.below hb⟩, by rw [hw4, ho]; exact oth_new ln H3T.out.bel.size, fun e => ?_⟩
    have := H3T.out.ty.lt
    omega)
  clear hw4 ho hq' H3T H3R
  go_wp2
  go_loopw [8] (fun i wr => ∃ (k : Nat) (L : List Ls), k ≤ len ∧ i = .int .i64 k ∧ Hid (LX W wr p q o ln k L L ∧ L.length ≤ k)) (fun i _ => len - (intOf i).toNat)
  case atStart => exact ⟨0, [], Nat.zero_le _, rfl, Lib.hid ⟨HX.out, Nat.le_refl _⟩⟩
  case round =>
    obtain ⟨k, L, hk, rfl, HR⟩ := hrel
    clear HX
    by_cases hkn : k < len
    · have hkn' : (k : Int) < len := by omega
      obtain ⟨HW, b, off, rfl, hB, hc⟩ := HS.out k hkn
      obtain ⟨x, hx⟩ : ∃ x, x = it k := ⟨_, rfl⟩
      rw [← hx] at HW hc
      have hin := fun j u (hj : (acCells x)[j]? = some u) => (HR.out.1.t.bel.cell (p := ⟨b, off + k * 4 + j, none⟩) hB).trans (hc j u hj)
      have i0 := hin 0 _ rfl
      have i1 := hin 1 _ rfl
      have i2 := hin 2 _ rfl
      have i3 := hin 3 _ rfl
      rw [Nat.add_zero] at i0
      have hr := r4_is x.k HW.k
      have HXO := Lib.hid HW
      have HBX : Hid (LB W (wr.alloc (.cells #[.int .i64 x.k, .int .i64 x.a, .int .i64 x.b, .string x.s] 31)) p q o wr.heap.size ln k L L x) := Lib.hid ⟨HR.out.1.below ((Below.refl _ wr).alloc (Nat.le_refl _) _), acb_new wr x⟩
      have HLL := Lib.hid HR.out.2
      clear hin hc hB HW hx HR
      go_upto_region 8 with (fail)
      obtain ⟨g, hg⟩ : ∃ g, g = wr.heap.size := ⟨_, rfl⟩
      obtain ⟨wx, hwx⟩ : ∃ wx, wx = wr.alloc (.cells #[.int .i64 x.k, .int .i64 x.a, .int .i64 x.b, .string x.s] 31) := ⟨_, rfl⟩
      rw [← hwx, ← hg] at HBX ⊢
      clear hg hwx i0 i1 i2 i3
      obtain ⟨bt, x0, x1, x2, x3⟩ := HBX.out.b
      clear bt
      have HKL := Lib.hid (show L.length ≤ 4398046510000 ∧ k < maxLen by
        have := HL.out
        have := HLL.out
        unfold maxLen
        omega)
      go_upto_block 2 with (fail)
      go_cut [] (fun wy => ∃ L' : List Ls, Hid (LB W wy p q o g ln (k + 1) L' L' x ∧ L'.length ≤ k + 1))
      case first =>
        clear hr
        have hsx := HXO.out.s
        rcases r4_cases x.k with h | h | h | h
        · have h1 : (r4 x.k == 0) = true := by simpa using h
          clear h
          go_wp2_with (fail)
          refine (grant_any p k ln L x.s x.a x.b _ HKL.out.2 (by omega) (Lib.hid HBX.out.x.t)).mono ?_
          rintro e w5 ⟨rfl, H5⟩
          have HN := Lib.hid (HBX.out.tab H5)
          obtain ⟨bt, y0, y1, y2, y3⟩ := HN.out.b
          clear bt x0 x1 x2 x3 H5 HBX
          obtain ⟨v, HR⟩ : ∃ v, Hid (RefSt W w5 q ln v L) := by obtain ⟨v, k⟩ := HN.out.x.r; exact ⟨v, Lib.hid k⟩
          go_wp2_with (fail)
          refine (rgrant_any q ln v L x.s x.a x.b _ HKL.out.1 HR).mono ?_
          rintro e w6 ⟨rfl, H6⟩
          have HM := Lib.hid (HN.out.ref H6)
          go_wp2
          go_meet
          exact ⟨_, Lib.hid ⟨HM.out, Nat.le_trans (length_grantL _ _ _ _) (by have := HLL.out; omega)⟩⟩
        · have h1 : (r4 x.k == 0) = false := by simp [h]
          have h2 : (r4 x.k == 1) = true := by simpa using h
          clear h
          go_wp2_with (fail)
          refine (renew_any p k ln L x.a x.b _ (Lib.hid HBX.out.x.t)).mono ?_
          rintro e w5 ⟨rfl, H5⟩
          have HN := Lib.hid (HBX.out.tab H5)
          obtain ⟨bt, y0, y1, y2, y3⟩ := HN.out.b
          clear bt x0 x1 x2 x3 H5 HBX
          obtain ⟨v, HR⟩ : ∃ v, Hid (RefSt W w5 q ln v L) := by obtain ⟨v, k⟩ := HN.out.x.r; exact ⟨v, Lib.hid k⟩
          go_wp2_with (fail)
          refine (rrenew_any q ln v L x.a x.b _ HKL.out.1 HR).mono ?_
          rintro e w6 ⟨rfl, H6⟩
          have HM := Lib.hid (HN.out.ref H6)
          go_wp2
          go_meet
          exact ⟨_, Lib.hid ⟨⟨⟨HM.out.x.t.more (Nat.le_succ _), HM.out.x.r, HM.out.x.h, HM.out.x.po⟩, HM.out.b⟩, by rw [length_renewL]; have := HLL.out; omega⟩⟩
        · have h1 : (r4 x.k == 0) = false := by simp [h]
          have h2 : (r4 x.k == 1) = false := by simp [h]
          have h3 : (r4 x.k == 2) = true := by simpa using h
          clear h
          go_wp2_with (fail)
          refine (drop_any p k ln L x.s _ (by omega) (Lib.hid HBX.out.x.t)).mono ?_
          rintro e w5 ⟨rfl, H5⟩
          have HN := Lib.hid (HBX.out.tab H5)
          obtain ⟨bt, y0, y1, y2, y3⟩ := HN.out.b
          clear bt x0 x1 x2 x3 H5 HBX
          obtain ⟨v, HR⟩ : ∃ v, Hid (RefSt W w5 q ln v L) := by obtain ⟨v, k⟩ := HN.out.x.r; exact ⟨v, Lib.hid k⟩
          go_wp2_with (fail)
          refine (rdrop_any q ln v L x.s _ HKL.out.1 HR).mono ?_
          rintro e w6 ⟨rfl, H6⟩
          have HM := Lib.hid (HN.out.ref H6)
          go_wp2
          go_meet
          exact ⟨_, Lib.hid ⟨⟨⟨HM.out.x.t.more (Nat.le_succ _), HM.out.x.r, HM.out.x.h, HM.out.x.po⟩, HM.out.b⟩, Nat.le_trans (length_dropL _ _) (by have := HLL.out; omega)⟩⟩
        · have h1 : (r4 x.k == 0) = false := by simp [h]
          have h2 : (r4 x.k == 1) = false := by simp [h]
          have h3 : (r4 x.k == 2) = false := by simp [h]
          clear h
          go_wp2
          go_meet
          exact ⟨L, Lib.hid ⟨⟨⟨HBX.out.x.t.more (Nat.le_succ _), HBX.out.x.r, HBX.out.x.h, HBX.out.x.po⟩, HBX.out.b⟩, by have := HLL.out; omega⟩⟩
      case rest =>
        obtain ⟨L2, HC⟩ := hcut
        clear HBX x0 x1 x2 x3 hr HKL HLL
        obtain ⟨bt, x0, x1, x2, x3⟩ := HC.out.1.b
        clear bt
        have hsx := HXO.out.s
        have HL2 : Hid (L2.length ≤ 4398046510000) := Lib.hid (by
          have := HL.out
          have := HC.out.2
          omega)
        go_wp2_with (fail)
        refine (holder_any p (k + 1) ln L2 x.s _ (by omega) (Lib.hid HC.out.1.x.t)).mono ?_
        rintro e w5 ⟨rfl, H5⟩
        obtain ⟨hc, hhc⟩ : ∃ hc : Int, hc = ((holdL L2 x.s).map (·.c)).getD 0 := ⟨_, rfl⟩
        obtain ⟨ho, hho⟩ : ∃ ho : Bool, ho = (holdL L2 x.s).isSome := ⟨_, rfl⟩
        rw [← hhc, ← hho]
        have HN : Hid (LB W w5 p q o g ln (k + 1) L2 L2 x) := Lib.hid (HC.out.1.below H5.out.2)
        have HH : Hid (fnd x.s (0, false) L2 = (hc, ho)) := Lib.hid (by rw [hhc, hho]; exact fnd_hold x.s HC.out.1.x.t.srt)
        have HC2 := Lib.hid HC.out.2
        clear H5 hhc hho HC x0 x1 x2 x3
        obtain ⟨v, HR⟩ : ∃ v, Hid (RefSt W w5 q ln v L2) := by obtain ⟨v, k⟩ := HN.out.x.r; exact ⟨v, Lib.hid k⟩
        go_upto_block 3 with (fail)
        go_cut [12, 13] (fun d is wy => d = .int .i64 hc ∧ is = .bool ho ∧ Hid (LB W wy p q o g ln (k + 1) L2 L2 x))
        case first =>
          go_wp2
          go_loopw [12, 13, 14] (fun d is kk wy => ∃ j : Nat, j ≤ L2.length ∧ kk = .int .i64 j ∧ d = .int .i64 (fnd x.s (0, false) (L2.take j)).1 ∧ is = .bool (fnd x.s (0, false) (L2.take j)).2 ∧ Hid (LB W wy p q o g ln (k + 1) L2 L2 x)) (fun _ _ kk _ => L2.length - (intOf kk).toNat)
          case atStart => exact ⟨0, Nat.zero_le _, rfl, rfl, rfl, HN⟩
          case round =>
            obtain ⟨j, hj, rfl, rfl, rfl, HJ⟩ := hrel
            clear HN HR
            obtain ⟨bt, x0, x1, x2, x3⟩ := HJ.out.b
            clear bt x0 x1 x2
            obtain ⟨v, HR⟩ : ∃ v, Hid (RefSt W wr q ln v L2) := by obtain ⟨v, k⟩ := HJ.out.x.r; exact ⟨v, Lib.hid k⟩
            have c1 := HR.out.c1
            have hLi : (L2.length : Int) ≤ 9223372036854775807 := by have := HL2.out; omega
            by_cases hjn : j < L2.length
            · have hjn' : (j : Int) < L2.length := by omega
              obtain ⟨y, hy⟩ : ∃ y, L2[j]? = some y := ⟨_, List.getElem?_eq_getElem hjn⟩
              obtain ⟨gg, cp, rfl, d0, d1, d2⟩ := HR.out.cells hy
              have hnx := fnd_take (q := x.s) (a := (0, false)) hy
              obtain ⟨f, hf⟩ : ∃ f, f = fnd x.s (0, false) (L2.take j) := ⟨_, rfl⟩
              rw [← hf] at hnx ⊢
              clear hy hf
              go_upto_region 23 with (fail)
              by_cases hq : y.p = x.s
              · have hqq : (y.p.toList == x.s.toList) = true := by rw [hq]; simp
                rw [if_pos hq] at hnx
                have HN := Lib.hid hnx
                clear hnx hq
                go_quiet (fail)
                go_wp2
                go_roundw
                case rel => exact ⟨j + 1, by omega, by simp, by rw [HN.out], by rw [HN.out], Lib.hid (HJ.out.below (below_dn _ _))⟩
                case measure => simp [intOf]; omega
              · have hqq : (y.p.toList == x.s.toList) = false := str_ne hq
                rw [if_neg hq] at hnx
                have HN := Lib.hid hnx
                clear hnx hq
                go_quiet (fail)
                go_wp2
                go_roundw
                case rel => exact ⟨j + 1, by omega, by simp, by rw [HN.out], by rw [HN.out], Lib.hid (HJ.out.below (below_dn _ _))⟩
                case measure => simp [intOf]; omega
            · obtain rfl : j = L2.length := by omega
              obtain ⟨a, cp, rfl⟩ := HR.out.slice
              rw [List.take_length, HH.out]
              clear HR
              go_wp2
              go_meet
              exact ⟨rfl, rfl, HJ⟩
        case rest =>
          obtain ⟨rfl, rfl, HZ⟩ := hcut
          clear HN HR
          obtain ⟨bt, x0, x1, x2, x3⟩ := HZ.out.b
          clear bt x0 x1 x3
          go_wp2_with (fail)
          refine (due_any p (k + 1) ln L2 x.b _ (by have := HL2.out; omega) (Lib.hid HZ.out.x.t)).mono ?_
          rintro e w6 ⟨vl, nl, rfl, hnl, hrow, hb6⟩
          have H6 : Hid (LB W w6 p q o g ln (k + 1) L2 L2 x) := Lib.hid (HZ.out.below hb6)
          obtain ⟨D, hD⟩ : ∃ D, D = dueL L2 (mom x.b - lenT ln) := ⟨_, rfl⟩
          have HD := Lib.hid hD
          have HDL := Lib.hid (length_dueL L2 (mom x.b - lenT ln))
          rw [← hD] at hnl hrow HDL
          have HRW := Lib.hid hrow
          have HNL := Lib.hid hnl
          obtain ⟨al, cl, rfl, hcells⟩ := row_slice hrow
          have HCE := Lib.hid hcells
          have HBC := Lib.hid hb6
          clear hrow hnl hb6 hD x2 hcells
          obtain ⟨bt, x0, x1, x2, x3⟩ := H6.out.b
          clear bt x0 x1 x3
          obtain ⟨v6, HR6⟩ : ∃ v, Hid (RefSt W w6 q ln v L2) := by obtain ⟨v, k⟩ := H6.out.x.r; exact ⟨v, Lib.hid k⟩
          go_wp2_with (fail)
          refine (rdue_any q ln v6 L2 x.b _ HL2.out HR6).mono ?_
          rintro e w7 ⟨vr, nr, rfl, hnr, hrow7, hb7⟩
          rw [← HD.out] at hnr hrow7
          obtain rfl : nr = nl := hnr.trans HNL.out.symm
          have HB7 := Lib.hid hb7
          have HRW7 := Lib.hid (row_below HRW.out hb7)
          have HR7 := Lib.hid hrow7
          clear hrow7 hnr hb7 HR6
          go_wp2_with (fail)
          refine (texts_same _ _ nr _ _ D _ HNL.out (by have := HNL.out; have := HDL.out; have := HL2.out; omega) HRW7.out HR7.out).mono ?_
          rintro e w8 ⟨rfl, hb8⟩
          have HB8 := Lib.hid (HB7.out.trans (hb8.mono HB7.out.size))
          clear hb8 HR7 HRW7
          go_wp2
          have HB9 : Hid (Below wc.heap.size wc w8 ∧ ∃ xs, w8.ownsRow wc.heap.size 9 1 (.slice al nr cl) nr xs) := Lib.hid ⟨HBC.out.trans (HB8.out.mono HBC.out.size), _, row_below HRW.out HB8.out⟩
          have hnri : (nr : Int) ≤ 9223372036854775807 := by have := HNL.out; have := HDL.out; have := HL2.out; omega
          clear HB8 HB7 HRW HBC H6 HD
          go_loopw [16] (fun kk wy => ∃ j : Nat, j ≤ nr ∧ kk = .int .i64 j ∧ Hid (Below wc.heap.size wc wy ∧ ∃ xs, wy.ownsRow wc.heap.size 9 1 (.slice al nr cl) nr xs)) (fun kk _ => nr - (intOf kk).toNat)
          case atStart => exact ⟨0, Nat.zero_le _, rfl, HB9⟩
          case round =>
            obtain ⟨j, hj, rfl, HJ⟩ := hrel
            clear HB9
            by_cases hjn : j < nr
            · have hjn' : (j : Int) < nr := by omega
              obtain ⟨s, hs⟩ : ∃ s, D[j]? = some s := ⟨_, List.getElem?_eq_getElem (by have := HNL.out; omega)⟩
              obtain ⟨g2, rfl, _, _⟩ := HCE.out j s hs
              obtain ⟨xs, hrow⟩ := HJ.out.2
              have hlt := (hrow.lt g2 rfl).1
              obtain ⟨u, hu⟩ : ∃ u, wr.cell? ⟨g2, j, none⟩ = some u := by
                have := hrow.cellAt j (by omega)
                rw [this]
                exact ⟨_, List.getElem?_eq_getElem (by have := hrow.1; omega)⟩
              have hf := hrow.frozenAt j
              obtain ⟨SP, hSP⟩ : ∃ SP : Value, SP = .string ⟨#[115, 112, 111, 105, 108, 116]⟩ := ⟨_, rfl⟩
              have HF : Hid (Below wc.heap.size wc (wr.setCell ⟨g2, j, none⟩ SP) ∧ ∃ xs, (wr.setCell ⟨g2, j, none⟩ SP).ownsRow wc.heap.size 9 1 (.slice (some ⟨g2, 0, none⟩) nr cl) nr xs) := Lib.hid ⟨HJ.out.1.setCell (p := ⟨g2, j, none⟩) hlt _, _, (hrow.stored j _).1⟩
              rw [hSP] at HF
              clear hs hrow hlt hSP HCE
              go_wp2
              go_roundw
              case rel => exact ⟨j + 1, by omega, by simp, HF⟩
              case measure => simp [intOf]; omega
            · obtain rfl : j = nr := by omega
              have HFX : Hid (LX W wr p q o ln (k + 1) L2 L2 ∧ L2.length ≤ k + 1) := Lib.hid ⟨HZ.out.x.below HJ.out.1, HC2.out⟩
              clear HJ HCE
              go_wp2
              go_roundw
              case rel => exact ⟨k + 1, L2, by omega, by simp, HFX⟩
              case measure => simp [intOf]; omega
    · obtain rfl : k = len := by omega
      have HT : Hid (TabSt W wr o ln 0 []) := Lib.hid (HR.out.1.h.tab HR.out.1.t.bel)
      clear HR
      go_wp2_with (fail)
      refine (due_any o 0 ln [] 1099511627776 _ (by decide) HT).mono ?_
      rintro e w6 ⟨v, n, rfl, hn, hrow, hb⟩
      have e1 : dueL [] (mom 1099511627776 - lenT ln) = [] := rfl
      rw [e1] at hn hrow
      simp only [List.length_nil] at hn
      subst hn
      obtain ⟨a, c, rfl, _⟩ := row_slice hrow
      have HB := Lib.hid (HT.out.below hb).bel
      clear hrow hb HT e1
      go_wp2
      go_ret
      exact ⟨rfl, HB.out⟩

set_option maxRecDepth 100000 in
theorem contract (H : Type) (enc : TypeId × Value → H) (W : World) (base : Nat) (args : Array Value) (ds gs : List (DataW H)) (before : List MemPlace)
    (hval : ∀ (j : Nat) t v, Try.f3.params[j]? = some t → args[j]? = some v → Value.okWide Try.prog W .any base t v)
    (hW : DataW.Whole enc Try.prog Try.f3.params.toList Rows.leasesScriptsSpec.vars false W args.toList ds gs before)
    (hz : (DataW.weightsEach Try.prog (Try.f3.params.toList ++ []) (ds ++ gs)).all (· ≤ reachBytes) = true) :
    Calls Try.prog 3 args W fun e W' => ∃ v, e = .returned v ∧ Rows.leasesScriptsSpec.post enc Try.prog Try.f3 false true false false W args v W' := by
  have hW' := hW
  obtain ⟨p, q, hA0, hV, rfl, hfz, hnd⟩ := hW
  have hA : DataW.TrodAll enc Try.prog W 0 (fun _ => true) true Try.f3.params.toList args.toList ds p := hA0
  rw [Try.params3] at hA hval hz
  obtain ⟨v0, vs0, d0, ds0, p0, q0, hargs, rfl, rfl, h0, r0⟩ := trodAll_cons hA
  obtain ⟨v1, vs1, d1, ds1, p1, q1, rfl, rfl, rfl, h1, r1⟩ := trodAll_cons r0
  obtain ⟨rfl, rfl, rfl⟩ := trodAll_nil r1
  obtain rfl : args = #[v0, v1] := by cases args; simp_all
  obtain ⟨rfl, rfl⟩ := trodVars_none hV
  obtain ⟨x0, rfl, rfl, rfl, w0⟩ := open_int Try.underlying3 (hval 0 3 v0 rfl rfl) h0
  have b0 := i64_of_wf w0
  have hw1 : ∀ m ∈ d1.weights Try.prog 22, m ≤ reachBytes := fun m hm => by
    have hall := List.all_eq_true.1 hz m (DataW.weights_mem_each (j := 1) (t := 22) rfl rfl m hm)
    simpa using hall
  obtain ⟨A, len, cap, it, rfl, hl, hS⟩ := open_acts (hval 1 22 v1 rfl rfl) h1 hw1
  clear hA0
  refine (walk x0 A len cap it W hl hS).mono fun e W' ⟨he, hb⟩ => ?_
  subst he
  exact ⟨_, rfl, law_end hW' rfl rfl hb laidOut (by kernel_rfl) (by kernel_rfl) Try.underlying4⟩

theorem reads (os : Os) {H : Type} (enc : TypeId × Value → H) : ∃ places, DataW.whole enc Try.prog ((World.holding Try.prog os ⟨#[], #[], []⟩).forCall (fun _ _ => 0) ⟨#[], #[.int .i64 0, .slice none 0 0], []⟩).memory Try.f3.params.toList Rows.leasesScriptsSpec.vars false [Value.int .i64 0, Value.slice none 0 0] 8 = some ([.lit (.int .i64 0), .nil], [], places) :=
  ⟨[], by kernel_rfl⟩

set_option maxRecDepth 100000 in
theorem lifted (os : Os) (started : os.Started) (H : Type) (enc : TypeId × Value → H) (F : Stop.Interp) :
    ReturnsInHanded {} Try.checked os 3 .any ((OpenSpec.ofChange Rows.leasesScriptsSpec).preRow enc Try.prog Try.f3 Rows.leasesScriptsRow.domain false Rows.leasesScriptsRow.laid) (((OpenSpec.ofChange Rows.leasesScriptsSpec).at F).post enc Try.prog Try.f3 false true false false) := by
  obtain ⟨places, hx⟩ := reads os enc
  have laid_met : laidMet Try.prog Rows.leasesScriptsRow.laid ((World.holding Try.prog os ⟨#[], #[], []⟩).forCall (fun _ _ => 0) ⟨#[], #[.int .i64 0, .slice none 0 0], []⟩).memory := ⟨[], rfl, List.nodup_nil, fun _ _ h => by cases h⟩
  refine returnsInHanded_of_row (C := Try.checked) (s := OpenSpec.ofChange Rows.leasesScriptsSpec) own started (by kernel_rfl) Try.func3
    (witness_row_at (enc := enc) (C := Try.checked) false (World.holding Try.prog os ⟨#[], #[], []⟩) #[.int .i64 0, .slice none 0 0] rfl (by kernel_rfl) (by kernel_rfl) (by kernel_rfl)
      (OpenSpec.preRow_of_cond 8 hx (by kernel_rfl) (fun k hk => by cases hk) (by kernel_rfl) laid_met)) ?_
  intro W base args ds gs before hval hW _ _ hz _ _ _
  exact contract H enc W base args ds gs before hval hW hz

theorem said : Rows.LeasesScriptsSaid :=
  OpenClaim.holds_of_cond 3 Try.f3 rfl rfl rfl rfl rfl rfl rfl ⟨rfl, rfl, rfl, rfl, rfl⟩ rfl rfl rfl rfl rfl (by kernel_rfl) Try.func3 (by kernel_rfl)
    (of_decide_eq_true (by kernel_rfl)) (by unfold Func.isWrapper; first | (rw [if_pos (by decide +kernel)]; kernel_rfl) | (rw [if_neg (by decide +kernel)]; exact ⟨rfl, rfl⟩))
    (fun os started H enc _ F => by rw [OpenClaim.pre_eq_preRow]; exact lifted os started H enc F)

end Go.Proofs.Ytabnhiehmheocaa.fnLeasesScripts
