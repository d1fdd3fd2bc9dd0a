/- DiskScripts, where what it reads is bounded: two disks in turns answer every call of every script as the document says, and hold what it says behind each. -/
import Derived.Test.YtjlhnacdfpbchaaDkTwo
import Derived.Deep.CutBlock

import Derived.Test.YtjlhnacdfpbchaaLawEnd

import Derived.Test.YtjlhnacdfpbchaaPlainKit

namespace Go.Proofs.Ytjlhnacdfpbchaa.fnDiskScripts
open Go.ChangeShapes Go.WideShapes Go.ChangeAt Go.RowKit Go.WideMaps Go.WideElems
open Go.ChangeMaps (open_string)

open Go.Maps
set_option maxRecDepth 100000 in
theorem open_pair {H : Type} {enc : TypeId × Value → H} {W : World} {base : Nat} {v : Value} {d : DataW H} {p : List MemPlace}
    (hv : Value.okWide Try.prog W .any base 22 v) (h : DataW.Trod enc Try.prog W 0 (fun _ => true) true 22 v d p) :
    ∃ x : Int × Int, v = .agg #[.int .i64 x.1, .int .i64 x.2] ∧ (wf64 x.1 ∧ wf64 x.2) := by
  obtain ⟨c0, c1, h1, h2, h3⟩ := open_caps hv h
  exact ⟨(c0, c1), h1, h2, h3⟩
set_option maxRecDepth 100000 in
set_option maxHeartbeats 40000000 in
theorem walk (c0 c1 : Int) (A : Option Addr) (len cap : Nat) (it : Nat → Ac) (A2 : Option Addr) (len2 cap2 : Nat) (bs : Nat → Bool) (W : World) (hc0 : wf64 c0) (hc1 : wf64 c1) (hS : Acts W W.heap.size A len it) (hsum : sumB it len + len ≤ 1048576) (ha : ∀ i, i < len → (it i).a.size ≤ 1048576) (hl2 : len2 ≤ 140737488351232) (hS2 : Bools W W.heap.size A2 len2 bs) :
    Calls Try.prog 3 #[.agg #[.int .i64 c0, .int .i64 c1], .slice A len cap, .slice A2 len2 cap2] W fun e w' => e = .returned (.bool true) ∧ Below W.heap.size W w' := by
  have HS := Lib.hid hS
  have HS2 := Lib.hid hS2
  have HSM := Lib.hid (And.intro hsum ha)
  have hl' : (len : Int) ≤ 9223372036854775807 := by omega
  have hl2' : (len2 : Int) ≤ 9223372036854775807 := by omega
  have HC := Lib.hid (And.intro hc0 hc1)
  have hbW : Below W.heap.size W (W.alloc (.cells #[.int .i64 c0, .int .i64 c1] 22)) := (Below.refl _ W).alloc (Nat.le_refl _) _
  have b0 : (W.alloc (.cells #[.int .i64 c0, .int .i64 c1] 22)).cell? ⟨W.heap.size, 0, none⟩ = some (.int .i64 c0) := by simp
  have b1 : (W.alloc (.cells #[.int .i64 c0, .int .i64 c1] 22)).cell? ⟨W.heap.size, 1, none⟩ = some (.int .i64 c1) := by simp
  have hglt : W.heap.size < (W.alloc (.cells #[.int .i64 c0, .int .i64 c1] 22)).heap.size := by simp
  clear hS hS2 hsum ha hl2 hc0 hc1
  go_enter Try.func3, Try.ntmps3
  go_wp2_with (fail)
  obtain ⟨g, hg⟩ : ∃ g, g = W.heap.size := ⟨_, rfl⟩
  obtain ⟨V, hV⟩ : ∃ V, V = W.alloc (.cells #[.int .i64 c0, .int .i64 c1] 22) := ⟨_, rfl⟩
  rw [← hV, ← hg] at b0 b1 hglt ⊢
  rw [← hV] at hbW
  have HV := Lib.hid (And.intro hbW (And.intro b0 (And.intro b1 (And.intro hglt hg))))
  clear hbW b0 b1 hglt hV hg
  refine (dspeaks _).mono ?_
  rintro e w1 ⟨rfl, hb1⟩
  have HB1 : Hid (Below V.heap.size V w1) := Lib.hid hb1
  clear hb1
  go_upto_region 3 with (fail)
  have HG : Hid (V.cell? ⟨g, 0, none⟩ = some (.int .i64 c0) ∧ V.cell? ⟨g, 1, none⟩ = some (.int .i64 c1) ∧ g < V.heap.size) := Lib.hid ⟨HV.out.2.1, HV.out.2.2.1, HV.out.2.2.2.1⟩
  have HB1D : Hid (Below V.heap.size V w1.drew) := Lib.hid HB1.out.drew
  have x0 := (HB1D.out.cell (p := ⟨g, 0, none⟩) HG.out.2.2).trans HG.out.1
  have x1 := (HB1D.out.cell (p := ⟨g, 1, none⟩) HG.out.2.2).trans HG.out.2.1
  have x2 := (HB1.out.cell (p := ⟨g, 0, none⟩) HG.out.2.2).trans HG.out.1
  have x3 := (HB1.out.cell (p := ⟨g, 1, none⟩) HG.out.2.2).trans HG.out.2.1
  have xl : g < w1.heap.size := Nat.lt_of_lt_of_le HG.out.2.2 HB1.out.size
  go_cut [7] (fun s7 wx => ∃ gd p0 p1, s7 = .pointer (some ⟨gd, 0, none⟩) ∧ Hid (T2 XK V wx gd p0 p1 (max c0 0) (max c1 0)))
  case first =>
    go_region_with (first
      | (go_at_call 5; with_reducible refine (new_0 (V := V) c0 HB1D.out).mono ?_; rintro e wA ⟨rfl, HA⟩; have y0 := ((xk_ok.bel HA.out.1).cell (p := ⟨g, 0, none⟩) HG.out.2.2).trans HG.out.1; have y1 := ((xk_ok.bel HA.out.1).cell (p := ⟨g, 1, none⟩) HG.out.2.2).trans HG.out.2.1; have yl : g < wA.heap.size := Nat.lt_of_lt_of_le HG.out.2.2 (xk_ok.bel HA.out.1).size)
      | (go_at_call 5; with_reducible refine (new_AD (V := V) c0 (bel_al HB1).drew).mono ?_; rintro e wA ⟨rfl, HA⟩; have y0 := ((xk_ok.bel HA.out.1).cell (p := ⟨g, 0, none⟩) HG.out.2.2).trans HG.out.1; have y1 := ((xk_ok.bel HA.out.1).cell (p := ⟨g, 1, none⟩) HG.out.2.2).trans HG.out.2.1; have yl : g < wA.heap.size := Nat.lt_of_lt_of_le HG.out.2.2 (xk_ok.bel HA.out.1).size; have HZ : Hid (Arr wA w1.heap.size) := Lib.hid (Arr.below (arr_new w1 28).drew HA.out.2); have z0 := HZ.out.c0; have z1 := HZ.out.c1; have z2 := HZ.out.fr 0; have z3 := HZ.out.fr 1)
      | (go_at_call 5; with_reducible refine (new_0 (V := V) c1 (xk_ok.bel HA.out.1)).mono ?_; rintro e wB ⟨rfl, HB⟩; try (have HX : Hid (Arr wB w1.heap.size) := Lib.hid (HZ.out.below HB.out.2); have v0 := HX.out.c0; have v1 := HX.out.c1; have v2 := HX.out.fr 0; have v3 := HX.out.fr 1))
      | (go_at_call 5; with_reducible refine (new_A (V := V) c1 (bel_al (Lib.hid (xk_ok.bel HA.out.1)))).mono ?_; rintro e wB ⟨rfl, HB⟩; have HY : Hid (Arr wB wA.heap.size) := Lib.hid (Arr.below (arr_new wA 28) HB.out.2); have u0 := HY.out.c0; have u1 := HY.out.c1; have u2 := HY.out.fr 0; have u3 := HY.out.fr 1))
    all_goals
      have q0 := (xk_ok.own HA.out.1).2
      first
        | (have HF : Hid (T2 XK V (wB.alloc (.cells #[.pointer (some ⟨w1.heap.size, 0, none⟩), .pointer (some ⟨wA.heap.size, 0, none⟩)] 28)) wB.heap.size w1.heap.size wA.heap.size (max c0 0) (max c1 0)) := Lib.hid (t2_new xk_ok (xk_ok.below HA.out.1 HB.out.2) HB.out.1 (by have e : w1.drew.heap.size = w1.heap.size := rfl; omega)); clear HA HB q0; go_wp2; go_meet; exact ⟨_, _, _, rfl, HF⟩)
        | (have HF : Hid (T2 XK V ((wB.setCell ⟨wA.heap.size, 0, none⟩ (.pointer (some ⟨w1.heap.size, 0, none⟩))).setCell ⟨wA.heap.size, 1, none⟩ (.pointer (some ⟨wA.heap.size + 1, 0, none⟩))) wA.heap.size w1.heap.size (wA.heap.size + 1) (max c0 0) (max c1 0)) := Lib.hid (t2_set xk_ok (xk_ok.below HA.out.1 (below_al HB.out.2)) HB.out.1 HY.out (xk_ok.bel HA.out.1).size (by have e : w1.drew.heap.size = w1.heap.size := rfl; omega)); clear HA HB HY q0; go_wp2; go_meet; exact ⟨_, _, _, rfl, HF⟩)
        | (have HF : Hid (T2 XK V ((wB.setCell ⟨w1.heap.size, 0, none⟩ (.pointer (some ⟨w1.heap.size + 1, 0, none⟩))).setCell ⟨w1.heap.size, 1, none⟩ (.pointer (some ⟨wA.heap.size, 0, none⟩))) w1.heap.size (w1.heap.size + 1) wA.heap.size (max c0 0) (max c1 0)) := Lib.hid (t2_set xk_ok (xk_ok.below HA.out.1 HB.out.2) HB.out.1 HX.out HB1.out.size (by omega)); clear HA HB HX HZ q0; go_wp2; go_meet; exact ⟨_, _, _, rfl, HF⟩)
  case rest =>
    obtain ⟨gd, p0, p1, rfl, HD2⟩ := hcut
    obtain ⟨w2, hw2⟩ : ∃ w2, w2 = wc := ⟨_, rfl⟩
    rw [← hw2] at HD2 ⊢
    have HBV : Hid (Below V.heap.size V w2) := Lib.hid (xk_ok.bel HD2.out.d0)
    have HG0 : Hid (V.cell? ⟨g, 0, none⟩ = some (.int .i64 c0) ∧ V.cell? ⟨g, 1, none⟩ = some (.int .i64 c1) ∧ g < V.heap.size) := HG
    clear hw2 HG x0 x1 x2 x3 xl HB1D
    have HB2 : Hid (Below w2.heap.size w2 w2) := Lib.hid (Below.refl _ _)
    have HG : Hid (w2.cell? ⟨g, 0, none⟩ = some (.int .i64 c0) ∧ w2.cell? ⟨g, 1, none⟩ = some (.int .i64 c1) ∧ g < w2.heap.size) := Lib.hid ⟨(HBV.out.cell (p := ⟨g, 0, none⟩) HG0.out.2.2).trans HG0.out.1, (HBV.out.cell (p := ⟨g, 1, none⟩) HG0.out.2.2).trans HG0.out.2.1, Nat.lt_of_lt_of_le HG0.out.2.2 HBV.out.size⟩
    go_upto_region 4 with (fail)
    have HB1D : Hid (Below w2.heap.size w2 w2.drew) := Lib.hid HB2.out.drew
    have x0 := (HB1D.out.cell (p := ⟨g, 0, none⟩) HG.out.2.2).trans HG.out.1
    have x1 := (HB1D.out.cell (p := ⟨g, 1, none⟩) HG.out.2.2).trans HG.out.2.1
    have x2 := (HB2.out.cell (p := ⟨g, 0, none⟩) HG.out.2.2).trans HG.out.1
    have x3 := (HB2.out.cell (p := ⟨g, 1, none⟩) HG.out.2.2).trans HG.out.2.1
    have xl : g < w2.heap.size := Nat.lt_of_lt_of_le HG.out.2.2 HB2.out.size
    go_cut [8] (fun s7 wx => ∃ gd p0 p1, s7 = .pointer (some ⟨gd, 0, none⟩) ∧ Hid (T2 XR w2 wx gd p0 p1 (max c0 0) (max c1 0)))
    case first =>
      go_region_with (first
        | (go_at_call 6; with_reducible refine (rnew_0 (V := w2) c0 HB1D.out).mono ?_; rintro e wA ⟨rfl, HA⟩; have y0 := ((xr_ok.bel HA.out.1).cell (p := ⟨g, 0, none⟩) HG.out.2.2).trans HG.out.1; have y1 := ((xr_ok.bel HA.out.1).cell (p := ⟨g, 1, none⟩) HG.out.2.2).trans HG.out.2.1; have yl : g < wA.heap.size := Nat.lt_of_lt_of_le HG.out.2.2 (xr_ok.bel HA.out.1).size)
        | (go_at_call 6; with_reducible refine (rnew_AD (V := w2) c0 (bel_al HB2).drew).mono ?_; rintro e wA ⟨rfl, HA⟩; have y0 := ((xr_ok.bel HA.out.1).cell (p := ⟨g, 0, none⟩) HG.out.2.2).trans HG.out.1; have y1 := ((xr_ok.bel HA.out.1).cell (p := ⟨g, 1, none⟩) HG.out.2.2).trans HG.out.2.1; have yl : g < wA.heap.size := Nat.lt_of_lt_of_le HG.out.2.2 (xr_ok.bel HA.out.1).size; have HZ : Hid (Arr wA w2.heap.size) := Lib.hid (Arr.below (arr_new w2 31).drew HA.out.2); have z0 := HZ.out.c0; have z1 := HZ.out.c1; have z2 := HZ.out.fr 0; have z3 := HZ.out.fr 1)
        | (go_at_call 6; with_reducible refine (rnew_0 (V := w2) c1 (xr_ok.bel HA.out.1)).mono ?_; rintro e wB ⟨rfl, HB⟩; try (have HX : Hid (Arr wB w2.heap.size) := Lib.hid (HZ.out.below HB.out.2); have v0 := HX.out.c0; have v1 := HX.out.c1; have v2 := HX.out.fr 0; have v3 := HX.out.fr 1))
        | (go_at_call 6; with_reducible refine (rnew_A (V := w2) c1 (bel_al (Lib.hid (xr_ok.bel HA.out.1)))).mono ?_; rintro e wB ⟨rfl, HB⟩; have HY : Hid (Arr wB wA.heap.size) := Lib.hid (Arr.below (arr_new wA 31) HB.out.2); have u0 := HY.out.c0; have u1 := HY.out.c1; have u2 := HY.out.fr 0; have u3 := HY.out.fr 1))
      all_goals
        have q0 := (xr_ok.own HA.out.1).2
        first
          | (have HF : Hid (T2 XR w2 (wB.alloc (.cells #[.pointer (some ⟨w2.heap.size, 0, none⟩), .pointer (some ⟨wA.heap.size, 0, none⟩)] 31)) wB.heap.size w2.heap.size wA.heap.size (max c0 0) (max c1 0)) := Lib.hid (t2_new xr_ok (xr_ok.below HA.out.1 HB.out.2) HB.out.1 (by have e : w2.drew.heap.size = w2.heap.size := rfl; omega)); clear HA HB q0; go_wp2; go_meet; exact ⟨_, _, _, rfl, HF⟩)
          | (have HF : Hid (T2 XR w2 ((wB.setCell ⟨wA.heap.size, 0, none⟩ (.pointer (some ⟨w2.heap.size, 0, none⟩))).setCell ⟨wA.heap.size, 1, none⟩ (.pointer (some ⟨wA.heap.size + 1, 0, none⟩))) wA.heap.size w2.heap.size (wA.heap.size + 1) (max c0 0) (max c1 0)) := Lib.hid (t2_set xr_ok (xr_ok.below HA.out.1 (below_al HB.out.2)) HB.out.1 HY.out (xr_ok.bel HA.out.1).size (by have e : w2.drew.heap.size = w2.heap.size := rfl; omega)); clear HA HB HY q0; go_wp2; go_meet; exact ⟨_, _, _, rfl, HF⟩)
          | (have HF : Hid (T2 XR w2 ((wB.setCell ⟨w2.heap.size, 0, none⟩ (.pointer (some ⟨w2.heap.size + 1, 0, none⟩))).setCell ⟨w2.heap.size, 1, none⟩ (.pointer (some ⟨wA.heap.size, 0, none⟩))) w2.heap.size (w2.heap.size + 1) wA.heap.size (max c0 0) (max c1 0)) := Lib.hid (t2_set xr_ok (xr_ok.below HA.out.1 HB.out.2) HB.out.1 HX.out HB2.out.size (by omega)); clear HA HB HX HZ q0; go_wp2; go_meet; exact ⟨_, _, _, rfl, HF⟩)
    case rest =>
      obtain ⟨gw, r0, r1, rfl, HR2⟩ := hcut
      obtain ⟨w3, hw3⟩ : ∃ w3, w3 = wc := ⟨_, rfl⟩
      rw [← hw3] at HR2 ⊢
      have HT : Hid (TX V w3 gd gw p0 p1 r0 r1 (fun b => b = p0 ∨ b = r0) (fun b => b = p1 ∨ b = r1) (max c0 0) (max c1 0) 0 [] [] [] []) := Lib.hid (tx_start HD2.out HR2.out)
      have HK : Hid ((0 ≤ max c0 0 ∧ max c0 0 ≤ 9223372036854775807) ∧ (0 ≤ max c1 0 ∧ max c1 0 ≤ 9223372036854775807)) := Lib.hid (by
        have h0 := HC.out.1.2
        have h1 := HC.out.2.2
        omega)
      obtain ⟨k0, hk0⟩ : ∃ k0, k0 = max c0 0 := ⟨_, rfl⟩
      obtain ⟨k1, hk1⟩ : ∃ k1, k1 = max c1 0 := ⟨_, rfl⟩
      rw [← hk0, ← hk1] at HT HK
      clear hw3 HD2 HR2 HG HG0 HB2 HBV x0 x1 x2 x3 xl HB1D hk0 hk1 HB1
      go_wp2
      go_loopw [9] (fun i wr => ∃ (j : Nat) (L0 : Fs) (cs0 : List Chg) (L1 : Fs) (cs1 : List Chg), j ≤ len ∧ i = .int .i64 j ∧ Hid (TY V wr gd gw p0 p1 r0 r1 k0 k1 (j * 1048577) L0 cs0 L1 cs1 ∧ SB j (sumB it j) L0 cs0 ∧ SB j (sumB it j) L1 cs1)) (fun i _ => len - (intOf i).toNat)
      case atStart => exact ⟨0, [], [], [], [], Nat.zero_le _, rfl, Lib.hid ⟨by rw [Nat.zero_mul]; exact ⟨_, _, HT.out⟩, ⟨Nat.le_refl _, Nat.le_refl _⟩, ⟨Nat.le_refl _, Nat.le_refl _⟩⟩⟩
      case round =>
        obtain ⟨j, L0, cs0, L1, cs1, hj, rfl, HR⟩ := hrel
        clear HT
        by_cases hjn : j < len
        · have hjn' : (j : Int) < len := by omega
          obtain ⟨hxo, b, off, rfl, hb, hc⟩ := HS.out j hjn
          obtain ⟨x, hx⟩ : ∃ x, x = it j := ⟨_, rfl⟩
          have HXE := Lib.hid hx
          rw [← hx] at hxo hc
          have HSC : Hid (Sc V b (off + j * 5) x) := Lib.hid (by
            have hin := fun i u (hi : (acCells x)[i]? = some u) => (HV.out.1.cell (p := ⟨b, off + j * 5 + i, none⟩) hb).trans (hc i u hi)
            exact ⟨Nat.lt_of_lt_of_le hb HV.out.1.size, hin 0 _ rfl, hin 1 _ rfl, hin 2 _ rfl, hin 3 _ rfl, hin 4 _ rfl⟩)
          have HJ : Hid (j ≤ 1048576 ∧ sumB it j ≤ 1048576 ∧ j + 1 ≤ 1048576 ∧ sumB it (j + 1) ≤ 1048576) := Lib.hid (by
            have h1 := HSM.out.1
            have h2 := sumB_mono it (show j ≤ len by omega)
            have h3 := sumB_mono it (show j + 1 ≤ len by omega)
            omega)
          have HXO : Hid (AcOk x ∧ x.a.size ≤ 1048576 ∧ x.b.size ≤ 1048576) := Lib.hid ⟨hxo, by rw [hx]; exact HSM.out.2 j hjn, by
            have h1 := HJ.out.2.2.2
            rw [show sumB it (j + 1) = sumB it j + x.b.size by rw [hx]; rfl] at h1
            omega⟩
          clear hc hb hxo hx
          go_upto_region 9 with (fail)
          go_cut [42] (fun s wx => (∃ t : Bool, s = .bool t) ∧ wr = wx)
          case first =>
            by_cases h2 : j < len2
            · obtain ⟨b2, off2, rfl, hb2, hc2⟩ := HS2.out j h2
              have h2' : (j : Int) < len2 := by omega
              have hc3 : wr.cell? ⟨b2, off2 + j, none⟩ = some (.bool (bs j)) := ((HV.out.1.trans (HR.out.1.bel.mono HV.out.1.size)).cell (p := ⟨b2, off2 + j, none⟩) hb2).trans hc2
              go_wp2
              all_goals
                go_meet
                exact ⟨⟨_, rfl⟩, rfl⟩
            · have h2' : decide ((j : Int) < len2) = false := by simp; omega
              go_wp2
              all_goals
                go_meet
                exact ⟨⟨_, rfl⟩, rfl⟩
          case rest =>
            obtain ⟨⟨t, rfl⟩, rfl⟩ := hcut
            cases t
            · have HRn : Hid (SB (j + 1) (sumB it (j + 1)) (stX k0 L0 cs0 x).1 (stX k0 L0 cs0 x).2 ∧ SB (j + 1) (sumB it (j + 1)) L1 cs1) := Lib.hid (by
                have ho := HR.out.1.ok0
                rw [show sumB it (j + 1) = sumB it j + x.b.size by rw [HXE.out]; rfl]
                exact ⟨sb_step k0 x HR.out.2.1 ho.1.1 ho.1.2, HR.out.2.2.still _⟩)
              have HA : Hid (∀ wx, TY V wx gd gw p0 p1 r0 r1 k0 k1 (j * 1048577) L0 cs0 L1 cs1 → Calls Try.prog 7 #[.pointer (some ⟨p0, 0, none⟩), .pointer (some ⟨r0, 0, none⟩), .agg #[.int .i64 x.k, .string x.a, .string x.b, .int .i64 x.m, .int .i64 x.n]] wx fun e w' => e = .returned (.bool true) ∧ Hid (TY V w' gd gw p0 p1 r0 r1 k0 k1 ((j + 1) * 1048577) (stX k0 L0 cs0 x).1 (stX k0 L0 cs0 x).2 L1 cs1)) := Lib.hid (fun wx h => ty_act0 x ⟨HXO.out.1, HK.out.1, SB.wide HR.out.2.1 HJ.out.1 HJ.out.2.1, by have := HJ.out.1; omega, by have := HR.out.2.1.len; omega, HXO.out.2.1, HXO.out.2.2, by have := HR.out.2.1.len; have := HJ.out.1; omega⟩ h)
              have HH0 : Hid (∀ wx, TY V wx gd gw p0 p1 r0 r1 k0 k1 ((j + 1) * 1048577) (stX k0 L0 cs0 x).1 (stX k0 L0 cs0 x).2 L1 cs1 → Calls Try.prog 8 #[.pointer (some ⟨p0, 0, none⟩), .pointer (some ⟨r0, 0, none⟩)] wx fun e w' => e = .returned (.bool true) ∧ Hid (TY V w' gd gw p0 p1 r0 r1 k0 k1 ((j + 1) * 1048577) (stX k0 L0 cs0 x).1 (stX k0 L0 cs0 x).2 L1 cs1)) := Lib.hid (fun wx h => ty_hold0 ⟨SB.wide HRn.out.1 HJ.out.2.2.1 HJ.out.2.2.2, by have := HJ.out.2.2.1; omega⟩ h)
              have HH1 : Hid (∀ wx, TY V wx gd gw p0 p1 r0 r1 k0 k1 ((j + 1) * 1048577) (stX k0 L0 cs0 x).1 (stX k0 L0 cs0 x).2 L1 cs1 → Calls Try.prog 8 #[.pointer (some ⟨p1, 0, none⟩), .pointer (some ⟨r1, 0, none⟩)] wx fun e w' => e = .returned (.bool true) ∧ Hid (TY V w' gd gw p0 p1 r0 r1 k0 k1 ((j + 1) * 1048577) (stX k0 L0 cs0 x).1 (stX k0 L0 cs0 x).2 L1 cs1)) := Lib.hid (fun wx h => ty_hold1 ⟨SB.wide HRn.out.2 HJ.out.2.2.1 HJ.out.2.2.2, by have := HJ.out.2.2.1; omega⟩ h)
              go_upto_region 11 with (fail)
              have HTD : Hid (TY V wr.drew gd gw p0 p1 r0 r1 k0 k1 (j * 1048577) L0 cs0 L1 cs1) := Lib.hid (HR.out.1.below (Below.refl _ wr).drew)
              have hS0 := HTD.out.cells HSC.out
              go_region_held3 (fun w' => w'.cell? ⟨gd, 0, none⟩ = some (.pointer (some ⟨p0, 0, none⟩)) ∧ w'.cell? ⟨gd, 1, none⟩ = some (.pointer (some ⟨p1, 0, none⟩)) ∧ w'.cell? ⟨gw, 0, none⟩ = some (.pointer (some ⟨r0, 0, none⟩)) ∧ w'.cell? ⟨gw, 1, none⟩ = some (.pointer (some ⟨r1, 0, none⟩)) ∧ w'.cell? ⟨b, off + j * 5, none⟩ = some (.int .i64 x.k) ∧ w'.cell? ⟨b, off + j * 5 + 1, none⟩ = some (.string x.a) ∧ w'.cell? ⟨b, off + j * 5 + 2, none⟩ = some (.string x.b) ∧ w'.cell? ⟨b, off + j * 5 + 3, none⟩ = some (.int .i64 x.m) ∧ w'.cell? ⟨b, off + j * 5 + 4, none⟩ = some (.int .i64 x.n)) (assumption)
                (first
                  | (go_at_call 7; with_reducible refine (HA.out _ HTD.out).mono ?_; rintro e w6 ⟨rfl, H6⟩; have hS6 := H6.out.cells HSC.out)
                  | (go_at_call 8; with_reducible refine (HH0.out _ H6.out).mono ?_; rintro e w7 ⟨rfl, H7⟩; have hS7 := H7.out.cells HSC.out)
                  | (go_at_call 8; with_reducible refine (HH1.out _ H7.out).mono ?_; rintro e w8 ⟨rfl, H8⟩; have hS8 := H8.out.cells HSC.out))
              all_goals
                have HF := Lib.hid (And.intro H8.out HRn.out)
                clear hS0 hS6 hS7 hS8 H6 H7 H8 HTD HH0 HH1 HA
                go_wp2
                go_roundw
                case rel => exact ⟨j + 1, _, _, _, _, by omega, by simp, HF⟩
                case measure => simp [intOf]; omega
            · have HRn : Hid (SB (j + 1) (sumB it (j + 1)) L0 cs0 ∧ SB (j + 1) (sumB it (j + 1)) (stX k1 L1 cs1 x).1 (stX k1 L1 cs1 x).2) := Lib.hid (by
                have ho := HR.out.1.ok0
                rw [show sumB it (j + 1) = sumB it j + x.b.size by rw [HXE.out]; rfl]
                exact ⟨HR.out.2.1.still _, sb_step k1 x HR.out.2.2 ho.2.1 ho.2.2⟩)
              have HA : Hid (∀ wx, TY V wx gd gw p0 p1 r0 r1 k0 k1 (j * 1048577) L0 cs0 L1 cs1 → Calls Try.prog 7 #[.pointer (some ⟨p1, 0, none⟩), .pointer (some ⟨r1, 0, none⟩), .agg #[.int .i64 x.k, .string x.a, .string x.b, .int .i64 x.m, .int .i64 x.n]] wx fun e w' => e = .returned (.bool true) ∧ Hid (TY V w' gd gw p0 p1 r0 r1 k0 k1 ((j + 1) * 1048577) L0 cs0 (stX k1 L1 cs1 x).1 (stX k1 L1 cs1 x).2)) := Lib.hid (fun wx h => ty_act1 x ⟨HXO.out.1, HK.out.2, SB.wide HR.out.2.2 HJ.out.1 HJ.out.2.1, by have := HJ.out.1; omega, by have := HR.out.2.2.len; omega, HXO.out.2.1, HXO.out.2.2, by have := HR.out.2.2.len; have := HJ.out.1; omega⟩ h)
              have HH0 : Hid (∀ wx, TY V wx gd gw p0 p1 r0 r1 k0 k1 ((j + 1) * 1048577) L0 cs0 (stX k1 L1 cs1 x).1 (stX k1 L1 cs1 x).2 → Calls Try.prog 8 #[.pointer (some ⟨p0, 0, none⟩), .pointer (some ⟨r0, 0, none⟩)] wx fun e w' => e = .returned (.bool true) ∧ Hid (TY V w' gd gw p0 p1 r0 r1 k0 k1 ((j + 1) * 1048577) L0 cs0 (stX k1 L1 cs1 x).1 (stX k1 L1 cs1 x).2)) := Lib.hid (fun wx h => ty_hold0 ⟨SB.wide HRn.out.1 HJ.out.2.2.1 HJ.out.2.2.2, by have := HJ.out.2.2.1; omega⟩ h)
              have HH1 : Hid (∀ wx, TY V wx gd gw p0 p1 r0 r1 k0 k1 ((j + 1) * 1048577) L0 cs0 (stX k1 L1 cs1 x).1 (stX k1 L1 cs1 x).2 → Calls Try.prog 8 #[.pointer (some ⟨p1, 0, none⟩), .pointer (some ⟨r1, 0, none⟩)] wx fun e w' => e = .returned (.bool true) ∧ Hid (TY V w' gd gw p0 p1 r0 r1 k0 k1 ((j + 1) * 1048577) L0 cs0 (stX k1 L1 cs1 x).1 (stX k1 L1 cs1 x).2)) := Lib.hid (fun wx h => ty_hold1 ⟨SB.wide HRn.out.2 HJ.out.2.2.1 HJ.out.2.2.2, by have := HJ.out.2.2.1; omega⟩ h)
              go_upto_region 11 with (fail)
              have HTD : Hid (TY V wr.drew gd gw p0 p1 r0 r1 k0 k1 (j * 1048577) L0 cs0 L1 cs1) := Lib.hid (HR.out.1.below (Below.refl _ wr).drew)
              have hS0 := HTD.out.cells HSC.out
              go_region_held3 (fun w' => w'.cell? ⟨gd, 0, none⟩ = some (.pointer (some ⟨p0, 0, none⟩)) ∧ w'.cell? ⟨gd, 1, none⟩ = some (.pointer (some ⟨p1, 0, none⟩)) ∧ w'.cell? ⟨gw, 0, none⟩ = some (.pointer (some ⟨r0, 0, none⟩)) ∧ w'.cell? ⟨gw, 1, none⟩ = some (.pointer (some ⟨r1, 0, none⟩)) ∧ w'.cell? ⟨b, off + j * 5, none⟩ = some (.int .i64 x.k) ∧ w'.cell? ⟨b, off + j * 5 + 1, none⟩ = some (.string x.a) ∧ w'.cell? ⟨b, off + j * 5 + 2, none⟩ = some (.string x.b) ∧ w'.cell? ⟨b, off + j * 5 + 3, none⟩ = some (.int .i64 x.m) ∧ w'.cell? ⟨b, off + j * 5 + 4, none⟩ = some (.int .i64 x.n)) (assumption)
                (first
                  | (go_at_call 7; with_reducible refine (HA.out _ HTD.out).mono ?_; rintro e w6 ⟨rfl, H6⟩; have hS6 := H6.out.cells HSC.out)
                  | (go_at_call 8; with_reducible refine (HH0.out _ H6.out).mono ?_; rintro e w7 ⟨rfl, H7⟩; have hS7 := H7.out.cells HSC.out)
                  | (go_at_call 8; with_reducible refine (HH1.out _ H7.out).mono ?_; rintro e w8 ⟨rfl, H8⟩; have hS8 := H8.out.cells HSC.out))
              all_goals
                have HF := Lib.hid (And.intro H8.out HRn.out)
                clear hS0 hS6 hS7 hS8 H6 H7 H8 HTD HH0 HH1 HA
                go_wp2
                go_roundw
                case rel => exact ⟨j + 1, _, _, _, _, by omega, by simp, HF⟩
                case measure => simp [intOf]; omega
        · obtain rfl : j = len := by omega
          have HF : Hid (Below W.heap.size W wr) := Lib.hid (HV.out.1.trans (HR.out.1.bel.mono HV.out.1.size))
          go_wp2
          go_ret
          exact ⟨rfl, HF.out⟩

set_option maxRecDepth 100000 in
theorem contractUpto (H : Type) (enc : TypeId × Value → H) (W : World) (base : Nat) (args : Array Value) (ds gs : List (DataW H)) (before : List MemPlace)
    (hval : ∀ (j : Nat) t v, Try.f3.params[j]? = some t → args[j]? = some v → Value.okWide Try.prog W .any base t v)
    (hW : DataW.Whole enc Try.prog Try.f3.params.toList Rows.diskScriptsSpec.vars false W args.toList ds gs before)
    (hz : (DataW.weightsEach Try.prog (Try.f3.params.toList ++ []) (ds ++ gs)).all (· ≤ reachBytes) = true) (hk : Rows.uptoSmall H (ds ++ gs) = true) :
    Calls Try.prog 3 args W fun e W' => ∃ v, e = .returned v ∧ Rows.diskScriptsSpec.post enc Try.prog Try.f3 false true false false W args v W' := by
  have hW' := hW
  obtain ⟨p, q, hA0, hV, rfl, hfz, hnd⟩ := hW
  have hA : DataW.TrodAll enc Try.prog W 0 (fun _ => true) true Try.f3.params.toList args.toList ds p := hA0
  rw [Try.params3] at hA hval hz
  obtain ⟨v0, vs0, d0, ds0, p0, q0, hargs, rfl, rfl, h0, r0⟩ := trodAll_cons hA
  obtain ⟨v1, vs1, d1, ds1, p1, q1, rfl, rfl, rfl, h1, r1⟩ := trodAll_cons r0
  obtain ⟨v2, vs2, d2, ds2, p2, q2, rfl, rfl, rfl, h2, r2⟩ := trodAll_cons r1
  obtain ⟨rfl, rfl, rfl⟩ := trodAll_nil r2
  obtain rfl : args = #[v0, v1, v2] := by cases args; simp_all
  obtain ⟨rfl, rfl⟩ := trodVars_none hV
  obtain ⟨x0, rfl, b0⟩ := open_pair (hval 0 22 v0 rfl rfl) h0
  have hw1 : ∀ m ∈ d1.weights Try.prog 23, m ≤ reachBytes := fun m hm => by
    have hall := List.all_eq_true.1 hz m (DataW.weights_mem_each (j := 1) (t := 23) rfl rfl m hm)
    simpa using hall
  obtain ⟨A, len, cap, it, rfl, hS, hsum, ha⟩ := open_acts2 (hval 1 23 v1 rfl rfl) h1 hw1
  have hw2 : ∀ m ∈ d2.weights Try.prog 24, m ≤ reachBytes := fun m hm => by
    have hall := List.all_eq_true.1 hz m (DataW.weights_mem_each (j := 2) (t := 24) rfl rfl m hm)
    simpa using hall
  obtain ⟨A2, len2, cap2, bs, rfl, hl2, hS2⟩ := open_bools (hval 2 24 v2 rfl rfl) h2 hw2
  have hbulk : Rows.uptoBulk d1 ≤ 1048576 := by
    have h := of_decide_eq_true hk
    simp only [List.append_nil, List.cons_append, List.nil_append, Rows.uptoBulkAll] at h
    omega
  clear hA0
  refine (walk x0.1 x0.2 A len cap it A2 len2 cap2 bs W b0.1 b0.2 hS (Nat.le_trans hsum hbulk) (fun i hi => Nat.le_trans (ha i hi) hbulk) hl2 hS2).mono fun e W' ⟨he, hb⟩ => ?_
  subst he
  exact ⟨_, rfl, law_end hW' rfl rfl hb laidOut (by kernel_rfl) (by kernel_rfl) Try.underlying4⟩

theorem reads (os : Os) {H : Type} (enc : TypeId × Value → H) : ∃ places, DataW.whole enc Try.prog ((World.holding Try.prog os ⟨#[], #[], []⟩).forCall (fun _ _ => 0) ⟨#[], #[.agg #[.int .i64 0, .int .i64 0], .slice none 0 0, .slice none 0 0], []⟩).memory Try.f3.params.toList Rows.diskScriptsSpec.vars false [Value.agg #[.int .i64 0, .int .i64 0], Value.slice none 0 0, Value.slice none 0 0] 8 = some ([.agg [.lit (.int .i64 0), .lit (.int .i64 0)], .nil, .nil], [], places) :=
  ⟨[], by kernel_rfl⟩

set_option maxRecDepth 100000 in
theorem lifted (os : Os) (started : os.Started) (H : Type) (enc : TypeId × Value → H) (F : Stop.Interp) :
    ReturnsInHanded {} Try.checked os 3 .any ((Rows.OpenSpec.upto Rows.diskScriptsSpec).preRow enc Try.prog Try.f3 Rows.diskScriptsUptoRow.domain false Rows.diskScriptsUptoRow.laid) (((Rows.OpenSpec.upto Rows.diskScriptsSpec).at F).post enc Try.prog Try.f3 false true false false) := by
  obtain ⟨places, hx⟩ := reads os enc
  have laid_met : laidMet Try.prog Rows.diskScriptsUptoRow.laid ((World.holding Try.prog os ⟨#[], #[], []⟩).forCall (fun _ _ => 0) ⟨#[], #[.agg #[.int .i64 0, .int .i64 0], .slice none 0 0, .slice none 0 0], []⟩).memory := ⟨[], rfl, List.nodup_nil, fun _ _ h => by cases h⟩
  refine returnsInHanded_of_row (C := Try.checked) (s := Rows.OpenSpec.upto Rows.diskScriptsSpec) own started (by kernel_rfl) Try.func3
    (witness_row_at (enc := enc) (C := Try.checked) false (World.holding Try.prog os ⟨#[], #[], []⟩) #[.agg #[.int .i64 0, .int .i64 0], .slice none 0 0, .slice none 0 0] rfl (by kernel_rfl) (by kernel_rfl) (by kernel_rfl)
      (OpenSpec.preRow_of_cond 8 hx (by kernel_rfl) (fun k hk => by cases hk; kernel_rfl) (by kernel_rfl) laid_met)) ?_
  intro W base args ds gs before hval hW _ hcond hz _ _ _
  exact contractUpto H enc W base args ds gs before hval hW hz (hcond _ rfl)

theorem said : Rows.DiskScriptsUptoSaid :=
  OpenClaim.holds_of_cond 3 Try.f3 rfl rfl rfl rfl rfl rfl rfl ⟨rfl, rfl, rfl, rfl, rfl⟩ rfl rfl rfl rfl rfl (by kernel_rfl) Try.func3 (by kernel_rfl)
    (of_decide_eq_true (by kernel_rfl)) (by unfold Func.isWrapper; first | (rw [if_pos (by decide +kernel)]; kernel_rfl) | (rw [if_neg (by decide +kernel)]; exact ⟨rfl, rfl⟩))
    (fun os started H enc _ F => by rw [OpenClaim.pre_eq_preRow]; exact lifted os started H enc F)

end Go.Proofs.Ytjlhnacdfpbchaa.fnDiskScripts
