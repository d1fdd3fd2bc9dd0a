/- The reference's disk: a file is laid in; a change is done. -/
import Derived.Test.YtjlhnacdfpbchaaDkRefA
namespace Go.Proofs.Ytjlhnacdfpbchaa
open Go.RowKit Go.Maps

theorem fl_cells (w : World) (x : Fl) : ∀ j u, (flC x)[j]? = some u → (w.alloc (.cells #[.string x.n, .string x.d] 66)).cell? ((⟨w.heap.size, 0, none⟩ : Addr).add j) = some u := by
  intro j u hj
  match j, hj with
  | 0, hj => simp at hj; subst hj; simp [Addr.add]
  | 1, hj => simp at hj; subst hj; simp [Addr.add]
theorem fl_one (x : Fl) : ∀ u ∈ flC x, u.oneCell' = true := by intro u hu; simp at hu; rcases hu with rfl | rfl <;> rfl
theorem Bf.dn {w wr : World} {o : Value} {O : Fs} (h : Bf w wr o O) (n : Nat) : Bf w (wr.drewN n) o O := ⟨⟨h.bel.os, h.bel.tape, h.bel.output, h.bel.size, h.bel.block⟩, h.row⟩
theorem Bf.low {w w1 wr : World} {o : Value} {O : Fs} (h : Bf w1 wr o O) (hb : Below w.heap.size w w1) : Bf w wr o O :=
  ⟨hb.trans (h.bel.mono hb.size), (FV.base ⟨h.row⟩ hb.size).row⟩
set_option maxRecDepth 100000 in
set_option maxHeartbeats 4000000 in
theorem lay_any {B : Nat} {w : World} {v : Value} {L : Fs} (q d : ByteArray) (h : FV B w v L) (hs : SrtF L) (hL : L.length ≤ 1099511627776) :
    Calls Try.prog 39 #[v, .agg #[.string q, .string d]] w fun e w' => ∃ o, e = .returned o ∧ Hid (Bf w w' o (putF L q d)) := by
  have HH := Lib.hid h
  obtain ⟨a, c, rfl⟩ := h.slice
  have hLi : (L.length : Int) ≤ 9223372036854775807 := by omega
  have HL := Lib.hid hL
  have HP := Lib.hid (putF_cut L q d hs)
  have HCT := Lib.hid (ct_le q L)
  obtain ⟨m, hm⟩ : ∃ m, m = ctF q L := ⟨_, rfl⟩
  have HM := Lib.hid hm
  rw [← hm] at HP HCT
  obtain ⟨i0, hi, hz0, hz1, hz2⟩ := info_parts infoFile
  have HI := Lib.hid (And.intro hi (And.intro hz0 (And.intro hz1 hz2)))
  clear h hL hi hz0 hz1 hz2 hs hm
  go_enter Try.func39, Try.ntmps39
  go_wp2
  obtain ⟨g, hg⟩ : ∃ g, g = w.heap.size := ⟨_, rfl⟩
  obtain ⟨w1, hw1⟩ : ∃ w1, w1 = w.alloc (.cells #[.string q, .string d] 66) := ⟨_, rfl⟩
  have HW1 : Hid (Below w.heap.size w w1 ∧ w1.cell? ⟨g, 0, none⟩ = some (.string q) ∧ w1.cell? ⟨g, 1, none⟩ = some (.string d) ∧ g < w1.heap.size) := Lib.hid (by
    rw [hw1, hg]
    exact ⟨(Below.refl _ w).alloc (Nat.le_refl _) _, by simp, by simp, by simp⟩)
  rw [← hw1, ← hg]
  clear hw1 hg
  go_loopw [5, 6] (fun o i wr => ∃ k, k ≤ m ∧ i = .int .i64 k ∧ Hid (Bf w1 wr o (L.take k))) (fun _ i _ => L.length - (intOf i).toNat)
  case atStart => exact ⟨0, Nat.zero_le _, rfl, Lib.hid (bf_nil w1)⟩
  case round =>
    obtain ⟨k, hk, rfl, HB⟩ := hrel
    have hb := HW1.out.1.trans (HB.out.bel.mono HW1.out.1.size)
    have x0 := (HB.out.bel.cell (p := ⟨g, 0, none⟩) HW1.out.2.2.2).trans HW1.out.2.1
    have x1 := (HB.out.bel.cell (p := ⟨g, 1, none⟩) HW1.out.2.2.2).trans HW1.out.2.2.1
    have hkl : k ≤ L.length := by have := HCT.out; omega
    by_cases hkm : k < m
    · have hkn : k < L.length := by have := HCT.out; omega
      obtain ⟨x, hx⟩ : ∃ x, L[k]? = some x := ⟨_, List.getElem?_eq_getElem hkn⟩
      obtain ⟨gg, cap, e, d0, d1⟩ := (HH.out.below hb).cells hx
      injection e with e1 _ e3
      subst e1
      subst e3
      have hkn' : (k : Int) < L.length := by omega
      have hlt : Op.bytesLess x.n.toList q.toList = true := by
        rw [Lib.toList_data, Lib.toList_data, bytesLess_lt]
        exact ct_below q L k x hx (by rw [← HM.out]; exact hkm)
      have HN := Lib.hid (show L.take (k + 1) = L.take k ++ [x] by rw [List.take_add_one, hx]; rfl)
      have HLN := Lib.hid (show (L.take k).length ≤ L.length by simp; omega)
      obtain ⟨O, hO⟩ : ∃ O, O = L.take k := ⟨_, rfl⟩
      rw [← hO] at HB HN HLN
      clear hx hO hb
      go_wp2_with (fail)
      go_quiet (fail)
      have HB := Lib.hid (HB.out.dn nq)
      have d0 : (wr.drewN nq).cell? ⟨gg, k * 2, none⟩ = some (.string x.n) := d0
      have d1 : (wr.drewN nq).cell? ⟨gg, k * 2 + 1, none⟩ = some (.string x.d) := d1
      obtain ⟨wd, hwd⟩ : ∃ wd, wd = wr.drewN nq := ⟨_, rfl⟩
      rw [← hwd] at HB d0 d1 ⊢
      clear hwd x0 x1
      go_wp2_with (first
        | (at_builtin; refine wpList_append_own _ rfl _ _ 47 rfl w1.heap.size 66 i0 (.agg #[.string ⟨#[]⟩, .string ⟨#[]⟩]) 2 32 Try.underlying47 HI.out.1 HI.out.2.1 HI.out.2.2.1 HI.out.2.2.2 rfl (by decide) _ _ _ rfl (HB.out.row.alloc _) ⟨wd.heap.size, 0, none⟩ 1 1 (flC x) rfl rfl (fl_cells _ x) (fl_one x) (by have := HLN.out; have := HL.out; unfold maxLen; omega) (by have := HLN.out; have := HL.out; omega) (by have := HB.out.bel.size; simp; omega) ?_)
        | go_in)
      intro o' w2 hown' hgrow' _
      have HB2 := Lib.hid (HB.out.put (x := x) hown' hgrow')
      clear hown' hgrow'
      go_wp2
      go_roundw
      case rel => exact ⟨k + 1, by omega, by simp, by rw [HN.out]; exact HB2⟩
      case measure => simp [intOf]; omega
    · obtain rfl : k = m := by omega
      obtain ⟨O, hO⟩ : ∃ O, O = L.take k := ⟨_, rfl⟩
      have HO := Lib.hid hO
      have HLN := Lib.hid (show O.length ≤ L.length by rw [hO]; simp; omega)
      rw [← hO] at HB HP
      clear hO hkm hk
      have hcase : (∃ x, L[k]? = some x ∧ x.n = q) ∨ (∃ x, L[k]? = some x ∧ ¬ x.n = q) ∨ ¬ k < L.length := by
        by_cases hkn : k < L.length
        · obtain ⟨x, hx⟩ : ∃ x, L[k]? = some x := ⟨_, List.getElem?_eq_getElem hkn⟩
          by_cases hq : x.n = q
          · exact .inl ⟨x, hx, hq⟩
          · exact .inr (.inl ⟨x, hx, hq⟩)
        · exact .inr (.inr hkn)
      rcases hcase with ⟨x, hx, hq⟩ | ⟨x, hx, hq⟩ | hkn
      case' inl =>
        obtain ⟨gg, cap, e, d0, d1⟩ := (HH.out.below hb).cells hx
        injection e with e1 _ e3
        subst e1
        subst e3
        have hkn := (List.getElem?_eq_some_iff.1 hx).1
        have hkn' : (k : Int) < L.length := by omega
        have hlt : Op.bytesLess x.n.toList q.toList = false := by
          rw [Lib.toList_data, Lib.toList_data, bytesLess_lt]
          exact ct_at q L x (by rw [← HM.out]; exact hx)
        have HRX : Hid (((rsF q L : Nat) : Int) = (k : Int) + 1 ∧ rsF q L ≤ L.length) := Lib.hid (by
          have h : rsF q L = k + 1 := by unfold rsF; rw [← HM.out, hx]; simp [hq]
          rw [h]
          exact ⟨by simp, hkn⟩)
        have HDX : Hid (∀ wx, Below w.heap.size w wx → wx.cell? ⟨gg, k * 2, none⟩ = some (.string x.n)) := Lib.hid (fun wx hbx => by
          obtain ⟨g2, c2, e, d, _⟩ := (HH.out.below hbx).cells hx
          injection e with e1 _ _
          injection e1 with e1
          injection e1 with e1 _
          rw [e1]
          exact d)
        have hcmp : (x.n.toList == q.toList) = true := by rw [hq]; simp
        clear hx hb hkn hq
        go_upto_region 3 with (fail)
        go_quiet (fail)
        clear hlt
      case' inr.inl =>
        obtain ⟨gg, cap, e, d0, d1⟩ := (HH.out.below hb).cells hx
        injection e with e1 _ e3
        subst e1
        subst e3
        have hkn := (List.getElem?_eq_some_iff.1 hx).1
        have hkn' : (k : Int) < L.length := by omega
        have hlt : Op.bytesLess x.n.toList q.toList = false := by
          rw [Lib.toList_data, Lib.toList_data, bytesLess_lt]
          exact ct_at q L x (by rw [← HM.out]; exact hx)
        have HRX : Hid (((rsF q L : Nat) : Int) = (k : Int) ∧ rsF q L ≤ L.length) := Lib.hid (by
          have h : rsF q L = k := by unfold rsF; rw [← HM.out, hx]; simp [hq]
          rw [h]
          exact ⟨rfl, Nat.le_of_lt hkn⟩)
        have HDX : Hid (∀ wx, Below w.heap.size w wx → wx.cell? ⟨gg, k * 2, none⟩ = some (.string x.n)) := Lib.hid (fun wx hbx => by
          obtain ⟨g2, c2, e, d, _⟩ := (HH.out.below hbx).cells hx
          injection e with e1 _ _
          injection e1 with e1
          injection e1 with e1 _
          rw [e1]
          exact d)
        have hcmp := str_ne hq
        clear hx hb hkn hq
        go_upto_region 3 with (fail)
        go_quiet (fail)
        clear hlt
      case' inr.inr =>
        have hkn2 : decide ((k : Int) < (L.length : Int)) = false := by simp; omega
        have hkn3 : decide (k < L.length) = false := by simp; omega
        have HRX : Hid (((rsF q L : Nat) : Int) = (k : Int) ∧ rsF q L ≤ L.length) := Lib.hid (by
          have h : rsF q L = k := by unfold rsF; rw [← HM.out, List.getElem?_eq_none (by omega)]; rfl
          rw [h]
          exact ⟨rfl, hkl⟩)
        have HDX : Hid (∀ wx, Below w.heap.size w wx → True) := Lib.hid (fun _ _ => trivial)
        clear hb hkn
        go_upto_region 3 with (fail)
        go_quiet (fail)
      all_goals
        have HB := Lib.hid (HB.out.dn nq)
        have x0 : (wr.drewN nq).cell? ⟨g, 0, none⟩ = some (.string q) := x0
        have x1 : (wr.drewN nq).cell? ⟨g, 1, none⟩ = some (.string d) := x1
        obtain ⟨wd, hwd⟩ : ∃ wd, wd = wr.drewN nq := ⟨_, rfl⟩
        rw [← hwd] at HB x0 x1 ⊢
        clear hwd
        go_wp2_with (first
          | (at_builtin; refine wpList_append_own _ rfl _ _ 47 rfl w1.heap.size 66 i0 (.agg #[.string ⟨#[]⟩, .string ⟨#[]⟩]) 2 32 Try.underlying47 HI.out.1 HI.out.2.1 HI.out.2.2.1 HI.out.2.2.2 rfl (by decide) _ _ _ rfl (HB.out.row.alloc _) ⟨wd.heap.size, 0, none⟩ 1 1 (flC ⟨q, d⟩) rfl rfl (fl_cells _ ⟨q, d⟩) (fl_one ⟨q, d⟩) (by have := HLN.out; have := HL.out; unfold maxLen; omega) (by have := HLN.out; have := HL.out; omega) (by have := HB.out.bel.size; simp; omega) ?_)
          | go_in)
        intro o' w2 hown' hgrow' _
        have HB2 := Lib.hid (HB.out.put (x := ⟨q, d⟩) hown' hgrow')
        clear hown' hgrow' x0 x1
        obtain ⟨a2, c2, rfl⟩ := HB2.out.slice
        have y0 := (HB2.out.bel.cell (p := ⟨g, 0, none⟩) HW1.out.2.2.2).trans HW1.out.2.1
        have HBX : Hid (Below w.heap.size w w2) := Lib.hid (HW1.out.1.trans (HB2.out.bel.mono HW1.out.1.size))
        have d0 := HDX.out w2 HBX.out
        go_upto_region 7 with (fail)
        go_quiet (fail)
        have HB3 := Lib.hid (HB2.out.dn nq)
        clear HB2 HDX HBX
        obtain ⟨w3, hw3⟩ : ∃ w3, w3 = w2.drewN nq := ⟨_, rfl⟩
        rw [← hw3] at HB3 ⊢
        clear hw3 y0 d0
        obtain ⟨O2, hO2⟩ : ∃ O2 : Fs, O2 = O ++ [⟨q, d⟩] := ⟨_, rfl⟩
        have HO2 := Lib.hid hO2
        rw [← hO2] at HB3 ⊢
        have HLO : Hid (O2.length ≤ L.length + 1) := Lib.hid (by rw [hO2, List.length_append]; have := HLN.out; simp only [List.length_cons, List.length_nil]; omega)
        clear hO2
        obtain ⟨rs, hrs⟩ : ∃ rs, rs = rsF q L := ⟨_, rfl⟩
        have HRS := Lib.hid hrs
        rw [← hrs] at HRX HP
        clear hrs
        go_wp2
        go_loopw [5, 6] (fun o i wr => ∃ j, rs + j ≤ L.length ∧ i = .int .i64 ((rs + j : Nat) : Int) ∧ Hid (Bf w1 wr o (O2 ++ (L.drop rs).take j))) (fun _ i _ => L.length - (intOf i).toNat)
        case atStart => exact ⟨0, HRX.out.2, by rw [Nat.add_zero, HRX.out.1], by rw [List.take_zero, List.append_nil]; exact HB3⟩
        case round =>
          obtain ⟨j, hj, rfl, HB4⟩ := hrel
          clear HB3
          obtain ⟨i, hi⟩ : ∃ i, i = rs + j := ⟨_, rfl⟩
          rw [← hi]
          obtain ⟨O3, hO3⟩ : ∃ O3, O3 = O2 ++ (L.drop rs).take j := ⟨_, rfl⟩
          have HI3 := Lib.hid (And.intro hi (And.intro hO3 (show O3.length ≤ L.length + L.length + 1 by
            have := HLO.out
            rw [hO3]
            simp
            omega)))
          rw [← hO3] at HB4
          by_cases hin : i < L.length
          · obtain ⟨x, hx⟩ : ∃ x, L[i]? = some x := ⟨_, List.getElem?_eq_getElem hin⟩
            obtain ⟨g5, c5, e5, d0, d1⟩ := (HH.out.below (HW1.out.1.trans (HB4.out.bel.mono HW1.out.1.size))).cells hx
            injection e5 with e1 _ e3
            cases e1
            cases e3
            have hin' : (i : Int) < L.length := by omega
            have hN := Lib.hid (show O2 ++ (L.drop rs).take (j + 1) = O3 ++ [x] by
              rw [hO3, List.take_add_one, List.getElem?_drop, ← hi, hx]
              simp)
            clear hx hO3 hi hj
            go_wp2_with (first
              | (at_builtin; refine wpList_append_own _ rfl _ _ 47 rfl w1.heap.size 66 i0 (.agg #[.string ⟨#[]⟩, .string ⟨#[]⟩]) 2 32 Try.underlying47 HI.out.1 HI.out.2.1 HI.out.2.2.1 HI.out.2.2.2 rfl (by decide) _ _ _ rfl (HB4.out.row.alloc _) ⟨_, 0, none⟩ 1 1 (flC x) rfl rfl (fl_cells _ x) (fl_one x) (by have := HI3.out.2.2; have := HL.out; unfold maxLen; omega) (by have := HI3.out.2.2; have := HL.out; omega) (by have := HB4.out.bel.size; simp; omega) ?_)
              | go_in)
            intro o5 w5 hown' hgrow' _
            have HB5 := Lib.hid (HB4.out.put (x := x) hown' hgrow')
            clear hown' hgrow'
            go_wp2
            go_roundw
            case rel => exact ⟨j + 1, by have := HI3.out.1; omega, by have := HI3.out.1; simp; omega, Lib.hid (by rw [hN.out]; exact HB5.out)⟩
            case measure => simp [intOf]; omega
          · have hil : i = L.length := by omega
            have hdr : O3 = putF L q d := by
              rw [HP.out, hO3, HO2.out, HO.out, List.take_of_length_le (l := L.drop rs) (i := j) (by rw [List.length_drop]; omega)]
              simp
            have HF : Hid (Bf w wr u5 (putF L q d)) := Lib.hid (by rw [← hdr]; exact HB4.out.low HW1.out.1)
            have hin2 : decide ((i : Int) < (L.length : Int)) = false := by simp; omega
            have hin3 : decide (i < L.length) = false := by simp; omega
            clear hin hi hO3 hj hil hdr HB4
            go_wp2
            go_ret
            exact ⟨_, rfl, HF⟩
end Go.Proofs.Ytjlhnacdfpbchaa
