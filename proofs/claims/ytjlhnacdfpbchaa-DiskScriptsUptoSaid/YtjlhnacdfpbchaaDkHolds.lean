/- A disk and the reference's beside it hold the same. -/
import Derived.Test.YtjlhnacdfpbchaaDkPair
namespace Go.Proofs.Ytjlhnacdfpbchaa
open Go.RowKit Go.Maps

structure SzH (n : Nat) (L : Fs) (cs : List Chg) : Prop where
  sb : SB 1048576 1048576 L cs
  n : n ≤ 4398046511104
theorem cell_lt {w : World} {g j : Nat} {v : Value} (h : w.cell? ⟨g, j, none⟩ = some v) : g < w.heap.size := by
  rcases Nat.lt_or_ge g w.heap.size with k | k
  · exact k
  · simp [World.cell?, Array.getElem?_eq_none k] at h
set_option maxRecDepth 100000 in
set_option maxHeartbeats 8000000 in
theorem holds_X {W w : World} {p r : Nat} {U : Nat → Prop} {cap : Int} {n : Nat} {L : Fs} {cs : List Chg} (h : Hid (PX W w p r U cap n L cs L cs)) (hz : SzH n L cs) :
    Calls Try.prog 8 #[.pointer (some ⟨p, 0, none⟩), .pointer (some ⟨r, 0, none⟩)] w fun e w' => e = .returned (.bool true) ∧ Hid (Below w.heap.size w w') := by
  obtain ⟨S, R, hd, hr, _⟩ := h.out.pr
  have HD := Lib.hid hd
  have HR := Lib.hid hr
  have hk : SzK L cs := ⟨by have := hz.sb.len; omega, by have := hz.sb.tot; omega⟩
  have HH := Lib.hid (heldS hr hk)
  obtain ⟨v0, u0, kr, _, _⟩ := hr.st
  obtain ⟨ua, uc, rfl⟩ := kr.cv.slice
  have HKR := Lib.hid kr
  clear kr
  have hll := len_held L cs
  have HL : Hid (∀ wx, Below w.heap.size w wx → Calls Try.prog 24 #[.pointer (some ⟨p, 0, none⟩)] wx fun e w' => ∃ v, e = .returned v ∧ Hid (LsRow wx w' v (namesF (held L cs)) ∧ Below wx.heap.size wx w')) := Lib.hid (fun wx hb => list_K (Lib.hid (hd.below hb)) (by have := hz.n; omega) (by have := hz.sb.len; omega))
  have HU : Hid (∀ wx, Below w.heap.size w wx → Calls Try.prog 25 #[.pointer (some ⟨p, 0, none⟩)] wx fun e w' => e = .returned (.int .i64 (totF (held L cs))) ∧ wx = w') := Lib.hid (fun wx hb => used_K (Lib.hid (hd.below hb)))
  have HUR : Hid (∀ wx, Below w.heap.size w wx → Calls Try.prog 26 #[.pointer (some ⟨r, 0, none⟩)] wx fun e w' => e = .returned (.int .i64 (totF (held L cs))) ∧ Below wx.heap.size wx w') := Lib.hid (fun wx hb => used_R (Lib.hid (hr.below hb)) hk)
  have HP : Hid (∀ wx, Below w.heap.size w wx → Calls Try.prog 27 #[.pointer (some ⟨p, 0, none⟩)] wx fun e w' => e = .returned (.int .i64 cs.length) ∧ wx = w') := Lib.hid (fun wx hb => pending_K (Lib.hid (hd.below hb)))
  have HRD : Hid (∀ q, q.size ≤ 64 → ∀ wx, Below w.heap.size w wx → Calls Try.prog 12 #[.pointer (some ⟨p, 0, none⟩), .string q] wx fun e w' => e = .returned (.tuple #[.string (rdS (held L cs) q), .int .i64 (rdE (held L cs) q)]) ∧ wx = w') := Lib.hid (fun q hq wx hb => read_K q (Lib.hid (hd.below hb)) (by unfold maxLen; omega))
  have HRS : Hid (SrtF (held L cs) ∧ NmF (held L cs)) := Lib.hid ⟨srt_held hd.srt cs, nm_held hd.m.nm cs hd.m.ok⟩
  have hln : (held L cs).length ≤ 1048576 := by have := hz.sb.len; omega
  clear hd hk hll hz h
  generalize held L cs = H at *
  go_enter Try.func8, Try.ntmps8
  go_wp2_with (fail)
  refine HH.out.mono ?_
  rintro e w1 ⟨o, rfl, H1⟩
  go_wp2_with (fail)
  refine (HL.out _ H1.out.2).mono ?_
  rintro e w2 ⟨v, rfl, H2⟩
  obtain ⟨a1, c1, rfl⟩ := H1.out.1.slice
  obtain ⟨a2, c2, e2, hl2⟩ := H2.out.1.sl
  subst e2
  have hnl : (namesF H).length = H.length := List.length_map ..
  rw [hnl] at H2 ⊢
  have HB2 : Hid (Below w.heap.size w w2) := Lib.hid (H1.out.2.trans (H2.out.2.mono H1.out.2.size))
  have HBD : Hid (Below w.heap.size w w2.drew) := Lib.hid HB2.out.drew
  have HV : Hid (FV 0 w2 (.slice a1 H.length c1) H) := Lib.hid (H1.out.1.below H2.out.2)
  have HL2 := Lib.hid hl2
  clear hl2 hnl HL HH
  go_upto_region 3 with (fail)
  go_cut [35] (fun c wx => c = .bool false ∧ Hid (Below w.heap.size w wx ∧ Below w2.heap.size w2 wx))
  case first =>
    have HBE : Hid (Below w2.heap.size w2 w2.drew) := Lib.hid (Below.refl _ w2).drew
    go_region_with (first
      | (go_at_call 25; with_reducible refine (HU.out _ HBD.out).mono ?_; rintro e w3 ⟨rfl, rfl⟩)
      | (go_at_call 26; with_reducible refine (HUR.out _ HBD.out).mono ?_; rintro e w3 ⟨rfl, hb3⟩; have HB3 := Lib.hid (HBD.out.trans (hb3.mono HBD.out.size)); have HB4 := Lib.hid (HBE.out.trans (hb3.mono HBE.out.size)); clear hb3; have y2 := (HKR.out.below HB3.out).c2)
      | (go_at_call 27; with_reducible refine (HP.out _ HB3.out).mono ?_; rintro e w4 ⟨rfl, rfl⟩))
    all_goals
      have HF : Hid (Below w.heap.size w w3 ∧ Below w2.heap.size w2 w3) := Lib.hid ⟨HB3.out, HB4.out⟩
      clear HB3 HB4 y2
      first
        | (go_meet; exact ⟨rfl, HF⟩)
        | (go_wp2; go_meet; exact ⟨rfl, HF⟩)
  case rest =>
    obtain ⟨rfl, HC⟩ := hcut
    have hli : (H.length : Int) ≤ 9223372036854775807 := by omega
    go_wp2
    go_loopw [7] (fun i wy => ∃ j : Nat, j ≤ H.length ∧ i = .int .i64 j ∧ Hid (Below wc.heap.size wc wy)) (fun i _ => H.length - (intOf i).toNat)
    case atStart => exact ⟨0, Nat.zero_le _, rfl, Lib.hid (Below.refl _ _)⟩
    case round =>
      obtain ⟨j, hj, rfl, HB⟩ := hrel
      have HBY : Hid (Below w.heap.size w wr) := Lib.hid (HC.out.1.trans (HB.out.mono HC.out.1.size))
      have HBZ : Hid (Below w2.heap.size w2 wr) := Lib.hid (HC.out.2.trans (HB.out.mono HC.out.2.size))
      by_cases hjn : j < H.length
      · have hjn' : (j : Int) < H.length := by omega
        obtain ⟨x, hx⟩ : ∃ x, H[j]? = some x := ⟨_, List.getElem?_eq_getElem hjn⟩
        obtain ⟨g1, cap1, e, d0, d1⟩ := (HV.out.below HBZ.out).cells hx
        injection e with e1 _ e3
        subst e1
        subst e3
        obtain ⟨g2, e, hg2, f0⟩ := HL2.out j x.n (by show (H.map (·.n))[j]? = _; rw [List.getElem?_map, hx]; rfl)
        subst e
        have f1 := (HBZ.out.cell (p := ⟨g2, j, none⟩) (cell_lt f0)).trans f0
        have hxs : x.n.size ≤ 64 := HRS.out.2 x (List.mem_of_getElem? hx)
        have hgx := mem_getF HRS.out.1 (List.mem_of_getElem? hx)
        have e4 : rdS H x.n = x.d := by unfold rdS; rw [hgx]; rfl
        have e5 : rdE H x.n = 0 := by unfold rdE; rw [hgx]; rfl
        have HRX := Lib.hid (HRD.out x.n hxs)
        rw [e4, e5] at HRX
        have q1 := str_eq x.n
        have q2 := str_eq x.d
        clear e4 e5 hgx hxs hx f0
        go_wp2_with (fail)
        refine (HRX.out _ HBY.out).mono ?_
        rintro e w4 ⟨rfl, rfl⟩
        go_upto_region 9 with (fail)
        go_quiet (fail)
        go_wp2
        go_roundw
        case rel => exact ⟨j + 1, by omega, by simp, Lib.hid (HB.out.trans ((below_dn' _ _).mono HB.out.size))⟩
        case measure => simp [intOf]; omega
      · obtain rfl : j = H.length := by omega
        go_wp2
        go_ret
        exact ⟨rfl, HBY⟩
end Go.Proofs.Ytjlhnacdfpbchaa
