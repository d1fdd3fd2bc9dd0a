/- RecordDecodes is true of every text whose reading is of bulk at most 1048576: the message that the bytes are, or why they are none, as new memory each time. -/
import Derived.Test.YtndcmjgjecdgcaaDoorRecDecU

import Derived.Test.YtndcmjgjecdgcaaDoorLawEnd

import Derived.Test.YtndcmjgjecdgcaaDoorRecLaid

namespace Go.Proofs.YtndcmjgjecdgcaaDoor.fnRecordDecodes
open Go.ChangeShapes Go.WideShapes Go.ChangeAt Go.RowKit Go.WideMaps Go.WideElems
open Go.ChangeMaps (open_string)

set_option maxRecDepth 100000 in
set_option maxHeartbeats 4000000 in
theorem walk (s : ByteArray) (w : World) (hS : Shp w) (hs : s.size ≤ 1048576) :
    Calls Tryd.prog 4 #[.string s] w fun e w' => e = .returned (.bool true) ∧ Below w.heap.size w w' := by
  have HS := Lib.hid hS
  have hs2 : s.size ≤ 16777216 := by omega
  obtain ⟨m, hm⟩ : ∃ m, decM (dec s.size s.data.toList) = m := ⟨_, rfl⟩
  have HM := Lib.hid hm
  clear hS hm hs
  obtain ⟨k, c, i, ns, ts, er⟩ := m
  go_enter Tryd.func4, Tryd.ntmps4
  go_wp2_with (fail)
  refine (speaks9_any _ HS.out).mono ?_
  rintro e w1 ⟨rfl, hb1⟩
  have B1 := Lib.hid hb1
  clear hb1
  go_wp2_with (fail)
  refine (decode_msg s w1 (HS.out.below B1.out (Nat.le_refl _)) hs2).mono ?_
  rw [HM.out]
  rintro e w2 ⟨A1, n1, C1, t1, rfl, hb2, hm2, ho2, hp2⟩
  simp only at hm2 ho2 hp2 ⊢
  have B2 := Lib.hid (B1.out.trans (hb2.mono B1.out.size))
  have O2 := Lib.hid (And.intro hm2 (And.intro ho2 hp2))
  have M2 := Lib.hid (M5.new w2 k c i A1 ns.length n1 C1 ts.length t1 27)
  clear hb2 hm2 ho2 hp2
  go_wp2_with (fail)
  refine (decode_msg s (w2.alloc (.cells #[.int .i64 k, .int .i64 c, .int .i64 i, .slice A1 ns.length n1, .slice C1 ts.length t1] 27)) (HS.out.below (B2.out.trans ((below_alloc w2 _).mono B2.out.size)) (Nat.le_refl _)) hs2).mono ?_
  rw [HM.out]
  rintro e w3 ⟨A2, n2, C2, t2, rfl, hb3, hm3, ho3, hp3⟩
  simp only at hm3 ho3 hp3 ⊢
  have B3 := Lib.hid ((B2.out.trans ((below_alloc w2 (.cells #[.int .i64 k, .int .i64 c, .int .i64 i, .slice A1 ns.length n1, .slice C1 ts.length t1] 27)).mono B2.out.size)).trans (hb3.mono (by have := B2.out.size; simp; omega)))
  have Z3 := Lib.hid (show w2.heap.size < w3.heap.size by have := hb3.size; simp at this; omega)
  have M3 := Lib.hid (M2.out.below hb3 (by simp))
  have O3 := Lib.hid (And.intro hm3 (And.intro (own_down ho3 (B' := w2.heap.size) (by simp; omega)) (own_down hp3 (B' := w2.heap.size) (by simp; omega))))
  have P3 := Lib.hid (And.intro ((O2.out.1.below ((below_alloc w2 (.cells #[.int .i64 k, .int .i64 c, .int .i64 i, .slice A1 ns.length n1, .slice C1 ts.length t1] 27)).trans (hb3.mono (by simp)))).up (B' := w3.heap.size) (by have := hb3.size; simp at this; omega)) (And.intro (own_below (O2.out.2.1.alloc (.cells #[.int .i64 k, .int .i64 c, .int .i64 i, .slice A1 ns.length n1, .slice C1 ts.length t1] 27)) hb3) (own_below (O2.out.2.2.alloc (.cells #[.int .i64 k, .int .i64 c, .int .i64 i, .slice A1 ns.length n1, .slice C1 ts.length t1] 27)) hb3)))
  have N3 := Lib.hid (M5.new w3 k c i A2 ns.length n2 C2 ts.length t2 27)
  have L1 : Hid ((ns.length = 0 ∨ ∃ g, A1 = some ⟨g, 0, none⟩ ∧ w1.heap.size ≤ g ∧ g < w2.heap.size) ∧ (ts.length = 0 ∨ ∃ g, C1 = some ⟨g, 0, none⟩ ∧ w1.heap.size ≤ g ∧ g < w2.heap.size)) := Lib.hid (by
    constructor
    · rcases own_cases O2.out.2.1 with h | ⟨g, h1, h2, h3, _⟩
      · exact .inl h
      · exact .inr ⟨g, h1, by omega, h3⟩
    · rcases own_cases O2.out.2.2 with h | ⟨g, h1, h2, h3, _⟩
      · exact .inl h
      · exact .inr ⟨g, h1, by omega, h3⟩)
  clear hb3 hm3 ho3 hp3 M2 O2 B2
  go_wp2_with (fail)
  refine (rdecode_msg s (w3.alloc (.cells #[.int .i64 k, .int .i64 c, .int .i64 i, .slice A2 ns.length n2, .slice C2 ts.length t2] 27)) hs2).mono ?_
  rw [HM.out]
  rintro e w4 ⟨A3, n3, C3, t3, rfl, hb4, hm4, ho4, hp4⟩
  simp only at hm4 ho4 hp4 ⊢
  have hb34 := (below_alloc w3 (.cells #[.int .i64 k, .int .i64 c, .int .i64 i, .slice A2 ns.length n2, .slice C2 ts.length t2] 27)).trans (hb4.mono (by simp))
  have B4 := Lib.hid (B3.out.trans (hb34.mono B3.out.size))
  have Z4 := Lib.hid (show w3.heap.size < w4.heap.size by have := hb4.size; simp at this; omega)
  have M4 := Lib.hid (M3.out.below hb34 M3.out.lt)
  have N4 := Lib.hid (N3.out.below hb4 (by simp))
  have O4 := Lib.hid (And.intro ((O3.out.1.below hb34).up hb34.size) (And.intro (own_below O3.out.2.1 hb34) (own_below O3.out.2.2 hb34)))
  have P4 := Lib.hid (And.intro ((P3.out.1.below hb34).up hb34.size) (And.intro (own_below P3.out.2.1 hb34) (own_below P3.out.2.2 hb34)))
  have Q4 := Lib.hid (And.intro hm4 (And.intro (own_down ho4 (B' := w2.heap.size) (by have := Z3.out; simp; omega)) (own_down hp4 (B' := w2.heap.size) (by have := Z3.out; simp; omega))))
  have K4 := Lib.hid (M5.new w4 k c i A3 ns.length n3 C3 ts.length t3 33)
  clear hb34 hb4 hm4 ho4 hp4 M3 N3 O3 P3 B3
  obtain ⟨q1, hq1⟩ : ∃ q, q = w2.heap.size := ⟨_, rfl⟩
  obtain ⟨q2, hq2⟩ : ∃ q, q = w3.heap.size := ⟨_, rfl⟩
  obtain ⟨q3, hq3⟩ : ∃ q, q = w4.heap.size := ⟨_, rfl⟩
  obtain ⟨w5, hw5⟩ : ∃ w5, w5 = w4.alloc (.cells #[.int .i64 k, .int .i64 c, .int .i64 i, .slice A3 ns.length n3, .slice C3 ts.length t3] 33) := ⟨_, rfl⟩
  have hb45 := below_alloc w4 (.cells #[.int .i64 k, .int .i64 c, .int .i64 i, .slice A3 ns.length n3, .slice C3 ts.length t3] 33)
  rw [← hq1] at M4
  rw [← hq2] at N4
  have M6 := Lib.hid (M4.out.below hb45 M4.out.lt)
  have N6 := Lib.hid (N4.out.below hb45 N4.out.lt)
  have O6 := Lib.hid (And.intro ((O4.out.1.below hb45).up hb45.size) (And.intro (own_below O4.out.2.1 hb45) (own_below O4.out.2.2 hb45)))
  have P6 := Lib.hid (And.intro ((P4.out.1.below hb45).up hb45.size) (And.intro (own_below P4.out.2.1 hb45) (own_below P4.out.2.2 hb45)))
  have Q6 := Lib.hid (And.intro ((Q4.out.1.below hb45).up hb45.size) (And.intro (own_below Q4.out.2.1 hb45) (own_below Q4.out.2.2 hb45)))
  have B6 := Lib.hid (B4.out.trans (hb45.mono B4.out.size))
  have Z6 := Lib.hid (show q1 < q2 ∧ q2 < q3 ∧ w.heap.size ≤ w1.heap.size by have := Z3.out; have := Z4.out; have := B1.out.size; omega)
  rw [← hq3] at K4
  go_upto_region 6 with (fail)
  rw [← hw5] at M6 N6 O6 P6 Q6 B6 K4
  rw [← hw5, ← hq1, ← hq2, ← hq3]
  rw [← hq1] at O6 Q6 L1
  clear hb45 hw5 hq1 hq2 hq3 M4 N4 O4 P4 Q4 B4 Z3 Z4
  have FA : Hid (∀ g, A1 = some ⟨g, 0, none⟩ → Fr ns.length w5 g) := Lib.hid (fun g hg => by
    rcases own_cases P6.out.2.1 with h | ⟨g', h1, _, _, h4⟩
    · rw [h]; intro j hj; omega
    · rw [h1] at hg; injection hg with hg; injection hg with hg _; rw [← hg]; exact h4)
  have FC : Hid (∀ g, C1 = some ⟨g, 0, none⟩ → Fr ts.length w5 g) := Lib.hid (fun g hg => by
    rcases own_cases P6.out.2.2 with h | ⟨g', h1, _, _, h4⟩
    · rw [h]; intro j hj; omega
    · rw [h1] at hg; injection hg with hg; injection hg with hg _; rw [← hg]; exact h4)
  have HK : Hid (Kp w q1 w5 w5) := Lib.hid ⟨B6.out, Nat.le_refl _, fun _ _ _ => rfl⟩
  have a0 := M6.out.c0
  have a1 := M6.out.c1
  have a2 := M6.out.c2
  have a3 := M6.out.c3
  have a4 := M6.out.c4
  have b0 := K4.out.c0
  have b1 := K4.out.c1
  have b2 := K4.out.c2
  have b3 := K4.out.c3
  have b4 := K4.out.c4
  go_wp2_with (fail)
  refine (same_any k c i A1 C1 n1 t1 ns ts k c i A3 C3 n3 t3 ns ts w5 P6.out.1 Q6.out.1).mono ?_
  rw [same_self]
  rintro e w6 ⟨rfl, hb6⟩
  have HK6 := Lib.hid (HK.out.below hb6)
  have FA6 : Hid (∀ g, A1 = some ⟨g, 0, none⟩ → Fr ns.length w6 g) := Lib.hid (fun g hg => (FA.out g hg).below hb6)
  have FC6 : Hid (∀ g, C1 = some ⟨g, 0, none⟩ → Fr ts.length w6 g) := Lib.hid (fun g hg => (FC.out g hg).below hb6)
  have HLO := Lib.hid (And.intro (And.intro (own_lo O6.out.2.1) (own_lo O6.out.2.2)) (And.intro (own_lo Q6.out.2.1) (own_lo Q6.out.2.2)))
  clear hb6 HK FA FC a0 a1 a2 a3 a4 b0 b1 b2 b3 b4 P6
  have n6 := HK6.out.m5 N6.out (by have := Z6.out; omega)
  have k6 := HK6.out.m5 K4.out (by have := Z6.out; omega)
  have a0 := n6.c0
  have a1 := n6.c1
  have a2 := n6.c2
  have a3 := n6.c3
  have a4 := n6.c4
  have b0 := k6.c0
  have b1 := k6.c1
  have b2 := k6.c2
  have b3 := k6.c3
  have b4 := k6.c4
  clear n6 k6
  go_wp2_with (fail)
  refine (same_any k c i A2 C2 n2 t2 ns ts k c i A3 C3 n3 t3 ns ts w6 (HK6.out.msg O6.out.1 HLO.out.1.1 HLO.out.1.2) (HK6.out.msg Q6.out.1 HLO.out.2.1 HLO.out.2.2)).mono ?_
  rw [same_self]
  rintro e w7 ⟨rfl, hb7⟩
  have HK7 := Lib.hid (HK6.out.below hb7)
  have FA7 : Hid (∀ g, A1 = some ⟨g, 0, none⟩ → Fr ns.length w7 g) := Lib.hid (fun g hg => (FA6.out g hg).below hb7)
  have FC7 : Hid (∀ g, C1 = some ⟨g, 0, none⟩ → Fr ts.length w7 g) := Lib.hid (fun g hg => (FC6.out g hg).below hb7)
  clear hb7 HK6 FA6 FC6 a0 a1 a2 a3 a4 b0 b1 b2 b3 b4
  obtain ⟨N, hN⟩ : ∃ N, N = ns.length := ⟨_, rfl⟩
  obtain ⟨T, hT⟩ : ∃ T, T = ts.length := ⟨_, rfl⟩
  have HN := Lib.hid hN
  have HT := Lib.hid hT
  have hNb : N ≤ 140737488351232 := by have := O6.out.1.nl; omega
  have hTb : T ≤ 140737488351232 := by have := O6.out.1.tl; omega
  rw [← hN] at M6 N6 K4 L1 FA7
  rw [← hT] at M6 N6 K4 L1 FC7
  rw [← hN, ← hT]
  clear hN hT
  go_wp2_with (fail)
  go_loopg [9] N (fun m s9 wr => ∃ j : Nat, j ≤ N ∧ Hid (m = N - j) ∧ s9 = .int .i64 (j : Int) ∧ Hid (Kp w q1 w5 wr) ∧ Hid (∀ g, A1 = some ⟨g, 0, none⟩ → Fr N wr g) ∧ Hid (∀ g, C1 = some ⟨g, 0, none⟩ → Fr T wr g))
  case atStart => exact ⟨0, by omega, rfl, rfl, HK7, FA7, FC7⟩
  case round =>
    obtain ⟨j, hj, HJ, rfl, HKr, FAr, FCr⟩ := hrel
    clear HK7 FA7 FC7
    have c3 := (HKr.out.m5 M6.out (Nat.le_refl _)).c3
    by_cases hlt : j < N
    · obtain ⟨g, hA, hg1, hg2⟩ := L1.out.1.resolve_left (by omega)
      have HG := Lib.hid (And.intro (Nat.le_trans Z6.out.2.2 hg1) hg2)
      obtain ⟨z, y0, x0⟩ := fr_in (FAr.out g hA) j hlt
      have HKs := Lib.hid (HKr.out.set HG.out.1 HG.out.2 j (.int .i64 (-77)))
      have FAs : Hid (∀ g', A1 = some ⟨g', 0, none⟩ → Fr N (wr.setCell ⟨g, j, none⟩ (.int .i64 (-77))) g') := Lib.hid (fun g' h => (FAr.out g' h).setAny g j _)
      have FCs : Hid (∀ g', C1 = some ⟨g', 0, none⟩ → Fr T (wr.setCell ⟨g, j, none⟩ (.int .i64 (-77))) g') := Lib.hid (fun g' h => (FCr.out g' h).setAny g j _)
      clear HKr FAr FCr hg1 hg2
      rw [hA] at c3
      clear hA
      go_wp2
      go_roundg (N - (j + 1))
      case measure => have := HJ.out; omega
      case rel => exact ⟨j + 1, by omega, rfl, by go_num, HKs, FAs, FCs⟩
    · obtain rfl : j = N := by omega
      go_wp2_with (fail)
      go_loopg [10] T (fun m s10 wr => ∃ l : Nat, l ≤ T ∧ Hid (m = T - l) ∧ s10 = .int .i64 (l : Int) ∧ Hid (Kp w q1 w5 wr) ∧ Hid (∀ g, C1 = some ⟨g, 0, none⟩ → Fr T wr g))
      case atStart => exact ⟨0, by omega, rfl, rfl, HKr, FCr⟩
      case round =>
        obtain ⟨l, hl, HL, rfl, HKt, FCt⟩ := hrel
        clear HKr FAr FCr c3
        have c4 := (HKt.out.m5 M6.out (Nat.le_refl _)).c4
        by_cases hlt2 : l < T
        · obtain ⟨g, hC, hg1, hg2⟩ := L1.out.2.resolve_left (by omega)
          have HG := Lib.hid (And.intro (Nat.le_trans Z6.out.2.2 hg1) hg2)
          obtain ⟨z, y0, x0⟩ := fr_in (FCt.out g hC) l hlt2
          have HKs := Lib.hid (HKt.out.set HG.out.1 HG.out.2 l (.string ⟨#[115, 112, 111, 105, 108, 116]⟩))
          have FCs : Hid (∀ g', C1 = some ⟨g', 0, none⟩ → Fr T (wr.setCell ⟨g, l, none⟩ (.string ⟨#[115, 112, 111, 105, 108, 116]⟩)) g') := Lib.hid (fun g' h => (FCt.out g' h).setAny g l _)
          clear HKt FCt hg1 hg2
          rw [hC] at c4
          clear hC
          go_wp2
          go_roundg (T - (l + 1))
          case measure => have := HL.out; omega
          case rel => exact ⟨l + 1, by omega, rfl, by go_num, HKs, FCs⟩
        · obtain rfl : l = T := by omega
          have n8 := HKt.out.m5 N6.out (by have := Z6.out; omega)
          have k8 := HKt.out.m5 K4.out (by have := Z6.out; omega)
          have a0 := n8.c0
          have a1 := n8.c1
          have a2 := n8.c2
          have a3 := n8.c3
          have a4 := n8.c4
          have b0 := k8.c0
          have b1 := k8.c1
          have b2 := k8.c2
          have b3 := k8.c3
          have b4 := k8.c4
          clear n8 k8
          go_wp2_with (fail)
          rw [HN.out, HT.out]
          refine (same_any k c i A2 C2 n2 t2 ns ts k c i A3 C3 n3 t3 ns ts wr (HKt.out.msg O6.out.1 HLO.out.1.1 HLO.out.1.2) (HKt.out.msg Q6.out.1 HLO.out.2.1 HLO.out.2.2)).mono ?_
          rw [same_self]
          rintro e w9 ⟨rfl, hb9⟩
          have HK9 := Lib.hid (HKt.out.below hb9)
          clear hb9 HKt FCt a0 a1 a2 a3 a4 b0 b1 b2 b3 b4 c4
          by_cases he : er = 0
          · have hR : dec s.size s.data.toList = .ok (k, c, i, ns, ts) := by
              have h := HM.out
              cases hd : dec s.size s.data.toList with
              | error e0 =>
                rw [hd] at h
                have := dec_ne hd
                simp only [decM, Msg.mk.injEq] at h
                omega
              | ok r =>
                obtain ⟨k', c', i', ns', ts'⟩ := r
                rw [hd] at h
                simp only [decM, Msg.mk.injEq] at h
                obtain ⟨rfl, rfl, rfl, rfl, rfl, _⟩ := h
                rfl
            obtain ⟨hL, hv, gk, gc, gi, _⟩ := dec_ok hR
            have hz : (encL k c i ns ts).length ≤ 281474976710656 := by rw [← hL]; simp; omega
            have hE : encR k c i ns ts = s := by
              rw [encR_yes hv]
              unfold encS
              rw [← hL]
            have HE := Lib.hid hE
            have HD := Lib.hid (And.intro gk (And.intro gc (And.intro gi hz)))
            have hss : (s.toList == s.toList) = true := by simp
            clear hL hv gk gc gi hz hE hR
            subst he
            have n9 := HK9.out.m5 N6.out (by have := Z6.out; omega)
            have a0 := n9.c0
            have a1 := n9.c1
            have a2 := n9.c2
            have a3 := n9.c3
            have a4 := n9.c4
            clear n9
            go_wp2_with (fail)
            rw [HN.out, HT.out]
            refine (encode_any k c i A2 C2 n2 t2 ns ts w9 (HS.out.below HK9.out.bel (Nat.le_refl _)) (HK9.out.msg O6.out.1 HLO.out.1.1 HLO.out.1.2) HD.out.1 HD.out.2.1 HD.out.2.2.1 HD.out.2.2.2).mono ?_
            rw [HE.out]
            rintro e w10 ⟨rfl, hb10⟩
            have BF := Lib.hid (HK9.out.bel.trans (hb10.mono HK9.out.bel.size))
            clear hb10
            go_wp2
            go_ret
            exact ⟨rfl, BF.out⟩
          · have t1 : (er != 0) = true := by simpa using he
            have BF := Lib.hid HK9.out.bel
            clear he
            go_wp2
            go_ret
            exact ⟨rfl, BF.out⟩

set_option maxRecDepth 100000 in
theorem contractUpto (H : Type) (enc : TypeId × Value → H) (W : World) (base : Nat) (args : Array Value) (ds gs : List (DataW H)) (before : List MemPlace)
    (hval : ∀ (j : Nat) t v, Tryd.f4.params[j]? = some t → args[j]? = some v → Value.okWide Tryd.prog W .any base t v)
    (hW : DataW.Whole enc Tryd.prog Tryd.f4.params.toList Rows.recordDecodesSpec.vars false W args.toList ds gs before) (hL : laidMetH Tryd.prog Rows.recordDecodesRow.laid W)
    (hz : (DataW.weightsEach Tryd.prog (Tryd.f4.params.toList ++ []) (ds ++ gs)).all (· ≤ reachBytes) = true) (hk : Rows.uptoSmall H (ds ++ gs) = true) :
    Calls Tryd.prog 4 args W fun e W' => ∃ v, e = .returned v ∧ Rows.recordDecodesSpec.post enc Tryd.prog Tryd.f4 false true false false W args v W' := by
  have hW' := hW
  obtain ⟨p, q, hA0, hV, rfl, hfz, hnd⟩ := hW
  have hA : DataW.TrodAll enc Tryd.prog W 0 (fun _ => true) true Tryd.f4.params.toList args.toList ds p := hA0
  rw [Tryd.params4] at hA hval hz
  obtain ⟨v0, vs0, d0, ds0, p0, q0, hargs, rfl, rfl, h0, r0⟩ := trodAll_cons hA
  obtain ⟨rfl, rfl, rfl⟩ := trodAll_nil r0
  obtain rfl : args = #[v0] := by cases args; simp_all
  obtain ⟨rfl, rfl⟩ := trodVars_none hV
  obtain ⟨x0, rfl, rfl, rfl, w0⟩ := open_string Tryd.underlying9 (hval 0 9 v0 rfl rfl) h0
  have b0 : x0.size ≤ 140737488351232 := by have := sized_string hz (j := 0) (t := 9) rfl rfl; simpa [reachBytes] using this
  have bb0 : x0.size ≤ 1048576 := by
    have hall := of_decide_eq_true hk
    have h9 : x0.data.toList.length = x0.size := rfl
    simp only [List.append_nil, Rows.uptoBulkAll, Rows.uptoBulk, h9] at hall
    omega
  clear hA0
  refine (walk x0 W (shp_of hL) bb0).mono fun e W' ⟨he, hb⟩ => ?_
  subst he
  exact ⟨_, rfl, law_end hW' rfl rfl hb laidOut (by kernel_rfl) (by kernel_rfl) Tryd.underlying4⟩

theorem reads (os : Os) {H : Type} (enc : TypeId × Value → H) : ∃ places, DataW.whole enc Tryd.prog ((laidWorld os).forCall (fun _ _ => 0) ⟨#[], #[.string ⟨#[]⟩], []⟩).memory Tryd.f4.params.toList Rows.recordDecodesSpec.vars false [Value.string ⟨#[]⟩] 8 = some ([.lit (.string [])], [], places) :=
  ⟨[], by kernel_rfl⟩

set_option maxRecDepth 100000 in
theorem lifted (os : Os) (started : os.Started) (H : Type) (enc : TypeId × Value → H) (F : Stop.Interp) :
    ReturnsInHanded {} Tryd.checked os 4 .any ((Rows.OpenSpec.upto Rows.recordDecodesSpec).preRow enc Tryd.prog Tryd.f4 Rows.recordDecodesUptoRow.domain false Rows.recordDecodesUptoRow.laid) (((Rows.OpenSpec.upto Rows.recordDecodesSpec).at F).post enc Tryd.prog Tryd.f4 false true false false) := by
  obtain ⟨places, hx⟩ := reads os enc
  have laid_met : laidMet Tryd.prog Rows.recordDecodesUptoRow.laid ((laidWorld os).forCall (fun _ _ => 0) ⟨#[], #[.string ⟨#[]⟩], []⟩).memory := (laidMet_of_run' 8 (by kernel_rfl) (by kernel_rfl))
  refine returnsInHanded_of_row (C := Tryd.checked) (s := Rows.OpenSpec.upto Rows.recordDecodesSpec) own started (by kernel_rfl) Tryd.func4
    (witness_row_at (enc := enc) (C := Tryd.checked) false (laidWorld os) #[.string ⟨#[]⟩] rfl (by kernel_rfl) (by kernel_rfl) (by kernel_rfl)
      (OpenSpec.preRow_of_cond 8 hx (by kernel_rfl) (fun k hk => by cases hk; kernel_rfl) (by kernel_rfl) laid_met)) ?_
  intro W base args ds gs before hval hW _ hcond hz hL _ _
  exact contractUpto H enc W base args ds gs before hval hW hL hz (hcond _ rfl)

theorem said : Rows.RecordDecodesUptoSaid :=
  OpenClaim.holds_of_cond 4 Tryd.f4 rfl rfl rfl rfl rfl rfl rfl ⟨rfl, rfl, rfl, rfl, rfl⟩ rfl rfl rfl rfl rfl (by kernel_rfl) Tryd.func4 (by kernel_rfl)
    (of_decide_eq_true (by kernel_rfl)) (by unfold Func.isWrapper; first | (rw [if_pos (by decide +kernel)]; kernel_rfl) | (rw [if_neg (by decide +kernel)]; exact ⟨rfl, rfl⟩))
    (fun os started H enc _ F => by rw [OpenClaim.pre_eq_preRow]; exact lifted os started H enc F)

theorem plain (f : FuncId) (fn : Func) (hf : Tryd.pinned.checked.prog.funcNamed "mahout/mahoutlaw09.RecordDecodes" = some f) (hfn : Tryd.pinned.checked.prog.funcs[f]? = some fn) :
    ∀ (j : Nat) t, fn.params[j]? = some t → Tryd.pinned.checked.prog.wantsStandIn t = false := by
  obtain rfl : f = 4 := Option.some.inj ((show Tryd.prog.funcNamed "mahout/mahoutlaw09.RecordDecodes" = some 4 by kernel_rfl).symm.trans hf) |>.symm
  obtain rfl : fn = Tryd.f4 := (Option.some.inj (Tryd.func4.symm.trans hfn)).symm
  exact fun j t ht => by
    rw [Tryd.params4] at ht
    have hm : t ∈ [9] := by simpa using Array.mem_of_getElem? ht
    have hall : ([9].all fun u => !Tryd.prog.wantsStandIn u) = true := by kernel_rfl
    exact (show Tryd.prog.wantsStandIn t = false by simpa using List.all_eq_true.1 hall t hm)
/-- THE CARD -/
theorem card : Rows.RecordDecodesUptoCardSaid :=
  Claim7.holds_tied_plain_at .later [] _ _ _ _ said (fun _ h => by cases h) (by kernel_rfl) (fun _ h => by cases h) recordDecodesUpto_row_tie rfl ⟨rfl, rfl⟩ (by kernel_rfl) rfl (fun f fn hf hfn => ⟨by kernel_rfl, plain f fn hf hfn⟩) (by kernel_rfl)

end Go.Proofs.YtndcmjgjecdgcaaDoor.fnRecordDecodes
