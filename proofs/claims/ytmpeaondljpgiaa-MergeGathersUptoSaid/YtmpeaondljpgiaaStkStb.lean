/- Stable sorting: slices.stableCmpFunc over a row of one cell each. -/
import Derived.Test.YtmpeaondljpgiaaStkBlk
namespace Go.Proofs.Ytmpeaondljpgiaa
open Go.RowKit Go.Lib Go.Sort Go.Shelf

section
variable {α : Type} [Inhabited α] {Ky Vl : α → ByteArray} {w0 : World} {blk off : Nat} {d0 : Array α} {key : α → Int} {num : α → Nat} {cf : α → α → Int} {g : Nat} {cb : Array Value}
set_option maxRecDepth 100000 in
set_option maxHeartbeats 16000000 in
theorem stable_K (R : RowK (encP Ky Vl) 2 w0 blk off d0) (hsz : d0.size < 4611686018427387904) (cap : Nat) (C : CmpK g cb Ky Vl cf key blk off d0.size w0) (L : List α) (W : World) (HN : Hid (L.Pairwise fun x y => num x < num y)) (HL : Hid (L.length = d0.size))
    (S : Aside (SWK (encP Ky Vl) 2 w0 blk off L.toArray W)) :
    Calls Try.prog 30 #[.slice (some ⟨blk, off, none⟩) d0.size cap, .int .i64 (d0.size : Nat), .func (.func g) #[] cb] W fun e w' => e = .returned (.tuple #[]) ∧ ∃ S', Hid (S'.Perm L ∧ SrtT key num S' ∧ SWK (encP Ky Vl) 2 w0 blk off S'.toArray w') := by
  have mixed : Try.prog.follows Departure.mixedOrders = true := by kernel_rfl
  obtain ⟨n, hn⟩ : ∃ n : Nat, n = d0.size := ⟨_, rfl⟩
  have Hn := Lib.hid hn
  have HSZ : Hid (n < 4611686018427387904) := Lib.hid (by omega)
  have HSZD := Lib.hid hsz
  rw [← hn] at hsz ⊢
  have HL2 : Hid (L.length = n) := Lib.hid (by rw [HL.out, hn])
  clear hn
  have fin : ∀ (s : Nat) (Bs : Bk α) (O S : List α) (wz : World), (L = fl1 Bs ++ O ∧ BkOk key num s Bs ∧ O.length < s ∧ S.Perm O ∧ SrtT key num S) → n ≤ s → SWK (encP Ky Vl) 2 w0 blk off (fl2 Bs ++ S).toArray wz → Hid ((fl2 Bs ++ S).Perm L ∧ SrtT key num (fl2 Bs ++ S) ∧ SWK (encP Ky Vl) 2 w0 blk off (fl2 Bs ++ S).toArray wz) := fun s Bs O S wz h hs hw => by
    obtain ⟨h1, h2, h3, h4, h5⟩ := h
    have h6 := HL2.out
    rw [h1, List.length_append] at h6
    have h7 := bk_left h2 h3 h4 h5 (by omega) (by omega)
    exact Lib.hid ⟨by rw [h1]; exact h7.1, h7.2, hw⟩
  have HFIN := Lib.hid fin
  clear fin
  go_enter Try.func30, Try.ntmps30
  go_wp2
  have S0 : Aside (SWK (encP Ky Vl) 2 w0 blk off (fl2 ([] : Bk α) ++ L).toArray W) := S.out
  clear S
  go_loopg [7, 8] n (fun g1 va vb wr => ∃ (a b : Nat) (Bs : Bk α) (T : List α), va = .int .i64 a ∧ vb = .int .i64 b ∧ Hid (L = fl1 Bs ++ T ∧ BkOk key num 20 Bs ∧ a = (fl1 Bs).length ∧ b = a + 20 ∧ n - a ≤ g1) ∧ Aside (SWK (encP Ky Vl) 2 w0 blk off (fl2 Bs ++ T).toArray wr))
  case atStart => exact ⟨0, 20, [], L, rfl, rfl, Lib.hid ⟨rfl, (fun x hx => by cases hx), rfl, rfl, by omega⟩, S0⟩
  case round =>
    clear S0
    obtain ⟨a, b, Bs, T, rfl, rfl, HI, S1⟩ := hrel
    have HF : Hid ((fl2 Bs).length = a ∧ a + T.length = n ∧ b = a + 20) := Lib.hid (by
      obtain ⟨h1, h2, h3, h4, h5⟩ := HI.out
      have h6 := HL2.out
      rw [h1, List.length_append] at h6
      have h7 := fl_len h2
      omega)
    have b1 : (a : Int) < 4611686018427387904 := by have := HF.out; have := HSZ.out; omega
    by_cases hlt : b ≤ n
    · have hltz : (b : Int) ≤ (n : Int) := by omega
      have HLT := Lib.hid hlt
      clear hlt
      have hTS : T.take 20 ++ T.drop 20 = T := List.take_append_drop ..
      have HTL : Hid ((T.take 20).length = 20 ∧ 20 ≤ T.length) := Lib.hid (by have := HF.out; have := HLT.out; simp; omega)
      have hcall := insertion_any_K (num := num) R HSZD.out cap C (fl2 Bs) (T.take 20) (T.drop 20) wr a b (Lib.hid (pw_mid HN.out (P := fl1 Bs) (Q := T.drop 20) (by rw [hTS]; exact HI.out.1))) (by rw [hTS, List.length_append, ← Hn.out]; have := HF.out; omega) (by have := HF.out; omega) (by have := HF.out; have := HTL.out; omega) (by rw [hTS]; exact S1)
      rw [← Hn.out] at hcall
      clear S1
      go_wp2_with fail
      refine hcall.mono ?_
      rintro e w' ⟨rfl, S', HF2⟩
      clear hcall
      have HST := Lib.hid (bk_step HI.out.1 HI.out.2.1 HTL.out.2 HF2.out.1 HF2.out.2.1)
      have S2 : Aside (SWK (encP Ky Vl) 2 w0 blk off (fl2 (Bs ++ [(T.take 20, S')]) ++ T.drop 20).toArray w') := by
        have h := HF2.out.2.2
        rw [← List.append_assoc, ← HST.out.2.2.1] at h
        exact h
      clear HF2
      have HRW : Hid (wrap64 ((b : Int) + 20) = ((b + 20 : Nat) : Int)) := Lib.hid (by have := HLT.out; have := HSZ.out; rw [show (b : Int) + 20 = ((b + 20 : Nat) : Int) by omega]; exact IntWalk.wrap64_in _ (by omega))
      clear hltz b1 hTS
      go_wp2
      have rw1 := HRW.out
      go_roundg (n - b)
      case measure => clear rw1; have := HF.out; have := HLT.out; have := HI.out.2.2.2.2; omega
      case rel => exact ⟨b, b + 20, _, _, rfl, by first | rfl | rw [rw1] | go_num, Lib.hid (by
        clear rw1
        have h := HST.out
        have h2 := HI.out
        have h3 := HF.out
        exact ⟨h.1, h.2.1, by omega, rfl, Nat.le_refl _⟩), S2⟩
    · have hltz : ¬ (b : Int) ≤ (n : Int) := by omega
      have HLT := Lib.hid hlt
      clear hlt
      have hcall := insertion_any_K (num := num) R HSZD.out cap C (fl2 Bs) T [] wr a n (Lib.hid (pw_mid HN.out (P := fl1 Bs) (Q := []) (by rw [List.append_nil]; exact HI.out.1))) (by rw [List.append_nil, List.length_append, ← Hn.out]; have := HF.out; omega) (by have := HF.out; omega) (by have := HF.out; omega) (by rw [List.append_nil]; exact S1)
      rw [← Hn.out] at hcall
      clear S1
      go_wp2_with fail
      refine hcall.mono ?_
      rintro e w' ⟨rfl, S', HF2⟩
      clear hcall
      have S2 : Aside (SWK (encP Ky Vl) 2 w0 blk off (fl2 Bs ++ S').toArray w') := by
        have h := HF2.out.2.2
        rw [List.append_nil] at h
        exact h
      have H2 : Hid (L = fl1 Bs ++ T ∧ BkOk key num 20 Bs ∧ T.length < 20 ∧ S'.Perm T ∧ SrtT key num S') := Lib.hid ⟨HI.out.1, HI.out.2.1, by have := HF.out; have := HLT.out; omega, HF2.out.1, HF2.out.2.1⟩
      clear HF2 hltz b1 HF HI HLT
      go_wp2
      go_loopg [6] n (fun g2 vs wr2 => ∃ (s : Nat) (Bs : Bk α) (O S : List α), vs = .int .i64 s ∧ Hid ((L = fl1 Bs ++ O ∧ BkOk key num s Bs ∧ O.length < s ∧ S.Perm O ∧ SrtT key num S) ∧ 20 ≤ s ∧ n - s ≤ g2) ∧ Aside (SWK (encP Ky Vl) 2 w0 blk off (fl2 Bs ++ S).toArray wr2))
      case atStart => exact ⟨20, Bs, T, S', rfl, Lib.hid ⟨H2.out, Nat.le_refl _, by omega⟩, S2⟩
      case round =>
        clear S2 H2
        obtain ⟨s, Bz, O, S, rfl, HI, S1⟩ := hrel
        by_cases hlt : s < n
        · have hltz : (s : Int) < (n : Int) := by omega
          have HLT := Lib.hid hlt
          clear hlt
          have HWS : Hid (wrap64 (2 * (s : Int)) = ((2 * s : Nat) : Int)) := Lib.hid (by have := HLT.out; have := HSZ.out; rw [show 2 * (s : Int) = ((2 * s : Nat) : Int) by omega]; exact IntWalk.wrap64_in _ (by omega))
          go_wp2
          go_loopg [7, 8] n (fun g3 va vb wr3 => ∃ (a b : Nat) (Ds Bs : Bk α), va = .int .i64 a ∧ vb = .int .i64 b ∧ Hid ((L = fl1 Ds ++ (fl1 Bs ++ O) ∧ BkOk key num (2 * s) Ds ∧ BkOk key num s Bs) ∧ a = (fl1 Ds).length ∧ b = a + 2 * s ∧ n - a ≤ g3) ∧ Aside (SWK (encP Ky Vl) 2 w0 blk off (fl2 Ds ++ (fl2 Bs ++ S)).toArray wr3))
          case atStart => exact ⟨0, 2 * s, [], Bz, rfl, by first | rfl | (congr 1; omega), Lib.hid ⟨⟨HI.out.1.1, (fun x hx => by cases hx), HI.out.1.2.1⟩, rfl, by omega, by omega⟩, S1⟩
          case round =>
            clear S1
            obtain ⟨a, b, Ds, Bs, rfl, rfl, HJ, S1⟩ := hrel
            have HF : Hid ((fl1 Ds).length = a ∧ (fl2 Ds).length = a ∧ (fl2 Bs).length = (fl1 Bs).length ∧ a + (fl1 Bs).length + O.length = n ∧ S.length = O.length ∧ b = a + 2 * s ∧ O.length < s ∧ 20 ≤ s ∧ s < n ∧ n < 4611686018427387904) := Lib.hid (by
              obtain ⟨⟨h1, h2, h3⟩, h4, h5, h6⟩ := HJ.out
              have h7 := HL2.out
              rw [h1, List.length_append, List.length_append] at h7
              have h8 := fl_len h2
              have h9 := fl_len h3
              obtain ⟨⟨i1, i2, i3, i4, i5⟩, i6, i7⟩ := HI.out
              have i8 := i4.length_eq
              have i9 := HLT.out
              have i0 := HSZ.out
              omega)
            clear HWS hltz
            have HAS : Hid (wrap64 ((a : Int) + (s : Int)) = ((a + s : Nat) : Int)) := Lib.hid (by have := HF.out; rw [show (a : Int) + (s : Int) = ((a + s : Nat) : Int) by omega]; exact IntWalk.wrap64_in _ (by omega))
            have HWS : Hid (wrap64 (2 * (s : Int)) = ((2 * s : Nat) : Int)) := Lib.hid (by have := HF.out; rw [show 2 * (s : Int) = ((2 * s : Nat) : Int) by omega]; exact IntWalk.wrap64_in _ (by omega))
            by_cases hlt : b ≤ n
            · have hltz : (b : Int) ≤ (n : Int) := by omega
              have HLE := Lib.hid hlt
              clear hlt
              obtain ⟨x, y, B', hB⟩ := bk_two HJ.out.1.2.2 HF.out.2.2.2.2.2.2.1 (by have := HF.out; have := HLE.out; omega)
              rw [hB] at HJ HF S1
              clear hB
              have HXY : Hid (x.2.length = s ∧ y.2.length = s ∧ (fl2 (x :: y :: B')) = x.2 ++ (y.2 ++ fl2 B')) := Lib.hid (by
                obtain ⟨x1, x2, _⟩ := HJ.out.1.2.2 x (by simp)
                obtain ⟨y1, y2, _⟩ := HJ.out.1.2.2 y (by simp)
                have := x2.length_eq
                have := y2.length_eq
                exact ⟨by omega, by omega, by rw [fl2_cons, fl2_cons]⟩)
              have S2 : Aside (SWK (encP Ky Vl) 2 w0 blk off (fl2 Ds ++ (x.2 ++ (y.2 ++ (fl2 B' ++ S)))).toArray wr) := by
                have h := S1.out
                rw [HXY.out.2.2, List.append_assoc, List.append_assoc] at h
                exact h
              have HLN : Hid ((fl2 Ds ++ (x.2 ++ (y.2 ++ (fl2 B' ++ S)))).length = d0.size) := Lib.hid (by
                have h1 := HF.out
                rw [HXY.out.2.2] at h1
                rw [← Hn.out]
                simp only [List.length_append] at h1 ⊢
                omega)
              have hcall := symMerge_K (key := key) (num := num) R HSZD.out cap C (x.2.length + y.2.length) (fl2 Ds) x.2 y.2 (fl2 B' ++ S) wr a (a + s) b (Nat.le_refl _) (by have := HXY.out; have := HF.out; omega) (by have := HXY.out; have := HF.out; omega) (Lib.hid ⟨(HJ.out.1.2.2 x (by simp)).2.2, (HJ.out.1.2.2 y (by simp)).2.2, bk_pair_nl HN.out HJ.out.1.1 HJ.out.1.2.2⟩) HLN.out (by have := HF.out; omega) (by have := HF.out; have := HXY.out; omega) (by have := HF.out; have := HXY.out; omega) S2
              rw [← Hn.out] at hcall
              clear S1 S2
              have ras := HAS.out
              go_wp2_with fail
              refine hcall.mono ?_
              rintro e w' ⟨rfl, S', HF2⟩
              clear hcall ras
              have HST := Lib.hid (bk_pair HJ.out.1.1 HJ.out.1.2.1 HJ.out.1.2.2 HF2.out.1 HF2.out.2.1)
              have S2 : Aside (SWK (encP Ky Vl) 2 w0 blk off (fl2 (Ds ++ [(x.1 ++ y.1, S')]) ++ (fl2 B' ++ S)).toArray w') := by
                have h := HF2.out.2.2
                rw [← List.append_assoc, ← HST.out.2.2.2.1] at h
                exact h
              clear HF2
              have HRW : Hid (wrap64 ((b : Int) + ((2 * s : Nat) : Int)) = ((b + 2 * s : Nat) : Int)) := Lib.hid (by have := HF.out; have := HLE.out; rw [show (b : Int) + ((2 * s : Nat) : Int) = ((b + 2 * s : Nat) : Int) by omega]; exact IntWalk.wrap64_in _ (by omega))
              have HRW2 : Hid (wrap64 ((b : Int) + 2 * (s : Int)) = ((b + 2 * s : Nat) : Int)) := Lib.hid (by rw [← HRW.out]; congr 1)
              clear hltz
              have rws := HWS.out
              go_wp2
              have rw1 := HRW.out
              have rw2 := HRW2.out
              go_roundg (n - b)
              case measure => clear rw1 rw2 rws; have := HF.out; have := HLE.out; have := HJ.out.2.2.2; omega
              case rel => exact ⟨b, b + 2 * s, _, _, rfl, by first | rfl | rw [rw1] | rw [rw2] | rw [rws, rw1] | go_num, Lib.hid (by
                clear rw1 rw2 rws
                have h := HST.out
                have h2 := HJ.out
                have h3 := HF.out
                exact ⟨⟨h.1, h.2.1, h.2.2.1⟩, by omega, by omega, Nat.le_refl _⟩), S2⟩
            · have hltz : ¬ (b : Int) ≤ (n : Int) := by omega
              have HGT := Lib.hid hlt
              clear hlt
              have HMS : Hid (wrap64 ((s : Int) * 2) = ((2 * s : Nat) : Int)) := Lib.hid (by have := HF.out; rw [show (s : Int) * 2 = ((2 * s : Nat) : Int) by omega]; exact IntWalk.wrap64_in _ (by omega))
              have ras := HAS.out
              by_cases hm : a + s < n
              · have hmz : ((a + s : Nat) : Int) < (n : Int) := by omega
                have hmz2 : (a : Int) + (s : Int) < (n : Int) := by omega
                have HM := Lib.hid hm
                clear hm
                obtain ⟨x, hB, hxl, hO⟩ := bk_both (O := O) HJ.out.1.2.2 HF.out.2.2.2.2.2.2.1 (by have := HF.out; have := HGT.out; omega) (by have := HF.out; have := HM.out; omega)
                rw [hB] at HJ HF S1
                have HXO := Lib.hid (And.intro hxl hO)
                clear hB hxl hO
                have HXY : Hid (x.2.length = s ∧ fl2 [x] = x.2 ∧ fl1 [x] = x.1) := Lib.hid ⟨by have := (HJ.out.1.2.2 x (by simp)).2.1.length_eq; have := HXO.out; omega, fl2_one x, fl1_one x⟩
                have S2 : Aside (SWK (encP Ky Vl) 2 w0 blk off (fl2 Ds ++ (x.2 ++ (S ++ []))).toArray wr) := by
                  have h := S1.out
                  rw [HXY.out.2.1] at h
                  rw [List.append_nil]
                  exact h
                have HLN : Hid ((fl2 Ds ++ (x.2 ++ (S ++ []))).length = d0.size) := Lib.hid (by
                  have h1 := HF.out
                  have h2 := HXO.out
                  have h3 := HXY.out
                  rw [h3.2.2] at h1
                  rw [← Hn.out]
                  simp only [List.length_append, List.length_nil] at h1 ⊢
                  omega)
                have HXN : Hid (a + s + O.length = n) := Lib.hid (by have h1 := HF.out; rw [HXY.out.2.2] at h1; have := HXO.out; omega)
                have hcall := symMerge_K (key := key) (num := num) R HSZD.out cap C (x.2.length + S.length) (fl2 Ds) x.2 S [] wr a (a + s) n (Nat.le_refl _) (by have := HXY.out; have := HF.out; omega) (by have := HXO.out; have := HF.out; omega) (Lib.hid ⟨(HJ.out.1.2.2 x (by simp)).2.2, HI.out.1.2.2.2.2, bk_last_nl HN.out HJ.out.1.1 HJ.out.1.2.2 HI.out.1.2.2.2.1⟩) HLN.out (by have := HF.out; omega) (by have := HF.out; have := HXY.out; omega) (by have := HF.out; have := HXY.out; have := HXN.out; omega) S2
                rw [← Hn.out] at hcall
                clear S1 S2
                go_wp2_with fail
                refine hcall.mono ?_
                rintro e w' ⟨rfl, S', HF2⟩
                clear hcall ras
                have S2 : Aside (SWK (encP Ky Vl) 2 w0 blk off (fl2 Ds ++ S').toArray w') := by
                  have h := HF2.out.2.2
                  rw [List.append_nil] at h
                  exact h
                have H2 : Hid ((L = fl1 Ds ++ (x.1 ++ O) ∧ BkOk key num (2 * s) Ds ∧ (x.1 ++ O).length < 2 * s ∧ S'.Perm (x.1 ++ O) ∧ SrtT key num S') ∧ 20 ≤ 2 * s ∧ n - 2 * s ≤ n - 2 * s) := Lib.hid ⟨⟨by
                  have h := HJ.out.1.1
                  rw [HXY.out.2.2] at h
                  exact h, HJ.out.1.2.1, by have := HF.out; have := HXO.out; simp only [List.length_append]; omega, HF2.out.1.trans ((HJ.out.1.2.2 x (by simp)).2.1.append HI.out.1.2.2.2.1), HF2.out.2.1⟩, by have := HF.out; omega, Nat.le_refl _⟩
                clear HF2 hltz hmz hmz2
                have rms := HMS.out
                go_wp2
                go_roundg (n - 2 * s)
                case measure => clear rms; have := HF.out; have := HI.out.2.2; omega
                case rel => exact ⟨2 * s, _, _, _, by first | rfl | rw [rms] | go_num, H2, S2⟩
              · have hmz : ¬ ((a + s : Nat) : Int) < (n : Int) := by omega
                have hmz2 : ¬ (a : Int) + (s : Int) < (n : Int) := by omega
                have HM := Lib.hid hm
                clear hm
                have HBL := Lib.hid (bk_left HJ.out.1.2.2 HF.out.2.2.2.2.2.2.1 HI.out.1.2.2.2.1 HI.out.1.2.2.2.2 (by have := HF.out; have := HGT.out; omega) (by have := HF.out; have := HM.out; omega))
                have H2 : Hid ((L = fl1 Ds ++ (fl1 Bs ++ O) ∧ BkOk key num (2 * s) Ds ∧ (fl1 Bs ++ O).length < 2 * s ∧ (fl2 Bs ++ S).Perm (fl1 Bs ++ O) ∧ SrtT key num (fl2 Bs ++ S)) ∧ 20 ≤ 2 * s ∧ n - 2 * s ≤ n - 2 * s) := Lib.hid ⟨⟨HJ.out.1.1, HJ.out.1.2.1, by have := HF.out; have := HGT.out; simp only [List.length_append]; omega, HBL.out.1, HBL.out.2⟩, by have := HF.out; omega, Nat.le_refl _⟩
                have rms := HMS.out
                go_wp2
                go_roundg (n - 2 * s)
                case measure => clear rms ras hmz hmz2; have := HF.out; have := HI.out.2.2; omega
                case rel => exact ⟨2 * s, _, _, _, by first | rfl | rw [rms] | go_num, H2, S1⟩
        · have hltz : ¬ (s : Int) < (n : Int) := by omega
          have HF := HFIN.out s Bz O S _ HI.out.1 (by omega) S1.out
          clear S1 HI
          go_wp2
          first
            | (go_end0; exact ⟨rfl, _, HF⟩)
            | (go_ret; exact ⟨rfl, _, HF⟩)
            | exact bodyPost_ret (v := .tuple #[]) (results_none rfl _ _ _) rfl ⟨rfl, _, HF⟩
end
end Go.Proofs.Ytmpeaondljpgiaa
