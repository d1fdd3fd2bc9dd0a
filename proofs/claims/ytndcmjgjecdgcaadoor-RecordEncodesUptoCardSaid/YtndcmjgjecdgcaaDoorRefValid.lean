/- The contracts of the reference's fits and Valid. -/
import Derived.Test.YtndcmjgjecdgcaaDoorRecLaw
namespace Go.Proofs.YtndcmjgjecdgcaaDoor
open Go.RowKit
set_option maxRecDepth 100000 in
theorem rfits_any (n l g : Int) (w : World) (hl : 0 ≤ l ∧ l ≤ 9) (hg : 0 ≤ g ∧ g ≤ 5) (hn : 0 ≤ n ∧ n ≤ 140737488351232) :
    Calls Tryd.prog 23 #[.int .i64 n, .int .i64 l, .int .i64 g] w fun e w' => e = .returned (.bool (fitsB n l g)) ∧ w = w' := by
  by_cases hgz : g = 0
  · subst hgz
    have hf : fitsB n l 0 = (n == l) := by unfold fitsB; rw [if_pos rfl]; simp [BEq.beq]
    rw [hf]
    go_enter Tryd.func23, Tryd.ntmps23
    go_wp2
    go_ret
    exact ⟨rfl, rfl⟩
  · have h1 : (g == 0) = false := by simpa using hgz
    have hf : fitsB n l g = (decide (l ≤ n) && decide ((n - l) % g = 0)) := by unfold fitsB; rw [if_neg hgz]
    obtain ⟨F, hF⟩ : ∃ F, F = fitsB n l g := ⟨_, rfl⟩
    rw [← hF] at hf ⊢
    have HF := Lib.hid hf
    have HG := Lib.hid hgz
    clear hf hF hgz
    go_enter Tryd.func23, Tryd.ntmps23
    go_wp2_with (fail)
    go_loopg [7] ((n + 5 - l).toNat) (fun m s7 wr => ∃ k : Int, s7 = .int .i64 k ∧ Hid (l ≤ k ∧ k ≤ 140737488351240) ∧ Hid ((k - l) % g = 0 ∧ (k = l ∨ k < n + g)) ∧ Hid (m = (n + 5 - k).toNat) ∧ w = wr)
    case atStart => exact ⟨l, rfl, ⟨by omega, by omega⟩, ⟨by simp, .inl rfl⟩, rfl, rfl⟩
    case round =>
      obtain ⟨k, rfl, HK, HM, HJ, rfl⟩ := hrel
      obtain ⟨hk1, hk2⟩ := HK.out
      by_cases hlt : k < n
      · have hm2 : Hid ((k + g - l) % g = 0 ∧ (k + g = l ∨ k + g < n + g)) := Lib.hid (by
          have h := HM.out.1
          refine ⟨?_, .inr (by omega)⟩
          rw [show k + g - l = (k - l) + g by omega, Int.add_emod_right]; exact h)
        have HLT := Lib.hid hlt
        go_wp2
        go_roundg ((n + 5 - (k + g)).toNat)
        case measure => have := HJ.out; have := HG.out; omega
        case rel => exact ⟨k + g, by go_num, Lib.hid ⟨by omega, by have := HLT.out; omega⟩, hm2, rfl, rfl⟩
      · have he : (k == n) = F := by
          rw [HF.out]
          obtain ⟨h1, h2⟩ := HM.out
          have h3 := HG.out
          have hg5 : g = 1 ∨ g = 2 ∨ g = 3 ∨ g = 4 ∨ g = 5 := by omega
          rw [Bool.eq_iff_iff]
          simp only [beq_iff_eq, Bool.and_eq_true, decide_eq_true_eq]
          rcases hg5 with rfl | rfl | rfl | rfl | rfl <;> omega
        have HE := Lib.hid he
        clear he
        go_wp2
        go_ret
        exact ⟨by rw [← HE.out]; rfl, rfl⟩
set_option maxRecDepth 100000 in
set_option maxHeartbeats 4000000 in
theorem rvalid_any (k n t : Int) (w : World) (hn : 0 ≤ n ∧ n ≤ 140737488351232) (ht : 0 ≤ t ∧ t ≤ 140737488351232) :
    Calls Tryd.prog 11 #[.int .i64 k, .int .i64 n, .int .i64 t] w fun e w' => e = .returned (.bool (validB k n.toNat t.toNat)) ∧ w = w' := by
  obtain ⟨V, hV⟩ : ∃ V, V = validB k n.toNat t.toNat := ⟨_, rfl⟩
  rw [← hV]
  have HV := Lib.hid hV
  clear hV
  have hn2 : ((n.toNat : Nat) : Int) = n := by omega
  have ht2 : ((t.toNat : Nat) : Int) = t := by omega
  by_cases hk : 1 ≤ k ∧ k ≤ 17
  · have hk17 : k = 1 ∨ k = 2 ∨ k = 3 ∨ k = 4 ∨ k = 5 ∨ k = 6 ∨ k = 7 ∨ k = 8 ∨ k = 9 ∨ k = 10 ∨ k = 11 ∨ k = 12 ∨ k = 13 ∨ k = 14 ∨ k = 15 ∨ k = 16 ∨ k = 17 := by omega
    clear hk
    rcases hk17 with rfl | rfl | rfl | rfl | rfl | rfl | rfl | rfl | rfl | rfl | rfl | rfl | rfl | rfl | rfl | rfl | rfl
    · have hv : V = (fitsB n 9 0 && fitsB t 2 0) := by rw [HV.out]; unfold validB; rw [hn2, ht2]; rfl
      cases h1 : fitsB n 9 0 with
      | false =>
        rw [h1] at hv
        have HW := Lib.hid (show V = false from hv)
        have H1 := Lib.hid h1
        clear hv h1 hn2 ht2
        go_enter Tryd.func11, Tryd.ntmps11
        go_wp2_with (fail)
        refine (rfits_any n 9 0 w (by omega) (by omega) hn).mono ?_
        rw [H1.out]
        rintro e w' ⟨rfl, rfl⟩
        go_wp2
        go_ret
        exact ⟨by rw [HW.out]; rfl, rfl⟩
      | true =>
        rw [h1, Bool.true_and] at hv
        have HW := Lib.hid hv
        have H1 := Lib.hid h1
        clear hv h1 hn2 ht2
        go_enter Tryd.func11, Tryd.ntmps11
        go_wp2_with (fail)
        refine (rfits_any n 9 0 w (by omega) (by omega) hn).mono ?_
        rw [H1.out]
        rintro e w' ⟨rfl, rfl⟩
        go_wp2_with (fail)
        refine (rfits_any t 2 0 w (by omega) (by omega) ht).mono ?_
        rw [← HW.out]
        rintro e w' ⟨rfl, rfl⟩
        go_wp2
        go_ret
        exact ⟨rfl, rfl⟩
    · have hv : V = (fitsB n 0 0 && fitsB t 1 0) := by rw [HV.out]; unfold validB; rw [hn2, ht2]; rfl
      cases h1 : fitsB n 0 0 with
      | false =>
        rw [h1] at hv
        have HW := Lib.hid (show V = false from hv)
        have H1 := Lib.hid h1
        clear hv h1 hn2 ht2
        go_enter Tryd.func11, Tryd.ntmps11
        go_wp2_with (fail)
        refine (rfits_any n 0 0 w (by omega) (by omega) hn).mono ?_
        rw [H1.out]
        rintro e w' ⟨rfl, rfl⟩
        go_wp2
        go_ret
        exact ⟨by rw [HW.out]; rfl, rfl⟩
      | true =>
        rw [h1, Bool.true_and] at hv
        have HW := Lib.hid hv
        have H1 := Lib.hid h1
        clear hv h1 hn2 ht2
        go_enter Tryd.func11, Tryd.ntmps11
        go_wp2_with (fail)
        refine (rfits_any n 0 0 w (by omega) (by omega) hn).mono ?_
        rw [H1.out]
        rintro e w' ⟨rfl, rfl⟩
        go_wp2_with (fail)
        refine (rfits_any t 1 0 w (by omega) (by omega) ht).mono ?_
        rw [← HW.out]
        rintro e w' ⟨rfl, rfl⟩
        go_wp2
        go_ret
        exact ⟨rfl, rfl⟩
    · have hv : V = (fitsB n 0 0 && fitsB t 1 0) := by rw [HV.out]; unfold validB; rw [hn2, ht2]; rfl
      cases h1 : fitsB n 0 0 with
      | false =>
        rw [h1] at hv
        have HW := Lib.hid (show V = false from hv)
        have H1 := Lib.hid h1
        clear hv h1 hn2 ht2
        go_enter Tryd.func11, Tryd.ntmps11
        go_wp2_with (fail)
        refine (rfits_any n 0 0 w (by omega) (by omega) hn).mono ?_
        rw [H1.out]
        rintro e w' ⟨rfl, rfl⟩
        go_wp2
        go_ret
        exact ⟨by rw [HW.out]; rfl, rfl⟩
      | true =>
        rw [h1, Bool.true_and] at hv
        have HW := Lib.hid hv
        have H1 := Lib.hid h1
        clear hv h1 hn2 ht2
        go_enter Tryd.func11, Tryd.ntmps11
        go_wp2_with (fail)
        refine (rfits_any n 0 0 w (by omega) (by omega) hn).mono ?_
        rw [H1.out]
        rintro e w' ⟨rfl, rfl⟩
        go_wp2_with (fail)
        refine (rfits_any t 1 0 w (by omega) (by omega) ht).mono ?_
        rw [← HW.out]
        rintro e w' ⟨rfl, rfl⟩
        go_wp2
        go_ret
        exact ⟨rfl, rfl⟩
    · have hv : V = (fitsB n 2 1 && fitsB t 0 1) := by rw [HV.out]; unfold validB; rw [hn2, ht2]; rfl
      cases h1 : fitsB n 2 1 with
      | false =>
        rw [h1] at hv
        have HW := Lib.hid (show V = false from hv)
        have H1 := Lib.hid h1
        clear hv h1 hn2 ht2
        go_enter Tryd.func11, Tryd.ntmps11
        go_wp2_with (fail)
        refine (rfits_any n 2 1 w (by omega) (by omega) hn).mono ?_
        rw [H1.out]
        rintro e w' ⟨rfl, rfl⟩
        go_wp2
        go_ret
        exact ⟨by rw [HW.out]; rfl, rfl⟩
      | true =>
        rw [h1, Bool.true_and] at hv
        have HW := Lib.hid hv
        have H1 := Lib.hid h1
        clear hv h1 hn2 ht2
        go_enter Tryd.func11, Tryd.ntmps11
        go_wp2_with (fail)
        refine (rfits_any n 2 1 w (by omega) (by omega) hn).mono ?_
        rw [H1.out]
        rintro e w' ⟨rfl, rfl⟩
        go_wp2_with (fail)
        refine (rfits_any t 0 1 w (by omega) (by omega) ht).mono ?_
        rw [← HW.out]
        rintro e w' ⟨rfl, rfl⟩
        go_wp2
        go_ret
        exact ⟨rfl, rfl⟩
    · have hv : V = (fitsB n 1 1 && fitsB t 0 0) := by rw [HV.out]; unfold validB; rw [hn2, ht2]; rfl
      cases h1 : fitsB n 1 1 with
      | false =>
        rw [h1] at hv
        have HW := Lib.hid (show V = false from hv)
        have H1 := Lib.hid h1
        clear hv h1 hn2 ht2
        go_enter Tryd.func11, Tryd.ntmps11
        go_wp2_with (fail)
        refine (rfits_any n 1 1 w (by omega) (by omega) hn).mono ?_
        rw [H1.out]
        rintro e w' ⟨rfl, rfl⟩
        go_wp2
        go_ret
        exact ⟨by rw [HW.out]; rfl, rfl⟩
      | true =>
        rw [h1, Bool.true_and] at hv
        have HW := Lib.hid hv
        have H1 := Lib.hid h1
        clear hv h1 hn2 ht2
        go_enter Tryd.func11, Tryd.ntmps11
        go_wp2_with (fail)
        refine (rfits_any n 1 1 w (by omega) (by omega) hn).mono ?_
        rw [H1.out]
        rintro e w' ⟨rfl, rfl⟩
        go_wp2_with (fail)
        refine (rfits_any t 0 0 w (by omega) (by omega) ht).mono ?_
        rw [← HW.out]
        rintro e w' ⟨rfl, rfl⟩
        go_wp2
        go_ret
        exact ⟨rfl, rfl⟩
    · have hv : V = (fitsB n 0 3 && fitsB t 0 0) := by rw [HV.out]; unfold validB; rw [hn2, ht2]; rfl
      cases h1 : fitsB n 0 3 with
      | false =>
        rw [h1] at hv
        have HW := Lib.hid (show V = false from hv)
        have H1 := Lib.hid h1
        clear hv h1 hn2 ht2
        go_enter Tryd.func11, Tryd.ntmps11
        go_wp2_with (fail)
        refine (rfits_any n 0 3 w (by omega) (by omega) hn).mono ?_
        rw [H1.out]
        rintro e w' ⟨rfl, rfl⟩
        go_wp2
        go_ret
        exact ⟨by rw [HW.out]; rfl, rfl⟩
      | true =>
        rw [h1, Bool.true_and] at hv
        have HW := Lib.hid hv
        have H1 := Lib.hid h1
        clear hv h1 hn2 ht2
        go_enter Tryd.func11, Tryd.ntmps11
        go_wp2_with (fail)
        refine (rfits_any n 0 3 w (by omega) (by omega) hn).mono ?_
        rw [H1.out]
        rintro e w' ⟨rfl, rfl⟩
        go_wp2_with (fail)
        refine (rfits_any t 0 0 w (by omega) (by omega) ht).mono ?_
        rw [← HW.out]
        rintro e w' ⟨rfl, rfl⟩
        go_wp2
        go_ret
        exact ⟨rfl, rfl⟩
    · have hv : V = (fitsB n 1 1 && fitsB t 0 0) := by rw [HV.out]; unfold validB; rw [hn2, ht2]; rfl
      cases h1 : fitsB n 1 1 with
      | false =>
        rw [h1] at hv
        have HW := Lib.hid (show V = false from hv)
        have H1 := Lib.hid h1
        clear hv h1 hn2 ht2
        go_enter Tryd.func11, Tryd.ntmps11
        go_wp2_with (fail)
        refine (rfits_any n 1 1 w (by omega) (by omega) hn).mono ?_
        rw [H1.out]
        rintro e w' ⟨rfl, rfl⟩
        go_wp2
        go_ret
        exact ⟨by rw [HW.out]; rfl, rfl⟩
      | true =>
        rw [h1, Bool.true_and] at hv
        have HW := Lib.hid hv
        have H1 := Lib.hid h1
        clear hv h1 hn2 ht2
        go_enter Tryd.func11, Tryd.ntmps11
        go_wp2_with (fail)
        refine (rfits_any n 1 1 w (by omega) (by omega) hn).mono ?_
        rw [H1.out]
        rintro e w' ⟨rfl, rfl⟩
        go_wp2_with (fail)
        refine (rfits_any t 0 0 w (by omega) (by omega) ht).mono ?_
        rw [← HW.out]
        rintro e w' ⟨rfl, rfl⟩
        go_wp2
        go_ret
        exact ⟨rfl, rfl⟩
    · have hv : V = (fitsB n 4 1 && fitsB t 1 0) := by rw [HV.out]; unfold validB; rw [hn2, ht2]; rfl
      cases h1 : fitsB n 4 1 with
      | false =>
        rw [h1] at hv
        have HW := Lib.hid (show V = false from hv)
        have H1 := Lib.hid h1
        clear hv h1 hn2 ht2
        go_enter Tryd.func11, Tryd.ntmps11
        go_wp2_with (fail)
        refine (rfits_any n 4 1 w (by omega) (by omega) hn).mono ?_
        rw [H1.out]
        rintro e w' ⟨rfl, rfl⟩
        go_wp2
        go_ret
        exact ⟨by rw [HW.out]; rfl, rfl⟩
      | true =>
        rw [h1, Bool.true_and] at hv
        have HW := Lib.hid hv
        have H1 := Lib.hid h1
        clear hv h1 hn2 ht2
        go_enter Tryd.func11, Tryd.ntmps11
        go_wp2_with (fail)
        refine (rfits_any n 4 1 w (by omega) (by omega) hn).mono ?_
        rw [H1.out]
        rintro e w' ⟨rfl, rfl⟩
        go_wp2_with (fail)
        refine (rfits_any t 1 0 w (by omega) (by omega) ht).mono ?_
        rw [← HW.out]
        rintro e w' ⟨rfl, rfl⟩
        go_wp2
        go_ret
        exact ⟨rfl, rfl⟩
    · have hv : V = (fitsB n 1 1 && fitsB t 0 0) := by rw [HV.out]; unfold validB; rw [hn2, ht2]; rfl
      cases h1 : fitsB n 1 1 with
      | false =>
        rw [h1] at hv
        have HW := Lib.hid (show V = false from hv)
        have H1 := Lib.hid h1
        clear hv h1 hn2 ht2
        go_enter Tryd.func11, Tryd.ntmps11
        go_wp2_with (fail)
        refine (rfits_any n 1 1 w (by omega) (by omega) hn).mono ?_
        rw [H1.out]
        rintro e w' ⟨rfl, rfl⟩
        go_wp2
        go_ret
        exact ⟨by rw [HW.out]; rfl, rfl⟩
      | true =>
        rw [h1, Bool.true_and] at hv
        have HW := Lib.hid hv
        have H1 := Lib.hid h1
        clear hv h1 hn2 ht2
        go_enter Tryd.func11, Tryd.ntmps11
        go_wp2_with (fail)
        refine (rfits_any n 1 1 w (by omega) (by omega) hn).mono ?_
        rw [H1.out]
        rintro e w' ⟨rfl, rfl⟩
        go_wp2_with (fail)
        refine (rfits_any t 0 0 w (by omega) (by omega) ht).mono ?_
        rw [← HW.out]
        rintro e w' ⟨rfl, rfl⟩
        go_wp2
        go_ret
        exact ⟨rfl, rfl⟩
    · have hv : V = (fitsB n 3 0 && fitsB t 0 0) := by rw [HV.out]; unfold validB; rw [hn2, ht2]; rfl
      cases h1 : fitsB n 3 0 with
      | false =>
        rw [h1] at hv
        have HW := Lib.hid (show V = false from hv)
        have H1 := Lib.hid h1
        clear hv h1 hn2 ht2
        go_enter Tryd.func11, Tryd.ntmps11
        go_wp2_with (fail)
        refine (rfits_any n 3 0 w (by omega) (by omega) hn).mono ?_
        rw [H1.out]
        rintro e w' ⟨rfl, rfl⟩
        go_wp2
        go_ret
        exact ⟨by rw [HW.out]; rfl, rfl⟩
      | true =>
        rw [h1, Bool.true_and] at hv
        have HW := Lib.hid hv
        have H1 := Lib.hid h1
        clear hv h1 hn2 ht2
        go_enter Tryd.func11, Tryd.ntmps11
        go_wp2_with (fail)
        refine (rfits_any n 3 0 w (by omega) (by omega) hn).mono ?_
        rw [H1.out]
        rintro e w' ⟨rfl, rfl⟩
        go_wp2_with (fail)
        refine (rfits_any t 0 0 w (by omega) (by omega) ht).mono ?_
        rw [← HW.out]
        rintro e w' ⟨rfl, rfl⟩
        go_wp2
        go_ret
        exact ⟨rfl, rfl⟩
    · have hv : V = (fitsB n 1 0 && fitsB t 1 0) := by rw [HV.out]; unfold validB; rw [hn2, ht2]; rfl
      cases h1 : fitsB n 1 0 with
      | false =>
        rw [h1] at hv
        have HW := Lib.hid (show V = false from hv)
        have H1 := Lib.hid h1
        clear hv h1 hn2 ht2
        go_enter Tryd.func11, Tryd.ntmps11
        go_wp2_with (fail)
        refine (rfits_any n 1 0 w (by omega) (by omega) hn).mono ?_
        rw [H1.out]
        rintro e w' ⟨rfl, rfl⟩
        go_wp2
        go_ret
        exact ⟨by rw [HW.out]; rfl, rfl⟩
      | true =>
        rw [h1, Bool.true_and] at hv
        have HW := Lib.hid hv
        have H1 := Lib.hid h1
        clear hv h1 hn2 ht2
        go_enter Tryd.func11, Tryd.ntmps11
        go_wp2_with (fail)
        refine (rfits_any n 1 0 w (by omega) (by omega) hn).mono ?_
        rw [H1.out]
        rintro e w' ⟨rfl, rfl⟩
        go_wp2_with (fail)
        refine (rfits_any t 1 0 w (by omega) (by omega) ht).mono ?_
        rw [← HW.out]
        rintro e w' ⟨rfl, rfl⟩
        go_wp2
        go_ret
        exact ⟨rfl, rfl⟩
    · have hv : V = (fitsB n 1 3 && fitsB t 0 0) := by rw [HV.out]; unfold validB; rw [hn2, ht2]; rfl
      cases h1 : fitsB n 1 3 with
      | false =>
        rw [h1] at hv
        have HW := Lib.hid (show V = false from hv)
        have H1 := Lib.hid h1
        clear hv h1 hn2 ht2
        go_enter Tryd.func11, Tryd.ntmps11
        go_wp2_with (fail)
        refine (rfits_any n 1 3 w (by omega) (by omega) hn).mono ?_
        rw [H1.out]
        rintro e w' ⟨rfl, rfl⟩
        go_wp2
        go_ret
        exact ⟨by rw [HW.out]; rfl, rfl⟩
      | true =>
        rw [h1, Bool.true_and] at hv
        have HW := Lib.hid hv
        have H1 := Lib.hid h1
        clear hv h1 hn2 ht2
        go_enter Tryd.func11, Tryd.ntmps11
        go_wp2_with (fail)
        refine (rfits_any n 1 3 w (by omega) (by omega) hn).mono ?_
        rw [H1.out]
        rintro e w' ⟨rfl, rfl⟩
        go_wp2_with (fail)
        refine (rfits_any t 0 0 w (by omega) (by omega) ht).mono ?_
        rw [← HW.out]
        rintro e w' ⟨rfl, rfl⟩
        go_wp2
        go_ret
        exact ⟨rfl, rfl⟩
    · have hv : V = (fitsB n 0 5 && fitsB t 0 0) := by rw [HV.out]; unfold validB; rw [hn2, ht2]; rfl
      cases h1 : fitsB n 0 5 with
      | false =>
        rw [h1] at hv
        have HW := Lib.hid (show V = false from hv)
        have H1 := Lib.hid h1
        clear hv h1 hn2 ht2
        go_enter Tryd.func11, Tryd.ntmps11
        go_wp2_with (fail)
        refine (rfits_any n 0 5 w (by omega) (by omega) hn).mono ?_
        rw [H1.out]
        rintro e w' ⟨rfl, rfl⟩
        go_wp2
        go_ret
        exact ⟨by rw [HW.out]; rfl, rfl⟩
      | true =>
        rw [h1, Bool.true_and] at hv
        have HW := Lib.hid hv
        have H1 := Lib.hid h1
        clear hv h1 hn2 ht2
        go_enter Tryd.func11, Tryd.ntmps11
        go_wp2_with (fail)
        refine (rfits_any n 0 5 w (by omega) (by omega) hn).mono ?_
        rw [H1.out]
        rintro e w' ⟨rfl, rfl⟩
        go_wp2_with (fail)
        refine (rfits_any t 0 0 w (by omega) (by omega) ht).mono ?_
        rw [← HW.out]
        rintro e w' ⟨rfl, rfl⟩
        go_wp2
        go_ret
        exact ⟨rfl, rfl⟩
    · have hv : V = (fitsB n 3 4 && fitsB t 0 0) := by rw [HV.out]; unfold validB; rw [hn2, ht2]; rfl
      cases h1 : fitsB n 3 4 with
      | false =>
        rw [h1] at hv
        have HW := Lib.hid (show V = false from hv)
        have H1 := Lib.hid h1
        clear hv h1 hn2 ht2
        go_enter Tryd.func11, Tryd.ntmps11
        go_wp2_with (fail)
        refine (rfits_any n 3 4 w (by omega) (by omega) hn).mono ?_
        rw [H1.out]
        rintro e w' ⟨rfl, rfl⟩
        go_wp2
        go_ret
        exact ⟨by rw [HW.out]; rfl, rfl⟩
      | true =>
        rw [h1, Bool.true_and] at hv
        have HW := Lib.hid hv
        have H1 := Lib.hid h1
        clear hv h1 hn2 ht2
        go_enter Tryd.func11, Tryd.ntmps11
        go_wp2_with (fail)
        refine (rfits_any n 3 4 w (by omega) (by omega) hn).mono ?_
        rw [H1.out]
        rintro e w' ⟨rfl, rfl⟩
        go_wp2_with (fail)
        refine (rfits_any t 0 0 w (by omega) (by omega) ht).mono ?_
        rw [← HW.out]
        rintro e w' ⟨rfl, rfl⟩
        go_wp2
        go_ret
        exact ⟨rfl, rfl⟩
    · have hv : V = (fitsB n 0 1 && fitsB t 0 1) := by rw [HV.out]; unfold validB; rw [hn2, ht2]; rfl
      cases h1 : fitsB n 0 1 with
      | false =>
        rw [h1] at hv
        have HW := Lib.hid (show V = false from hv)
        have H1 := Lib.hid h1
        clear hv h1 hn2 ht2
        go_enter Tryd.func11, Tryd.ntmps11
        go_wp2_with (fail)
        refine (rfits_any n 0 1 w (by omega) (by omega) hn).mono ?_
        rw [H1.out]
        rintro e w' ⟨rfl, rfl⟩
        go_wp2
        go_ret
        exact ⟨by rw [HW.out]; rfl, rfl⟩
      | true =>
        rw [h1, Bool.true_and] at hv
        have HW := Lib.hid hv
        have H1 := Lib.hid h1
        clear hv h1 hn2 ht2
        go_enter Tryd.func11, Tryd.ntmps11
        go_wp2_with (fail)
        refine (rfits_any n 0 1 w (by omega) (by omega) hn).mono ?_
        rw [H1.out]
        rintro e w' ⟨rfl, rfl⟩
        go_wp2_with (fail)
        refine (rfits_any t 0 1 w (by omega) (by omega) ht).mono ?_
        rw [← HW.out]
        rintro e w' ⟨rfl, rfl⟩
        go_wp2
        go_ret
        exact ⟨rfl, rfl⟩
    · have hv : V = (fitsB n 4 0 && fitsB t 0 0) := by rw [HV.out]; unfold validB; rw [hn2, ht2]; rfl
      cases h1 : fitsB n 4 0 with
      | false =>
        rw [h1] at hv
        have HW := Lib.hid (show V = false from hv)
        have H1 := Lib.hid h1
        clear hv h1 hn2 ht2
        go_enter Tryd.func11, Tryd.ntmps11
        go_wp2_with (fail)
        refine (rfits_any n 4 0 w (by omega) (by omega) hn).mono ?_
        rw [H1.out]
        rintro e w' ⟨rfl, rfl⟩
        go_wp2
        go_ret
        exact ⟨by rw [HW.out]; rfl, rfl⟩
      | true =>
        rw [h1, Bool.true_and] at hv
        have HW := Lib.hid hv
        have H1 := Lib.hid h1
        clear hv h1 hn2 ht2
        go_enter Tryd.func11, Tryd.ntmps11
        go_wp2_with (fail)
        refine (rfits_any n 4 0 w (by omega) (by omega) hn).mono ?_
        rw [H1.out]
        rintro e w' ⟨rfl, rfl⟩
        go_wp2_with (fail)
        refine (rfits_any t 0 0 w (by omega) (by omega) ht).mono ?_
        rw [← HW.out]
        rintro e w' ⟨rfl, rfl⟩
        go_wp2
        go_ret
        exact ⟨rfl, rfl⟩
    · have hv : V = (fitsB n 1 0 && fitsB t 0 2) := by rw [HV.out]; unfold validB; rw [hn2, ht2]; rfl
      cases h1 : fitsB n 1 0 with
      | false =>
        rw [h1] at hv
        have HW := Lib.hid (show V = false from hv)
        have H1 := Lib.hid h1
        clear hv h1 hn2 ht2
        go_enter Tryd.func11, Tryd.ntmps11
        go_wp2_with (fail)
        refine (rfits_any n 1 0 w (by omega) (by omega) hn).mono ?_
        rw [H1.out]
        rintro e w' ⟨rfl, rfl⟩
        go_wp2
        go_ret
        exact ⟨by rw [HW.out]; rfl, rfl⟩
      | true =>
        rw [h1, Bool.true_and] at hv
        have HW := Lib.hid hv
        have H1 := Lib.hid h1
        clear hv h1 hn2 ht2
        go_enter Tryd.func11, Tryd.ntmps11
        go_wp2_with (fail)
        refine (rfits_any n 1 0 w (by omega) (by omega) hn).mono ?_
        rw [H1.out]
        rintro e w' ⟨rfl, rfl⟩
        go_wp2_with (fail)
        refine (rfits_any t 0 2 w (by omega) (by omega) ht).mono ?_
        rw [← HW.out]
        rintro e w' ⟨rfl, rfl⟩
        go_wp2
        go_ret
        exact ⟨rfl, rfl⟩
  · have hv : V = false := by rw [HV.out]; unfold validB; rw [decide_eq_false hk]; rfl
    have HW := Lib.hid hv
    have k1 : (k == 1) = false := by simp; omega
    have k2 : (k == 2) = false := by simp; omega
    have k3 : (k == 3) = false := by simp; omega
    have k4 : (k == 4) = false := by simp; omega
    have k5 : (k == 5) = false := by simp; omega
    have k6 : (k == 6) = false := by simp; omega
    have k7 : (k == 7) = false := by simp; omega
    have k8 : (k == 8) = false := by simp; omega
    have k9 : (k == 9) = false := by simp; omega
    have k10 : (k == 10) = false := by simp; omega
    have k11 : (k == 11) = false := by simp; omega
    have k12 : (k == 12) = false := by simp; omega
    have k13 : (k == 13) = false := by simp; omega
    have k14 : (k == 14) = false := by simp; omega
    have k15 : (k == 15) = false := by simp; omega
    have k16 : (k == 16) = false := by simp; omega
    have k17 : (k == 17) = false := by simp; omega
    clear hv hk hn2 ht2
    go_enter Tryd.func11, Tryd.ntmps11
    go_wp2
    go_ret
    exact ⟨by rw [HW.out]; rfl, rfl⟩
end Go.Proofs.YtndcmjgjecdgcaaDoor
