/- Package attempts: speaks: a slow map is tried twice. -/
import Derived.Test.YtapnlofklgknmaaAtmStart
namespace Go.Proofs.Ytapnlofklgknmaa
open Go.RowKit

theorem spk_a : startA (newB 1 1 2 5) 0 = 1 := by decide
theorem spk_b : readyB (startB (newB 1 1 2 5) 0 1 0) 2 5 = [0] := by decide
theorem spk_c : readyB (startB (newB 1 1 2 5) 0 1 0) 2 4 = [] := by decide
theorem spk_l : ∀ i, i < (newB 1 1 2 5).n → ((newB 1 1 2 5).T i).A.length < 4398046511104 := fun i _ => by
  show (0 : Nat) < _
  decide
set_option maxRecDepth 100000 in
set_option maxHeartbeats 4000000 in
theorem speaks22_any (w : World) : Calls Try.prog 6 #[] w fun e w' => e = .returned (.bool true) ∧ Below w.heap.size w w' := by
  go_enter Try.func6, Try.ntmps6
  go_wp2_with (fail)
  refine (new_any (w0 := w) 1 1 2 5 (by decide) w (Below.refl _ _)).mono ?_
  rintro e w1 ⟨p, rfl, h1⟩
  have H1 : Hid (AB w w1 p (newB 1 1 2 5)) := Lib.hid h1.out.1
  clear h1
  have hs := start_any H1 spk_l 0 1 0
  rw [spk_a] at hs
  obtain ⟨b2, hb2⟩ : ∃ b2, b2 = startB (newB 1 1 2 5) 0 1 0 := ⟨_, rfl⟩
  rw [← hb2] at hs
  have HS := Lib.hid hs
  have hq1 : readyB b2 2 5 = [0] := by rw [hb2]; exact spk_b
  have hq2 : readyB b2 2 4 = [] := by rw [hb2]; exact spk_c
  have HQ1 := Lib.hid hq1
  have HQ2 := Lib.hid hq2
  clear hs hb2 hq1 hq2
  go_wp2_with (fail)
  refine HS.out.mono ?_
  rintro e w2 ⟨rfl, h2⟩
  have H2 : Hid (AB w w2 p b2) := Lib.hid h2.out.1
  clear h2
  have hr : ∀ W, Below w2.heap.size w2 W → Calls Try.prog 9 #[.pointer (some ⟨p, 0, none⟩), .int .i64 2, .int .i64 5] W fun e w' => ∃ g c, e = .returned (.slice (some ⟨g, 0, none⟩) 1 c) ∧ w'.cell? ⟨g, 0, none⟩ = some (.int .i64 0) ∧ Below W.heap.size W w' := fun W hW => by
    obtain ⟨tb, hs', k⟩ := (H2.out.below hW).raw
    refine (ready_any (Lib.hid k) H2.out.nn H2.out.pat 2 5).mono ?_
    rintro e w' ⟨v, he, ho, hb⟩
    rw [HQ1.out] at ho
    obtain ⟨g, c, rfl, _, _⟩ := ho.form (by decide)
    exact ⟨g, c, he, (ho.cellAt 0 (by decide)).trans rfl, hb⟩
  have hr2 : ∀ W, Below w2.heap.size w2 W → Calls Try.prog 9 #[.pointer (some ⟨p, 0, none⟩), .int .i64 2, .int .i64 4] W fun e w' => ∃ A c, e = .returned (.slice A 0 c) ∧ Below W.heap.size W w' := fun W hW => by
    obtain ⟨tb, hs', k⟩ := (H2.out.below hW).raw
    refine (ready_any (Lib.hid k) H2.out.nn H2.out.pat 2 4).mono ?_
    rintro e w' ⟨v, he, ho, hb⟩
    rw [HQ2.out] at ho
    obtain ⟨A, c, rfl⟩ := own_slice ho
    exact ⟨A, c, he, hb⟩
  have HR1 := Lib.hid hr
  have HR2 := Lib.hid hr2
  clear hr hr2
  go_wp2_with (fail)
  refine (HR1.out _ (Below.refl _ _)).mono ?_
  rintro e w3 ⟨g, c, rfl, hc, hb3⟩
  have HB3 := Lib.hid hb3
  have HC := Lib.hid hc
  clear hb3 hc
  go_wp2_with (fail)
  refine (HR2.out _ HB3.out).mono ?_
  rintro e w4 ⟨A4, c4, rfl, hb4⟩
  have hc4 := (hb4.cell (p := ⟨g, 0, none⟩) (World.block_lt_of_cell? _ _ HC.out)).trans HC.out
  have HF : Hid (Below w.heap.size w w4) := Lib.hid (H2.out.bel.trans ((HB3.out.trans (hb4.mono HB3.out.size)).mono H2.out.bel.size))
  clear hb4
  go_wp2
  go_ret
  exact ⟨rfl, HF.out⟩
end Go.Proofs.Ytapnlofklgknmaa
