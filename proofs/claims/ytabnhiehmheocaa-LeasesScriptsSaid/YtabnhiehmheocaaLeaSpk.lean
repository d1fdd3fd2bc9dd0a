/- Layer 13's laws: what they look at first. -/
import Derived.Test.YtabnhiehmheocaaLeaGrant
import Derived.Test.YtabnhiehmheocaaLeaDue
namespace Go.Proofs.Ytabnhiehmheocaa
open Go.RowKit Go.Maps

def slashA : ByteArray := ⟨#[47, 97]⟩
set_option maxHeartbeats 4000000 in
set_option maxRecDepth 100000 in
theorem speaks_any (w : World) : Calls Try.prog 7 #[] w fun e w' => e = .returned (.bool true) ∧ Below w.heap.size w w' := by
  go_enter Try.func7, Try.ntmps7
  go_wp2_with (fail)
  refine (newtab_any (w0 := w) 3 _ (Below.refl _ _)).mono ?_
  rintro e w1 ⟨rfl, H1⟩
  obtain ⟨p, hp⟩ : ∃ p, p = w.heap.size := ⟨_, rfl⟩
  rw [← hp] at H1 ⊢
  have HS1 : Hid (TabSt w w1 p 3 0 []) := Lib.hid H1.out.1
  clear H1 hp
  go_wp2_with (fail)
  refine (grant_any p 0 3 [] slashA 1 10 _ (by unfold maxLen; omega) (by decide) HS1).mono ?_
  rintro e w2 ⟨rfl, H2⟩
  have HS2 : Hid (TabSt w w2 p 3 1 (grantL [] slashA 1 (mom 10))) := Lib.hid H2.out.1
  clear H2 HS1
  go_wp2_with (fail)
  refine (due_any p 1 3 _ 13 _ (by decide) HS2).mono ?_
  rintro e w3 ⟨v, k, rfl, hk, hrow, hb3⟩
  have e1 : dueL (grantL [] slashA 1 (mom 10)) (mom 13 - lenT 3) = [slashA] := by decide
  rw [e1] at hk hrow
  simp only [List.length_cons, List.length_nil, Nat.zero_add] at hk
  subst hk
  obtain ⟨g, cap, rfl⟩ : ∃ g cap, v = .slice (some ⟨g, 0, none⟩) 1 cap := by
    rcases hrow.2 with ⟨_, h0⟩ | ⟨g, cap, cur, h1, _⟩
    · cases h0
    · exact ⟨g, cap, h1⟩
  have HS3 : Hid (TabSt w w3 p 3 1 (grantL [] slashA 1 (mom 10))) := Lib.hid (HS2.out.below hb3)
  have HR3 := Lib.hid hrow
  clear HS2 hb3 hrow
  go_wp2_with (fail)
  refine (due_any p 1 3 _ 12 _ (by decide) HS3).mono ?_
  rintro e w4 ⟨v, k, rfl, hk, hrow, hb4⟩
  have e2 : dueL (grantL [] slashA 1 (mom 10)) (mom 12 - lenT 3) = [] := by decide
  rw [e2] at hk
  simp only [List.length_nil] at hk
  subst hk
  have hv : ∃ a c, v = .slice a 0 c := by
    rcases hrow.2 with ⟨h0, _⟩ | ⟨g, cap, cur, h1, _⟩
    · exact ⟨_, _, h0⟩
    · exact ⟨_, _, h1⟩
  obtain ⟨a, c, rfl⟩ := hv
  have hc := (row_below HR3.out hb4).cellAt 0 (by decide)
  simp only [List.map_cons, List.getElem?_cons_zero] at hc
  have hs : slashA.toList = [47, 97] := by decide +kernel
  have HB := Lib.hid (HS3.out.below hb4).bel
  clear hrow hb4 HS3 HR3
  go_wp2
  go_ret
  exact ⟨rfl, HB.out⟩
end Go.Proofs.Ytabnhiehmheocaa
