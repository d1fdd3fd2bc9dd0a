/- Two lists of letters beside each other: the same. -/
import Derived.Test.YtcahiogjmclnjaaNetRefU
import Derived.Test.YtcahiogjmclnjaaLawEnd
namespace Go.Proofs.Ytcahiogjmclnjaa
open Go.RowKit
/-- nothing has turned but draws -/
def Drew (w w' : World) : Prop := Below w.heap.size w w' ∧ w'.heap = w.heap
theorem drew_refl (w : World) : Drew w w := ⟨Below.refl _ _, rfl⟩
theorem drew_more {w w' : World} (h : Drew w w') (n : Nat) : Drew w (w'.drewN n) := ⟨below_drewN h.1 n, h.2⟩
set_option maxRecDepth 100000 in
set_option maxHeartbeats 8000000 in
theorem same_any {base : Nat} (g : Nat) (v : Value) (L : List Letr) (w : World) (hL : L.length ≤ 65536) (hr : RowL w g 0 L.length L) (hf : Fly w 39 4 base v L.length (cellsOf L)) :
    Calls Try.prog 18 #[.slice (some ⟨g, 0, none⟩) L.length L.length, v] w fun e w' => e = .returned (.bool true) ∧ Drew w w' := by
  obtain ⟨a', c', hv⟩ : ∃ a' c', v = .slice a' L.length c' := by
    rcases hf.2 with ⟨h1, h2⟩ | ⟨g, o, cap, h1, _⟩
    · exact ⟨_, _, by rw [h1, h2]⟩
    · exact ⟨_, _, h1⟩
  subst hv
  have HR := Lib.hid hr
  have HF := Lib.hid hf
  obtain ⟨m, hm⟩ : ∃ m, m = L.length := ⟨_, rfl⟩
  have HM := Lib.hid hm
  rw [← hm] at HF ⊢
  have hm6 : (m : Int) ≤ 65536 := by omega
  clear hr hf hm hL
  go_enter Try.func18, Try.ntmps18
  go_wp2
  go_loopw [5] (fun i wr => ∃ j : Nat, j ≤ m ∧ i = .int .i64 j ∧ Hid (Drew w wr)) (fun i _ => m - (intOf i).toNat)
  case atStart => exact ⟨0, by omega, rfl, Lib.hid (drew_refl w)⟩
  case round =>
    obtain ⟨j, hj, rfl, HD⟩ := hrel
    by_cases hjm : j < m
    · have hjm' : (j : Int) < m := by omega
      obtain ⟨l, hl⟩ : ∃ l, L[j]? = some l := ⟨_, List.getElem?_eq_getElem (by rw [← HM.out]; exact hjm)⟩
      have hce : ∀ a, wr.cell? a = w.cell? a := fun a => by simp [World.cell?, HD.out.2]
      have x0 : wr.cell? ⟨g, j * 4, none⟩ = some (.int .i64 l.id) := by
        have := HR.out.cell (j * 4 + 0) _ (cellsOf_get L j l hl 0 (by omega)); rw [hce]; simpa using this
      have x1 : wr.cell? ⟨g, j * 4 + 1, none⟩ = some (.int .i64 l.a) := by
        have := HR.out.cell (j * 4 + 1) _ (cellsOf_get L j l hl 1 (by omega)); rw [hce]; simpa using this
      have x2 : wr.cell? ⟨g, j * 4 + 2, none⟩ = some (.int .i64 l.b) := by
        have := HR.out.cell (j * 4 + 2) _ (cellsOf_get L j l hl 2 (by omega)); rw [hce]; simpa using this
      have x3 : wr.cell? ⟨g, j * 4 + 3, none⟩ = some (.string l.s) := by
        have := HR.out.cell (j * 4 + 3) _ (cellsOf_get L j l hl 3 (by omega)); rw [hce]; simpa using this
      obtain ⟨g2, o, cap, hav, y0, y1, y2, y3⟩ : ∃ g2 o cap, a' = some ⟨g2, o, none⟩ ∧ wr.cell? ⟨g2, o + j * 4, none⟩ = some (.int .i64 l.id) ∧ wr.cell? ⟨g2, o + j * 4 + 1, none⟩ = some (.int .i64 l.a) ∧ wr.cell? ⟨g2, o + j * 4 + 2, none⟩ = some (.int .i64 l.b) ∧ wr.cell? ⟨g2, o + j * 4 + 3, none⟩ = some (.string l.s) := by
        rcases HF.out.2 with ⟨_, h2⟩ | ⟨g2, o, cap, h1, _, _, _, hrow⟩
        · omega
        · injection h1 with h1
          have w0 := hrow.cell (j * 4 + 0) _ (cellsOf_get L j l hl 0 (by omega))
          have w1 := hrow.cell (j * 4 + 1) _ (cellsOf_get L j l hl 1 (by omega))
          have w2 := hrow.cell (j * 4 + 2) _ (cellsOf_get L j l hl 2 (by omega))
          have w3 := hrow.cell (j * 4 + 3) _ (cellsOf_get L j l hl 3 (by omega))
          rw [← Nat.add_assoc] at w1 w2 w3
          exact ⟨g2, o, cap, h1, by rw [hce]; simpa using w0, by rw [hce]; exact w1, by rw [hce]; exact w2, by rw [hce]; exact w3⟩
      subst hav
      obtain ⟨lid, la, lb, ls⟩ := l
      simp only at x0 x1 x2 x3 y0 y1 y2 y3
      have n0 : (lid != lid) = false := by simp
      have n1 : (la != la) = false := by simp
      have n2 : (lb != lb) = false := by simp
      clear hce hl
      go_wp2_with (fail)
      go_quiet (fail)
      go_wp2
      go_round
      case rel => exact ⟨j + 1, by omega, by go_num, Lib.hid (drew_more HD.out _)⟩
      case measure => simp [intOf]; omega
    · go_wp2
      go_ret
      exact ⟨rfl, HD.out⟩
end Go.Proofs.Ytcahiogjmclnjaa
