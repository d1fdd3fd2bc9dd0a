/- Package attempts: a new board; an attempt begins. -/
import Derived.Test.YtapnlofklgknmaaAtmRy
import Derived.Laws.MakeOwn
namespace Go.Proofs.Ytapnlofklgknmaa
open Go.RowKit

theorem infoTask : (Try.prog.info? 63).map (fun i => (i.zero, i.size, i.bytes)) = some (some (.agg #[.slice none 0 0, .int .i64 0, .int .i64 0, .int .i64 0, .int .i64 0]), 5, 56) := by kernel_rfl
def zT : Array Value := #[.slice none 0 0, .int .i64 0, .int .i64 0, .int .i64 0, .int .i64 0]
theorem makeT (n : Nat) (hn : n ≤ 8192) : ∀ w : World, (Instr.makeSlice 56 (.int .i64 (n : Int)) (.int .i64 (n : Int))).run Try.prog w =
    .ok (.slice (some ⟨w.heap.size, 0, none⟩) n n) (w.alloc (.cells (madeCells zT (n * 5)) 63)) := by
  intro w
  obtain ⟨i, hi, hz0, hz1, hz2⟩ := info_parts infoTask
  have := run_make (P := Try.prog) w 56 63 i (.agg zT) Try.underlying56 hi hz0 .i64 .i64 n n (by omega) (by omega) (by rw [hz2]; omega) (by omega)
  simpa [hz1, Value.cells] using this
theorem madeT (n j c : Nat) (hj : j < n) (hc : c < 5) : (madeCells zT (n * 5))[j * 5 + c]? = some zT[c]! := by
  have hs : j * 5 + c < n * 5 := by omega
  have e : zT.size = 5 := rfl
  simp [madeCells, hs, e]
  congr 1
  omega
def newB (m r lim pat : Int) : Bd := ⟨cnt m, cnt m + cnt r, fun _ => ⟨[], 0, 0⟩, max lim 1, min (max pat 1) 1099511627776, false⟩
theorem opn_new (a k : Nat) : opn (fun _ => ⟨[], 0, 0⟩) a k = k := by
  unfold opn
  rw [List.countP_eq_length.2 (by simp)]
  simp
set_option maxRecDepth 100000 in
set_option maxHeartbeats 4000000 in
theorem new_any {w0 : World} (m r lim pat : Int) (hlim : lim ≤ 9223372036854775807) (w : World) (hb : Below w0.heap.size w0 w) : Calls Try.prog 7 #[.int .i64 m, .int .i64 r, .int .i64 lim, .int .i64 pat] w fun e w' => ∃ p, e = .returned (.pointer (some ⟨p, 0, none⟩)) ∧ Hid (AB w0 w' p (newB m r lim pat) ∧ Below w.heap.size w w') := by
  have hm := cnt_b m
  have hr := cnt_b r
  obtain ⟨M, hM⟩ : ∃ M, M = cnt m := ⟨_, rfl⟩
  obtain ⟨R, hR⟩ : ∃ R, R = cnt r := ⟨_, rfl⟩
  have hcm := count_any m
  have hcr := count_any r
  rw [← hM] at hcm hm
  rw [← hR] at hcr hr
  have hw1 : IntKind.i64.wrap ((M : Int) + (R : Int)) = ((M + R : Nat) : Int) := by rw [IntWalk.i64_in _ (by omega)]; omega
  have hmk := makeT (M + R) (by omega)
  simp only [Int.natCast_add] at hmk hw1
  have hB : newB m r lim pat = ⟨M, M + R, fun _ => ⟨[], 0, 0⟩, max lim 1, min (max pat 1) 1099511627776, false⟩ := by unfold newB; rw [← hM, ← hR]
  rw [hB]
  obtain ⟨X, hX⟩ : ∃ X, X = max lim 1 := ⟨_, rfl⟩
  obtain ⟨Y, hY⟩ : ∃ Y, Y = min (max pat 1) 1099511627776 := ⟨_, rfl⟩
  rw [← hX, ← hY]
  have hXb : 1 ≤ X ∧ X ≤ 9223372036854775807 := by omega
  have hYb : 1 ≤ Y ∧ Y ≤ 1099511627776 := by omega
  obtain ⟨g, hg⟩ : ∃ g, g = w.heap.size := ⟨_, rfl⟩
  have hfin : AB w0 ((w.alloc (.cells (madeCells zT ((M + R) * 5)) 63)).alloc (.cells #[.int .i64 (M : Int), .slice (some ⟨w.heap.size, 0, none⟩) (M + R) (M + R), .int .i64 X, .int .i64 Y, .int .i64 (M : Int), .int .i64 (R : Int), .bool false] 58)) (w.heap.size + 1) ⟨M, M + R, fun _ => ⟨[], 0, 0⟩, X, Y, false⟩ ∧ Below w.heap.size w ((w.alloc (.cells (madeCells zT ((M + R) * 5)) 63)).alloc (.cells #[.int .i64 (M : Int), .slice (some ⟨w.heap.size, 0, none⟩) (M + R) (M + R), .int .i64 X, .int .i64 Y, .int .i64 (M : Int), .int .i64 (R : Int), .bool false] 58)) := by
    obtain ⟨W1, hW1⟩ : ∃ W1, W1 = w.alloc (.cells (madeCells zT ((M + R) * 5)) 63) := ⟨_, rfl⟩
    have hs1 : W1.heap.size = w.heap.size + 1 := by rw [hW1]; simp
    have hb1 : Below w.heap.size w W1 := by rw [hW1]; exact (Below.refl _ _).alloc (Nat.le_refl _) _
    have hh1 : W1.heap[w.heap.size]? = some (.cells (madeCells zT ((M + R) * 5)) 63 (0, 0)) := by rw [hW1]; exact heap_alloc_new w _
    rw [← hW1]
    obtain ⟨W2, hW2⟩ : ∃ W2, W2 = W1.alloc (.cells #[.int .i64 (M : Int), .slice (some ⟨w.heap.size, 0, none⟩) (M + R) (M + R), .int .i64 X, .int .i64 Y, .int .i64 (M : Int), .int .i64 (R : Int), .bool false] 58) := ⟨_, rfl⟩
    rw [← hW2]
    have hb2 : Below w.heap.size w W2 := by rw [hW2]; exact hb1.alloc (by omega) _
    have hh2 : W2.heap[w.heap.size + 1]? = some (.cells #[.int .i64 (M : Int), .slice (some ⟨w.heap.size, 0, none⟩) (M + R) (M + R), .int .i64 X, .int .i64 Y, .int .i64 (M : Int), .int .i64 (R : Int), .bool false] 58 (0, 0)) := by rw [hW2, ← hs1]; exact heap_alloc_new W1 _
    have hh3 : W2.heap[w.heap.size]? = some (.cells (madeCells zT ((M + R) * 5)) 63 (0, 0)) := by
      rw [hW2]
      exact (heap_alloc_old W1 _ (by omega)).trans hh1
    have hc : ∀ i c, i < M + R → c < 5 → W2.cell? ⟨w.heap.size, i * 5 + c, none⟩ = some zT[c]! := fun i c hi hc => by
      rw [cell_of_row _ _ _ _ _ _ hh3]
      exact madeT _ _ _ hi hc
    have hsz := hb.size
    have hom : (Bd.mk M (M + R) (fun _ => ⟨[], 0, 0⟩) X Y false).om = M := opn_new 0 M
    have hor : (Bd.mk M (M + R) (fun _ => ⟨[], 0, 0⟩) X Y false).orr = R := (opn_new M (M + R - M)).trans (by omega)
    refine ⟨⟨hb.trans (hb2.mono hsz), ⟨w.heap.size, fun _ => .slice none 0 0, ?_⟩, by show M ≤ M + R; omega, by show M + R ≤ 8192; omega, hXb, hYb⟩, hb2⟩
    refine ⟨by omega, hsz, ⟨_, hh2⟩, ⟨_, hh3⟩, ?_, ?_, ?_, ?_, ?_, ?_, ?_, fun i hi => hc i 0 hi (by decide), fun i hi => hc i 1 hi (by decide), fun i hi => hc i 2 hi (by decide), fun i hi => hc i 3 hi (by decide), fun i hi => hc i 4 hi (by decide), fun i hi => World.ownsRow_nil _ _ _ _, fun i j k _ _ h => by cases h⟩
    · rw [cell_of_row _ _ _ _ _ _ hh2]; rfl
    · rw [cell_of_row _ _ _ _ _ _ hh2]; rfl
    · rw [cell_of_row _ _ _ _ _ _ hh2]; rfl
    · rw [cell_of_row _ _ _ _ _ _ hh2]; rfl
    · rw [cell_of_row _ _ _ _ _ _ hh2]
      show some (Value.int .i64 (M : Int)) = some (.int .i64 ((Bd.mk M (M + R) (fun _ => ⟨[], 0, 0⟩) X Y false).om : Int))
      rw [hom]
    · rw [cell_of_row _ _ _ _ _ _ hh2]
      show some (Value.int .i64 (R : Int)) = some (.int .i64 ((Bd.mk M (M + R) (fun _ => ⟨[], 0, 0⟩) X Y false).orr : Int))
      rw [hor]
    · rw [cell_of_row _ _ _ _ _ _ hh2]; rfl
  have HF := Lib.hid hfin
  clear hfin hB hM hR hg
  rcases Int.lt_or_le lim 1 with h1 | h1
  · rw [show X = 1 by omega] at HF ⊢
    clear hX hXb
    rcases Int.lt_or_le pat 1 with h2 | h2
    · rw [show Y = 1 by omega] at HF ⊢
      clear hY hYb
      go_enter Try.func7, Try.ntmps7
      go_wp2_with (fail)
      refine (hcm _).mono ?_
      rintro e w' ⟨rfl, rfl⟩
      go_wp2_with (fail)
      refine (hcr _).mono ?_
      rintro e w' ⟨rfl, rfl⟩
      go_wp2
      go_ret
      exact ⟨_, rfl, HF⟩
    · rcases Int.lt_or_le 1099511627776 pat with h3 | h3
      · rw [show Y = 1099511627776 by omega] at HF ⊢
        clear hY hYb
        go_enter Try.func7, Try.ntmps7
        go_wp2_with (fail)
        refine (hcm _).mono ?_
        rintro e w' ⟨rfl, rfl⟩
        go_wp2_with (fail)
        refine (hcr _).mono ?_
        rintro e w' ⟨rfl, rfl⟩
        go_wp2
        go_ret
        exact ⟨_, rfl, HF⟩
      · rw [show Y = pat by omega] at HF ⊢
        clear hY hYb
        go_enter Try.func7, Try.ntmps7
        go_wp2_with (fail)
        refine (hcm _).mono ?_
        rintro e w' ⟨rfl, rfl⟩
        go_wp2_with (fail)
        refine (hcr _).mono ?_
        rintro e w' ⟨rfl, rfl⟩
        go_wp2
        go_ret
        exact ⟨_, rfl, HF⟩
  · rw [show X = lim by omega] at HF ⊢
    clear hX hXb
    rcases Int.lt_or_le pat 1 with h2 | h2
    · rw [show Y = 1 by omega] at HF ⊢
      clear hY hYb
      go_enter Try.func7, Try.ntmps7
      go_wp2_with (fail)
      refine (hcm _).mono ?_
      rintro e w' ⟨rfl, rfl⟩
      go_wp2_with (fail)
      refine (hcr _).mono ?_
      rintro e w' ⟨rfl, rfl⟩
      go_wp2
      go_ret
      exact ⟨_, rfl, HF⟩
    · rcases Int.lt_or_le 1099511627776 pat with h3 | h3
      · rw [show Y = 1099511627776 by omega] at HF ⊢
        clear hY hYb
        go_enter Try.func7, Try.ntmps7
        go_wp2_with (fail)
        refine (hcm _).mono ?_
        rintro e w' ⟨rfl, rfl⟩
        go_wp2_with (fail)
        refine (hcr _).mono ?_
        rintro e w' ⟨rfl, rfl⟩
        go_wp2
        go_ret
        exact ⟨_, rfl, HF⟩
      · rw [show Y = pat by omega] at HF ⊢
        clear hY hYb
        go_enter Try.func7, Try.ntmps7
        go_wp2_with (fail)
        refine (hcm _).mono ?_
        rintro e w' ⟨rfl, rfl⟩
        go_wp2_with (fail)
        refine (hcr _).mono ?_
        rintro e w' ⟨rfl, rfl⟩
        go_wp2
        go_ret
        exact ⟨_, rfl, HF⟩
end Go.Proofs.Ytapnlofklgknmaa
