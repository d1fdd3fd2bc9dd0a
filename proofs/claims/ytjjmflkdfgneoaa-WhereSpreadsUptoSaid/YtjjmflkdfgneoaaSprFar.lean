/- where.farthest and come: rows of candidates. -/
import Derived.Test.YtjjmflkdfgneoaaNearIs
import Derived.BigQuiet
namespace Go.Proofs.Ytjjmflkdfgneoaa
open Go.RowKit

/-- a candidate: its number, its place's two parts as bits, its least distance -/
structure Cd where
  num : Nat
  re : Nat
  im : Nat
  least : Int
/-- the row's cells: m candidates from a block's beginning -/
def CdAt (w : World) (g m : Nat) (it : Nat → Cd) : Prop := ∀ i, i < m → w.cell? ⟨g, i * 3, none⟩ = some (.int .i64 ((it i).num : Int)) ∧ w.cell? ⟨g, i * 3 + 1, none⟩ = some (.complex .f64 (it i).re (it i).im) ∧ w.cell? ⟨g, i * 3 + 2, none⟩ = some (.int .i64 (it i).least)
theorem CdAt.lt {w : World} {g m : Nat} {it : Nat → Cd} (h : CdAt w g m it) (hm : 0 < m) : g < w.heap.size := by
  have h0 := (h 0 hm).1
  rcases Nat.lt_or_ge g w.heap.size with hlt | hge
  · exact hlt
  · simp [World.cell?, Array.getElem?_eq_none hge] at h0
theorem CdAt.below {w w' : World} {g m : Nat} {it : Nat → Cd} (h : CdAt w g m it) (hb : Below w.heap.size w w') : CdAt w' g m it := fun i hi => by
  have hg := h.lt (by omega)
  obtain ⟨h1, h2, h3⟩ := h i hi
  exact ⟨(hb.cell (p := ⟨g, _, none⟩) hg).trans h1, (hb.cell (p := ⟨g, _, none⟩) hg).trans h2, (hb.cell (p := ⟨g, _, none⟩) hg).trans h3⟩
/-- the first of those whose least distance is greatest, among the first k -/
def FarB (it : Nat → Cd) (k b : Nat) : Prop := b < k ∧ (∀ i, i < k → (it i).least ≤ (it b).least) ∧ ∀ i, i < b → (it i).least < (it b).least
theorem below_drewN0 {B : Nat} {a w : World} (h : Below B a w) (n : Nat) : Below B a (w.drewN n) := ⟨h.os, h.tape, h.output, h.size, h.block⟩
set_option maxRecDepth 100000 in
set_option maxHeartbeats 4000000 in
theorem farthest_any (g m cap : Nat) (it : Nat → Cd) (w : World) (hm0 : 0 < m) (hm : m ≤ 4398046511104) (h : CdAt w g m it) :
    Calls Try.prog 17 #[.slice (some ⟨g, 0, none⟩) m cap] w fun e w' => ∃ b : Nat, e = .returned (.int .i64 (b : Int)) ∧ FarB it m b ∧ Below w.heap.size w w' := by
  have H := Lib.hid h
  clear h
  go_enter Try.func17, Try.ntmps17
  go_wp2
  go_loopw [3, 8] (fun bv iv wr => ∃ k b : Nat, k ≤ m ∧ iv = .int .i64 (k : Int) ∧ bv = .int .i64 (b : Int) ∧ Hid ((k = 0 ∧ b = 0) ∨ FarB it k b) ∧ Hid (Below w.heap.size w wr)) (fun _ iv _ => m - (intOf iv).toNat)
  case atStart => exact ⟨0, 0, Nat.zero_le _, rfl, rfl, Lib.hid (.inl ⟨rfl, rfl⟩), Lib.hid (Below.refl _ _)⟩
  case round =>
    obtain ⟨k, b, hk, rfl, rfl, HF, HB⟩ := hrel
    by_cases hlt : k < m
    · obtain ⟨c0, c1, c2⟩ := (H.out.below HB.out) k hlt
      have hbk : b < m := by rcases HF.out with ⟨_, h⟩ | h; omega; have := h.1; omega
      obtain ⟨_, _, d2⟩ := (H.out.below HB.out) b hbk
      have hgw : g < wr.heap.size := (H.out.below HB.out).lt hm0
      have hne : g ≠ wr.heap.size := by omega
      obtain ⟨x, hx⟩ : ∃ x, x = (it k).least := ⟨_, rfl⟩
      obtain ⟨y, hy⟩ : ∃ y, y = (it b).least := ⟨_, rfl⟩
      rw [← hx] at c2
      rw [← hy] at d2
      have HX := Lib.hid hx
      have HY := Lib.hid hy
      clear hx hy
      have hst := fun (W : World) (a : Addr) => run_store Try.prog W a (.complex .f64 (it k).re (it k).im) .plain rfl
      go_wp2_with (fail)
      clear hst
      have HBA : Below w.heap.size w (wr.alloc (.cells #[.int .i64 ((it k).num : Int), .complex .f64 (it k).re (it k).im, .int .i64 x] 47)) := HB.out.alloc HB.out.size _
      have HBA' := Lib.hid HBA
      have d3 : (wr.alloc (.cells #[.int .i64 ((it k).num : Int), .complex .f64 (it k).re (it k).im, .int .i64 x] 47)).cell? ⟨g, b * 3 + 2, none⟩ = some (.int .i64 y) := (((Below.refl wr.heap.size wr).alloc (Nat.le_refl _) _).cell (p := ⟨g, b * 3 + 2, none⟩) hgw).trans d2
      have b1 : (b : Int) < (m : Int) := by omega
      have b2 : (0 : Int) ≤ (b : Int) := by omega
      clear HBA d2 c0 c1 c2
      by_cases hyx : y < x
      · have HF2 : Hid ((k + 1 = 0 ∧ k = 0) ∨ FarB it (k + 1) k) := Lib.hid (.inr (by
          rcases HF.out with ⟨rfl, rfl⟩ | ⟨h1, h2, h3⟩
          · rw [HX.out, HY.out] at hyx; omega
          · rw [HX.out, HY.out] at hyx
            refine ⟨by omega, fun i hi => ?_, fun i hi => ?_⟩
            · rcases Nat.lt_or_ge i k with h | h
              · have := h2 i h; omega
              · rw [show i = k by omega]; exact Int.le_refl _
            · have := h2 i hi; omega))
        have z1 : decide (y < x) = true := decide_eq_true hyx
        go_quiet (fail)
        go_wp2
        go_roundw
        case rel => exact ⟨k + 1, k, by omega, by first | rfl | go_num, rfl, HF2, Lib.hid (below_drewN0 HBA'.out _)⟩
        case measure => simp [intOf]; omega
      · have HF2 : Hid ((k + 1 = 0 ∧ b = 0) ∨ FarB it (k + 1) b) := Lib.hid (.inr (by
          rw [HX.out, HY.out] at hyx
          rcases HF.out with ⟨rfl, rfl⟩ | ⟨h1, h2, h3⟩
          · exact ⟨by omega, fun i hi => by rw [show i = 0 by omega]; exact Int.le_refl _, fun i hi => absurd hi (Nat.not_lt_zero _)⟩
          · refine ⟨by omega, fun i hi => ?_, h3⟩
            rcases Nat.lt_or_ge i k with h | h
            · exact h2 i h
            · rw [show i = k by omega]; omega))
        have z1 : decide (y < x) = false := decide_eq_false hyx
        go_quiet (fail)
        go_wp2
        go_roundw
        case rel => exact ⟨k + 1, b, by omega, by first | rfl | go_num, rfl, HF2, Lib.hid (below_drewN0 HBA'.out _)⟩
        case measure => simp [intOf]; omega
    · obtain rfl : k = m := by omega
      go_wp2
      go_ret
      exact ⟨b, rfl, by rcases HF.out with ⟨h, _⟩ | h; omega; exact h, HB.out⟩
end Go.Proofs.Ytjjmflkdfgneoaa
