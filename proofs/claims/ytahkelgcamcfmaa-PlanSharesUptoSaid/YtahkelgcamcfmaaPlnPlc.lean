/- Package plan: the numbers of a list's places. -/
import Derived.Test.YtahkelgcamcfmaaPlnDel
namespace Go.Proofs.Ytahkelgcamcfmaa
open Go.RowKit

theorem make64 (n : Nat) (hn : n ≤ 1048576) : ∀ w : World, (Instr.makeSlice 31 (.int .i64 (n : Int)) (.int .i64 (n : Int))).run Try.prog w =
    .ok (.slice (some ⟨w.heap.size, 0, none⟩) n n) (w.alloc (.cells (madeCells #[.int .i64 0] n) 3)) := by
  intro w
  obtain ⟨i, hi, hz0, hz1, hz2⟩ := info_parts infoInt
  have := run_make (P := Try.prog) w 31 3 i (.int .i64 0) Try.underlying31 hi hz0 .i64 .i64 n n (by omega) (by omega) (by rw [hz2]; omega) (by omega)
  simpa [hz1, Value.cells] using this
theorem own_row {w : World} {B : Nat} {e : TypeId} {sz g n cap : Nat} {xs : List Value} (h : w.ownsRow B e sz (.slice (some ⟨g, 0, none⟩) n cap) n xs) : RowAt w e sz g 0 cap xs ∧ B ≤ g ∧ n ≤ cap ∧ cap ≤ maxLen ∧ xs.length = n * sz := by
  rcases h.2 with ⟨h1, _⟩ | ⟨g', cap', cur, h1, hB, hg, hn, hm, hs, ht⟩
  · cases h1
  · injection h1 with h1 _ h2
    injection h1 with h1
    injection h1 with h1 _ _
    subst h1 h2
    have hl := h.1
    refine ⟨⟨by rw [hl]; exact Nat.mul_le_mul_right _ hn, cur, hg, by omega, ?_⟩, hB, hn, hm, hl⟩
    rw [List.drop_zero, hl]
    exact ht
theorem row_own {w : World} {B : Nat} {e : TypeId} {sz g n cap : Nat} {xs : List Value} (h : RowAt w e sz g 0 cap xs) (hB : B ≤ g) (hn : n ≤ cap) (hm : cap ≤ maxLen) (hl : xs.length = n * sz) : w.ownsRow B e sz (.slice (some ⟨g, 0, none⟩) n cap) n xs := by
  obtain ⟨cur, hg, h1, h2⟩ := h.blk
  refine ⟨hl, .inr ⟨g, cap, cur, rfl, hB, hg, hn, hm, by omega, ?_⟩⟩
  rw [List.drop_zero, hl] at h2
  exact h2
def noughts (k n : Nat) : List Value := List.replicate (n - k) (.int .i64 0)
theorem made_own (n B : Nat) (w : World) (hB : B ≤ w.heap.size) (hn : n ≤ maxLen) : (w.alloc (.cells (madeCells #[.int .i64 0] n) 3)).ownsRow B 3 1 (.slice (some ⟨w.heap.size, 0, none⟩) n n) n (noughts 0 n) := by
  have h := World.ownsRow_lit (base := B) (e := 3) (size := 1) w (madeCells #[Value.int .i64 0] n) n hB hn (by rw [size_madeCells]; omega)
  rw [toList_madeCells_one] at h
  exact h
theorem set_snoc {xs : List Value} {k n : Nat} (hk : k < n) (u : Value) (hx : xs.length = k) : (xs ++ noughts k n).set k u = xs ++ [u] ++ noughts (k + 1) n := by
  unfold noughts
  obtain ⟨d, rfl⟩ : ∃ d, n = k + 1 + d := ⟨n - k - 1, by omega⟩
  rw [show k + 1 + d - k = d + 1 by omega, show k + 1 + d - (k + 1) = d by omega, List.set_append_right _ _ (by omega), hx, Nat.sub_self, List.replicate_succ]
  simp
set_option maxRecDepth 100000 in
set_option maxHeartbeats 4000000 in
theorem places_any (A : Option Addr) (n cap : Nat) (w : World) (hn : n ≤ 1048576) :
    Calls Try.prog 14 #[.slice A n cap] w fun e w' => e = .returned (.slice (some ⟨w.heap.size, 0, none⟩) n n) ∧ w'.ownsRow w.heap.size 3 1 (.slice (some ⟨w.heap.size, 0, none⟩) n n) n (clI (List.range n)) ∧ Below w.heap.size w w' := by
  have hmk := make64 n hn
  have hmax : n ≤ maxLen := by unfold maxLen; omega
  have HO := Lib.hid (made_own n w.heap.size w (Nat.le_refl _) hmax)
  have HB := Lib.hid ((Below.refl w.heap.size w).alloc (Nat.le_refl _) (.cells (madeCells #[.int .i64 0] n) 3))
  go_enter Try.func14, Try.ntmps14
  go_wp2_with (fail)
  clear hmk
  go_loopw [10] (fun iv wr => ∃ k : Nat, k ≤ n ∧ iv = .int .i64 (k : Int) ∧ Hid (wr.ownsRow w.heap.size 3 1 (.slice (some ⟨w.heap.size, 0, none⟩) n n) n (clI (List.range k) ++ noughts k n) ∧ Below w.heap.size w wr)) (fun iv _ => n - (intOf iv).toNat)
  case atStart => exact ⟨0, Nat.zero_le _, rfl, Lib.hid ⟨by simpa [clI] using HO.out, HB.out⟩⟩
  case round =>
    obtain ⟨k, hkn, rfl, HI⟩ := hrel
    by_cases hlt : k < n
    · obtain ⟨ho, hb⟩ := HI.out
      have c1 := ho.cellAt k (by omega)
      have hlen : (clI (List.range k)).length = k := by rw [clI_length]; simp
      rw [List.getElem?_append_right (by omega), hlen, Nat.sub_self] at c1
      have c2 : wr.cell? ⟨w.heap.size, k, none⟩ = some (.int .i64 0) := by
        rw [c1]
        unfold noughts
        rw [List.getElem?_replicate, if_pos (by omega)]
      have f2 := ho.frozenAt k
      have hst := ho.stored k (.int .i64 (k : Int))
      rw [set_snoc hlt _ hlen] at hst
      have HF : Hid ((wr.setCell ⟨w.heap.size, k, none⟩ (.int .i64 (k : Int))).ownsRow w.heap.size 3 1 (.slice (some ⟨w.heap.size, 0, none⟩) n n) n (clI (List.range (k + 1)) ++ noughts (k + 1) n) ∧ Below w.heap.size w (wr.setCell ⟨w.heap.size, k, none⟩ (.int .i64 (k : Int)))) := Lib.hid ⟨by
        rw [List.range_succ, clI_append]
        exact hst.1, hb.setCell (Nat.le_refl _) _⟩
      clear ho hb c1 hst HI
      go_wp2
      go_roundw
      case rel => exact ⟨k + 1, by omega, by first | rfl | go_num, HF⟩
      case measure => simp [intOf]; omega
    · obtain rfl : k = n := by omega
      go_wp2
      go_ret
      exact ⟨rfl, by have := HI.out.1; simpa [noughts] using this, HI.out.2⟩
end Go.Proofs.Ytahkelgcamcfmaa
