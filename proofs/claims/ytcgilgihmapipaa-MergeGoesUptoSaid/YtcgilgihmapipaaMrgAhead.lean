/- Merging: which of two sources comes ahead. -/
import Derived.Test.YtcgilgihmapipaaMrgHeap
import Derived.Test.YtcgilgihmapipaaShelf
namespace Go.Proofs.Ytcgilgihmapipaa
open Go.RowKit

theorem cell_gr {w : World} {a : Addr} {v : Value} (h : w.cell? a = some v) (n : Nat) (os : Array Obj) : (Go.Sort.grow (w.drewN n) os).cell? a = some v := by
  refine cell_grown (w := w) ?_ h n os
  rcases Nat.lt_or_ge a.block w.heap.size with hlt | hge
  · exact hlt
  · have h0 := World.cell?_spot h
    obtain ⟨b, off, spot⟩ := a
    have hspot : spot = none := h0
    subst hspot
    simp [World.cell?, Array.getElem?_eq_none hge] at h
theorem grow_below {w w' : World} {q : Nat} {os : Array Obj} (h : w' = Go.Sort.grow (w.drewN q) os) : Below w.heap.size w w' := by
  subst h
  refine ⟨rfl, rfl, rfl, by show w.heap.size ≤ (w.heap ++ os).size; simp, fun k hk => ?_⟩
  show (w.heap ++ os)[k]? = w.heap[k]?
  exact Array.getElem?_append_left hk
def VIt (R : Rn) (x : It) : Prop := x.1 < R.n ∧ x.2 < R.ln x.1
/-- numbers that stand for the order of sources: by their keys, of the same key by their runs' places -/
def OrdOk (R : Rn) (ord : It → Int) : Prop := ∀ x y, VIt R x → VIt R y →
  (Lib.compareBytes (R.K x.1 x.2).data.toList (R.K y.1 y.2).data.toList ≠ 0 → (ord x < ord y ↔ Lib.compareBytes (R.K x.1 x.2).data.toList (R.K y.1 y.2).data.toList < 0)) ∧
  (Lib.compareBytes (R.K x.1 x.2).data.toList (R.K y.1 y.2).data.toList = 0 → (ord x < ord y ↔ x.1 < y.1))
set_option maxRecDepth 100000 in
set_option maxHeartbeats 4000000 in
theorem ahead_any (R : Rn) (B : Nat) (ord : It → Int) (HO : Hid (OrdOk R ord)) (x y : It) (hx : VIt R x) (hy : VIt R y) (hln : ∀ i, i < R.n → R.ln i ≤ 4398046511104) (w : World) (hB : B ≤ w.heap.size) (hR : RnAt R B w) :
    Calls Try.prog 31 #[.agg #[.slice (some ⟨R.bk x.1, R.of x.1 + x.2 * 2, none⟩) (R.ln x.1 - x.2) (R.cp x.1 - x.2), .int .i64 (x.1 : Int)], .agg #[.slice (some ⟨R.bk y.1, R.of y.1 + y.2 * 2, none⟩) (R.ln y.1 - y.2) (R.cp y.1 - y.2), .int .i64 (y.1 : Int)]] w fun e w' => e = .returned (.bool (decide (ord x < ord y))) ∧ ∃ (q : Nat) (os' : Array Obj), w' = Go.Sort.grow (w.drewN q) os' := by
  have mixed : Try.prog.follows Departure.mixedOrders = true := by kernel_rfl
  obtain ⟨hbx, kx, _⟩ := hR x.1 hx.1 x.2 hx.2
  obtain ⟨hby, ky, _⟩ := hR y.1 hy.1 y.2 hy.2
  obtain ⟨KX, hKX⟩ : ∃ k, k = R.K x.1 x.2 := ⟨_, rfl⟩
  obtain ⟨KY, hKY⟩ : ∃ k, k = R.K y.1 y.2 := ⟨_, rfl⟩
  rw [← hKX] at kx
  rw [← hKY] at ky
  have hcmp := fun w => Try.strings_Compare KX KY w
  obtain ⟨o1, o2⟩ := HO.out x y hx hy
  rw [← hKX, ← hKY] at o1 o2
  obtain ⟨c, hc⟩ : ∃ c, c = Lib.compareBytes KX.data.toList KY.data.toList := ⟨_, rfl⟩
  rw [← hc] at o1 o2
  have hcmp' : ∀ w, Calls Try.prog 22 #[.string KX, .string KY] w fun e w' => e = .returned (.int .i64 c) ∧ w' = w := fun w => by rw [hc]; exact hcmp w
  have hnx : (0 : Int) < ((R.ln x.1 - x.2 : Nat) : Int) := by have := hx.2; omega
  have hny : (0 : Int) < ((R.ln y.1 - y.2 : Nat) : Int) := by have := hy.2; omega
  obtain ⟨nx, hnx'⟩ : ∃ n, n = R.ln x.1 - x.2 := ⟨_, rfl⟩
  obtain ⟨ny, hny'⟩ : ∃ n, n = R.ln y.1 - y.2 := ⟨_, rfl⟩
  obtain ⟨cx, hcx⟩ : ∃ n, n = R.cp x.1 - x.2 := ⟨_, rfl⟩
  obtain ⟨cy, hcy⟩ : ∃ n, n = R.cp y.1 - y.2 := ⟨_, rfl⟩
  obtain ⟨px, hpx⟩ : ∃ n, n = R.of x.1 + x.2 * 2 := ⟨_, rfl⟩
  obtain ⟨py, hpy⟩ : ∃ n, n = R.of y.1 + y.2 * 2 := ⟨_, rfl⟩
  obtain ⟨bx, hbx'⟩ : ∃ n, n = R.bk x.1 := ⟨_, rfl⟩
  obtain ⟨b', hby'⟩ : ∃ n, n = R.bk y.1 := ⟨_, rfl⟩
  rw [← hnx'] at hnx
  rw [← hny'] at hny
  rw [← hnx', ← hny', ← hcx, ← hcy, ← hpx, ← hpy, ← hbx', ← hby']
  rw [← hpx, ← hbx'] at kx
  rw [← hpy, ← hby'] at ky
  rw [← hbx'] at hbx
  rw [← hby'] at hby
  have HC := Lib.hid hcmp'
  have O1 := Lib.hid o1
  have O2 := Lib.hid o2
  obtain ⟨nw, hnw⟩ : ∃ n, n = w.heap.size := ⟨_, rfl⟩
  obtain ⟨W2, hW2⟩ : ∃ W2, W2 = (w.alloc (.cells #[.slice (some ⟨bx, px, none⟩) nx cx, .int .i64 (x.1 : Int)] 67)).alloc (.cells #[.slice (some ⟨b', py, none⟩) ny cy, .int .i64 (y.1 : Int)] 67) := ⟨_, rfl⟩
  have hb2 : Below w.heap.size w W2 := by rw [hW2]; exact ((Below.refl _ _).alloc (Nat.le_refl _) _).alloc (by simp) _
  have kx2 : W2.cell? ⟨bx, px, none⟩ = some (.string KX) := (hb2.cell (p := ⟨bx, px, none⟩) (show bx < w.heap.size by omega)).trans kx
  have ky2 : W2.cell? ⟨b', py, none⟩ = some (.string KY) := (hb2.cell (p := ⟨b', py, none⟩) (show b' < w.heap.size by omega)).trans ky
  have x0 : W2.cell? ⟨nw, 0, none⟩ = some (.slice (some ⟨bx, px, none⟩) nx cx) := by rw [hW2, hnw]; simp
  have x1 : W2.cell? ⟨nw, 1, none⟩ = some (.int .i64 (x.1 : Int)) := by rw [hW2, hnw]; simp
  have y0 : W2.cell? ⟨nw + 1, 0, none⟩ = some (.slice (some ⟨b', py, none⟩) ny cy) := by rw [hW2, hnw]; simp
  have y1 : W2.cell? ⟨nw + 1, 1, none⟩ = some (.int .i64 (y.1 : Int)) := by rw [hW2, hnw]; simp
  have HG : Hid (∀ n, ∃ (q : Nat) (os' : Array Obj), W2.drewN n = Go.Sort.grow (w.drewN q) os') := Lib.hid (fun n => ⟨n, _, by rw [hW2, Go.Sort.alloc_eq_grow, Go.Sort.alloc_eq_grow, Go.Sort.grow_grow]; rfl⟩)
  have HW2 := Lib.hid hW2
  clear hKX hKY
  clear hcmp hcmp' hc o1 o2 hR hnx' hny' hcx hcy hpx hpy hbx' hby' hbx hby kx ky hb2 hln
  go_enter Try.func31, Try.ntmps31
  go_wp2_with (fail)
  rw [← HW2.out, ← hnw]
  clear hnw hW2
  have HQ : Hid (∀ n, Calls Try.prog 22 #[.string KX, .string KY] (W2.drewN n) fun e w'' => e = .returned (.int .i64 c) ∧ ∃ n, w'' = W2.drewN n) := Lib.hid (fun n => (HC.out _).mono fun _ _ ⟨he, hw⟩ => ⟨he, n, hw⟩)
  have hnx2 : 0 < nx := by omega
  have hny2 : 0 < ny := by omega
  go_quiet (first | (go_at_call 22; exact HQ.out _))
  all_goals
    by_cases hc0 : c = 0
    · have E1 : Hid (decide (x.1 < y.1) = decide (ord x < ord y)) := Lib.hid (decide_eq_decide.2 (O2.out hc0).symm)
      subst hc0
      clear kx2 ky2
      go_wp2
      go_ret
      exact ⟨by rw [← E1.out]; try rfl, HG.out _⟩
    · have E1 : Hid (decide (c < 0) = decide (ord x < ord y)) := Lib.hid (decide_eq_decide.2 (O1.out hc0).symm)
      have hc1 : (c == 0) = false := by simpa using hc0
      clear kx2 ky2
      go_wp2
      go_ret
      exact ⟨by rw [← E1.out]; try rfl, HG.out _⟩
end Go.Proofs.Ytcgilgihmapipaa
