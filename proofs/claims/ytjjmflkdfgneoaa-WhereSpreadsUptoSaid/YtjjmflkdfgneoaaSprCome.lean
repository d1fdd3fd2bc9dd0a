/- where.come: the candidates' least distances, behind one more place that is taken. -/
import Derived.Test.YtjjmflkdfgneoaaSprFar
import Derived.Deep.RegionWith
namespace Go.Proofs.Ytjjmflkdfgneoaa
open Go.RowKit

/-- behind k rounds of come: the first k candidates' least distances are the new ones -/
def comeI (it : Nat → Cd) (dz : Nat → Int) (k i : Nat) : Cd := if i < k then { it i with least := min (it i).least (dz i) } else it i
/-- behind one more round -/
theorem come_step {w wr wx : World} {g m k : Nat} {it : Nat → Cd} {dz : Nat → Int} {o : Obj} (hk : k < m) (hg : g < w.heap.size) (h : CdAt wr g m (comeI it dz k) ∧ w.grownBy wr (some g) ∧ ∀ j, wr.frozen? ⟨g, j, none⟩ = false) (hx : wx = ((wr.alloc o).setCell ⟨g, k * 3 + 2, none⟩ (.int .i64 (min (it k).least (dz k)))).drew) :
    CdAt wx g m (comeI it dz (k + 1)) ∧ w.grownBy wx (some g) ∧ ∀ j, wx.frozen? ⟨g, j, none⟩ = false := by
  obtain ⟨h1, h2, h3⟩ := h
  have hgr : g < wr.heap.size := Nat.lt_of_lt_of_le hg h2.size
  have hb : Below wr.heap.size wr (wr.alloc o) := (Below.refl _ _).alloc (Nat.le_refl _) _
  subst hx
  refine ⟨fun i hi => ?_, ?_, fun j => ?_⟩
  · have hA := (h1.below hb) i hi
    by_cases hik : i = k
    · subst hik
      have e : comeI it dz (i + 1) i = { it i with least := min (it i).least (dz i) } := by unfold comeI; rw [if_pos (by omega)]
      have e0 : comeI it dz i i = it i := by unfold comeI; rw [if_neg (by omega)]
      rw [e0] at hA
      rw [e]
      refine ⟨(World.cell?_setCell_other _ _ _ _ (by intro e2; injection e2 with _ e3 _; omega)).trans hA.1, (World.cell?_setCell_other _ _ _ _ (by intro e2; injection e2 with _ e3 _; omega)).trans hA.2.1, World.cell?_setCell_same _ _ _ hA.2.2⟩
    · have e : comeI it dz (k + 1) i = comeI it dz k i := by
        unfold comeI
        by_cases h4 : i < k
        · rw [if_pos h4, if_pos (by omega)]
        · rw [if_neg h4, if_neg (by omega)]
      rw [e]
      refine ⟨(World.cell?_setCell_other _ _ _ _ (by intro e2; injection e2 with _ e3 _; omega)).trans hA.1, (World.cell?_setCell_other _ _ _ _ (by intro e2; injection e2 with _ e3 _; omega)).trans hA.2.1, (World.cell?_setCell_other _ _ _ _ (by intro e2; injection e2 with _ e3 _; omega)).trans hA.2.2⟩
  · refine ⟨h2.os, h2.tape, h2.output, ?_, fun j hj hne => ?_⟩
    · have := h2.size
      simp [World.setCell]
      omega
    · have hj2 : j < wr.heap.size := Nat.lt_of_lt_of_le hj h2.size
      refine (Below.heap_setCell _ ⟨g, k * 3 + 2, none⟩ _ j (fun e => hne (by rw [e]))).trans ?_
      exact (hb.block j hj2).trans (h2.block j hj hne)
  · show (((wr.alloc o).setCell ⟨g, k * 3 + 2, none⟩ (.int .i64 (min (it k).least (dz k))))).frozen? _ = false
    rw [World.frozen?_setCell]
    exact (World.frozen?_of_block (a := ⟨g, j, none⟩) (hb.block g hgr)).trans (h3 j)
set_option maxRecDepth 100000 in
set_option maxHeartbeats 4000000 in
theorem come_any (g m cap : Nat) (it : Nat → Cd) (tr ti : Nat) (dz : Nat → Int) (w : World) (hm : m ≤ 4398046511104) (h : CdAt w g m it) (hf : ∀ j, w.frozen? ⟨g, j, none⟩ = false) (hg : g < w.heap.size)
    (hd : ∀ i, i < m → ∀ w, Calls Try.prog 20 #[.complex .f64 (it i).re (it i).im, .complex .f64 tr ti] w fun e w' => e = .returned (.int .i64 (dz i)) ∧ w = w') :
    Calls Try.prog 19 #[.slice (some ⟨g, 0, none⟩) m cap, .complex .f64 tr ti] w fun e w' => e = .returned (.tuple #[]) ∧ CdAt w' g m (comeI it dz m) ∧ w.grownBy w' (some g) ∧ ∀ j, w'.frozen? ⟨g, j, none⟩ = false := by
  have H := Lib.hid h
  have HF := Lib.hid hf
  have HD := Lib.hid hd
  clear h hf hd
  go_enter Try.func19, Try.ntmps19
  go_wp2
  go_loopw [8] (fun iv wr => ∃ k : Nat, k ≤ m ∧ iv = .int .i64 (k : Int) ∧ Hid (CdAt wr g m (comeI it dz k) ∧ w.grownBy wr (some g) ∧ ∀ j, wr.frozen? ⟨g, j, none⟩ = false)) (fun iv _ => m - (intOf iv).toNat)
  case atStart => exact ⟨0, Nat.zero_le _, rfl, Lib.hid ⟨fun i hi => H.out i hi, ⟨rfl, rfl, rfl, Nat.le_refl _, fun _ _ _ => rfl⟩, HF.out⟩⟩
  case round =>
    obtain ⟨k, hk, rfl, HI⟩ := hrel
    by_cases hlt : k < m
    · have e0 : comeI it dz k k = it k := by unfold comeI; rw [if_neg (by omega)]
      obtain ⟨c0, c1, c2⟩ := HI.out.1 k hlt
      rw [e0] at c0 c1 c2
      have hgr : g < wr.heap.size := Nat.lt_of_lt_of_le hg HI.out.2.1.size
      have hfz := HI.out.2.2 (k * 3 + 2)
      have hst := fun (W : World) (a : Addr) => run_store Try.prog W a (.complex .f64 (it k).re (it k).im) .plain rfl
      have hd := HD.out k hlt
      clear e0
      go_wp2_with (fail)
      clear hst
      have HN := Lib.hid (come_step (wx := ((wr.alloc (.cells #[.int .i64 ((it k).num : Int), .complex .f64 (it k).re (it k).im, .int .i64 (it k).least] 47)).setCell ⟨g, k * 3 + 2, none⟩ (.int .i64 (min (it k).least (dz k)))).drew) hlt hg HI.out rfl)
      obtain ⟨W2, hW2⟩ : ∃ W2, W2 = wr.alloc (.cells #[.int .i64 ((it k).num : Int), .complex .f64 (it k).re (it k).im, .int .i64 (it k).least] 47) := ⟨_, rfl⟩
      have hb : Below wr.heap.size wr W2 := by rw [hW2]; exact (Below.refl _ _).alloc (Nat.le_refl _) _
      have d2 : W2.cell? ⟨g, k * 3 + 2, none⟩ = some (.int .i64 (it k).least) := (hb.cell (p := ⟨g, k * 3 + 2, none⟩) hgr).trans c2
      have f2 : W2.frozen? ⟨g, k * 3 + 2, none⟩ = false := (World.frozen?_of_block (a := ⟨g, k * 3 + 2, none⟩) (hb.block g hgr)).trans hfz
      have x1 : W2.cell? ⟨wr.heap.size, 1, none⟩ = some (.complex .f64 (it k).re (it k).im) := by rw [hW2]; simp
      have x2 : W2.cell? ⟨wr.heap.size, 2, none⟩ = some (.int .i64 (it k).least) := by rw [hW2]; simp
      rw [← hW2] at HN ⊢
      obtain ⟨nb, hnb⟩ : ∃ nb, nb = wr.heap.size := ⟨_, rfl⟩
      rw [← hnb] at x1 x2 ⊢
      have HDK := Lib.hid hd
      clear hW2 hb c0 c1 c2 hfz hd hnb hgr
      go_region_with (go_at_call 20; refine (HDK.out _).mono ?_; rintro e w' ⟨rfl, rfl⟩)
      all_goals
        first
          | (go_roundw
             case rel => exact ⟨k + 1, by omega, by first | rfl | go_num, HN⟩
             case measure => simp [intOf]; omega)
          | (go_wp2
             go_roundw
             case rel => exact ⟨k + 1, by omega, by first | rfl | go_num, HN⟩
             case measure => simp [intOf]; omega)
    · obtain rfl : k = m := by omega
      go_wp2
      go_end0
      exact ⟨rfl, HI.out⟩
end Go.Proofs.Ytjjmflkdfgneoaa
