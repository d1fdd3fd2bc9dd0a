/- where.come over a row of the call's own; rows of the call's own and rows at a place. -/
import Derived.Test.YtjjmflkdfgneoaaSprDel
namespace Go.Proofs.Ytjjmflkdfgneoaa
open Go.RowKit

def upC (d : Cd → Int) (c : Cd) : Cd := { c with least := min c.least (d c) }
/-- behind k rounds of come -/
def comeL (d : Cd → Int) (L : List Cd) (k : Nat) : List Cd := (L.take k).map (upC d) ++ L.drop k
theorem comeL_all (d : Cd → Int) (L : List Cd) : comeL d L L.length = L.map (upC d) := by simp [comeL]
theorem comeL_length (d : Cd → Int) (L : List Cd) (k : Nat) : (comeL d L k).length = L.length := by simp [comeL]; omega
theorem comeL_get (d : Cd → Int) (L : List Cd) (k : Nat) (h : k < L.length) : (comeL d L k)[k]? = some L[k] := by
  unfold comeL
  rw [List.getElem?_append_right (by simp; omega), List.getElem?_drop]
  have e : k + (k - ((L.take k).map (upC d)).length) = k := by simp; omega
  rw [e, List.getElem?_eq_getElem h]
theorem comeL_set (d : Cd → Int) (L : List Cd) (k : Nat) (h : k < L.length) : (cellsOf (comeL d L k)).set (k * 3 + 2) (.int .i64 (min L[k].least (d L[k]))) = cellsOf (comeL d L (k + 1)) := by
  have e1 : comeL d L k = (L.take k).map (upC d) ++ (L[k] :: L.drop (k + 1)) := by unfold comeL; rw [List.drop_eq_getElem_cons h]
  have e2 : comeL d L (k + 1) = (L.take k).map (upC d) ++ (upC d L[k] :: L.drop (k + 1)) := by
    unfold comeL
    rw [List.take_succ_eq_append_getElem h, List.map_append, List.append_assoc]
    rfl
  rw [e1, e2, cellsOf_append, cellsOf_append]
  have hl : (cellsOf ((L.take k).map (upC d))).length = k * 3 := by rw [cellsOf_length]; simp; omega
  rw [List.set_append_right _ _ (by omega), hl, show k * 3 + 2 - k * 3 = 2 by omega]
  rfl
/-- a row at a block's beginning is a row of the call's own -/
theorem own_of_row {w : World} {e : TypeId} {sz g cap n B : Nat} {xs : List Value} (h : RowAt w e sz g 0 cap xs) (hx : xs.length = n * sz) (hB : B ≤ g) (hn : n ≤ cap) (hm : cap ≤ maxLen) : w.ownsRow B e sz (.slice (some ⟨g, 0, none⟩) n cap) n xs := by
  obtain ⟨cur, hg, h1, h2⟩ := h.blk
  exact ⟨hx, .inr ⟨g, cap, cur, rfl, hB, hg, hn, hm, by omega, by rw [List.drop_zero] at h2; rw [← hx]; exact h2⟩⟩
theorem row_of_own {w : World} {e : TypeId} {sz g cap n B : Nat} {xs : List Value} (h : w.ownsRow B e sz (.slice (some ⟨g, 0, none⟩) n cap) n xs) : RowAt w e sz g 0 cap xs ∧ n ≤ cap ∧ cap ≤ maxLen ∧ B ≤ g := by
  rcases h.2 with ⟨h', _⟩ | ⟨g', cap', cur, h', hb, hg, hnc, hcm, hcs, htake⟩
  · simp at h'
  · simp only [Value.slice.injEq, Option.some.injEq, Addr.mk.injEq, and_true, true_and] at h'
    obtain ⟨rfl, rfl⟩ := h'
    have hl := h.1
    refine ⟨⟨?_, cur, hg, by omega, by rw [List.drop_zero, hl]; exact htake⟩, hnc, hcm, hb⟩
    rw [hl]
    exact Nat.mul_le_mul_right _ hnc
set_option maxRecDepth 100000 in
set_option maxHeartbeats 4000000 in
theorem come_row (g cap B : Nat) (L : List Cd) (tr ti : Nat) (d : Cd → Int) (w : World) (hm : L.length ≤ 4398046511104) (h : w.ownsRow B 47 3 (.slice (some ⟨g, 0, none⟩) L.length cap) L.length (cellsOf L)) (hB : B ≤ w.heap.size)
    (hd : ∀ c ∈ L, ∀ w, Calls Try.prog 20 #[.complex .f64 c.re c.im, .complex .f64 tr ti] w fun e w' => e = .returned (.int .i64 (d c)) ∧ w = w') :
    Calls Try.prog 19 #[.slice (some ⟨g, 0, none⟩) L.length cap, .complex .f64 tr ti] w fun e w' => e = .returned (.tuple #[]) ∧ w'.ownsRow B 47 3 (.slice (some ⟨g, 0, none⟩) L.length cap) L.length (cellsOf (L.map (upC d))) ∧ w.grownBy w' (some g) := by
  have hg : g < w.heap.size := (h.lt g (by simp [Value.ownBlock])).2
  obtain ⟨m, hme⟩ : ∃ m, m = L.length := ⟨_, rfl⟩
  have hall := comeL_all d L
  have HD := Lib.hid hd
  have H := Lib.hid h
  have HM := Lib.hid hme
  rw [← hme] at H hm hall ⊢
  have HA := Lib.hid hall
  clear h hd hme hall
  go_enter Try.func19, Try.ntmps19
  go_wp2
  go_loopw [8] (fun iv wr => ∃ k : Nat, k ≤ m ∧ iv = .int .i64 (k : Int) ∧ Hid (wr.ownsRow B 47 3 (.slice (some ⟨g, 0, none⟩) m cap) m (cellsOf (comeL d L k)) ∧ w.grownBy wr (some g))) (fun iv _ => m - (intOf iv).toNat)
  case atStart => exact ⟨0, Nat.zero_le _, rfl, Lib.hid ⟨by simpa [comeL] using H.out, ⟨rfl, rfl, rfl, Nat.le_refl _, fun _ _ _ => rfl⟩⟩⟩
  case round =>
    obtain ⟨k, hk, rfl, HI⟩ := hrel
    by_cases hlt : k < m
    · have hkL : k < L.length := by have := HM.out; omega
      have hget := comeL_get d L k hkL
      obtain ⟨c, hc⟩ : ∃ c, c = L[k] := ⟨_, rfl⟩
      have hset := comeL_set d L k hkL
      have hdk := HD.out L[k] (List.getElem_mem hkL)
      rw [← hc] at hget hset hdk
      have c0 : wr.cell? ⟨g, k * 3, none⟩ = some (.int .i64 (c.num : Int)) := by rw [HI.out.1.cellAt (k * 3) (by omega)]; exact cellsOf_get _ k c hget 0 (by omega)
      have c1 : wr.cell? ⟨g, k * 3 + 1, none⟩ = some (.complex .f64 c.re c.im) := by rw [HI.out.1.cellAt (k * 3 + 1) (by omega)]; exact cellsOf_get _ k c hget 1 (by omega)
      have c2 : wr.cell? ⟨g, k * 3 + 2, none⟩ = some (.int .i64 c.least) := by rw [HI.out.1.cellAt (k * 3 + 2) (by omega)]; exact cellsOf_get _ k c hget 2 (by omega)
      have hgr : g < wr.heap.size := Nat.lt_of_lt_of_le hg HI.out.2.size
      have hfz := HI.out.1.frozenAt (k * 3 + 2)
      have hst := fun (W : World) (a : Addr) => run_store Try.prog W a (.complex .f64 c.re c.im) .plain rfl
      have HN : Hid (∀ wx, wx = ((wr.alloc (.cells #[.int .i64 (c.num : Int), .complex .f64 c.re c.im, .int .i64 c.least] 47)).setCell ⟨g, k * 3 + 2, none⟩ (.int .i64 (min c.least (d c)))).drew → wx.ownsRow B 47 3 (.slice (some ⟨g, 0, none⟩) m cap) m (cellsOf (comeL d L (k + 1))) ∧ w.grownBy wx (some g)) := Lib.hid fun wx hx => by
        subst hx
        obtain ⟨s1, s2⟩ := (HI.out.1.alloc (.cells #[.int .i64 (c.num : Int), .complex .f64 c.re c.im, .int .i64 c.least] 47)).stored (k * 3 + 2) (.int .i64 (min c.least (d c)))
        rw [hset] at s1
        have g1 := World.grownBy_alloc wr (.cells #[.int .i64 (c.num : Int), .complex .f64 c.re c.im, .int .i64 c.least] 47) (some g)
        have g0 := HI.out.2
        refine ⟨s1, ⟨s2.os.trans (g1.os.trans g0.os), s2.tape.trans (g1.tape.trans g0.tape), s2.output.trans (g1.output.trans g0.output), Nat.le_trans g0.size (Nat.le_trans g1.size s2.size), fun j hj hne => ?_⟩⟩
        exact (s2.block j (Nat.lt_of_lt_of_le hj (Nat.le_trans g0.size g1.size)) hne).trans ((g1.block j (Nat.lt_of_lt_of_le hj g0.size) hne).trans (g0.block j hj hne))
      clear hget hc hset
      go_wp2_with (fail)
      clear hst
      obtain ⟨W2, hW2⟩ : ∃ W2, W2 = wr.alloc (.cells #[.int .i64 (c.num : Int), .complex .f64 c.re c.im, .int .i64 c.least] 47) := ⟨_, rfl⟩
      have hb : Below wr.heap.size wr W2 := by rw [hW2]; exact (Below.refl _ _).alloc (Nat.le_refl _) _
      have d2 : W2.cell? ⟨g, k * 3 + 2, none⟩ = some (.int .i64 c.least) := (hb.cell (p := ⟨g, k * 3 + 2, none⟩) hgr).trans c2
      have f2 : W2.frozen? ⟨g, k * 3 + 2, none⟩ = false := (World.frozen?_of_block (a := ⟨g, k * 3 + 2, none⟩) (hb.block g hgr)).trans hfz
      have x1 : W2.cell? ⟨wr.heap.size, 1, none⟩ = some (.complex .f64 c.re c.im) := by rw [hW2]; simp
      have x2 : W2.cell? ⟨wr.heap.size, 2, none⟩ = some (.int .i64 c.least) := by rw [hW2]; simp
      rw [← hW2] at HN ⊢
      obtain ⟨nb, hnb⟩ : ∃ nb, nb = wr.heap.size := ⟨_, rfl⟩
      rw [← hnb] at x1 x2 ⊢
      have HDK := Lib.hid hdk
      clear hW2 hb c0 c1 c2 hfz hdk hnb hgr
      go_region_with (go_at_call 20; refine (HDK.out _).mono ?_; rintro e w' ⟨rfl, rfl⟩)
      all_goals
        first
          | (go_roundw
             case rel => exact ⟨k + 1, by omega, by first | rfl | go_num, Lib.hid (HN.out _ rfl)⟩
             case measure => simp [intOf]; omega)
          | (go_wp2
             go_roundw
             case rel => exact ⟨k + 1, by omega, by first | rfl | go_num, Lib.hid (HN.out _ rfl)⟩
             case measure => simp [intOf]; omega)
    · obtain rfl : k = m := by omega
      go_wp2
      go_end0
      exact ⟨rfl, by have := HI.out.1; rw [HA.out] at this; exact this, HI.out.2⟩
end Go.Proofs.Ytjjmflkdfgneoaa
