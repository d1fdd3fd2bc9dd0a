/- Merging: the heap's first item is replaced, or dropped. -/
import Derived.Test.YtcgilgihmapipaaMrgPush
import Derived.Test.YtcgilgihmapipaaMrgSink
namespace Go.Proofs.Ytcgilgihmapipaa
open Go.RowKit

theorem down_set (ord : It → Int) (l : List It) (x : It) (h : HeapO l.length (ordL ord l)) : DownO (l.set 0 x).length (ordL ord (l.set 0 x)) 0 := by
  have e : ∀ i, 0 < i → ordL ord (l.set 0 x) i = ordL ord l i := fun i hi => by
    unfold ordL
    rw [List.getD_eq_getElem?_getD, List.getD_eq_getElem?_getD, List.getElem?_set_ne (by omega)]
  refine ⟨fun i h0 hi hp => ?_, fun i h0 hi hp h => absurd h (Nat.lt_irrefl _)⟩
  rw [List.length_set] at hi
  rw [e i h0, e (par i) (by omega)]
  exact h i h0 hi
set_option maxRecDepth 100000 in
set_option maxHeartbeats 8000000 in
theorem replace_any (R : Rn) (B hp : Nat) (ord : It → Int) (HO : Hid (OrdOk R ord)) (hln : Hid (∀ i, i < R.n → R.ln i ≤ 4398046511104)) (y : It) (l : List It) (x : It) (w : World) (hl : (y :: l).length ≤ 4398046511104) (hx : VIt R x) (hv : VIts R (y :: l)) (hB : B ≤ w.heap.size) (hR : RnAt R B w) (H : HpAt R B hp (y :: l) w) (hU : HeapO (y :: l).length (ordL ord (y :: l))) :
    Calls Try.prog 26 #[.pointer (some ⟨hp, 0, none⟩), .agg #[.slice (some ⟨R.bk x.1, R.of x.1 + x.2 * 2, none⟩) (R.ln x.1 - x.2) (R.cp x.1 - x.2), .int .i64 (x.1 : Int)]] w fun e w' => e = .returned (.tuple #[]) ∧ ∃ l', l'.Perm (x :: l) ∧ HeapO l'.length (ordL ord l') ∧ HpAt R B hp l' w' ∧ Kp B w w' := by
  have mixed : Try.prog.follows Departure.mixedOrders = true := by kernel_rfl
  obtain ⟨W1, hW1⟩ : ∃ W1, W1 = w.alloc (.cells #[.slice (some ⟨R.bk x.1, R.of x.1 + x.2 * 2, none⟩) (R.ln x.1 - x.2) (R.cp x.1 - x.2), .int .i64 (x.1 : Int)] 67) := ⟨_, rfl⟩
  have hb1 : Below w.heap.size w W1 := by rw [hW1]; exact (Below.refl _ _).alloc (Nat.le_refl _) _
  have p0 : W1.cell? ⟨w.heap.size, 0, none⟩ = some (.slice (some ⟨R.bk x.1, R.of x.1 + x.2 * 2, none⟩) (R.ln x.1 - x.2) (R.cp x.1 - x.2)) := by rw [hW1]; simp
  have p1 : W1.cell? ⟨w.heap.size, 1, none⟩ = some (.int .i64 (x.1 : Int)) := by rw [hW1]; simp
  have H1 := H.below hb1
  obtain ⟨ar, c, c0, c1, hc, hxs⟩ := H1.cells
  obtain ⟨g, rfl, hBg, hg, hgh, hbg, y0, y1, hf⟩ := hxs 0 y rfl
  obtain ⟨s1, s2⟩ := H1.set c0 0 x (by simp)
  have d1 : (W1.setCell ⟨g, 0 * 2, none⟩ (.slice (some ⟨R.bk x.1, R.of x.1 + x.2 * 2, none⟩) (R.ln x.1 - x.2) (R.cp x.1 - x.2))).cell? ⟨g, 0 * 2 + 1, none⟩ = some (.int .i64 (y.1 : Int)) := (World.cell?_setCell_other _ _ _ _ (by intro e; injection e with _ e; omega)).trans y1
  have S3 := Lib.hid (And.intro s1 ((kp_below (B := B) hb1).trans s2))
  have HVV := Lib.hid (And.intro hx (And.intro hv (And.intro hB (And.intro hR hU))))
  have f0 := hf 0
  have f1 := hf 1
  simp only [Nat.zero_mul, Nat.zero_add] at y0 y1 d1
  obtain ⟨N, hN⟩ : ∃ N, N = (y :: l).length := ⟨_, rfl⟩
  have hN0 : 0 < N := by rw [hN]; simp
  have hN1 : (0 : Int) < (N : Int) := by omega
  have HN := Lib.hid hN
  have HW1 := Lib.hid hW1
  obtain ⟨nb, hnb⟩ : ∃ nb, nb = w.heap.size := ⟨_, rfl⟩
  rw [← hN] at c0
  rw [← hnb] at p0 p1
  have HNB := Lib.hid hnb
  clear hN hW1 hnb hb1 H H1 hc hxs s1 s2 hx hv hR hU hf
  go_enter Try.func26, Try.ntmps26
  go_wp2_with (fail)
  rw [← HW1.out, ← HNB.out]
  go_big_region_o
  clear c0 c1 p0 p1 y0 y1 d1 f0 f1
  obtain ⟨w4, hw4⟩ : ∃ w4, w4 = ((W1.setCell ⟨g, 0, none⟩ (.slice (some ⟨R.bk x.1, R.of x.1 + x.2 * 2, none⟩) (R.ln x.1 - x.2) (R.cp x.1 - x.2))).setCell ⟨g, 1, none⟩ (.int .i64 (x.1 : Int))).drew := ⟨_, rfl⟩
  have hat : HpAt R B hp (x :: l) w4 ∧ Kp B w w4 := by rw [hw4]; exact ⟨S3.out.1.drew, kp_drew S3.out.2⟩
  rw [← hw4]
  have HAT := Lib.hid hat
  clear hw4 hat S3
  have hsink := sink_any R B hp ord HO hln (x :: l) w4 hl (fun z hz => by
    rcases List.mem_cons.1 hz with h | h
    · rw [h]; exact HVV.out.1
    · exact HVV.out.2.1 z (List.mem_cons_of_mem _ h)) (Nat.le_trans HVV.out.2.2.1 HAT.out.2.size) (rnAt_kp HVV.out.2.2.2.1 HVV.out.2.2.1 HAT.out.2) HAT.out.1 (down_set ord (y :: l) x HVV.out.2.2.2.2)
  go_wp2_with (fail)
  refine hsink.mono ?_
  rintro e w5 ⟨rfl, l', hp', hh', ha', hk'⟩
  have HF := Lib.hid (And.intro hp' (And.intro hh' (And.intro ha' hk')))
  clear hsink hp' hh' ha' hk'
  go_wp2
  go_end0
  exact ⟨rfl, l', HF.out.1, HF.out.2.1, HF.out.2.2.1, HAT.out.2.trans HF.out.2.2.2⟩
theorem itCs_take (R : Rn) : ∀ (l : List It) (m : Nat), (itCs R l).take (m * 2) = itCs R (l.take m)
  | [], m => by simp [itCs]
  | x :: l, 0 => by simp [itCs]
  | x :: l, m + 1 => by
    have := itCs_take R l m
    show (_ :: _ :: itCs R l).take ((m + 1) * 2) = _ :: _ :: itCs R (l.take m)
    rw [show (m + 1) * 2 = m * 2 + 1 + 1 by omega, List.take_succ_cons, List.take_succ_cons, this]
/-- the row is cut behind its first items -/
theorem HpAt.cut {R : Rn} {B hp g c m : Nat} {l : List It} {W : World} (h : HpAt R B hp l W) (ha : W.cell? ⟨hp, 0, none⟩ = some (.slice (some ⟨g, 0, none⟩) l.length c)) (hm : m ≤ l.length) :
    HpAt R B hp (l.take m) (W.setCell ⟨hp, 0, none⟩ (.slice (some ⟨g, 0, none⟩) m c)) ∧ Kp B W (W.setCell ⟨hp, 0, none⟩ (.slice (some ⟨g, 0, none⟩) m c)) := by
  obtain ⟨v, h1, h2⟩ := h.row
  have e0 : W.cell? ⟨hp, 0, none⟩ = some v := by simp [World.cell?, h1]
  rw [ha] at e0
  injection e0 with e0
  subst e0
  refine ⟨⟨h.le, .slice (some ⟨g, 0, none⟩) m c, by simp [World.setCell, Array.getElem?_modify, h1], ?_⟩, kp_set (a := ⟨hp, 0, none⟩) h.le (.inl ⟨_, h1⟩)⟩
  have hap := hp_row_apart h1 h2
  rcases h2.2 with ⟨h', _⟩ | ⟨g', cap, cur, h', hb, hg, hnc, hcm, hcs, htake⟩
  · simp at h'
  · simp only [Value.slice.injEq, Option.some.injEq, Addr.mk.injEq, and_true, true_and] at h'
    obtain ⟨rfl, rfl⟩ := h'
    have hlm : (l.take m).length = m := by simp; omega
    rw [hlm]
    refine ⟨by rw [itCs_len, hlm], .inr ⟨g, c, cur, rfl, hb, ?_, by omega, hcm, hcs, ?_⟩⟩
    · have hne : hp ≠ g := fun e => hap (by simp [Value.ownBlock, e])
      exact (Below.heap_setCell _ _ _ _ (fun e => hne e.symm)).trans hg
    · rw [← itCs_take, ← htake, List.take_take, Nat.min_eq_left (Nat.mul_le_mul_right _ hm)]
theorem swp_last (y : It) (l : List It) : ∃ l', l'.Perm l ∧ (swpI (y :: l) 0 l.length).take l.length = l' ∧ ∀ i, 0 < i → i < l.length → l'.getD i (0, 0) = (y :: l).getD i (0, 0) := by
  refine ⟨_, ?_, rfl, fun i h0 hi => ?_⟩
  · have hp := swpI_perm (y :: l) 0 l.length (by simp) (by simp)
    have hlen : (swpI (y :: l) 0 l.length).length = l.length + 1 := by rw [swpI_len]; simp
    have hlast : (swpI (y :: l) 0 l.length)[l.length]'(by omega) = y := by
      unfold swpI
      rw [List.getElem_set_self]
      simp
    have hcut : (swpI (y :: l) 0 l.length).take l.length ++ [y] = swpI (y :: l) 0 l.length := by
      have h1 := List.take_succ_eq_append_getElem (l := swpI (y :: l) 0 l.length) (i := l.length) (by omega)
      rw [hlast] at h1
      rw [← h1, List.take_of_length_le (by omega)]
    have h2 : (y :: (swpI (y :: l) 0 l.length).take l.length).Perm (y :: l) := (List.perm_append_comm (l₁ := [y])).trans (by rw [hcut]; exact hp)
    exact h2.cons_inv
  · rw [List.getD_eq_getElem?_getD, List.getD_eq_getElem?_getD, List.getElem?_take_of_lt hi]
    unfold swpI
    rw [List.getElem?_set_ne (by omega), List.getElem?_set_ne (by omega)]
theorem down_drop (ord : It → Int) (y : It) (l l' : List It) (hlen : l'.length = l.length) (hg : ∀ i, 0 < i → i < l.length → l'.getD i (0, 0) = (y :: l).getD i (0, 0)) (h : HeapO (y :: l).length (ordL ord (y :: l))) : DownO l'.length (ordL ord l') 0 := by
  refine ⟨fun i h0 hi hp => ?_, fun i h0 hi hp h => absurd h (Nat.lt_irrefl _)⟩
  have hpl := par_lt h0
  unfold ordL
  rw [hg i h0 (by omega), hg (par i) (by omega) (by omega)]
  exact h i h0 (by simp; omega)
set_option maxRecDepth 100000 in
set_option maxHeartbeats 8000000 in
theorem drop_any (R : Rn) (B hp : Nat) (ord : It → Int) (HO : Hid (OrdOk R ord)) (hln : Hid (∀ i, i < R.n → R.ln i ≤ 4398046511104)) (y : It) (l : List It) (w : World) (hl : (y :: l).length ≤ 4398046511104) (hv : VIts R (y :: l)) (hB : B ≤ w.heap.size) (hR : RnAt R B w) (H : HpAt R B hp (y :: l) w) (hU : HeapO (y :: l).length (ordL ord (y :: l))) :
    Calls Try.prog 27 #[.pointer (some ⟨hp, 0, none⟩)] w fun e w' => e = .returned (.tuple #[]) ∧ ∃ l', l'.Perm l ∧ HeapO l'.length (ordL ord l') ∧ HpAt R B hp l' w' ∧ Kp B w w' := by
  have mixed : Try.prog.follows Departure.mixedOrders = true := by kernel_rfl
  obtain ⟨ar, c, c0, c1, hc, hxs⟩ := H.cells
  have hsw := swap_any R B hp (y :: l) 0 l.length w (by simp) (by simp) hl H
  have HVV := Lib.hid (And.intro hv (And.intro hB (And.intro hR hU)))
  have hw : wrap64 (((l.length + 1 : Nat) : Int) - 1) = ((l.length : Nat) : Int) := by
    rw [show ((l.length + 1 : Nat) : Int) - 1 = ((l.length : Nat) : Int) by omega]
    exact IntWalk.wrap64_in _ (by simp at hl; omega)
  have hl2 : l.length ≤ 4398046511104 := by simp at hl; omega
  rw [List.length_cons] at c0
  clear H hv hB hR hU c1 hc hxs
  go_enter Try.func27, Try.ntmps27
  go_wp2_with (fail)
  refine hsw.mono ?_
  rintro e w2 ⟨rfl, hH, hK⟩
  obtain ⟨ar2, c2, d0, _, hc2, hxs2⟩ := hH.cells
  have f0 : w2.frozen? ⟨hp, 0, none⟩ = false := by
    obtain ⟨v, h1, _⟩ := hH.row
    simp [World.frozen?, h1]
  obtain ⟨g, rfl, _⟩ := hxs2 0 ((swpI (y :: l) 0 l.length)[0]'(by rw [swpI_len]; simp)) (List.getElem?_eq_getElem _)
  obtain ⟨hcut, hkc⟩ := hH.cut d0 (m := l.length) (by rw [swpI_len]; simp)
  obtain ⟨l', hp1, hl', hget⟩ := swp_last y l
  rw [hl'] at hcut
  have HC := Lib.hid (And.intro hcut (And.intro (hK.trans hkc) (And.intro hp1 hget)))
  rw [swpI_len, List.length_cons] at d0 hc2
  clear hH hK hcut hkc hp1 hl' hget hxs2 hsw c0
  have q1 : l.length ≤ c2 := by omega
  have q2 : (l.length : Int) ≤ (c2 : Int) := by omega
  have q3 : ¬ c2 < l.length := by omega
  go_wp2_with (fail)
  have HC2 := HC.out
  have hsink := sink_any R B hp ord HO hln l' (w2.setCell ⟨hp, 0, none⟩ (.slice (some ⟨g, 0, none⟩) l.length c2)) (by rw [HC2.2.2.1.length_eq]; exact hl2) (fun z hz => HVV.out.1 z (List.mem_cons_of_mem _ (HC2.2.2.1.mem_iff.1 hz))) (Nat.le_trans HVV.out.2.1 HC2.2.1.size) (rnAt_kp HVV.out.2.2.1 HVV.out.2.1 HC2.2.1) HC2.1 (down_drop ord y l l' HC2.2.2.1.length_eq HC2.2.2.2 HVV.out.2.2.2)
  refine hsink.mono ?_
  rintro e w5 ⟨rfl, l'', hp', hh', ha', hk'⟩
  have HF := Lib.hid (And.intro hp' (And.intro hh' (And.intro ha' hk')))
  clear hsink hp' hh' ha' hk' HC2
  go_wp2
  go_end0
  exact ⟨rfl, l'', HF.out.1.trans HC.out.2.2.1, HF.out.2.1, HF.out.2.2.1, HC.out.2.1.trans HF.out.2.2.2⟩
end Go.Proofs.Ytcgilgihmapipaa
