/- Merging: an item of the heap goes down. -/
import Derived.Test.YtcgilgihmapipaaMrgRise
namespace Go.Proofs.Ytcgilgihmapipaa
open Go.RowKit
def itV (R : Rn) (x : It) : Value := .slice (some ⟨R.bk x.1, R.of x.1 + x.2 * 2, none⟩) (R.ln x.1 - x.2) (R.cp x.1 - x.2)
theorem cell_bel {w w' : World} {a : Addr} {v : Value} (h : w.cell? a = some v) (hb : Below w.heap.size w w') : w'.cell? a = some v := by
  refine (hb.cell (p := a) ?_).trans h
  rcases Nat.lt_or_ge a.block w.heap.size with hlt | hge
  · exact hlt
  · have h0 := World.cell?_spot h
    obtain ⟨b, off, spot⟩ := a
    have hspot : spot = none := h0
    subst hspot
    simp [World.cell?, Array.getElem?_eq_none hge] at h
/-- what holds at each pass of sink -/
def SinkJ (R : Rn) (B hp : Nat) (ord : It → Int) (l0 : List It) (w0 : World) (a' : Act) (w' : World) : Prop :=
  (∃ (a : Nat) (l : List It), l.Perm l0 ∧ a ≤ l.length ∧ DownO l.length (ordL ord l) a ∧ HpAt R B hp l w' ∧ Kp B w0 w' ∧ ∃ u2 u3 u4 u5 u6 u7 u8 u9 u10 u11 u12 u13 u14 u15 u16 u17 u18 u19 u20 u21 u22 u23 u24 u25 u26 u27 u28 u29 u30 u31 u32 u33 u34 u35 u36 u37 u38 u39 u40 u41 u42 u43 u44 u45 u46 u47 u48 u49 u50 u51 u52 u53 u54 u55 u56 u57 u58 u59 u60 u61 u62 u63 u64 u65 u66 u67 u68 u69 u70 u71 u72 u73 : Value, a' = { tmps := #[.pointer (some ⟨hp, 0, none⟩), .int .i64 (a : Int), u2, u3, u4, u5, u6, u7, u8, u9, u10, u11, u12, u13, u14, u15, u16, u17, u18, u19, u20, u21, u22, u23, u24, u25, u26, u27, u28, u29, u30, u31, u32, u33, u34, u35, u36, u37, u38, u39, u40, u41, u42, u43, u44, u45, u46, u47, u48, u49, u50, u51, u52, u53, u54, u55, u56, u57, u58, u59, u60, u61, u62, u63, u64, u65, u66, u67, u68, u69, u70, u71, u72, u73], defers := [] })
set_option maxRecDepth 100000 in
set_option maxHeartbeats 200000000 in
theorem sink_any (R : Rn) (B hp : Nat) (ord : It → Int) (HO : Hid (OrdOk R ord)) (hln : Hid (∀ i, i < R.n → R.ln i ≤ 4398046511104)) (l : List It) (w : World) (hl : l.length ≤ 4398046511104) (hv : VIts R l) (hB : B ≤ w.heap.size) (hR : RnAt R B w) (H : HpAt R B hp l w) (hU : DownO l.length (ordL ord l) 0) :
    Calls Try.prog 33 #[.pointer (some ⟨hp, 0, none⟩), .int .i64 0] w fun e w' => e = .returned (.tuple #[]) ∧ ∃ l', l'.Perm l ∧ HeapO l'.length (ordL ord l') ∧ HpAt R B hp l' w' ∧ Kp B w w' := by
  have mixed : Try.prog.follows Departure.mixedOrders = true := by kernel_rfl
  have eg : ∀ args w, (callFunc 31 args).run Try.prog w = .ok (.enter 31 args) w := enters_of Try.func31 (by kernel_rfl) rfl
  go_enter Try.func33, Try.ntmps33
  go_wp2
  have HV := Lib.hid hv
  have HR := Lib.hid (And.intro hB hR)
  refine wp_scope_head 0 (SinkJ R B hp ord l w) (fun a' _ => l.length - (intOf (a'.tmps.getD 1 undef)).toNat) ⟨0, l, List.Perm.refl _, Nat.zero_le _, hU, H, Kp.refl _ _, _, _, _, _, _, _, _, _, _, _, _, _, _, _, _, _, _, _, _, _, _, _, _, _, _, _, _, _, _, _, _, _, _, _, _, _, _, _, _, _, _, _, _, _, _, _, _, _, _, _, _, _, _, _, _, _, _, _, _, _, _, _, _, _, _, _, _, _, _, _, _, _, rfl⟩ ?_
  clear hv hB hR H hU
  rintro a' wr ⟨a, l1, hp1, hal, hU, H, hK, u2, u3, u4, u5, u6, u7, u8, u9, u10, u11, u12, u13, u14, u15, u16, u17, u18, u19, u20, u21, u22, u23, u24, u25, u26, u27, u28, u29, u30, u31, u32, u33, u34, u35, u36, u37, u38, u39, u40, u41, u42, u43, u44, u45, u46, u47, u48, u49, u50, u51, u52, u53, u54, u55, u56, u57, u58, u59, u60, u61, u62, u63, u64, u65, u66, u67, u68, u69, u70, u71, u72, u73, rfl⟩
  have hm : (intOf (({ tmps := #[.pointer (some ⟨hp, 0, none⟩), .int .i64 (a : Int), u2, u3, u4, u5, u6, u7, u8, u9, u10, u11, u12, u13, u14, u15, u16, u17, u18, u19, u20, u21, u22, u23, u24, u25, u26, u27, u28, u29, u30, u31, u32, u33, u34, u35, u36, u37, u38, u39, u40, u41, u42, u43, u44, u45, u46, u47, u48, u49, u50, u51, u52, u53, u54, u55, u56, u57, u58, u59, u60, u61, u62, u63, u64, u65, u66, u67, u68, u69, u70, u71, u72, u73], defers := [] } : Act).tmps.getD 1 undef)).toNat = a := by simp [intOf]
  rw [hm]
  clear hm
  obtain ⟨ar, c, c0, c1, hc, hx⟩ := H.cells
  have hl1 : l1.length = l.length := hp1.length_eq
  have hBr : B ≤ wr.heap.size := Nat.le_trans HR.out.1 hK.size
  have hRr : RnAt R B wr := fun i hi p hq => by
    obtain ⟨h1, h2, h3⟩ := HR.out.2 i hi p hq
    have hb := hK.below HR.out.1
    exact ⟨h1, (hb.cell (p := ⟨R.bk i, _, none⟩) h1).trans h2, (hb.cell (p := ⟨R.bk i, _, none⟩) h1).trans h3⟩
  have hvi : ∀ i, i < l1.length → VIt R (l1.getD i (0, 0)) := fun i hi => by
    have e : l1.getD i (0, 0) = l1[i] := by rw [List.getD_eq_getElem?_getD, List.getElem?_eq_getElem hi]; rfl
    rw [e]
    exact HV.out _ (hp1.mem_iff.1 (List.getElem_mem hi))
  have hah : ∀ i j, i < l1.length → j < l1.length → ∀ W, Below wr.heap.size wr W → ∀ n os, Calls Try.prog 31 #[.agg #[itV R (l1.getD i (0, 0)), .int .i64 ((l1.getD i (0, 0)).1 : Int)], .agg #[itV R (l1.getD j (0, 0)), .int .i64 ((l1.getD j (0, 0)).1 : Int)]] (Go.Sort.grow (W.drewN n) os) fun e w' => e = .returned (.bool (decide (ordL ord l1 i < ordL ord l1 j))) ∧ ∃ (q : Nat) (os' : Array Obj), w' = Go.Sort.grow ((Go.Sort.grow (W.drewN n) os).drewN q) os' := fun i j hi hj W hb n os => ahead_any R B ord HO _ _ (hvi i hi) (hvi j hj) hln.out _ (Nat.le_trans hBr (Nat.le_trans hb.size (grow_below rfl).size)) (fun i hi p hq => by
    obtain ⟨h1, h2, h3⟩ := hRr i hi p hq
    exact ⟨h1, cell_gr (cell_bel h2 hb) n os, cell_gr (cell_bel h3 hb) n os⟩)
  have hrow : ∀ i, i < l1.length → ∃ g, ar = some ⟨g, 0, none⟩ ∧ wr.cell? ⟨g, i * 2, none⟩ = some (itV R (l1.getD i (0, 0))) ∧ wr.cell? ⟨g, i * 2 + 1, none⟩ = some (.int .i64 ((l1.getD i (0, 0)).1 : Int)) := fun i hi => by
    have e : l1.getD i (0, 0) = l1[i] := by rw [List.getD_eq_getElem?_getD, List.getElem?_eq_getElem hi]; rfl
    obtain ⟨g, e', _, _, _, _, y0, y1, _⟩ := hx i l1[i] (List.getElem?_eq_getElem hi)
    rw [e]
    exact ⟨g, e', y0, y1⟩
  obtain ⟨N, hN⟩ : ∃ N, N = l1.length := ⟨_, rfl⟩
  rw [← hN] at c0
  have HAH := Lib.hid hah
  have HROW := Lib.hid hrow
  have HST := Lib.hid (And.intro hp1 (And.intro hU (And.intro H hK)))
  have HN := Lib.hid (And.intro hN hl1)
  have hw1 : wrap64 (2 * (a : Int) + 1) = ((2 * a + 1 : Nat) : Int) := by
    rw [show 2 * (a : Int) + 1 = ((2 * a + 1 : Nat) : Int) by omega]
    exact IntWalk.wrap64_in _ (by omega)
  have hw2 : wrap64 (2 * (a : Int)) = 2 * (a : Int) := IntWalk.wrap64_in _ (by omega)
  obtain ⟨b, hb⟩ : ∃ b, b = 2 * a + 1 := ⟨_, rfl⟩
  rw [← hb] at hw1
  have hw3 : wrap64 ((b : Int) + 1) = (b : Int) + 1 := IntWalk.wrap64_in _ (by omega)
  have hw4 : IntKind.i64.wrap ((b : Int) + 1) = (b : Int) + 1 := IntWalk.i64_in _ (by omega)
  have HB := Lib.hid (And.intro hb (And.intro hw1 (And.intro hw2 (And.intro hw3 hw4))))
  have hNl : N ≤ 4398046511104 := by omega
  clear hp1 hU H hK hx hvi hah hrow hN hl1 hBr hRr hc hb hw1 hw2 hw3 hw4 hal
  have k0 := cell_gr c0
  have k1 := cell_gr c1
  by_cases hbn : N ≤ b
  · have f1 : decide ((b : Int) + 1 < (N : Int)) = false := decide_eq_false (by omega)
    have f2 : decide ((N : Int) ≤ (b : Int)) = true := decide_eq_true (by omega)
    have f3 : ¬ (b : Int) + 1 < (N : Int) := by omega
    have f4 : (N : Int) ≤ (b : Int) := by omega
    have hw1 := HB.out.2.1
    have hw2 := HB.out.2.2.1
    have hw3 := HB.out.2.2.2.1
    go_wp2_with (fail)
    go_big_region_o
    clear hw1 hw2
    go_wp2_with (fail)
    go_big_region_o
    go_wp2
    simp only [Exit.jump]
    obtain ⟨s1, s2, s3, s4⟩ := HST.out
    exact bodyPost_ret (v := .tuple #[]) (results_none rfl _ _ _) rfl ⟨rfl, l1, s1, down_end s2 (fun i h0 hi hp => by have := HB.out.1; have := HN.out.1; unfold par at hp; omega), s3.drew.drew, kp_drew (kp_drew s4)⟩
  · have hbl : b < l1.length := by have := HN.out.1; omega
    obtain ⟨g, rfl, x0, x1⟩ := HROW.out b hbl
    obtain ⟨g', e', y0, y1⟩ := HROW.out a (by have := HB.out.1; omega)
    injection e' with e'
    injection e' with e'
    subst e'
    -- what the first choice leaves: a place below, a world behind
    have fin : ∀ (q : Nat) (W2 : World), Below wr.heap.size wr W2 → 0 < q → q < l1.length → par q = a → (∀ i, 0 < i → i < l1.length → par i = a → ordL ord l1 q ≤ ordL ord l1 i) → Hid (Below wr.heap.size wr W2 ∧ HpAt R B hp l1 W2 ∧ 0 < q ∧ q < l1.length ∧ par q = a ∧ (∀ i, 0 < i → i < l1.length → par i = a → ordL ord l1 q ≤ ordL ord l1 i)) := fun q W2 h1 h2 h3 h4 h5 => Lib.hid ⟨h1, HST.out.2.2.1.below h1, h2, h3, h4, h5⟩
    have FIN := Lib.hid fin
    have C0 := Lib.hid (And.intro c0 (And.intro c1 (And.intro y0 y1)))
    clear fin c0 c1 y0 y1
    by_cases hb1 : b + 1 < N
    · obtain ⟨g', e', z0, z1⟩ := HROW.out (b + 1) (by have := HN.out.1; omega)
      injection e' with e'
      injection e' with e'
      subst e'
      have f3 : (b : Int) + 1 < (N : Int) := by omega
      have f4 : (b : Int) < (N : Int) := by omega
      have f5 : (0 : Int) ≤ (b : Int) + 1 := by omega
      have f6 : ((b : Int) + 1).toNat = b + 1 := by omega
      have k2 := cell_gr x0
      have k3 := cell_gr x1
      have k4 := cell_gr z0
      have k5 := cell_gr z1
      have hah := HAH.out (b + 1) b (by have := HN.out.1; omega) hbl wr (Below.refl _ _)
      obtain ⟨I1, hI1⟩ : ∃ I, I = l1.getD (b + 1) (0, 0) := ⟨_, rfl⟩
      obtain ⟨I2, hI2⟩ : ∃ I, I = l1.getD b (0, 0) := ⟨_, rfl⟩
      rw [← hI1] at hah k4 k5
      rw [← hI2] at hah k2 k3
      have X := Lib.hid (And.intro x0 (And.intro x1 (And.intro z0 z1)))
      clear x0 x1 z0 z1 hI1 hI2
      have hw1 := HB.out.2.1
      have hw2 := HB.out.2.2.1
      have hw3 := HB.out.2.2.2.1
      have hw4 := HB.out.2.2.2.2
      by_cases hlt : ordL ord l1 (b + 1) < ordL ord l1 b
      · have hd : decide (ordL ord l1 (b + 1) < ordL ord l1 b) = true := decide_eq_true hlt
        rw [hd] at hah
        have HLT := Lib.hid hlt
        clear hlt hd
        go_wp2_with (fail)
        go_quiet_grown (first | (go_at_fn 31; refine Calls.grown_of (hah _ _)))
        clear k0 k1 k2 k3 k4 k5 hah
        obtain ⟨w2, hw2⟩ : ∃ w2, w2 = Go.Sort.grow (wr.drewN nq) osq := ⟨_, rfl⟩
        have hG := grow_below hw2
        rw [← hw2]
        clear hw2
        have F := FIN.out (b + 1) w2 hG (by have := HB.out.1; omega) (by have := HN.out.1; omega) (by have := HB.out.1; unfold par; omega) (fun i h0 hi hp => by
          have h1 := HB.out.1
          have h2 : i = b ∨ i = b + 1 := by unfold par at hp; omega
          have h3 := HLT.out
          rcases h2 with rfl | rfl <;> omega)
        clear hG hw1 hw2 hw4 f3 f4 f5 f6
        go_wp2
        have hqe : (b : Int) + 1 = ((b + 1 : Nat) : Int) := by omega
        obtain ⟨q, hq⟩ : ∃ q, q = b + 1 := ⟨_, rfl⟩
        try rw [hqe]
        rw [← hq] at F ⊢
        clear hqe hq hw3
        obtain ⟨f0, f1, f2, f3', f4', f5'⟩ := F.out
        obtain ⟨g', e', z0, z1⟩ := HROW.out q f3'
        injection e' with e'
        injection e' with e'
        subst e'
        have k0 := cell_gr (cell_bel C0.out.1 f0)
        have k1 := cell_gr (cell_bel C0.out.2.1 f0)
        have k2 := cell_gr (cell_bel C0.out.2.2.1 f0)
        have k3 := cell_gr (cell_bel C0.out.2.2.2 f0)
        have k4 := cell_gr (cell_bel z0 f0)
        have k5 := cell_gr (cell_bel z1 f0)
        have hal : a < l1.length := by have := par_lt f2; omega
        have hah := HAH.out q a f3' hal w2 f0
        have i1 : (a : Int) < (N : Int) := by have := HN.out.1; omega
        have i2 : (q : Int) < (N : Int) := by have := HN.out.1; omega
        have i4 : ¬ N ≤ q := by omega
        have i5 : decide (N ≤ q) = false := decide_eq_false i4
        obtain ⟨I3, hI3⟩ : ∃ I, I = l1.getD q (0, 0) := ⟨_, rfl⟩
        obtain ⟨I4, hI4⟩ : ∃ I, I = l1.getD a (0, 0) := ⟨_, rfl⟩
        rw [← hI3] at hah k4 k5
        rw [← hI4] at hah k2 k3
        clear z0 z1 hI3 hI4 f0 f1 f4' f5'
        by_cases hlq : ordL ord l1 q < ordL ord l1 a
        · have hd : decide (ordL ord l1 q < ordL ord l1 a) = true := decide_eq_true hlq
          rw [hd] at hah
          have HLQ := Lib.hid hlq
          clear hd hlq
          go_wp2_with (fail)
          go_quiet_grown (first | (go_at_fn 31; refine Calls.grown_of (hah _ _)))
          clear k0 k1 k2 k3 k4 k5 hah
          obtain ⟨w5, hw5⟩ : ∃ w5, w5 = Go.Sort.grow (w2.drewN nq) osq := ⟨_, rfl⟩
          have HG5 := Lib.hid (grow_below hw5)
          rw [← hw5]
          clear hw5
          have hsw := swap_any R B hp l1 a q w5 hal f3' (by rw [HN.out.2]; exact hl) (F.out.2.1.below HG5.out)
          go_wp2_with (fail)
          refine hsw.mono ?_
          rintro e w6 ⟨rfl, hH6, hK6⟩
          have H6 := Lib.hid (And.intro hH6 hK6)
          clear hsw hH6 hK6
          go_wp2
          go_step3
          obtain ⟨s1, s2, s3, s4⟩ := HST.out
          obtain ⟨f0, f1, f2, f3', f4', f5'⟩ := F.out
          refine ⟨rfl, ⟨q, swpI l1 a q, (swpI_perm l1 a q hal f3').trans s1, by rw [swpI_len]; omega, ?_, H6.out.1, ((s4.trans (kp_below f0)).trans (kp_below HG5.out)).trans H6.out.2, _, _, _, _, _, _, _, _, _, _, _, _, _, _, _, _, _, _, _, _, _, _, _, _, _, _, _, _, _, _, _, _, _, _, _, _, _, _, _, _, _, _, _, _, _, _, _, _, _, _, _, _, _, _, _, _, _, _, _, _, _, _, _, _, _, _, _, _, _, _, _, _, rfl⟩, ?_⟩
          · rw [swpI_len, swpI_ord ord l1 a q hal f3']
            exact down_step s2 f2 f3' f4' HLQ.out f5'
          · simp [intOf]
            have := par_lt f2
            have := HN.out.2
            omega
        · have hd : decide (ordL ord l1 q < ordL ord l1 a) = false := decide_eq_false hlq
          rw [hd] at hah
          have HLQ := Lib.hid hlq
          clear hd hlq
          go_wp2_with (fail)
          go_quiet_grown (first | (go_at_fn 31; refine Calls.grown_of (hah _ _)))
          clear k0 k1 k2 k3 k4 k5 hah
          obtain ⟨w5, hw5⟩ : ∃ w5, w5 = Go.Sort.grow (w2.drewN nq) osq := ⟨_, rfl⟩
          have HG5 := Lib.hid (grow_below hw5)
          rw [← hw5]
          clear hw5
          go_wp2
          simp only [Exit.jump]
          obtain ⟨s1, s2, s3, s4⟩ := HST.out
          obtain ⟨f0, f1, f2, f3', f4', f5'⟩ := F.out
          exact bodyPost_ret (v := .tuple #[]) (results_none rfl _ _ _) rfl ⟨rfl, l1, s1, down_end s2 (fun i h0 hi hp => by have h1 := f5' i h0 hi hp; have h2 := HLQ.out; omega), f1.below HG5.out, (s4.trans (kp_below f0)).trans (kp_below HG5.out)⟩

      · have hd : decide (ordL ord l1 (b + 1) < ordL ord l1 b) = false := decide_eq_false hlt
        rw [hd] at hah
        have HLT := Lib.hid hlt
        clear hlt hd
        go_wp2_with (fail)
        go_quiet_grown (first | (go_at_fn 31; refine Calls.grown_of (hah _ _)))
        clear k0 k1 k2 k3 k4 k5 hah
        obtain ⟨w2, hw2⟩ : ∃ w2, w2 = Go.Sort.grow (wr.drewN nq) osq := ⟨_, rfl⟩
        have hG := grow_below hw2
        rw [← hw2]
        clear hw2
        have F := FIN.out b w2 hG (by have := HB.out.1; omega) (by have := HN.out.1; omega) (by have := HB.out.1; unfold par; omega) (fun i h0 hi hp => by
          have h1 := HB.out.1
          have h2 : i = b ∨ i = b + 1 := by unfold par at hp; omega
          have h3 := HLT.out
          rcases h2 with rfl | rfl <;> omega)
        clear hG hw1 hw2 hw4 f3 f4 f5 f6
        go_wp2
        obtain ⟨q, hq⟩ : ∃ q, q = b := ⟨_, rfl⟩
        rw [← hq] at F ⊢
        clear hq hw3
        obtain ⟨f0, f1, f2, f3', f4', f5'⟩ := F.out
        obtain ⟨g', e', z0, z1⟩ := HROW.out q f3'
        injection e' with e'
        injection e' with e'
        subst e'
        have k0 := cell_gr (cell_bel C0.out.1 f0)
        have k1 := cell_gr (cell_bel C0.out.2.1 f0)
        have k2 := cell_gr (cell_bel C0.out.2.2.1 f0)
        have k3 := cell_gr (cell_bel C0.out.2.2.2 f0)
        have k4 := cell_gr (cell_bel z0 f0)
        have k5 := cell_gr (cell_bel z1 f0)
        have hal : a < l1.length := by have := par_lt f2; omega
        have hah := HAH.out q a f3' hal w2 f0
        have i1 : (a : Int) < (N : Int) := by have := HN.out.1; omega
        have i2 : (q : Int) < (N : Int) := by have := HN.out.1; omega
        have i4 : ¬ N ≤ q := by omega
        have i5 : decide (N ≤ q) = false := decide_eq_false i4
        obtain ⟨I3, hI3⟩ : ∃ I, I = l1.getD q (0, 0) := ⟨_, rfl⟩
        obtain ⟨I4, hI4⟩ : ∃ I, I = l1.getD a (0, 0) := ⟨_, rfl⟩
        rw [← hI3] at hah k4 k5
        rw [← hI4] at hah k2 k3
        clear z0 z1 hI3 hI4 f0 f1 f4' f5'
        by_cases hlq : ordL ord l1 q < ordL ord l1 a
        · have hd : decide (ordL ord l1 q < ordL ord l1 a) = true := decide_eq_true hlq
          rw [hd] at hah
          have HLQ := Lib.hid hlq
          clear hd hlq
          go_wp2_with (fail)
          go_quiet_grown (first | (go_at_fn 31; refine Calls.grown_of (hah _ _)))
          clear k0 k1 k2 k3 k4 k5 hah
          obtain ⟨w5, hw5⟩ : ∃ w5, w5 = Go.Sort.grow (w2.drewN nq) osq := ⟨_, rfl⟩
          have HG5 := Lib.hid (grow_below hw5)
          rw [← hw5]
          clear hw5
          have hsw := swap_any R B hp l1 a q w5 hal f3' (by rw [HN.out.2]; exact hl) (F.out.2.1.below HG5.out)
          go_wp2_with (fail)
          refine hsw.mono ?_
          rintro e w6 ⟨rfl, hH6, hK6⟩
          have H6 := Lib.hid (And.intro hH6 hK6)
          clear hsw hH6 hK6
          go_wp2
          go_step3
          obtain ⟨s1, s2, s3, s4⟩ := HST.out
          obtain ⟨f0, f1, f2, f3', f4', f5'⟩ := F.out
          refine ⟨rfl, ⟨q, swpI l1 a q, (swpI_perm l1 a q hal f3').trans s1, by rw [swpI_len]; omega, ?_, H6.out.1, ((s4.trans (kp_below f0)).trans (kp_below HG5.out)).trans H6.out.2, _, _, _, _, _, _, _, _, _, _, _, _, _, _, _, _, _, _, _, _, _, _, _, _, _, _, _, _, _, _, _, _, _, _, _, _, _, _, _, _, _, _, _, _, _, _, _, _, _, _, _, _, _, _, _, _, _, _, _, _, _, _, _, _, _, _, _, _, _, _, _, _, rfl⟩, ?_⟩
          · rw [swpI_len, swpI_ord ord l1 a q hal f3']
            exact down_step s2 f2 f3' f4' HLQ.out f5'
          · simp [intOf]
            have := par_lt f2
            have := HN.out.2
            omega
        · have hd : decide (ordL ord l1 q < ordL ord l1 a) = false := decide_eq_false hlq
          rw [hd] at hah
          have HLQ := Lib.hid hlq
          clear hd hlq
          go_wp2_with (fail)
          go_quiet_grown (first | (go_at_fn 31; refine Calls.grown_of (hah _ _)))
          clear k0 k1 k2 k3 k4 k5 hah
          obtain ⟨w5, hw5⟩ : ∃ w5, w5 = Go.Sort.grow (w2.drewN nq) osq := ⟨_, rfl⟩
          have HG5 := Lib.hid (grow_below hw5)
          rw [← hw5]
          clear hw5
          go_wp2
          simp only [Exit.jump]
          obtain ⟨s1, s2, s3, s4⟩ := HST.out
          obtain ⟨f0, f1, f2, f3', f4', f5'⟩ := F.out
          exact bodyPost_ret (v := .tuple #[]) (results_none rfl _ _ _) rfl ⟨rfl, l1, s1, down_end s2 (fun i h0 hi hp => by have h1 := f5' i h0 hi hp; have h2 := HLQ.out; omega), f1.below HG5.out, (s4.trans (kp_below f0)).trans (kp_below HG5.out)⟩

    · have f1 : decide ((b : Int) + 1 < (N : Int)) = false := decide_eq_false (by omega)
      have f3 : ¬ (b : Int) + 1 < (N : Int) := by omega
      have hw1 := HB.out.2.1
      have hw2 := HB.out.2.2.1
      have hw3 := HB.out.2.2.2.1
      clear x0 x1
      have c0 := C0.out.1
      have f4 : ¬ b + 1 < N := by omega
      have f5 : decide (b + 1 < N) = false := decide_eq_false f4
      go_wp2_with (fail)
      go_big_region_o
      clear c0 f4 f5
      clear k0 k1
      have hG : Below wr.heap.size wr wr.drew := ⟨rfl, rfl, rfl, Nat.le_refl _, fun _ _ => rfl⟩
      obtain ⟨w2, hw2'⟩ : ∃ w2, w2 = wr.drew := ⟨_, rfl⟩
      rw [← hw2'] at hG ⊢
      have F := FIN.out b w2 hG (by have := HB.out.1; omega) hbl (by have := HB.out.1; unfold par; omega) (fun i h0 hi hp => by
        have h1 := HB.out.1
        have h4 := HN.out.1
        have h2 : i = b := by unfold par at hp; omega
        rw [h2]
        exact Int.le_refl _)
      clear hG hw1 hw2 f1 f3 hw2'
      go_wp2
      obtain ⟨q, hq⟩ : ∃ q, q = b := ⟨_, rfl⟩
      rw [← hq] at F ⊢
      clear hq hw3
      obtain ⟨f0, f1, f2, f3', f4', f5'⟩ := F.out
      obtain ⟨g', e', z0, z1⟩ := HROW.out q f3'
      injection e' with e'
      injection e' with e'
      subst e'
      have k0 := cell_gr (cell_bel C0.out.1 f0)
      have k1 := cell_gr (cell_bel C0.out.2.1 f0)
      have k2 := cell_gr (cell_bel C0.out.2.2.1 f0)
      have k3 := cell_gr (cell_bel C0.out.2.2.2 f0)
      have k4 := cell_gr (cell_bel z0 f0)
      have k5 := cell_gr (cell_bel z1 f0)
      have hal : a < l1.length := by have := par_lt f2; omega
      have hah := HAH.out q a f3' hal w2 f0
      have i1 : (a : Int) < (N : Int) := by have := HN.out.1; omega
      have i2 : (q : Int) < (N : Int) := by have := HN.out.1; omega
      have i4 : ¬ N ≤ q := by omega
      have i5 : decide (N ≤ q) = false := decide_eq_false i4
      obtain ⟨I3, hI3⟩ : ∃ I, I = l1.getD q (0, 0) := ⟨_, rfl⟩
      obtain ⟨I4, hI4⟩ : ∃ I, I = l1.getD a (0, 0) := ⟨_, rfl⟩
      rw [← hI3] at hah k4 k5
      rw [← hI4] at hah k2 k3
      clear z0 z1 hI3 hI4 f0 f1 f4' f5'
      by_cases hlq : ordL ord l1 q < ordL ord l1 a
      · have hd : decide (ordL ord l1 q < ordL ord l1 a) = true := decide_eq_true hlq
        rw [hd] at hah
        have HLQ := Lib.hid hlq
        clear hd hlq
        go_wp2_with (fail)
        go_quiet_grown (first | (go_at_fn 31; refine Calls.grown_of (hah _ _)))
        clear k0 k1 k2 k3 k4 k5 hah
        obtain ⟨w5, hw5⟩ : ∃ w5, w5 = Go.Sort.grow (w2.drewN nq) osq := ⟨_, rfl⟩
        have HG5 := Lib.hid (grow_below hw5)
        rw [← hw5]
        clear hw5
        have hsw := swap_any R B hp l1 a q w5 hal f3' (by rw [HN.out.2]; exact hl) (F.out.2.1.below HG5.out)
        go_wp2_with (fail)
        refine hsw.mono ?_
        rintro e w6 ⟨rfl, hH6, hK6⟩
        have H6 := Lib.hid (And.intro hH6 hK6)
        clear hsw hH6 hK6
        go_wp2
        go_step3
        obtain ⟨s1, s2, s3, s4⟩ := HST.out
        obtain ⟨f0, f1, f2, f3', f4', f5'⟩ := F.out
        refine ⟨rfl, ⟨q, swpI l1 a q, (swpI_perm l1 a q hal f3').trans s1, by rw [swpI_len]; omega, ?_, H6.out.1, ((s4.trans (kp_below f0)).trans (kp_below HG5.out)).trans H6.out.2, _, _, _, _, _, _, _, _, _, _, _, _, _, _, _, _, _, _, _, _, _, _, _, _, _, _, _, _, _, _, _, _, _, _, _, _, _, _, _, _, _, _, _, _, _, _, _, _, _, _, _, _, _, _, _, _, _, _, _, _, _, _, _, _, _, _, _, _, _, _, _, _, rfl⟩, ?_⟩
        · rw [swpI_len, swpI_ord ord l1 a q hal f3']
          exact down_step s2 f2 f3' f4' HLQ.out f5'
        · simp [intOf]
          have := par_lt f2
          have := HN.out.2
          omega
      · have hd : decide (ordL ord l1 q < ordL ord l1 a) = false := decide_eq_false hlq
        rw [hd] at hah
        have HLQ := Lib.hid hlq
        clear hd hlq
        go_wp2_with (fail)
        go_quiet_grown (first | (go_at_fn 31; refine Calls.grown_of (hah _ _)))
        clear k0 k1 k2 k3 k4 k5 hah
        obtain ⟨w5, hw5⟩ : ∃ w5, w5 = Go.Sort.grow (w2.drewN nq) osq := ⟨_, rfl⟩
        have HG5 := Lib.hid (grow_below hw5)
        rw [← hw5]
        clear hw5
        go_wp2
        simp only [Exit.jump]
        obtain ⟨s1, s2, s3, s4⟩ := HST.out
        obtain ⟨f0, f1, f2, f3', f4', f5'⟩ := F.out
        exact bodyPost_ret (v := .tuple #[]) (results_none rfl _ _ _) rfl ⟨rfl, l1, s1, down_end s2 (fun i h0 hi hp => by have h1 := f5' i h0 hi hp; have h2 := HLQ.out; omega), f1.below HG5.out, (s4.trans (kp_below f0)).trans (kp_below HG5.out)⟩

end Go.Proofs.Ytcgilgihmapipaa
