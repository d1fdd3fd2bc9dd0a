/- Merging: an item of the heap goes up. -/
import Derived.Test.YtcgilgihmapipaaMrgAhead
import Derived.Test.YtcgilgihmapipaaMrgOrd
import Derived.Test.YtcgilgihmapipaaScopeHead
import Derived.WalkMore
import Derived.Deep.RegionHeld3
namespace Go.Proofs.Ytcgilgihmapipaa
open Go.RowKit

/-- the order's number of the item at a place -/
def ordL (ord : It → Int) (l : List It) (i : Nat) : Int := ord (l.getD i (0, 0))
def VIts (R : Rn) (l : List It) : Prop := ∀ x ∈ l, VIt R x
theorem swpI_len (l : List It) (a b : Nat) : (swpI l a b).length = l.length := by simp [swpI]
theorem swpI_ord (ord : It → Int) (l : List It) (a b : Nat) (ha : a < l.length) (hb : b < l.length) : ordL ord (swpI l a b) = swO (ordL ord l) a b := by
  funext i
  unfold ordL swO swpI
  rw [List.getD_eq_getElem?_getD, List.getElem?_set]
  by_cases e1 : b = i
  · subst e1
    rw [if_pos rfl, if_pos (by simpa using hb)]
    by_cases e2 : b = a
    · subst e2; simp
    · rw [if_neg e2, if_pos rfl]; rfl
  · rw [if_neg e1, List.getElem?_set]
    by_cases e2 : a = i
    · subst e2
      rw [if_pos rfl, if_pos ha, if_pos rfl]; rfl
    · rw [if_neg e2, if_neg (fun e => e2 e.symm), if_neg (fun e => e1 e.symm)]
      show _ = ord (l.getD i (0, 0))
      rw [List.getD_eq_getElem?_getD]
theorem swpI_perm (l : List It) (a b : Nat) (ha : a < l.length) (hb : b < l.length) : (swpI l a b).Perm l := by
  have h := List.set_set_perm ha hb
  unfold swpI
  have ea : l.getD a (0, 0) = l[a] := by rw [List.getD_eq_getElem?_getD, List.getElem?_eq_getElem ha]; rfl
  have eb : l.getD b (0, 0) = l[b] := by rw [List.getD_eq_getElem?_getD, List.getElem?_eq_getElem hb]; rfl
  rw [ea, eb]
  exact h
/-- what holds at each pass of rise -/
def RiseJ (R : Rn) (B hp : Nat) (ord : It → Int) (l0 : List It) (w0 : World) (a' : Act) (w' : World) : Prop :=
  (∃ (a : Nat) (l : List It), l.Perm l0 ∧ a < l.length ∧ UpO l.length (ordL ord l) a ∧ HpAt R B hp l w' ∧ Kp B w0 w' ∧ ∃ u2 u3 u4 u5 u6 u7 u8 u9 u10 u11 u12 u13 u14 u15 u16 u17 u18 u19 u20 u21 u22 u23 u24 u25 u26 u27 u28 u29 u30 u31 u32 u33 u34 u35 u36 : Value, a' = { tmps := #[.pointer (some ⟨hp, 0, none⟩), .int .i64 (a : Int), u2, u3, u4, u5, u6, u7, u8, u9, u10, u11, u12, u13, u14, u15, u16, u17, u18, u19, u20, u21, u22, u23, u24, u25, u26, u27, u28, u29, u30, u31, u32, u33, u34, u35, u36], defers := [] })
set_option maxRecDepth 100000 in
set_option maxHeartbeats 4000000 in
theorem rise_any (R : Rn) (B hp : Nat) (ord : It → Int) (HO : Hid (OrdOk R ord)) (hln : Hid (∀ i, i < R.n → R.ln i ≤ 4398046511104)) (l : List It) (a : Nat) (w : World) (ha : a < l.length) (hl : l.length ≤ 4398046511104) (hv : VIts R l) (hB : B ≤ w.heap.size) (hR : RnAt R B w) (H : HpAt R B hp l w) (hU : UpO l.length (ordL ord l) a) :
    Calls Try.prog 38 #[.pointer (some ⟨hp, 0, none⟩), .int .i64 (a : Int)] w fun e w' => e = .returned (.tuple #[]) ∧ ∃ l', l'.Perm l ∧ HeapO l'.length (ordL ord l') ∧ HpAt R B hp l' w' ∧ Kp B w w' := by
  have mixed : Try.prog.follows Departure.mixedOrders = true := by kernel_rfl
  go_enter Try.func38, Try.ntmps38
  go_wp2
  have HV := Lib.hid hv
  have HR := Lib.hid (And.intro hB hR)
  refine wp_scope_head 0 (RiseJ R B hp ord l w) (fun a' _ => (intOf (a'.tmps.getD 1 undef)).toNat) ⟨a, l, List.Perm.refl _, ha, hU, H, Kp.refl _ _, _, _, _, _, _, _, _, _, _, _, _, _, _, _, _, _, _, _, _, _, _, _, _, _, _, _, _, _, _, _, _, _, _, _, _, rfl⟩ ?_
  clear ha hv hB hR H hU
  rintro a' wr ⟨a, l1, hp1, ha, hU, H, hK, u2, u3, u4, u5, u6, u7, u8, u9, u10, u11, u12, u13, u14, u15, u16, u17, u18, u19, u20, u21, u22, u23, u24, u25, u26, u27, u28, u29, u30, u31, u32, u33, u34, u35, u36, rfl⟩
  have hm : (intOf (({ tmps := #[.pointer (some ⟨hp, 0, none⟩), .int .i64 (a : Int), u2, u3, u4, u5, u6, u7, u8, u9, u10, u11, u12, u13, u14, u15, u16, u17, u18, u19, u20, u21, u22, u23, u24, u25, u26, u27, u28, u29, u30, u31, u32, u33, u34, u35, u36], defers := [] } : Act).tmps.getD 1 undef)).toNat = a := by simp [intOf]
  rw [hm]
  clear hm
  obtain ⟨ar, c, c0, c1, hc, hx⟩ := H.cells
  have hl1 : l1.length = l.length := hp1.length_eq
  obtain ⟨x, hxe⟩ : ∃ x, x = l1.getD a (0, 0) := ⟨_, rfl⟩
  obtain ⟨y, hye⟩ : ∃ y, y = l1.getD (par a) (0, 0) := ⟨_, rfl⟩
  have hpa : par a ≤ a := by unfold par; omega
  have hxa : l1[a]? = some x := by rw [hxe, List.getD_eq_getElem?_getD, List.getElem?_eq_getElem ha]; rfl
  have hyb : l1[par a]? = some y := by rw [hye, List.getD_eq_getElem?_getD, List.getElem?_eq_getElem (by omega)]; rfl
  obtain ⟨g, rfl, hBg, hg, hgh, hbg, x0, x1, hf⟩ := hx a x hxa
  obtain ⟨g', e', _, _, _, _, y0, y1, _⟩ := hx (par a) y hyb
  injection e' with e'
  injection e' with e'
  subst e'
  have hvx : VIt R x := HV.out x (hp1.mem_iff.1 (List.mem_of_getElem? hxa))
  have hvy : VIt R y := HV.out y (hp1.mem_iff.1 (List.mem_of_getElem? hyb))
  have hBr : B ≤ wr.heap.size := Nat.le_trans HR.out.1 hK.size
  have hRr : RnAt R B wr := fun i hi p hq => by
    obtain ⟨h1, h2, h3⟩ := HR.out.2 i hi p hq
    have hb := hK.below HR.out.1
    exact ⟨h1, (hb.cell (p := ⟨R.bk i, _, none⟩) h1).trans h2, (hb.cell (p := ⟨R.bk i, _, none⟩) h1).trans h3⟩
  have hah : ∀ n os, Calls Try.prog 31 #[.agg #[.slice (some ⟨R.bk x.1, R.of x.1 + x.2 * 2, none⟩) (R.ln x.1 - x.2) (R.cp x.1 - x.2), .int .i64 (x.1 : Int)], .agg #[.slice (some ⟨R.bk y.1, R.of y.1 + y.2 * 2, none⟩) (R.ln y.1 - y.2) (R.cp y.1 - y.2), .int .i64 (y.1 : Int)]] (Go.Sort.grow (wr.drewN n) os) fun e w' => e = .returned (.bool (decide (ord x < ord y))) ∧ ∃ (q : Nat) (os' : Array Obj), w' = Go.Sort.grow ((Go.Sort.grow (wr.drewN n) os).drewN q) os' := fun n os => ahead_any R B ord HO x y hvx hvy hln.out _ (Nat.le_trans hBr (grow_below rfl).size) (fun i hi p hq => by
    obtain ⟨h1, h2, h3⟩ := hRr i hi p hq
    exact ⟨h1, cell_gr h2 n os, cell_gr h3 n os⟩)
  have eg : ∀ args w, (callFunc 31 args).run Try.prog w = .ok (.enter 31 args) w := enters_of Try.func31 (by kernel_rfl) rfl
  obtain ⟨N, hN⟩ : ∃ N, N = l1.length := ⟨_, rfl⟩
  obtain ⟨pa, hpe⟩ : ∃ pa, pa = par a := ⟨_, rfl⟩
  obtain ⟨V1, hV1⟩ : ∃ v, v = Value.slice (some ⟨R.bk x.1, R.of x.1 + x.2 * 2, none⟩) (R.ln x.1 - x.2) (R.cp x.1 - x.2) := ⟨_, rfl⟩
  obtain ⟨V2, hV2⟩ : ∃ v, v = Value.slice (some ⟨R.bk y.1, R.of y.1 + y.2 * 2, none⟩) (R.ln y.1 - y.2) (R.cp y.1 - y.2) := ⟨_, rfl⟩
  rw [← hV1, ← hV2] at hah
  rw [← hV1] at x0
  rw [← hV2, ← hpe] at y0
  rw [← hpe] at y1
  rw [← hN] at c0
  have k0 := cell_gr c0
  have k1 := cell_gr c1
  have k2 := cell_gr x0
  have k3 := cell_gr x1
  have k4 := cell_gr y0
  have k5 := cell_gr y1
  have i1 : (a : Int) < (N : Int) := by omega
  have i2 : (pa : Int) < (N : Int) := by omega
  have hox : ordL ord l1 a = ord x := by unfold ordL; rw [hxe]
  have hoy : ordL ord l1 (par a) = ord y := by unfold ordL; rw [hye]
  have HST := Lib.hid (And.intro hp1 (And.intro ha (And.intro hU (And.intro H (And.intro hK (And.intro hpe (And.intro hox hoy)))))))
  have hq : 0 < a → wrap64 (Int.tdiv ((a : Int) - 1) 2) = (pa : Int) ∧ wrap64 ((a : Int) - 1) = (a : Int) - 1 := fun h => by
    have e : Int.tdiv ((a : Int) - 1) 2 = (pa : Int) := by
      rw [show (a : Int) - 1 = ((a - 1 : Nat) : Int) by omega, hpe]
      unfold par
      rfl
    rw [e]
    exact ⟨IntWalk.wrap64_in _ (by omega), IntWalk.wrap64_in _ (by omega)⟩
  have HQ := Lib.hid hq
  clear hp1 ha hU H hK hx hxe hye hxa hyb hBg hg hgh hbg hf hV1 hV2 hpa hpe hox hoy hq hBr hRr hvx hvy hN hl1 c0 c1 x0 x1 y0 y1 hc
  rcases Nat.eq_zero_or_pos a with rfl | hpos
  · clear k0 k1 k2 k3 k4 k5 hah
    go_wp2_with (fail)
    go_big_region_o
    go_wp2
    simp only [Exit.jump]
    obtain ⟨s1, s2, s3, s4, s5, s6, s7, s8⟩ := HST.out
    exact bodyPost_ret (v := .tuple #[]) (results_none rfl _ _ _) rfl ⟨rfl, l1, s1, up_end s3 (.inl rfl), s4.drew, kp_drew s5⟩
  · have z1 : ((a : Int) == 0) = false := by simp; omega
    obtain ⟨q1, q2⟩ := HQ.out hpos
    by_cases hlt : ord x < ord y
    · have hd : decide (ord x < ord y) = true := decide_eq_true hlt
      rw [hd] at hah
      go_wp2_with (fail)
      go_quiet_grown (first | (go_at_fn 31; refine Calls.grown_of (hah _ _)))
      clear k0 k1 k2 k3 k4 k5 hah
      obtain ⟨w2, hw2⟩ : ∃ w2, w2 = Go.Sort.grow (wr.drewN nq) osq := ⟨_, rfl⟩
      have HG := Lib.hid (grow_below hw2)
      rw [← hw2]
      clear hw2
      have hsw := swap_any R B hp l1 a pa w2 HST.out.2.1 (by have := HST.out.2.1; have := HST.out.2.2.2.2.2.1; unfold par at this; omega) (by rw [HST.out.1.length_eq]; exact hl) (HST.out.2.2.2.1.below HG.out)
      go_wp2_with (fail)
      refine hsw.mono ?_
      rintro e w3 ⟨rfl, hH3, hK3⟩
      have H3 := Lib.hid (And.intro hH3 hK3)
      clear hsw hH3 hK3
      go_wp2
      go_step3
      obtain ⟨s1, s2, s3, s4, s5, s6, s7, s8⟩ := HST.out
      have hpl : pa < l1.length := by unfold par at s6; omega
      refine ⟨rfl, ⟨pa, swpI l1 a pa, (swpI_perm l1 a pa s2 hpl).trans s1, by rw [swpI_len]; exact hpl, ?_, H3.out.1, (s5.trans (kp_below HG.out)).trans H3.out.2, _, _, _, _, _, _, _, _, _, _, _, _, _, _, _, _, _, _, _, _, _, _, _, _, _, _, _, _, _, _, _, _, _, _, _, rfl⟩, ?_⟩
      · rw [swpI_len, swpI_ord ord l1 a pa s2 hpl, s6]
        exact up_step s3 hpos s2 (by rw [s7, s8]; exact hlt)
      · simp [intOf]
        unfold par at s6
        omega
    · have hd : decide (ord x < ord y) = false := decide_eq_false hlt
      rw [hd] at hah
      go_wp2_with (fail)
      go_quiet_grown (first | (go_at_fn 31; refine Calls.grown_of (hah _ _)))
      clear k0 k1 k2 k3 k4 k5 hah
      obtain ⟨w2, hw2⟩ : ∃ w2, w2 = Go.Sort.grow (wr.drewN nq) osq := ⟨_, rfl⟩
      have HG := Lib.hid (grow_below hw2)
      rw [← hw2]
      clear hw2
      go_wp2
      simp only [Exit.jump]
      obtain ⟨s1, s2, s3, s4, s5, s6, s7, s8⟩ := HST.out
      exact bodyPost_ret (v := .tuple #[]) (results_none rfl _ _ _) rfl ⟨rfl, l1, s1, up_end s3 (.inr (by rw [s7, s8]; omega)), s4.below HG.out, s5.trans (kp_below HG.out)⟩
end Go.Proofs.Ytcgilgihmapipaa
