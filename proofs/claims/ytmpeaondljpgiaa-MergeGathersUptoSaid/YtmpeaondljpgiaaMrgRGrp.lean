/- Merging: the reference's Groups. -/
import Derived.Test.YtmpeaondljpgiaaMrgGrps
import Derived.Test.YtmpeaondljpgiaaMrgRef
import Derived.IntWalk
namespace Go.Proofs.Ytmpeaondljpgiaa
open Go.RowKit

theorem grp_push {K : Nat → ByteArray} {s : Nat} (h : s = 0 ∨ K s ≠ K (s - 1)) : ∀ c, (∀ q, q < c + 1 → K (s + q) = K s) → grp K (s + (c + 1)) = ⟨(grp K s).N + 1, updG (grp K s).s (grp K s).N s, updG (grp K s).c (grp K s).N (c + 1)⟩
  | 0, _ => by
    show grp K (s + 1) = _
    rw [grp, if_pos h]
  | c + 1, hk => by
    have ih := grp_push h c (fun q hq => hk q (by omega))
    show grp K (s + (c + 1) + 1) = _
    have e1 := hk (c + 1) (by omega)
    have e2 := hk c (by omega)
    rw [grp, if_neg (by
      rintro (e | e)
      · omega
      · exact e (by rw [show s + (c + 1) - 1 = s + c by omega, e1, e2])), ih]
    show Gr.mk ((grp K s).N + 1) _ (updG (updG (grp K s).c (grp K s).N (c + 1)) ((grp K s).N + 1 - 1) (updG (grp K s).c (grp K s).N (c + 1) ((grp K s).N + 1 - 1) + 1)) = Gr.mk _ _ _
    rw [Nat.add_sub_cancel, updG_same]
    congr 1
    funext j
    by_cases e : j = (grp K s).N
    · rw [e, updG_same, updG_same]
    · rw [updG_other _ _ e, updG_other _ _ e, updG_other _ _ e]
theorem infoGrpR : (Try.prog.info? 47).map (fun i => (i.zero, i.size, i.bytes)) = some (some (.agg #[.string ⟨#[]⟩, .slice none 0 0]), 2, 40) := by kernel_rfl
/-- a group that is being gathered -/
structure IG (K V : Nat → ByteArray) (w wr : World) (B : Nat) (vo : Value) (g : Gr) (hv : Nat → Value) (vh : Value) (s c : Nat) : Prop where
  ga : GA 47 K V w wr B vo g hv
  row : wr.ownsRow B 9 1 vh c (strN V s c)
  ap : ∀ j k, j < g.N → (hv j).ownBlock = some k → vh.ownBlock ≠ some k
theorem IG.start {K V : Nat → ByteArray} {w wr : World} {B : Nat} {vo : Value} {g : Gr} {hv : Nat → Value} (h : GA 47 K V w wr B vo g hv) (s : Nat) : IG K V w wr B vo g hv (.slice none 0 0) s 0 :=
  ⟨h, World.ownsRow_nil _ _ _ _, fun j k _ _ e => by simp [Value.ownBlock] at e⟩
theorem IG.more {K V : Nat → ByteArray} {w wr w' : World} {B : Nat} {vo vh : Value} {g : Gr} {hv : Nat → Value} {s c gb cb : Nat} {o : Obj} (h : IG K V w wr B vo g hv vh s c) (hB : B ≤ wr.heap.size) (hg : (wr.alloc o).grownBy w' vh.ownBlock)
    (hown : w'.ownsRow B 9 1 (.slice (some ⟨gb, 0, none⟩) (c + 1) cb) (c + 1) (strN V s c ++ [.string (V (s + c))])) (hat : vh.ownBlock = some gb ∨ gb = (wr.alloc o).heap.size) : IG K V w w' B vo g hv (.slice (some ⟨gb, 0, none⟩) (c + 1) cb) s (c + 1) := by
  have hrow := h.ga.row.alloc o
  have hvh := h.row.alloc o
  have hvl := fun j hj => (h.ga.vals j hj).alloc o
  have hsz : B ≤ (wr.alloc o).heap.size := by simp; omega
  refine ⟨⟨hrow.kept hg (rows_apart2 hvh hrow (by decide)), fun j hj => own_same3 (hvl j hj) fun b hb => hg.block b (own_bears3 (hvl j hj) hb).lt fun e3 => h.ap j b hj hb e3.symm, h.ga.ap, (h.ga.bel.alloc hB o).grown hg hsz (fun j ej => (hvh.lt j ej).1)⟩, by rw [strN_succ]; exact hown, fun j k hj hk e => ?_⟩
  have e : gb = k := by simpa [Value.ownBlock] using e
  subst e
  rcases hat with e4 | e4
  · exact h.ap j gb hj hk e4
  · have := (own_bears3 (hvl j hj) hk).lt
    omega
theorem IG.put {K V : Nat → ByteArray} {w wr w' : World} {B : Nat} {vo vh vo' : Value} {g : Gr} {hv : Nat → Value} {s c : Nat} {o : Obj} (h : IG K V w wr B vo g hv vh s c) (hB : B ≤ wr.heap.size) (hg : (wr.alloc o).grownBy w' vo.ownBlock)
    (hown : w'.ownsRow B 47 2 vo' (g.N + 1) (prV (fun j => .string (K (g.s j))) hv g.N ++ [.string (K s), vh])) : GA 47 K V w w' B vo' ⟨g.N + 1, updG g.s g.N s, updG g.c g.N c⟩ (updG hv g.N vh) := by
  have hra := h.ga.row.alloc o
  refine ⟨?_, fun j hj => ?_, fun a b k ha hb h1 h2 => ?_, (h.ga.bel.alloc hB o).grown hg (by simp; omega) (fun j ej => (hra.lt j ej).1)⟩
  · show w'.ownsRow B _ 2 vo' (g.N + 1) (prV (fun j => .string (K (updG g.s g.N s j))) (updG hv g.N vh) (g.N + 1))
    rw [prV_succ, updG_same, updG_same, prV_congr (a' := fun j => .string (K (g.s j))) (b' := hv) (fun j hj => ⟨by rw [updG_other _ _ (by omega)], by rw [updG_other _ _ (by omega)]⟩)]
    exact hown
  · have hj : j < g.N + 1 := hj
    show w'.ownsRow B _ 1 (updG hv g.N _ j) (updG g.c g.N c j) (strN V (updG g.s g.N s j) (updG g.c g.N c j))
    by_cases e : j = g.N
    · subst e
      rw [updG_same, updG_same, updG_same]
      have hp := h.row.alloc o
      exact hp.kept hg (rows_apart2 hra hp (by decide))
    · rw [updG_other _ _ e, updG_other _ _ e, updG_other _ _ e]
      have hp := (h.ga.vals j (by omega)).alloc o
      exact hp.kept hg (rows_apart2 hra hp (by decide))
  · have ha : a < g.N + 1 := ha
    have hb : b < g.N + 1 := hb
    by_cases ea : a = g.N
    · subst ea
      rw [updG_same] at h1
      by_cases eb : b = g.N
      · exact eb.symm
      · rw [updG_other _ _ eb] at h2
        exact absurd h1 (h.ap b k (by omega) h2)
    · rw [updG_other _ _ ea] at h1
      by_cases eb : b = g.N
      · subst eb
        rw [updG_same] at h2
        exact absurd h2 (h.ap a k (by omega) h1)
      · rw [updG_other _ _ eb] at h2
        exact h.ga.ap a b k (by omega) (by omega) h1 h2
/-- the group that is gathered lies in a box -/
structure IX (K V : Nat → ByteArray) (w wr : World) (B : Nat) (vo : Value) (g : Gr) (hv : Nat → Value) (vh : Value) (s c gp : Nat) : Prop where
  ig : IG K V w wr B vo g hv vh s c
  gr : wr.ownsRow B 47 2 (.slice (some ⟨gp, 0, none⟩) 1 1) 1 [.string (K s), vh]
  ne : ∀ k, vo.ownBlock = some k → k ≠ gp
theorem IX.below {K V : Nat → ByteArray} {w wr w' : World} {B : Nat} {vo vh : Value} {g : Gr} {hv : Nat → Value} {s c gp : Nat} (h : IX K V w wr B vo g hv vh s c gp) (hB : B ≤ wr.heap.size) (hb : Below wr.heap.size wr w') : IX K V w w' B vo g hv vh s c gp :=
  ⟨⟨h.ig.ga.below hB hb, own_below2 hb h.ig.row, h.ig.ap⟩, own_below2 hb h.gr, h.ne⟩
theorem IX.drew {K V : Nat → ByteArray} {w wr : World} {B : Nat} {vo vh : Value} {g : Gr} {hv : Nat → Value} {s c gp : Nat} (h : IX K V w wr B vo g hv vh s c gp) (hB : B ≤ wr.heap.size) (m : Nat) : IX K V w (wr.drewN m) B vo g hv vh s c gp :=
  h.below hB ⟨rfl, rfl, rfl, Nat.le_refl _, fun _ _ => rfl⟩
theorem IX.more {K V : Nat → ByteArray} {w wr w' : World} {B : Nat} {vo vh : Value} {g : Gr} {hv : Nat → Value} {s c gp gb cb : Nat} {o : Obj} (h : IX K V w wr B vo g hv vh s c gp) (hB : B ≤ wr.heap.size) (hg : (wr.alloc o).grownBy w' vh.ownBlock)
    (hown : w'.ownsRow B 9 1 (.slice (some ⟨gb, 0, none⟩) (c + 1) cb) (c + 1) (strN V s c ++ [.string (V (s + c))])) (hat : vh.ownBlock = some gb ∨ gb = (wr.alloc o).heap.size) :
    IX K V w (w'.setCell ⟨gp, 1, none⟩ (.slice (some ⟨gb, 0, none⟩) (c + 1) cb)) B vo g hv (.slice (some ⟨gb, 0, none⟩) (c + 1) cb) s (c + 1) gp := by
  have hm := h.ig.more hB hg hown hat
  have hgr := (h.gr.alloc o).kept hg (rows_apart2 (h.ig.row.alloc o) (h.gr.alloc o) (by decide))
  have hty := own_bears3 hgr rfl
  have hset : ∀ b, ¬ b = gp → (w'.setCell ⟨gp, 1, none⟩ (.slice (some ⟨gb, 0, none⟩) (c + 1) cb)).heap[b]? = w'.heap[b]? := fun b hb => Below.heap_setCell _ _ _ _ hb
  have hstr : ∀ {x n xs}, w'.ownsRow B 9 1 x n xs → (w'.setCell ⟨gp, 1, none⟩ (.slice (some ⟨gb, 0, none⟩) (c + 1) cb)).ownsRow B 9 1 x n xs := fun k => own_same3 k fun b hb => hset b (bears_apart (own_bears3 k hb) hty (by decide))
  exact ⟨⟨⟨own_same3 hm.ga.row fun b hb => hset b (h.ne b hb), fun j hj => hstr (hm.ga.vals j hj), hm.ga.ap, hm.ga.bel.setCell (p := ⟨gp, 1, none⟩) (hgr.lt gp rfl).1 _⟩, hstr hm.row, hm.ap⟩, (hgr.stored 1 _).1, h.ne⟩
set_option maxRecDepth 100000 in
set_option maxHeartbeats 16000000 in
theorem rgroups_any (A : Option Addr) (n cap : Nat) (K V : Nat → ByteArray) (w : World) (hn : n ≤ 1099511627776) (hP : PrAt w w.heap.size A n K V) :
    Calls Try.prog 16 #[.slice A n cap] w fun e w' => ∃ v hv, e = .returned v ∧ GA 47 K V w w' w.heap.size v (grp K n) hv := by
  obtain ⟨i0, hi0, hz00, hz01, hz02⟩ := info_parts infoGrpR
  obtain ⟨i1, hi1, hz10, hz11, hz12⟩ := info_parts infoStr
  obtain ⟨B, hB⟩ : ∃ B, B = w.heap.size := ⟨_, rfl⟩
  rw [← hB] at hP ⊢
  have HP := Lib.hid hP
  have HB := Lib.hid hB
  clear hP hB
  go_enter Try.func16, Try.ntmps16
  go_wp2
  go_loopw [3, 4] (fun vo iv wr => ∃ s : Nat, s ≤ n ∧ iv = .int .i64 (s : Int) ∧ Hid (∃ hv, GA 47 K V w wr B vo (grp K s) hv) ∧ Hid (s = n ∨ s = 0 ∨ K s ≠ K (s - 1))) (fun _ iv _ => n - (intOf iv).toNat)
  case atStart => exact ⟨0, Nat.zero_le _, rfl, Lib.hid ⟨fun _ => .slice none 0 0, World.ownsRow_nil _ _ _ _, fun j hj => absurd hj (Nat.not_lt_zero _), fun a b k ha => absurd ha (Nat.not_lt_zero _), by rw [HB.out]; exact Below.refl _ _⟩, Lib.hid (.inr (.inl rfl))⟩
  case round =>
    obtain ⟨s, hs, rfl, HI, HS⟩ := hrel
    by_cases hlt : s < n
    · obtain ⟨hv, hG⟩ := HI.out
      have hbd : s = 0 ∨ K s ≠ K (s - 1) := by
        rcases HS.out with e | e
        · omega
        · exact e
      have HBD := Lib.hid hbd
      have HG := Lib.hid hG
      have hBr : B ≤ wr.heap.size := by have := hG.bel.size; rw [HB.out]; exact this
      obtain ⟨b, off, rfl, hb, c0, c1⟩ := (HP.out.below hG.bel) s hlt
      clear hbd hG HI HS
      have hx0 : Hid (IX K V w (wr.alloc (.cells #[.string (K s), .slice none 0 0] 47)) B u3 (grp K s) hv (.slice none 0 0) s 0 wr.heap.size ∧ B ≤ (wr.alloc (.cells #[.string (K s), .slice none 0 0] 47)).heap.size) := Lib.hid ⟨⟨IG.start (HG.out.below hBr ((Below.refl _ _).alloc (Nat.le_refl _) _)) s, World.ownsRow_lit wr #[.string (K s), .slice none 0 0] 1 hBr (by unfold maxLen; omega) rfl, fun k ek => by have := (HG.out.row.lt k ek).2; omega⟩, by simp; omega⟩
      obtain ⟨gp, hgp⟩ : ∃ gp, gp = wr.heap.size := ⟨_, rfl⟩
      have HGP := Lib.hid hgp
      go_wp2_with (fail)
      rw [← hgp] at hx0 ⊢
      clear hgp c0 c1 HG
      go_loopw [4] (fun iv wx => ∃ c : Nat, s + c ≤ n ∧ iv = .int .i64 ((s + c : Nat) : Int) ∧ Hid (∃ vh, IX K V w wx B u3 (grp K s) hv vh s c gp ∧ B ≤ wx.heap.size) ∧ Hid (∀ q, q < c → K (s + q) = K s)) (fun iv _ => n - (intOf iv).toNat)
      case atStart => exact ⟨0, by omega, rfl, Lib.hid ⟨_, hx0.out⟩, Lib.hid fun q hq => absurd hq (Nat.not_lt_zero _)⟩
      case round =>
        obtain ⟨c, hc, rfl, HI, HK⟩ := hrel
        obtain ⟨vh, HX0⟩ := HI.out
        by_cases hcl : s + c < n
        · obtain ⟨b2, o2, e2, hb2, p0, p1⟩ := (HP.out.below HX0.1.ig.ga.bel) (s + c) hcl
          injection e2 with e2
          injection e2 with e21 e22 _
          subst e21 e22
          have HXX := Lib.hid HX0
          have g0 : wr.cell? ⟨gp, 0, none⟩ = some (.string (K s)) := HX0.1.gr.cellAt 0 (by decide)
          obtain ⟨t, ht⟩ : ∃ t, t = s + c := ⟨_, rfl⟩
          have HT := Lib.hid ht
          obtain ⟨X, hX⟩ : ∃ X, X = K (s + c) := ⟨_, rfl⟩
          obtain ⟨Y, hY⟩ : ∃ Y, Y = K s := ⟨_, rfl⟩
          have HXY := Lib.hid (And.intro hX hY)
          rw [← hX] at p0
          rw [← ht] at p0 p1 hcl hc ⊢
          rw [← hY] at g0
          clear hX hY ht HX0 HI
          by_cases hXY : X = Y
          · have e3 : (X.toList == Y.toList) = true := by rw [hXY]; exact str_eq Y
            have HN := Lib.hid (show ∀ q, q < c + 1 → K (s + q) = K s from fun q hq => by
              by_cases e : q < c
              · exact HK.out q e
              · rw [show q = c by omega, ← HXY.out.1, hXY, HXY.out.2])
            clear hXY HK
            go_wp2_with (fail)
            go_quiet (fail)
            obtain ⟨W4, hW4⟩ : ∃ W4, W4 = wr.drewN nq := ⟨_, rfl⟩
            have hx4 : Hid (IX K V w W4.drew B u3 (grp K s) hv vh s c gp ∧ B ≤ W4.heap.size) := Lib.hid (by
              rw [hW4]
              exact ⟨(HXX.out.1.drew HXX.out.2 nq).below HXX.out.2 ⟨rfl, rfl, rfl, Nat.le_refl _, fun _ _ => rfl⟩, HXX.out.2⟩)
            have p4 : W4.cell? ⟨b, off + t * 2 + 1, none⟩ = some (.string (V t)) := by rw [hW4]; exact p1
            rw [← hW4]
            clear hW4 HXX p0 p1 g0
            obtain ⟨Ah, ch, hhd⟩ := own_slice3 hx4.out.1.ig.row
            subst hhd
            have g1 : W4.cell? ⟨gp, 1, none⟩ = some (.slice Ah c ch) := hx4.out.1.gr.cellAt 1 (by decide)
            have p4' : W4.drew.cell? ⟨b, off + t * 2 + 1, none⟩ = some (.string (V t)) := p4
            have g1' : W4.drew.cell? ⟨gp, 1, none⟩ = some (.slice Ah c ch) := g1
            have p5 := fun o => cell_al3 p4 o
            have g5 := fun o => cell_al3 g1 o
            have hB4 := hx4.out.2
            have k7 : c + 1 ≤ maxLen := by have := HT.out; unfold maxLen; omega
            have k8 : (c + 1) * 16 ≤ 140737488355328 := by have := HT.out; omega
            have hone : ∀ y ∈ [Value.string (V t)], y.oneCell' = true := by
              intro y hy
              rw [show y = .string (V t) by simpa using hy]
              rfl
            have hrw : ((W4.alloc (.cells #[.string (V t)] 9)).drew).ownsRow B 9 1 (.slice Ah c ch) c (strN V s c) := hx4.out.1.ig.row.alloc _
            have hnw : ∀ j v, [Value.string (V t)][j]? = some v → ((W4.alloc (.cells #[.string (V t)] 9)).drew).cell? ((⟨W4.heap.size, 0, none⟩ : Addr).add j) = some v := one_new W4.drew _ _
            go_upto_region 6 with (fail)
            go_region_law (refine step_append_lies _ (by rfl) (.tmp 31) (.tmp 37) 44 (by rfl) B 9 i1 _ 1 16 Try.underlying44 hi1 hz10 hz11 hz12 rfl (by decide) _ c (strN V s c) (by rfl) hrw ⟨W4.heap.size, 0, none⟩ 1 1 [.string (V t)] (by rfl) rfl hnw hone (by decide) k7 k8 (by simp; omega) (W4.heap.size + 1) (by simp) ?_
                           intro gb cb w6 hown' hg6 hat6 _
                           have HM0 := Lib.hid (And.intro hown' (And.intro hg6 hat6))
                           have hgr0 : ((W4.alloc (.cells #[.string (V t)] 9)).drew).ownsRow B 47 2 (.slice (some ⟨gp, 0, none⟩) 1 1) 1 [.string (K s), .slice Ah c ch] := hx4.out.1.gr.alloc _
                           have hgk := hgr0.kept hg6 (rows_apart2 hrw hgr0 (by decide))
                           have z1 : w6.cell? ⟨gp, 1, none⟩ = some (.slice Ah c ch) := hgk.cellAt 1 (by decide)
                           have z2 : w6.frozen? ⟨gp, 1, none⟩ = false := hgk.frozenAt 1
                           clear hgk hgr0 hown' hg6 hat6)
            all_goals
              have HM := Lib.hid (show IX K V w (w6.setCell ⟨gp, 1, none⟩ (.slice (some ⟨gb, 0, none⟩) (c + 1) cb)) B u3 (grp K s) hv (.slice (some ⟨gb, 0, none⟩) (c + 1) cb) s (c + 1) gp ∧ B ≤ (w6.setCell ⟨gp, 1, none⟩ (.slice (some ⟨gb, 0, none⟩) (c + 1) cb)).heap.size from by
                obtain ⟨m1, m2, m3⟩ := HM0.out
                have m2 : (W4.drew.alloc (.cells #[.string (V t)] 9)).grownBy w6 (Value.slice Ah c ch).ownBlock := m2
                refine ⟨hx4.out.1.more hx4.out.2 m2 (by rw [← HT.out]; exact m1) (by rcases m3 with h | h; exact .inl h; exact .inr (by rw [h]; simp)), ?_⟩
                have h9 := m2.size
                simp at h9 ⊢
                omega)
              clear z1 z2 HM0 g1 g1' p4 p4' p5 g5 hone hrw hnw
              go_wp2
              go_roundw
              case rel => exact ⟨c + 1, by have := HT.out; omega, by rw [show s + (c + 1) = t + 1 by have := HT.out; omega]; first | rfl | go_num, Lib.hid ⟨_, HM.out⟩, HN⟩
              case measure => simp [intOf]; omega
          · have e3 : (X.toList == Y.toList) = false := str_ne hXY
            have hc1 : 1 ≤ c := by
              rcases Nat.eq_zero_or_pos c with e | e
              · subst e
                exact absurd (HXY.out.1.trans HXY.out.2.symm) hXY
              · exact e
            have HEND : Hid (s + c = n ∨ s + c = 0 ∨ K (s + c) ≠ K (s + c - 1)) := Lib.hid (.inr (.inr (by
              rw [show s + c - 1 = s + (c - 1) by omega, HK.out (c - 1) (by omega), ← HXY.out.1, ← HXY.out.2]
              exact hXY)))
            have hc : s + c ≤ n := by rw [← HT.out]; exact hc
            clear hXY
            go_wp2_with (fail)
            go_quiet (fail)
            rw [HT.out]
            clear p0 p1 g0 e3
            obtain ⟨W5, hW5⟩ : ∃ W5, W5 = wr.drewN nq := ⟨_, rfl⟩
            have HX : Hid (IX K V w W5 B u3 (grp K s) hv vh s c gp) := Lib.hid (by rw [hW5]; exact HXX.out.1.drew HXX.out.2 nq)
            have HBX : Hid (B ≤ W5.heap.size) := Lib.hid (by rw [hW5]; exact HXX.out.2)
            have hB5 := HBX.out
            rw [← hW5]
            clear hW5
            obtain ⟨Ah, ch, hhd⟩ := own_slice3 HX.out.ig.row
            subst hhd
            have hrow := HX.out.ig.ga.row.alloc (.cells #[.string (K s), .slice Ah c ch] 47)
            have hbx := World.news_of_block (heap_alloc_new W5 (.cells #[.string (K s), .slice Ah c ch] 47))
            have hone : ∀ y ∈ [Value.string (K s), .slice Ah c ch], y.oneCell' = true := by
              intro y hy
              simp only [List.mem_cons, List.not_mem_nil, or_false] at hy
              rcases hy with rfl | rfl <;> rfl
            have hN : (grp K s).N ≤ s := (grp_ok K s).le
            have k5 : (grp K s).N + 1 ≤ maxLen := by unfold maxLen; omega
            have k6 : ((grp K s).N + 1) * 40 ≤ 140737488355328 := by omega
            have g0 : W5.cell? ⟨gp, 0, none⟩ = some (.string (K s)) := HX.out.gr.cellAt 0 (by decide)
            have g1 : W5.cell? ⟨gp, 1, none⟩ = some (.slice Ah c ch) := HX.out.gr.cellAt 1 (by decide)
            go_wp2_with (at_builtin; refine wpList_append_lies _ rfl _ _ 42 rfl B 47 i0 _ 2 40 Try.underlying42 hi0 hz00 hz01 hz02 rfl (by decide) _ _ _ rfl hrow ⟨W5.heap.size, 0, none⟩ 1 1 [.string (K s), .slice Ah c ch] rfl rfl hbx hone (by decide) k5 k6 (by simp; omega) (W5.heap.size + 1) (by simp) ?_)
            intro gg cg w6 hown' hg6 _ _
            have HF : Hid (∃ hv', GA 47 K V w w6 B (.slice (some ⟨gg, 0, none⟩) ((grp K s).N + 1) cg) (grp K (s + c)) hv') := Lib.hid ⟨_, by
              have h9 := HX.out.ig.put HBX.out hg6 hown'
              have h8 := grp_push HBD.out (c - 1) (fun q hq => HK.out q (by omega))
              rw [show c - 1 + 1 = c by omega] at h8
              rw [h8]
              exact h9⟩
            clear hbx hrow hown' hg6
            go_wp2
            go_roundw
            case rel => exact ⟨s + c, hc, by first | rfl | go_num, HF, HEND⟩
            case measure => simp [intOf]; omega
        · obtain ⟨t, ht⟩ : ∃ t, t = s + c := ⟨_, rfl⟩
          have HT := Lib.hid ht
          have HXX := Lib.hid HX0
          have hc1 : 1 ≤ c := by omega
          have HEND : Hid (s + c = n ∨ s + c = 0 ∨ K (s + c) ≠ K (s + c - 1)) := Lib.hid (.inl (by omega))
          have htn : ¬ t < n := by omega
          rw [← ht]
          clear ht HX0 HI hcl
          go_wp2_with (fail)
          go_quiet (fail)
          rw [HT.out]
          clear htn
          obtain ⟨W5, hW5⟩ : ∃ W5, W5 = wr.drewN nq := ⟨_, rfl⟩
          have HX : Hid (IX K V w W5 B u3 (grp K s) hv vh s c gp) := Lib.hid (by rw [hW5]; exact HXX.out.1.drew HXX.out.2 nq)
          have HBX : Hid (B ≤ W5.heap.size) := Lib.hid (by rw [hW5]; exact HXX.out.2)
          have hB5 := HBX.out
          rw [← hW5]
          clear hW5
          obtain ⟨Ah, ch, hhd⟩ := own_slice3 HX.out.ig.row
          subst hhd
          have hrow := HX.out.ig.ga.row.alloc (.cells #[.string (K s), .slice Ah c ch] 47)
          have hbx := World.news_of_block (heap_alloc_new W5 (.cells #[.string (K s), .slice Ah c ch] 47))
          have hone : ∀ y ∈ [Value.string (K s), .slice Ah c ch], y.oneCell' = true := by
            intro y hy
            simp only [List.mem_cons, List.not_mem_nil, or_false] at hy
            rcases hy with rfl | rfl <;> rfl
          have hN : (grp K s).N ≤ s := (grp_ok K s).le
          have k5 : (grp K s).N + 1 ≤ maxLen := by unfold maxLen; omega
          have k6 : ((grp K s).N + 1) * 40 ≤ 140737488355328 := by omega
          have g0 : W5.cell? ⟨gp, 0, none⟩ = some (.string (K s)) := HX.out.gr.cellAt 0 (by decide)
          have g1 : W5.cell? ⟨gp, 1, none⟩ = some (.slice Ah c ch) := HX.out.gr.cellAt 1 (by decide)
          go_wp2_with (at_builtin; refine wpList_append_lies _ rfl _ _ 42 rfl B 47 i0 _ 2 40 Try.underlying42 hi0 hz00 hz01 hz02 rfl (by decide) _ _ _ rfl hrow ⟨W5.heap.size, 0, none⟩ 1 1 [.string (K s), .slice Ah c ch] rfl rfl hbx hone (by decide) k5 k6 (by simp; omega) (W5.heap.size + 1) (by simp) ?_)
          intro gg cg w6 hown' hg6 _ _
          have HF : Hid (∃ hv', GA 47 K V w w6 B (.slice (some ⟨gg, 0, none⟩) ((grp K s).N + 1) cg) (grp K (s + c)) hv') := Lib.hid ⟨_, by
            have h9 := HX.out.ig.put HBX.out hg6 hown'
            have h8 := grp_push HBD.out (c - 1) (fun q hq => HK.out q (by omega))
            rw [show c - 1 + 1 = c by omega] at h8
            rw [h8]
            exact h9⟩
          clear hbx hrow hown' hg6
          go_wp2
          go_roundw
          case rel => exact ⟨s + c, hc, by first | rfl | go_num, HF, HEND⟩
          case measure => simp [intOf]; omega
    · obtain rfl : s = n := by omega
      obtain ⟨hv, hG⟩ := HI.out
      have HG := Lib.hid hG
      clear hG HI HS
      go_wp2
      go_ret
      exact ⟨_, hv, rfl, HG.out⟩
end Go.Proofs.Ytmpeaondljpgiaa
