/- The contract of record.Op: the change of a message of a change's kind. -/
import Derived.Test.YtndcmjgjecdgcaaDoorRecOp
namespace Go.Proofs.YtndcmjgjecdgcaaDoor
open Go.RowKit
theorem slof_at {w : World} {B b o len : Nat} {f : Nat → Value} (h : SlOf w B (some ⟨b, o, none⟩) len f) (i : Nat) (hi : i < len) : w.cell? ⟨b, o + i, none⟩ = some (f i) := by
  obtain ⟨b2, o2, e, _, hc⟩ := h i hi
  injection e with e
  injection e with e1 e2
  subst e1 e2
  exact hc
theorem valid1 (n t : Nat) : validB 1 n t = decide (n = 9 ∧ t = 2) := by
  show (decide (1 ≤ (1 : Int) ∧ (1 : Int) ≤ 17) && (fitsB n 9 0 && fitsB t 2 0)) = _
  unfold fitsB
  rw [if_pos rfl, if_pos rfl]
  by_cases h1 : n = 9 <;> by_cases h2 : t = 2 <;> simp [h1, h2] <;> omega
theorem s1_of (c i : Int) (b o b' o' cn ct : Nat) (n0 n1 n2 n3 n4 n5 n6 n7 n8 : Int) (s0 s1 : ByteArray) (w w1 : World) (hM : MsgAt w w.heap.size (some ⟨b, o, none⟩) (some ⟨b', o', none⟩) [n0, n1, n2, n3, n4, n5, n6, n7, n8] [s0, s1])
    (hb : Below ((w.alloc (.cells #[.int .i64 1, .int .i64 c, .int .i64 i, .slice (some ⟨b, o, none⟩) 9 cn, .slice (some ⟨b', o', none⟩) 2 ct] 27)).alloc (.cells #[.int .i64 0, .string ⟨#[]⟩, .string ⟨#[]⟩, .int .i64 0, .int .i64 0, .int .i64 0, .int .i64 0, .int .i64 0, .int .u32 0, .int .i64 0] 52)).heap.size ((w.alloc (.cells #[.int .i64 1, .int .i64 c, .int .i64 i, .slice (some ⟨b, o, none⟩) 9 cn, .slice (some ⟨b', o', none⟩) 2 ct] 27)).alloc (.cells #[.int .i64 0, .string ⟨#[]⟩, .string ⟨#[]⟩, .int .i64 0, .int .i64 0, .int .i64 0, .int .i64 0, .int .i64 0, .int .u32 0, .int .i64 0] 52)) w1) : S1 w w.heap.size (w.heap.size + 1) b o b' o' cn ct n0 n1 n2 n3 n4 n5 n6 n7 n8 s0 s1 w1 := by
  have BB : Below w.heap.size w w1 := (((below_alloc w _).alloc (by simp) _).trans (hb.mono (by simp; omega)))
  have F : Fr 10 w1 (w.heap.size + 1) := by
    have hF := (Fr.new (w.alloc (.cells #[.int .i64 1, .int .i64 c, .int .i64 i, .slice (some ⟨b, o, none⟩) 9 cn, .slice (some ⟨b', o', none⟩) 2 ct] 27)) #[.int .i64 0, .string ⟨#[]⟩, .string ⟨#[]⟩, .int .i64 0, .int .i64 0, .int .i64 0, .int .i64 0, .int .i64 0, .int .u32 0, .int .i64 0] 52).below hb
    rw [World.size_alloc] at hF
    exact hF
  have M := (((M5.new w 1 c i (some ⟨b, o, none⟩) 9 cn (some ⟨b', o', none⟩) 2 ct 27).below (below_alloc _ (.cells #[.int .i64 0, .string ⟨#[]⟩, .string ⟨#[]⟩, .int .i64 0, .int .i64 0, .int .i64 0, .int .i64 0, .int .i64 0, .int .u32 0, .int .i64 0] 52)) (by simp)).below hb (by simp; omega))
  have hn := hM.n.below BB
  have ht := hM.t.below BB
  obtain ⟨b2, o2, e, hlt, _⟩ := hM.n 0 (by simp)
  injection e with e
  injection e with e1 e2
  obtain ⟨b3, o3, e, hlt', _⟩ := hM.t 0 (by simp)
  injection e with e
  injection e with e3 e4
  refine ⟨Lib.hid ⟨BB, F, by omega, by omega, by omega, by omega⟩, ⟨M.c3, M.c4⟩, ⟨slof_at hn 0 (by simp), slof_at hn 1 (by simp), slof_at hn 2 (by simp), slof_at hn 3 (by simp), slof_at hn 4 (by simp), slof_at hn 5 (by simp), slof_at hn 6 (by simp), slof_at hn 7 (by simp), slof_at hn 8 (by simp)⟩, slof_at ht 0 (by simp), slof_at ht 1 (by simp)⟩
set_option maxRecDepth 100000 in
set_option maxHeartbeats 4000000 in
theorem op_bad1 (c i : Int) (b o b' o' cn ct : Nat) (n0 n1 n2 n3 n4 n5 n6 n7 n8 : Int) (s0 s1 : ByteArray) (w : World) (hS : Shp w) (hM : MsgAt w w.heap.size (some ⟨b, o, none⟩) (some ⟨b', o', none⟩) [n0, n1, n2, n3, n4, n5, n6, n7, n8] [s0, s1]) (h6 : n6 < 0) :
    Calls Tryd.prog 18 #[.agg #[.int .i64 1, .int .i64 c, .int .i64 i, .slice (some ⟨b, o, none⟩) 9 cn, .slice (some ⟨b', o', none⟩) 2 ct]] w fun e w' => e = .returned (Value.tuple #[.agg #[.int .i64 0, .string ⟨#[]⟩, .string ⟨#[]⟩, .int .i64 0, .int .i64 0, .int .i64 0, .int .i64 0, .int .i64 0, .int .u32 0, .int .i64 0], .int .i64 21]) ∧ Below w.heap.size w w' := by
  have HS := Lib.hid hS
  have HM := Lib.hid hM
  have HV : validB 1 9 2 = true := by rw [valid1]; rfl
  have HVV := Lib.hid HV
  have HST := Lib.hid (fun w1 => s1_of c i b o b' o' cn ct n0 n1 n2 n3 n4 n5 n6 n7 n8 s0 s1 w w1 hM)
  clear hS hM HV
  go_enter Tryd.func18, Tryd.ntmps18
  go_wp2_with (fail)
  refine (valid_any 1 c i _ _ 9 2 cn ct _ ((HS.out.alloc _).alloc _) (by omega) (by omega)).mono ?_
  rw [HVV.out]
  rintro e w1 ⟨rfl, hb⟩
  have hL1 := HST.out w1 hb
  have hms : w1.cell? ⟨w.heap.size, 0, none⟩ = some (.int .i64 1) := by
    have := (((M5.new w 1 c i (some ⟨b, o, none⟩) 9 cn (some ⟨b', o', none⟩) 2 ct 27).below (below_alloc _ (.cells #[.int .i64 0, .string ⟨#[]⟩, .string ⟨#[]⟩, .int .i64 0, .int .i64 0, .int .i64 0, .int .i64 0, .int .i64 0, .int .u32 0, .int .i64 0] 52)) (by simp)).below hb (by simp; omega))
    exact this.c0
  clear hb HST HS
  obtain ⟨Q, hQ⟩ : ∃ Q, Q = w.heap.size := ⟨_, rfl⟩
  have HQ := Lib.hid hQ
  rw [← hQ] at hL1 hms ⊢
  clear hQ
  obtain ⟨g, hcs, hcn, hct⟩ := id hL1
  have F := g.out.2.1
  obtain ⟨z0, y0, x0⟩ := fr_in F 0 (by omega)
  obtain ⟨z1, y1, x1⟩ := fr_in F 1 (by omega)
  obtain ⟨z2, y2, x2⟩ := fr_in F 2 (by omega)
  obtain ⟨z3, y3, x3⟩ := fr_in F 3 (by omega)
  obtain ⟨z4, y4, x4⟩ := fr_in F 4 (by omega)
  obtain ⟨z5, y5, x5⟩ := fr_in F 5 (by omega)
  obtain ⟨z6, y6, x6⟩ := fr_in F 6 (by omega)
  obtain ⟨z7, y7, x7⟩ := fr_in F 7 (by omega)
  obtain ⟨z8, y8, x8⟩ := fr_in F 8 (by omega)
  obtain ⟨z9, y9, x9⟩ := fr_in F 9 (by omega)
  have G := Lib.hid (cs_ten F (.int .i64 0) (.string ⟨#[]⟩) (.string ⟨#[]⟩) (.int .i64 0) (.int .i64 0) (.int .i64 0) (.int .i64 0) (.int .i64 0) (.int .u32 0) (.int .i64 0))
  have FB := Lib.hid (And.intro g.out.1 g.out.2.2.2.1)
  have f1 : n6 < 0 := h6
  clear F hL1
  go_wp2_with (fail)
  refine bodyPost_ret (v := Value.tuple #[.agg #[.int .i64 0, .string ⟨#[]⟩, .string ⟨#[]⟩, .int .i64 0, .int .i64 0, .int .i64 0, .int .i64 0, .int .i64 0, .int .u32 0, .int .i64 0], .int .i64 21]) (results_ct rfl _ _ (Q + 1) _ _ rfl (cs_range G.out) Tryd.underlying52 rfl (by kernel_rfl) _ rfl) rfl ⟨rfl, ?_⟩
  exact (((((((((FB.out.1.setCell FB.out.2 _).setCell FB.out.2 _).setCell FB.out.2 _).setCell FB.out.2 _).setCell FB.out.2 _).setCell FB.out.2 _).setCell FB.out.2 _).setCell FB.out.2 _).setCell FB.out.2 _).setCell FB.out.2 _
set_option maxRecDepth 100000 in
set_option maxHeartbeats 4000000 in
theorem op_bad2 (c i : Int) (b o b' o' cn ct : Nat) (n0 n1 n2 n3 n4 n5 n6 n7 n8 : Int) (s0 s1 : ByteArray) (w : World) (hS : Shp w) (hM : MsgAt w w.heap.size (some ⟨b, o, none⟩) (some ⟨b', o', none⟩) [n0, n1, n2, n3, n4, n5, n6, n7, n8] [s0, s1]) (h6 : 4294967295 < n6) :
    Calls Tryd.prog 18 #[.agg #[.int .i64 1, .int .i64 c, .int .i64 i, .slice (some ⟨b, o, none⟩) 9 cn, .slice (some ⟨b', o', none⟩) 2 ct]] w fun e w' => e = .returned (Value.tuple #[.agg #[.int .i64 0, .string ⟨#[]⟩, .string ⟨#[]⟩, .int .i64 0, .int .i64 0, .int .i64 0, .int .i64 0, .int .i64 0, .int .u32 0, .int .i64 0], .int .i64 21]) ∧ Below w.heap.size w w' := by
  have HS := Lib.hid hS
  have HM := Lib.hid hM
  have HV : validB 1 9 2 = true := by rw [valid1]; rfl
  have HVV := Lib.hid HV
  have HST := Lib.hid (fun w1 => s1_of c i b o b' o' cn ct n0 n1 n2 n3 n4 n5 n6 n7 n8 s0 s1 w w1 hM)
  clear hS hM HV
  go_enter Tryd.func18, Tryd.ntmps18
  go_wp2_with (fail)
  refine (valid_any 1 c i _ _ 9 2 cn ct _ ((HS.out.alloc _).alloc _) (by omega) (by omega)).mono ?_
  rw [HVV.out]
  rintro e w1 ⟨rfl, hb⟩
  have hL1 := HST.out w1 hb
  have hms : w1.cell? ⟨w.heap.size, 0, none⟩ = some (.int .i64 1) := by
    have := (((M5.new w 1 c i (some ⟨b, o, none⟩) 9 cn (some ⟨b', o', none⟩) 2 ct 27).below (below_alloc _ (.cells #[.int .i64 0, .string ⟨#[]⟩, .string ⟨#[]⟩, .int .i64 0, .int .i64 0, .int .i64 0, .int .i64 0, .int .i64 0, .int .u32 0, .int .i64 0] 52)) (by simp)).below hb (by simp; omega))
    exact this.c0
  clear hb HST HS
  obtain ⟨Q, hQ⟩ : ∃ Q, Q = w.heap.size := ⟨_, rfl⟩
  have HQ := Lib.hid hQ
  rw [← hQ] at hL1 hms ⊢
  clear hQ
  obtain ⟨g, hcs, hcn, hct⟩ := id hL1
  have F := g.out.2.1
  obtain ⟨z0, y0, x0⟩ := fr_in F 0 (by omega)
  obtain ⟨z1, y1, x1⟩ := fr_in F 1 (by omega)
  obtain ⟨z2, y2, x2⟩ := fr_in F 2 (by omega)
  obtain ⟨z3, y3, x3⟩ := fr_in F 3 (by omega)
  obtain ⟨z4, y4, x4⟩ := fr_in F 4 (by omega)
  obtain ⟨z5, y5, x5⟩ := fr_in F 5 (by omega)
  obtain ⟨z6, y6, x6⟩ := fr_in F 6 (by omega)
  obtain ⟨z7, y7, x7⟩ := fr_in F 7 (by omega)
  obtain ⟨z8, y8, x8⟩ := fr_in F 8 (by omega)
  obtain ⟨z9, y9, x9⟩ := fr_in F 9 (by omega)
  have G := Lib.hid (cs_ten F (.int .i64 0) (.string ⟨#[]⟩) (.string ⟨#[]⟩) (.int .i64 0) (.int .i64 0) (.int .i64 0) (.int .i64 0) (.int .i64 0) (.int .u32 0) (.int .i64 0))
  have FB := Lib.hid (And.intro g.out.1 g.out.2.2.2.1)
  have f1 : ¬ n6 < 0 := by omega
  clear F hL1
  go_wp2_with (fail)
  refine bodyPost_ret (v := Value.tuple #[.agg #[.int .i64 0, .string ⟨#[]⟩, .string ⟨#[]⟩, .int .i64 0, .int .i64 0, .int .i64 0, .int .i64 0, .int .i64 0, .int .u32 0, .int .i64 0], .int .i64 21]) (results_ct rfl _ _ (Q + 1) _ _ rfl (cs_range G.out) Tryd.underlying52 rfl (by kernel_rfl) _ rfl) rfl ⟨rfl, ?_⟩
  exact (((((((((FB.out.1.setCell FB.out.2 _).setCell FB.out.2 _).setCell FB.out.2 _).setCell FB.out.2 _).setCell FB.out.2 _).setCell FB.out.2 _).setCell FB.out.2 _).setCell FB.out.2 _).setCell FB.out.2 _).setCell FB.out.2 _
set_option maxRecDepth 100000 in
set_option maxHeartbeats 4000000 in
theorem op_yes (c i : Int) (b o b' o' cn ct : Nat) (n0 n1 n2 n3 n4 n5 n6 n7 n8 : Int) (s0 s1 : ByteArray) (w : World) (hS : Shp w) (hM : MsgAt w w.heap.size (some ⟨b, o, none⟩) (some ⟨b', o', none⟩) [n0, n1, n2, n3, n4, n5, n6, n7, n8] [s0, s1]) (h6 : 0 ≤ n6 ∧ n6 ≤ 4294967295) :
    Calls Tryd.prog 18 #[.agg #[.int .i64 1, .int .i64 c, .int .i64 i, .slice (some ⟨b, o, none⟩) 9 cn, .slice (some ⟨b', o', none⟩) 2 ct]] w fun e w' => e = .returned (Value.tuple #[.agg #[.int .i64 n0, .string s0, .string s1, .int .i64 n1, .int .i64 n2, .int .i64 n3, .int .i64 n4, .int .i64 n5, .int .u32 n6, .int .i64 n7], .int .i64 0]) ∧ Below w.heap.size w w' := by
  have HS := Lib.hid hS
  have HM := Lib.hid hM
  have HV : validB 1 9 2 = true := by rw [valid1]; rfl
  have HVV := Lib.hid HV
  have HST := Lib.hid (fun w1 => s1_of c i b o b' o' cn ct n0 n1 n2 n3 n4 n5 n6 n7 n8 s0 s1 w w1 hM)
  clear hS hM HV
  go_enter Tryd.func18, Tryd.ntmps18
  go_wp2_with (fail)
  refine (valid_any 1 c i _ _ 9 2 cn ct _ ((HS.out.alloc _).alloc _) (by omega) (by omega)).mono ?_
  rw [HVV.out]
  rintro e w1 ⟨rfl, hb⟩
  have hL1 := HST.out w1 hb
  have hms : w1.cell? ⟨w.heap.size, 0, none⟩ = some (.int .i64 1) := by
    have := (((M5.new w 1 c i (some ⟨b, o, none⟩) 9 cn (some ⟨b', o', none⟩) 2 ct 27).below (below_alloc _ (.cells #[.int .i64 0, .string ⟨#[]⟩, .string ⟨#[]⟩, .int .i64 0, .int .i64 0, .int .i64 0, .int .i64 0, .int .i64 0, .int .u32 0, .int .i64 0] 52)) (by simp)).below hb (by simp; omega))
    exact this.c0
  clear hb HST HS
  obtain ⟨Q, hQ⟩ : ∃ Q, Q = w.heap.size := ⟨_, rfl⟩
  have HQ := Lib.hid hQ
  rw [← hQ] at hL1 hms ⊢
  clear hQ
  obtain ⟨g, hcs, hcn, hct⟩ := id hL1
  have hs0 : s0.size ≤ 281474976710656 := by have := HM.out.tb s0 (by simp); omega
  have hs1 : s1.size ≤ 281474976710656 := by have := HM.out.tb s1 (by simp); omega
  have hsu : IntKind.u32.wrap n6 = n6 := IntWalk.u32_in _ (by omega)
  have f1 : ¬ n6 < 0 := by omega
  have f2 : ¬ 4294967295 < n6 := by omega
  have HSU := Lib.hid hsu
  clear hsu HM
  go_wp2_with (fail)
  go_region_held3 (fun w' => S1 w Q (Q + 1) b o b' o' cn ct n0 n1 n2 n3 n4 n5 n6 n7 n8 s0 s1 w') (first | with_reducible assumption | with_reducible exact s1_drew (by with_reducible assumption) | with_reducible exact s1_drew (s1_alloc (by with_reducible assumption) _) | with_reducible exact s1_alloc (by with_reducible assumption) _)
    (first | fail)
  obtain ⟨wc, hwc⟩ : ∃ wc, wc = (w1.alloc (Obj.cells #[.int .i64 n2, .int .i64 n3, .int .i64 n4] 45)).drew := ⟨_, rfl⟩
  have hL2 : S2 w Q (Q + 1) b o b' o' cn ct n0 n1 n2 n3 n4 n5 n6 n7 n8 s0 s1 w1.heap.size wc := by
    rw [hwc]
    have hlt := (g.out.2.1).lt
    exact ⟨s1_drew (s1_alloc hL1 _), Lib.hid (by omega), by simp, by simp, by simp⟩
  rw [← hwc]
  obtain ⟨x, hx⟩ : ∃ x, x = w1.heap.size := ⟨_, rfl⟩
  rw [← hx] at hL2 ⊢
  have hsu := HSU.out
  clear hwc hx hL1 g hcs hcn hct hms
  go_wp2_with (fail)
  go_region_held3 (fun w' => S2 w Q (Q + 1) b o b' o' cn ct n0 n1 n2 n3 n4 n5 n6 n7 n8 s0 s1 x w') (first | with_reducible assumption | with_reducible exact s2_drew (by with_reducible assumption) | with_reducible exact (s2_set (s2_set (s2_set (s2_set (s2_set (s2_set (s2_set (s2_set (s2_set (s2_set (by with_reducible assumption) _ _) _ _) _ _) _ _) _ _) _ _) _ _) _ _) _ _) _ _))
    (first
      | (go_at_call 35; first
          | ((with_reducible refine (clone_S2 s0 hs0 (by with_reducible assumption)).mono ?_); rintro e wx ⟨rfl, hSx⟩)
          | ((with_reducible refine (clone_S2 s1 hs1 (by with_reducible assumption)).mono ?_); rintro e wy ⟨rfl, hSy⟩; obtain ⟨z0, y0, x0⟩ := fr_in (s2_ten hSy) 0 (by omega); obtain ⟨z1, y1, x1⟩ := fr_in (s2_ten hSy) 1 (by omega); obtain ⟨z2, y2, x2⟩ := fr_in (s2_ten hSy) 2 (by omega); obtain ⟨z3, y3, x3⟩ := fr_in (s2_ten hSy) 3 (by omega); obtain ⟨z4, y4, x4⟩ := fr_in (s2_ten hSy) 4 (by omega); obtain ⟨z5, y5, x5⟩ := fr_in (s2_ten hSy) 5 (by omega); obtain ⟨z6, y6, x6⟩ := fr_in (s2_ten hSy) 6 (by omega); obtain ⟨z7, y7, x7⟩ := fr_in (s2_ten hSy) 7 (by omega); obtain ⟨z8, y8, x8⟩ := fr_in (s2_ten hSy) 8 (by omega); obtain ⟨z9, y9, x9⟩ := fr_in (s2_ten hSy) 9 (by omega))))
  have G := Lib.hid (cs_ten (s2_ten hSy) (.int .i64 n0) (.string s0) (.string s1) (.int .i64 n1) (.int .i64 n2) (.int .i64 n3) (.int .i64 n4) (.int .i64 n5) (.int .u32 n6) (.int .i64 n7))
  have HO := Lib.hid (And.intro (s2_out hSy) hSy.1.1.out.2.2.2.1)
  clear hSx hSy
  go_wp2
  refine bodyPost_ret (v := Value.tuple #[.agg #[.int .i64 n0, .string s0, .string s1, .int .i64 n1, .int .i64 n2, .int .i64 n3, .int .i64 n4, .int .i64 n5, .int .u32 n6, .int .i64 n7], .int .i64 0]) (results_ct rfl _ _ (Q + 1) _ _ rfl (cs_range G.out) Tryd.underlying52 rfl (by kernel_rfl) _ rfl) rfl ⟨rfl, ?_⟩
  exact (((((((((HO.out.1.setCell HO.out.2 _).setCell HO.out.2 _).setCell HO.out.2 _).setCell HO.out.2 _).setCell HO.out.2 _).setCell HO.out.2 _).setCell HO.out.2 _).setCell HO.out.2 _).setCell HO.out.2 _).setCell HO.out.2 _
end Go.Proofs.YtndcmjgjecdgcaaDoor
