/- Package net: a letter on a way that is cut, and behind its mending. -/
import Derived.Test.YtggagebnjcpnoaaNetFly
namespace Go.Proofs.Ytggagebnjcpnoaa
open Go.RowKit Go.Maps

set_option maxRecDepth 100000 in
set_option maxHeartbeats 4000000 in
theorem deliver_any {w0 : World} (p g c : Nat) (N a b : Int) (cut : Value) (s : ByteArray) (w : World) (hs : s.size ≤ 1048576) (hp : w0.heap.size ≤ p) (hg0 : w0.heap.size ≤ g) (ho : OneAt w p g c N a b cut s) (HS : Hid (Since w0 w))
    (HPT : Hid (∀ w2, Below w.heap.size w w2 → Calls Try.prog 23 #[.pointer (some ⟨p, 0, none⟩), .int .i64 a, .int .i64 b] w2 fun e w' => e = .returned (.bool false) ∧ Below w2.heap.size w2 w')) :
    Calls Try.prog 13 #[.pointer (some ⟨p, 0, none⟩), .int .i64 0] w fun e w' => e = .returned (.tuple #[.agg #[.int .i64 1, .int .i64 a, .int .i64 b, .string s], .int .i64 0]) ∧ Since w0 w' := by
  obtain ⟨W1, hW1⟩ : ∃ W1, W1 = w.alloc (.cells #[.int .i64 0, .int .i64 0, .int .i64 0, .string ⟨#[]⟩] 36) := ⟨_, rfl⟩
  have hb1 : Below w.heap.size w W1 := by rw [hW1]; exact (Below.refl _ w).alloc (Nat.le_refl _) _
  have ho1 := ho.below hb1
  have hcar := carries_one p g c W1 ho1.net.c2
  have HW := Lib.hid hW1
  have HO := Lib.hid ho
  rw [hW1] at hcar
  have hb1' : Below w.heap.size w (w.alloc (.cells #[.int .i64 0, .int .i64 0, .int .i64 0, .string ⟨#[]⟩] 36)) := (Below.refl _ w).alloc (Nat.le_refl _) _
  clear ho ho1 hb1 hW1
  go_enter Try.func13, Try.ntmps13
  go_wp2_with (fail)
  refine hcar.mono ?_
  rintro e w' ⟨rfl, rfl⟩
  go_upto_region 3 with (fail)
  go_cut [6] (fun s6 wx => (∃ l, s6 = .pointer (some ⟨l, 0, none⟩) ∧ Hid (Boxes wx w.heap.size l 1 a b s ∧ w.heap.size ≤ l)) ∧ Hid (OneAt wx p g c N a b cut s) ∧ Hid (Since w0 wx ∧ Below w.heap.size w wx))
  case first =>
    have ho2 := HO.out.below hb1'
    have q2 := ho2.net.c2
    have q3 := ho2.k0
    have q4 := ho2.k1
    have q5 := ho2.k2
    have q6 := ho2.k3
    have hne1 : ¬ w.heap.size = p := by have := HO.out.net.lt; omega
    have hne2 : ¬ w.heap.size = g := by have := HO.out.gs; omega
    have e2 := HO.out.net.c2
    have e3 := HO.out.k0
    have e4 := HO.out.k1
    have e5 := HO.out.k2
    have e6 := HO.out.k3
    clear hb1' ho2 hcar
    go_wp2
    go_meet
    have hb2 : Below w.heap.size w ((w.alloc (.cells #[.int .i64 0, .int .i64 0, .int .i64 0, .string ⟨#[]⟩] 36)).alloc (.cells #[.int .i64 1, .int .i64 a, .int .i64 b, .string s] 36)) := ((Below.refl _ w).alloc (Nat.le_refl _) _).alloc (by simp) _
    exact ⟨⟨_, rfl, Lib.hid ⟨boxes_mk w 1 a b s, by omega⟩⟩, Lib.hid (HO.out.below hb2), Lib.hid ⟨since_of HS.out hb2, hb2⟩⟩
  case rest =>
    obtain ⟨⟨l, rfl, HB⟩, HO2, HSB⟩ := hcut
    have HS2 := HSB.out.1
    have hgp' : ¬ w.heap.size = g := by have := HO.out.gs; omega
    have hpp' : ¬ w.heap.size = p := by have := HO.out.net.lt; omega
    have hgl : ¬ l = g := by have := HO.out.gs; have := HB.out.2; omega
    have hpl : ¬ l = p := by have := HO.out.net.lt; have := HB.out.2; omega
    have HNE := Lib.hid (And.intro (And.intro hgp' hpp') (And.intro hgl hpl))
    have m1 := HB.out.1.l1
    have m2 := HB.out.1.l2
    have hpt := HPT.out _ HSB.out.2
    have hrw : w0.heap.size ≤ w.heap.size := HS.out.out.size
    have HRW := Lib.hid hrw
    clear hgp' hpp' hgl hpl hcar hb1' hrw
    go_wp2_with (fail)
    refine hpt.mono ?_
    rintro e w3 ⟨rfl, hb3⟩
    have HB3 := Lib.hid (HB.out.1.below hb3)
    have ho3 := HO2.out.below hb3
    have HS3 := since_of HS2 hb3
    have hrm := remove_one p g c N a b cut s w3 ho3.gp ho3.cap ho3.net ho3.k0 ho3.k1 ho3.k2 ho3.k3 ho3.kf
    clear m1 m2 hpt hb3 ho3
    go_wp2_with (fail)
    refine hrm.mono ?_
    rintro e w4 ⟨rfl, hgn⟩
    have HB4 : Hid (Boxes w4 w.heap.size l 1 a b s) := Lib.hid (HB3.out.same (Nat.le_of_eq hgn.2.1.symm) (hgn.2.2.1 _ HNE.out.1.1 HNE.out.1.2) (hgn.2.2.1 _ HNE.out.2.1 HNE.out.2.2))
    have HS4 : Since w0 w4 := Lib.hid (hgn.2.2.2 w0 hg0 hp HS3.out)
    have m0 := HB4.out.l0
    have m1 := HB4.out.l1
    have m2 := HB4.out.l2
    have m3 := HB4.out.l3
    have hcp := copied_any 1 a b s w4 (by omega)
    clear hrm hgn
    go_wp2_with (fail)
    refine hcp.mono ?_
    rintro e w5 ⟨rfl, hb5⟩
    have HB5 := Lib.hid (HB4.out.below hb5)
    have HS5 := since_of HS4 hb5
    have n0 := HB5.out.r0
    have n1 := HB5.out.r1
    have n2 := HB5.out.r2
    have n3 := HB5.out.r3
    have g0 := HB5.out.rf 0
    have g1 := HB5.out.rf 1
    have g2 := HB5.out.rf 2
    have g3 := HB5.out.rf 3
    clear m0 m1 m2 m3 hcp hb5
    go_wp2
    refine bodyPost_ret (v := .tuple #[.agg #[.int .i64 1, .int .i64 a, .int .i64 b, .string s], .int .i64 0]) ?_ rfl ⟨rfl, ?_⟩
    · simp [results, Try.results13, go_sem, n0, n1, n2, n3]
    · exact Lib.hid ((((HS5.out.setCell HRW.out _).setCell HRW.out _).setCell HRW.out _).setCell HRW.out _)
set_option maxRecDepth 100000 in
set_option maxHeartbeats 4000000 in
theorem deliver_gone {w0 : World} (p g c : Nat) (N a b : Int) (cut : Value) (s : ByteArray) (w : World) (hs : s.size ≤ 1048576) (hp : w0.heap.size ≤ p) (hg0 : w0.heap.size ≤ g) (ho : OneAt w p g c N a b cut s) (HS : Hid (Since w0 w))
    (HPT : Hid (∀ w2, Below w.heap.size w w2 → Calls Try.prog 23 #[.pointer (some ⟨p, 0, none⟩), .int .i64 a, .int .i64 b] w2 fun e w' => e = .returned (.bool true) ∧ Below w2.heap.size w2 w')) :
    Calls Try.prog 13 #[.pointer (some ⟨p, 0, none⟩), .int .i64 0] w fun e w' => e = .returned (.tuple #[.agg #[.int .i64 0, .int .i64 0, .int .i64 0, .string ⟨#[]⟩], .int .i64 140]) ∧ Below w.heap.size w w' := by
  obtain ⟨W1, hW1⟩ : ∃ W1, W1 = w.alloc (.cells #[.int .i64 0, .int .i64 0, .int .i64 0, .string ⟨#[]⟩] 36) := ⟨_, rfl⟩
  have hb1 : Below w.heap.size w W1 := by rw [hW1]; exact (Below.refl _ w).alloc (Nat.le_refl _) _
  have ho1 := ho.below hb1
  have hcar := carries_one p g c W1 ho1.net.c2
  have HW := Lib.hid hW1
  have HO := Lib.hid ho
  rw [hW1] at hcar
  have hb1' : Below w.heap.size w (w.alloc (.cells #[.int .i64 0, .int .i64 0, .int .i64 0, .string ⟨#[]⟩] 36)) := (Below.refl _ w).alloc (Nat.le_refl _) _
  clear ho ho1 hb1 hW1
  go_enter Try.func13, Try.ntmps13
  go_wp2_with (fail)
  refine hcar.mono ?_
  rintro e w' ⟨rfl, rfl⟩
  go_upto_region 3 with (fail)
  go_cut [6] (fun s6 wx => (∃ l, s6 = .pointer (some ⟨l, 0, none⟩) ∧ Hid (Boxes wx w.heap.size l 1 a b s ∧ w.heap.size ≤ l)) ∧ Hid (OneAt wx p g c N a b cut s) ∧ Hid (Since w0 wx ∧ Below w.heap.size w wx))
  case first =>
    have ho2 := HO.out.below hb1'
    have q2 := ho2.net.c2
    have q3 := ho2.k0
    have q4 := ho2.k1
    have q5 := ho2.k2
    have q6 := ho2.k3
    have hne1 : ¬ w.heap.size = p := by have := HO.out.net.lt; omega
    have hne2 : ¬ w.heap.size = g := by have := HO.out.gs; omega
    have e2 := HO.out.net.c2
    have e3 := HO.out.k0
    have e4 := HO.out.k1
    have e5 := HO.out.k2
    have e6 := HO.out.k3
    clear hb1' ho2 hcar
    go_wp2
    go_meet
    have hb2 : Below w.heap.size w ((w.alloc (.cells #[.int .i64 0, .int .i64 0, .int .i64 0, .string ⟨#[]⟩] 36)).alloc (.cells #[.int .i64 1, .int .i64 a, .int .i64 b, .string s] 36)) := ((Below.refl _ w).alloc (Nat.le_refl _) _).alloc (by simp) _
    exact ⟨⟨_, rfl, Lib.hid ⟨boxes_mk w 1 a b s, by omega⟩⟩, Lib.hid (HO.out.below hb2), Lib.hid ⟨since_of HS.out hb2, hb2⟩⟩
  case rest =>
    obtain ⟨⟨l, rfl, HB⟩, HO2, HSB⟩ := hcut
    have HS2 := HSB.out.1
    have hgp' : ¬ w.heap.size = g := by have := HO.out.gs; omega
    have hpp' : ¬ w.heap.size = p := by have := HO.out.net.lt; omega
    have hgl : ¬ l = g := by have := HO.out.gs; have := HB.out.2; omega
    have hpl : ¬ l = p := by have := HO.out.net.lt; have := HB.out.2; omega
    have HNE := Lib.hid (And.intro (And.intro hgp' hpp') (And.intro hgl hpl))
    have m1 := HB.out.1.l1
    have m2 := HB.out.1.l2
    have hpt := HPT.out _ HSB.out.2
    have hrw : w0.heap.size ≤ w.heap.size := HS.out.out.size
    have HRW := Lib.hid hrw
    clear hgp' hpp' hgl hpl hcar hb1' hrw
    go_wp2_with (fail)
    refine hpt.mono ?_
    rintro e w3 ⟨rfl, hb3⟩
    have hbx := HB.out.1.below hb3
    have HSX := Lib.hid (HSB.out.2.trans (hb3.mono HSB.out.2.size))
    have n0 := hbx.r0
    have n1 := hbx.r1
    have n2 := hbx.r2
    have n3 := hbx.r3
    have g0 := hbx.rf 0
    have g1 := hbx.rf 1
    have g2 := hbx.rf 2
    have g3 := hbx.rf 3
    clear m1 m2 hpt hb3 hbx
    go_wp2
    refine bodyPost_ret (v := .tuple #[.agg #[.int .i64 0, .int .i64 0, .int .i64 0, .string ⟨#[]⟩], .int .i64 140]) ?_ rfl ⟨rfl, ?_⟩
    · simp [results, Try.results13, go_sem, n0, n1, n2, n3]
    · first
        | exact HSX.out
        | exact ((((HSX.out.setCell (Nat.le_refl _) _).setCell (Nat.le_refl _) _).setCell (Nat.le_refl _) _).setCell (Nat.le_refl _) _)
end Go.Proofs.Ytggagebnjcpnoaa
