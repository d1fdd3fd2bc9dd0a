/- Package store: a replica that is known but bad is read. -/
import Derived.Test.YtmlikkjahkdilaaGreatDoorStoFor
namespace Go.Proofs.YtmlikkjahkdilaaGreatDoor
open Go.RowKit Go.Maps
set_option maxRecDepth 100000 in
set_option maxHeartbeats 4000000 in
theorem read_bad {W w : World} {s p m n nk : Nat} {S : Nat → Prop} {cp : Int} {L : Fs} {K : Blk → Bool} (x : Blk) (hx : okB x) (h : Hid (SS W w s p m S cp n L [] nk K)) (hT : TabsS W) (hK : K x = true) (hl : (lookR L x).2 = false) (hn : n + 12 < maxLen) (hsz : totF L ≤ 1099511627776) :
    Calls Tryz.prog 9 #[.pointer (some ⟨s, 0, none⟩), .agg #[.int .i64 x.a, .int .i64 x.b, .int .i64 x.c]] w fun e w' => e = .returned (.tuple #[.string ⟨#[]⟩, .int .i64 141]) ∧ ∃ S' n', n' ≤ n + 2 ∧ Hid (SS W w' s p m S' cp n' (held L (fgC L [x] [])) [] nk (fun y => K y && !inB [x] y) ∧ Frm w w' S S' m) := by
  obtain ⟨wa, hwa⟩ : ∃ wa, wa = w.alloc (.cells #[.int .i64 x.a, .int .i64 x.b, .int .i64 x.c] 23) := ⟨_, rfl⟩
  obtain ⟨q, hq⟩ : ∃ q, q = w.heap.size := ⟨_, rfl⟩
  have HA : Hid (SS W wa s p m S cp n L [] nk K ∧ BxS w wa q x) := Lib.hid (by rw [hwa, hq]; exact ⟨h.out.below (bxs_new w x).bel, bxs_new w x⟩)
  obtain ⟨r1, hr1⟩ : ∃ r1, r1 = (lookR L x).1 := ⟨_, rfl⟩
  have HO := Lib.hid (And.intro hx (And.intro hl (And.intro hsz (And.intro hT (And.intro hn hr1)))))
  have b0 := HA.out.2.c0
  have b1 := HA.out.2.c1
  have b2 := HA.out.2.c2
  have hkn := knows_S x hx (Lib.hid HA.out.1)
  rw [hK] at hkn
  have HKN := Lib.hid hkn
  clear hkn hx h hT hl hK hsz hn hr1
  go_enter Tryz.func9, Tryz.ntmps9
  go_wp2_with (fail)
  rw [← hwa, ← hq]
  clear hwa hq
  refine HKN.out.mono ?_
  rintro e w1 ⟨rfl, hb1⟩
  have H1 : Hid (SS W w1 s p m S cp n L [] nk K ∧ BxS w w1 q x) := Lib.hid ⟨HA.out.1.below hb1, HA.out.2.below hb1⟩
  clear HKN hb1 HA b0 b1 b2
  have hlo := look_S x HO.out.1 (Lib.hid H1.out.1) HO.out.2.2.2.1 HO.out.2.2.1
  rw [HO.out.2.1, ← HO.out.2.2.2.2.2] at hlo
  have b0 := H1.out.2.c0
  have b1 := H1.out.2.c1
  have b2 := H1.out.2.c2
  go_wp2_with (fail)
  refine hlo.mono ?_
  rintro e w2 ⟨rfl, hb2⟩
  have H2 : Hid (SS W w2 s p m S cp n L [] nk K ∧ BxS w w2 q x) := Lib.hid ⟨H1.out.1.below hb2, H1.out.2.below hb2⟩
  clear hlo hb2 H1 b0 b1 b2
  have b0 := H2.out.2.c0
  have b1 := H2.out.2.c1
  have b2 := H2.out.2.c2
  obtain ⟨w3, hw3⟩ : ∃ w3, w3 = w2.alloc (.cells #[.int .i64 x.a, .int .i64 x.b, .int .i64 x.c] 23) := ⟨_, rfl⟩
  obtain ⟨g, hg⟩ : ∃ g, g = w2.heap.size := ⟨_, rfl⟩
  have hb3 : Below w2.heap.size w2 w3 := by rw [hw3]; exact (Below.refl _ _).alloc (Nat.le_refl _) _
  have hg3 : w3.heap[g]? = some (.cells #[.int .i64 x.a, .int .i64 x.b, .int .i64 x.c] 23 (0, 0)) := by rw [hw3, hg]; exact heap_alloc_new w2 _
  have hrow : BlRow w3 m S (some ⟨g, 0, none⟩) [x] := fun j hj => by
    have hj0 : j = 0 := by simpa using hj
    subst hj0
    exact ⟨g, rfl, fun e => by have := (H2.out.1.dk.m.own _ e).2; omega, fun e => by have := H2.out.1.ml; omega, (Array.getElem?_eq_some_iff.1 hg3).1, by simp [World.cell?, hg3], by simp [World.cell?, hg3], by simp [World.cell?, hg3]⟩
  have hfo := forget_S (len := 1) (cap := 1) [x] rfl (Lib.hid (H2.out.1.below hb3)) HO.out.2.2.2.1 (fun y hy => by rw [List.mem_singleton.1 hy]; exact HO.out.1) hrow ⟨by have := HO.out.2.2.2.2.1; omega, by decide⟩ HO.out.2.2.1
  have HFO := Lib.hid (And.intro hfo hb3)
  clear hfo hg3 hrow hb3
  go_wp2_with (fail)
  rw [← hw3, ← hg]
  clear hw3 hg
  refine HFO.out.1.mono ?_
  rintro e w4 ⟨rfl, S4, n4, hn4, H4⟩
  have HE : Hid (Frm w w4 S S4 m) := Lib.hid ((Frm.bel S m (H2.out.2.bel.trans (HFO.out.2.mono H2.out.2.bel.size))).trans H4.out.2)
  clear b0 b1 b2
  go_wp2_with (fail)
  go_ret2
  exact ⟨rfl, S4, n4, hn4, Lib.hid ⟨H4.out.1, HE.out⟩⟩
end Go.Proofs.YtmlikkjahkdilaaGreatDoor
