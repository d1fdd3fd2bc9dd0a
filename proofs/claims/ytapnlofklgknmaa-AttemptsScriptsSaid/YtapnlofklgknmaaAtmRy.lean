/- Package attempts: Ready, and what is asked of a board. -/
import Derived.Test.YtapnlofklgknmaaAtmTh
import Derived.Deep.Onto
namespace Go.Proofs.Ytapnlofklgknmaa
open Go.RowKit

def readyB (b : Bd) (nd now : Int) : List Nat :=
  if b.dead then [] else
  if thK (fun i => mayR (rawB (fun _ => .bool true) b) (i : Int) && ((b.T i).lv == 0)) b.n = [] then thK (fun i => mayR (rawB (fun _ => .bool true) b) (i : Int) && slowT (b.T i) nd (mom now - b.pat)) b.n
  else thK (fun i => mayR (rawB (fun _ => .bool true) b) (i : Int) && ((b.T i).lv == 0)) b.n
theorem may_hs (hs hs' : Nat → Value) (b : Bd) (x : Int) : mayR (rawB hs b) x = mayR (rawB hs' b) x := rfl
theorem own_slice {W : World} {B n sz : Nat} {e : TypeId} {v : Value} {xs : List Value} (h : W.ownsRow B e sz v n xs) : ∃ A c, v = .slice A n c := by
  rcases h.2 with ⟨rfl, h0⟩ | ⟨g, cap, cur, rfl, _⟩
  · exact ⟨none, 0, by rw [h0]⟩
  · exact ⟨_, _, rfl⟩
section
variable {B p tb : Nat} {w : World} {hs : Nat → Value} {b : Bd}
set_option maxRecDepth 100000 in
set_option maxHeartbeats 4000000 in
theorem ready_any (h : Hid (RawAt B w p tb (rawB hs b))) (hn : b.n ≤ 8192) (hpat : 1 ≤ b.pat ∧ b.pat ≤ 1099511627776) (nd now : Int) : Calls Try.prog 9 #[.pointer (some ⟨p, 0, none⟩), .int .i64 nd, .int .i64 now] w fun e w' => ∃ v, e = .returned v ∧ w'.ownsRow w.heap.size 3 1 v (readyB b nd now).length (intL (readyB b nd now)) ∧ Below w.heap.size w w' := by
  have c6 : w.cell? ⟨p, 6, none⟩ = some (.bool b.dead) := h.out.c6
  have c3 : w.cell? ⟨p, 3, none⟩ = some (.int .i64 b.pat) := h.out.c3
  have hmb := mom_b now
  cases hd : b.dead
  · rw [hd] at c6
    obtain ⟨W1, hW1⟩ : ∃ W1, W1 = w.alloc (.cells #[.int .i64 nd] 3) := ⟨_, rfl⟩
    have hb1 : Below w.heap.size w W1 := by rw [hW1]; exact (Below.refl _ _).alloc (Nat.le_refl _) _
    have hs1 : W1.heap.size = w.heap.size + 1 := by rw [hW1]; simp
    have k1 : W1.cell? ⟨w.heap.size, 0, none⟩ = some (.int .i64 nd) := by rw [hW1]; simp
    have d6 : W1.cell? ⟨p, 6, none⟩ = some (.bool false) := (hb1.cell (p := ⟨p, 6, none⟩) h.out.ty.lt).trans c6
    have h1 := Lib.hid (h.out.below hb1)
    have ht := those_1 h1 hn #[] (fun i => (b.T i).lv == 0) (Lib.hid fun W i hW hi => (idle_any (Lib.hid (h1.out.below hW)) i hi).mono (by rintro e w' ⟨rfl, rfl⟩; exact ⟨rfl, Below.refl _ _⟩))
    have HB1 := Lib.hid hb1
    have HS1 := Lib.hid hs1
    have HK1 := Lib.hid k1
    have HC3 := Lib.hid c3
    clear c6 c3 hs1 k1
    obtain ⟨I, hI⟩ : ∃ I, I = thK (fun i => mayR (rawB hs b) (i : Int) && ((b.T i).lv == 0)) b.n := ⟨_, rfl⟩
    rw [← hI] at ht
    have HW1 := Lib.hid hW1
    clear hW1
    have hr1 : I = [] → readyB b nd now = thK (fun i => mayR (rawB hs b) (i : Int) && slowT (b.T i) nd (mom now - b.pat)) b.n := fun h0 => by
      unfold readyB
      rw [hd, if_neg (by decide), if_pos (by rw [← h0, hI]; rfl)]
      rfl
    have hr2 : ¬ I = [] → readyB b nd now = I := fun h0 => by
      have e : thK (fun i => mayR (rawB (fun _ => .bool true) b) (i : Int) && ((b.T i).lv == 0)) b.n = I := by rw [hI]; rfl
      unfold readyB
      rw [hd, if_neg (by decide), e, if_neg h0]
    obtain ⟨L, hL⟩ : ∃ L, L = readyB b nd now := ⟨_, rfl⟩
    rw [← hL] at hr1 hr2 ⊢
    have HR1 := Lib.hid hr1
    have HR2 := Lib.hid hr2
    clear hr1 hr2 hL hI
    go_enter Try.func9, Try.ntmps9
    go_upto_region 1 with (fail)
    rw [← HW1.out]
    go_wp2_with (fail)
    refine ht.mono ?_
    rintro e w2 ⟨v, rfl, ho, hb2⟩
    obtain ⟨A, c, rfl⟩ := own_slice ho
    have HB2 := Lib.hid (HB1.out.trans (hb2.mono (by have := HS1.out; omega)))
    have HO := Lib.hid (ho.mono (show w.heap.size ≤ W1.heap.size by have := HS1.out; omega))
    have HK2 := Lib.hid ((hb2.cell (p := ⟨w.heap.size, 0, none⟩) (by have := HS1.out; show w.heap.size < _; omega)).trans HK1.out)
    have HS2 := Lib.hid hb2.size
    clear ht ho hb2
    by_cases h0 : I = []
    · have hr := Lib.hid (HR1.out h0)
      have hl0 : I.length = 0 := by rw [h0]; rfl
      rw [hl0]
      clear h0 HO
      have c3' := (HB2.out.cell (p := ⟨p, 3, none⟩) h.out.ty.lt).trans HC3.out
      have hw1 : wrap64 (mom now - b.pat) = mom now - b.pat := IntWalk.wrap64_in _ ⟨by omega, by omega⟩
      have hw2 : IntKind.i64.wrap (mom now - b.pat) = mom now - b.pat := IntWalk.i64_in _ (by omega)
      have ht2 : ∀ W3, Below w2.heap.size w2 W3 → W3.cell? ⟨w2.heap.size, 0, none⟩ = some (.int .i64 (mom now - b.pat)) → Calls Try.prog 27 #[.pointer (some ⟨p, 0, none⟩), .func (.func 30) #[] #[.pointer (some ⟨w.heap.size, 0, none⟩), .pointer (some ⟨w2.heap.size, 0, none⟩)]] W3 fun e w' => ∃ v, e = .returned v ∧ w'.ownsRow w.heap.size 3 1 v L.length (intL L) ∧ Below w.heap.size w w' := fun W3 hb3 hk3 => by
        have hb03 := HB2.out.trans (hb3.mono HB2.out.size)
        have h3 := Lib.hid (h.out.below hb03)
        have hk1 := (hb3.cell (p := ⟨w.heap.size, 0, none⟩) (World.block_lt_of_cell? _ _ HK2.out)).trans HK2.out
        have ht := those_2 h3 hn #[.pointer (some ⟨w.heap.size, 0, none⟩), .pointer (some ⟨w2.heap.size, 0, none⟩)] (fun i => slowT (b.T i) nd (mom now - b.pat)) (Lib.hid fun W i hW hi => slowc_any (Lib.hid (h3.out.below hW)) i hi nd _ _ _ ((hW.cell (p := ⟨w.heap.size, 0, none⟩) (World.block_lt_of_cell? _ _ hk1)).trans hk1) ((hW.cell (p := ⟨w2.heap.size, 0, none⟩) (World.block_lt_of_cell? _ _ hk3)).trans hk3))
        refine ht.mono ?_
        rintro e w' ⟨v, he, ho, hb⟩
        exact ⟨v, he, by rw [hr.out]; exact ho.mono hb03.size, hb03.trans (hb.mono hb03.size)⟩
      have HT2 := Lib.hid ht2
      clear ht2
      obtain ⟨a3, b3⟩ := cell_al c3'
      have hB1 : Hid (Below w2.heap.size w2 ((w2.alloc (.cells #[.int .i64 (mom now - b.pat)] 3)).drew)) := Lib.hid (((Below.refl _ _).alloc (Nat.le_refl _) _).drew)
      have hB2 : Hid (Below w2.heap.size w2 ((w2.drew).alloc (.cells #[.int .i64 (mom now - b.pat)] 3))) := Lib.hid (((Below.refl _ _).drew).alloc (Nat.le_refl _) _)
      go_wp2_with (fail)
      go_region_with (go_at_call 29; refine (moment_any now _).mono ?_; rintro e w3 ⟨rfl, rfl⟩)
      all_goals (go_wp2_with (fail))
      all_goals (refine (HT2.out _ (by first | exact hB1.out | exact hB2.out) (by simp)).mono ?_; rintro e w9 ⟨v9, rfl, H9⟩; have H10 := Lib.hid H9; clear H9; go_wp2; go_ret; exact ⟨_, rfl, H10.out⟩)
    · have hr := Lib.hid (HR2.out h0)
      have hlp : 0 < I.length := by cases I with | nil => exact absurd rfl h0 | cons => simp
      clear h0
      go_wp2
      go_ret
      exact ⟨_, rfl, by rw [hr.out]; exact HO.out, HB2.out⟩
  · have e : readyB b nd now = [] := by unfold readyB; rw [hd]; rfl
    rw [e]
    rw [hd] at c6
    obtain ⟨d6, e6⟩ := cell_al c6
    have hfin : Hid (Below w.heap.size w (w.alloc (.cells #[.int .i64 nd] 3))) := Lib.hid ((Below.refl _ _).alloc (Nat.le_refl _) _)
    go_enter Try.func9, Try.ntmps9
    go_wp2
    go_ret
    exact ⟨_, rfl, World.ownsRow_nil _ _ _ _, hfin.out⟩
end
end Go.Proofs.Ytapnlofklgknmaa
