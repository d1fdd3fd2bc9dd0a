/- Package net: a net whatever it carries; a letter is taken away. -/
import Derived.Test.YtcahiogjmclnjaaNetRow
import Derived.Test.YtcahiogjmclnjaaTch
namespace Go.Proofs.Ytcahiogjmclnjaa
open Go.RowKit

/-- a net at p: its numbers, its list of letters L, the list's value v -/
structure NetL (w : World) (base p : Nat) (N sent : Int) (cut v : Value) (L : List Letr) : Prop where
  at' : NetAt w p N sent v cut
  ty : Bears w p 59
  fly : Fly w 36 4 base v L.length (cellsOf L)
/-- the blocks that a net's letters may turn -/
abbrev own2 (p : Nat) (v : Value) : Nat → Prop := fun i => i = p ∨ some i = v.ownBlock
theorem NetAt.same {w w' : World} {p : Nat} {N sent : Int} {fl cut : Value} (h : NetAt w p N sent fl cut) (e : w'.heap[p]? = w.heap[p]?) : NetAt w' p N sent fl cut :=
  ⟨(cell_eq e 0).trans h.c0, (cell_eq e 1).trans h.c1, (cell_eq e 2).trans h.c2, (cell_eq e 3).trans h.c3, (frozen_eq e 1).trans h.f1, (frozen_eq e 2).trans h.f2, (frozen_eq e 3).trans h.f3⟩
theorem NetL.apart {w : World} {base p : Nat} {N sent : Int} {cut v : Value} {L : List Letr} (h : NetL w base p N sent cut v L) (b : Nat) (hb : v.ownBlock = some b) : ¬ b = p :=
  bears_apart (h.fly.ty b hb) h.ty (by decide)
theorem NetL.tch {w w' : World} {S : Nat → Prop} {base p : Nat} {N sent : Int} {cut v : Value} {L : List Letr} (h : NetL w base p N sent cut v L) (t : Tch w w' S) (hp : ¬ S p) (hv : ∀ b, v.ownBlock = some b → ¬ S b) : NetL w' base p N sent cut v L :=
  ⟨h.at'.same (t.block p h.ty.lt hp), h.ty.tch t hp, h.fly.same (fun b hb => t.block b (h.fly.lt b hb).2 (hv b hb))⟩
theorem NetL.below {w w' : World} {base p : Nat} {N sent : Int} {cut v : Value} {L : List Letr} (h : NetL w base p N sent cut v L) (hb : Below w.heap.size w w') : NetL w' base p N sent cut v L :=
  h.tch (tch_below (fun _ => False) hb) (fun e => e) (fun _ _ e => e)
/-- the letters' value behind a store into the net's cell -/
theorem NetL.store {w : World} {base p : Nat} {N sent : Int} {cut v v' : Value} {L' : List Letr} (ha : NetAt w p N sent v cut) (ht : Bears w p 59) (hf : Fly w 36 4 base v' L'.length (cellsOf L')) : NetL (w.setCell ⟨p, 2, none⟩ v') base p N sent cut v' L' := by
  have hap : ∀ b, v'.ownBlock = some b → ¬ b = p := fun b hb => bears_apart (hf.ty b hb) ht (by decide)
  exact ⟨ha.fly v', bears_set _ ht, hf.same (fun b hb => (tch_set w ⟨p, 2, none⟩ v').block b (hf.lt b hb).2 (hap b hb))⟩
set_option maxRecDepth 100000 in
set_option maxHeartbeats 2000000 in
theorem remove_any (base p k : Nat) (N sent : Int) (cut v : Value) (L : List Letr) (w : World) (hk : k < L.length) (h : NetL w base p N sent cut v L) :
    Calls Try.prog 26 #[.pointer (some ⟨p, 0, none⟩), .int .i64 k] w fun e w' => e = .returned (.tuple #[]) ∧ ∃ v', NetL w' base p N sent cut v' (L.eraseIdx k) ∧ v'.ownBlock = v.ownBlock ∧ Tch w w' (own2 p v) := by
  obtain ⟨i0, hi, hz0, hz1, hz2⟩ := info_parts infoLetter
  obtain ⟨ha, ht, hf⟩ := h
  obtain ⟨g, o, cap, rfl, hb, hcm, hlc, hr⟩ : ∃ g o cap, v = .slice (some ⟨g, o, none⟩) L.length cap ∧ base ≤ g ∧ cap ≤ maxLen ∧ L.length ≤ cap ∧ RowL w g o cap L := by
    rcases hf.2 with ⟨_, h0⟩ | h
    · omega
    · exact h
  have hgp : ¬ g = p := bears_apart (hf.ty g rfl) ht (by decide)
  have hel : (L.eraseIdx k).length = L.length - 1 := by rw [List.length_eraseIdx]; simp [hk]
  have hd := delete_row g o cap k L w hk hlc hcm hr
  have hlc4 : (cellsOf L).length = L.length * 4 := cellsOf_length L
  obtain ⟨w1, hcp, hr1, hs1⟩ := run_move_down (P := Try.prog) (w := w.drew) (k := k) 46 3 i0 Try.underlying46 hi (by rw [hlc4, hz1]) hlc hk (cellsOf_one L) (by rw [hz1]; exact hr.same rfl) (cap - 1) cap
  rw [hz1] at hcp hr1
  have hr2 : RowAt w1 36 4 g (o + 4) (cap - 1) (cellsOf (L.eraseIdx k)) := by
    have := hr1.behind 1 (by simp only [List.length_append, List.length_take, List.length_drop, hlc4]; omega) (by omega)
    rw [Nat.one_mul, List.append_assoc, List.drop_append_of_le_length (by rw [List.length_take, hlc4]; omega), List.drop_of_length_le (by rw [List.length_take]; omega), List.nil_append,
      cellsOf_take, cellsOf_drop, ← cellsOf_append, ← List.eraseIdx_eq_take_drop_succ] at this
    exact this
  have ha1 : NetAt w1 p N sent (.slice (some ⟨g, o, none⟩) L.length cap) cut := ha.same (hs1.block p (fun e => hgp e.symm))
  have ht1 : Bears w1 p 59 := by obtain ⟨cs, h⟩ := ht; exact ⟨cs, (hs1.block p (fun e => hgp e.symm)).trans h⟩
  have hc0 : ∀ j, j < 4 → (w1.cell? ⟨g, o + j, none⟩).isSome = true := fun j hj => hr1.isSome j (by omega)
  have hf0 : ∀ i, w1.frozen? ⟨g, i, none⟩ = false := fun i => hr1.frozen i
  obtain ⟨n, hn⟩ : ∃ n, n = L.length := ⟨_, rfl⟩
  have HN := Lib.hid hn
  rw [← hn] at hk hlc hd hcp ha1 hel hf ha ⊢
  have HA := Lib.hid (And.intro ha (And.intro ht (And.intro hr hb)))
  have HA1 := Lib.hid (And.intro ha1 (And.intro ht1 (And.intro hr2 hs1)))
  obtain ⟨c0, c1, c2, c3, f1, f2, f3⟩ := ha
  have hq2 : ¬ (2 : Int) = 0 := by decide
  have HEL := Lib.hid hel
  have HGP := Lib.hid hgp
  have hcm' : (cap : Int) ≤ 9223372036854775807 := by unfold maxLen at hcm; omega
  have hw2 : wrap64 ((n : Int) / 2) = (n : Int) / 2 := IntWalk.wrap64_in _ ⟨by omega, by omega⟩
  have hw1 : wrap64 ((k : Int) + 1) = (k : Int) + 1 := IntWalk.wrap64_in _ ⟨by omega, by omega⟩
  clear hr hr1 hr2 hs1 hlc4 hel hf ht ht1 hb hn hi hz0 hz1 hz2
  by_cases hkn : (n : Int) / 2 ≤ (k : Int)
  · clear hcp ha1 hc0 hf0
    go_enter Try.func26, Try.ntmps26
    go_wp2_with (fail)
    refine hd.mono ?_
    rintro e w2 ⟨rfl, hr2, hs2⟩
    have ha2 : NetAt w2 p N sent (.slice (some ⟨g, o, none⟩) n cap) cut := HA.out.1.same (hs2.block p (fun e => HGP.out e.symm))
    have ht2 : Bears w2 p 59 := by obtain ⟨cs, h⟩ := HA.out.2.1; exact ⟨cs, (hs2.block p (fun e => HGP.out e.symm)).trans h⟩
    have hf2 : Fly w2 36 4 base (.slice (some ⟨g, o, none⟩) (n - 1) cap) (L.eraseIdx k).length (cellsOf (L.eraseIdx k)) :=
      ⟨cellsOf_length _, .inr ⟨g, o, cap, by rw [HEL.out], HA.out.2.2.2, hcm, by rw [HEL.out]; omega, hr2⟩⟩
    have hfin : ∃ v', NetL (w2.setCell ⟨p, 2, none⟩ (.slice (some ⟨g, o, none⟩) (n - 1) cap)) base p N sent cut v' (L.eraseIdx k) ∧ v'.ownBlock = some g ∧ Tch w (w2.setCell ⟨p, 2, none⟩ (.slice (some ⟨g, o, none⟩) (n - 1) cap)) (own2 p (.slice (some ⟨g, o, none⟩) n cap)) :=
      ⟨_, NetL.store ha2 ht2 hf2, rfl, (Tch.mono (tch_sole hs2) (fun i _ e => .inr (by rw [e]; rfl))).then (tch_set _ _ _) (fun i _ e => .inl e)⟩
    have HF := Lib.hid hfin
    have d2 := ha2.c2
    have e2 := ha2.f2
    clear hfin hf2 ht2 ha2 hr2 hs2 c0 c1 c2 c3 f1 f2 f3 hd
    go_wp2
    first
      | (go_ret; exact ⟨rfl, HF.out⟩)
      | exact bodyPost_ret (v := .tuple #[]) (results_none rfl _ _ _) rfl ⟨rfl, HF.out⟩
  · have hkn2 : (k : Int) < (n : Int) / 2 := by omega
    clear hd hkn
    have k1 : (1 : Int) ≤ n := by omega
    have k2 : k ≤ cap := by omega
    have k3 : 1 ≤ n := by omega
    have k4 : ¬ cap = 1 := by omega
    have k5 : (0 : Int) < n := by omega
    have d2 := ha1.c2
    have e2 := ha1.f2
    obtain ⟨u0, q0⟩ := Option.isSome_iff_exists.1 (hc0 0 (by omega))
    obtain ⟨u1, q1⟩ := Option.isSome_iff_exists.1 (hc0 1 (by omega))
    obtain ⟨u2, q2⟩ := Option.isSome_iff_exists.1 (hc0 2 (by omega))
    obtain ⟨u3, q3⟩ := Option.isSome_iff_exists.1 (hc0 3 (by omega))
    rw [Nat.add_zero] at q0
    have z0 := hf0 o
    have z1 := hf0 (o + 1)
    have z2 := hf0 (o + 2)
    have z3 := hf0 (o + 3)
    have hpg : ¬ p = g := fun e => hgp e.symm
    have hfin : ∀ x0 x1 x2 x3 : Value, ∃ v', NetL (((((w1.setCell ⟨g, o, none⟩ x0).setCell ⟨g, o + 1, none⟩ x1).setCell ⟨g, o + 2, none⟩ x2).setCell ⟨g, o + 3, none⟩ x3).setCell ⟨p, 2, none⟩ (.slice (some ⟨g, o + 4, none⟩) (n - 1) (cap - 1))) base p N sent cut v' (L.eraseIdx k) ∧ v'.ownBlock = some g ∧
        Tch w (((((w1.setCell ⟨g, o, none⟩ x0).setCell ⟨g, o + 1, none⟩ x1).setCell ⟨g, o + 2, none⟩ x2).setCell ⟨g, o + 3, none⟩ x3).setCell ⟨p, 2, none⟩ (.slice (some ⟨g, o + 4, none⟩) (n - 1) (cap - 1))) (own2 p (.slice (some ⟨g, o, none⟩) n cap)) := by
      intro x0 x1 x2 x3
      obtain ⟨h1, h2, h3, h4⟩ := HA1.out
      have hs : Sole w1 ((((w1.setCell ⟨g, o, none⟩ x0).setCell ⟨g, o + 1, none⟩ x1).setCell ⟨g, o + 2, none⟩ x2).setCell ⟨g, o + 3, none⟩ x3) g :=
        (((sole_setCell _ _ _ _).trans (sole_setCell _ _ _ _)).trans (sole_setCell _ _ _ _)).trans (sole_setCell _ _ _ _)
      have hrow := (((h3.setOut o (by omega) x0).setOut (o + 1) (by omega) x1).setOut (o + 2) (by omega) x2).setOut (o + 3) (by omega) x3
      have ha3 := h1.same (hs.block p hpg)
      have ht3 : Bears ((((w1.setCell ⟨g, o, none⟩ x0).setCell ⟨g, o + 1, none⟩ x1).setCell ⟨g, o + 2, none⟩ x2).setCell ⟨g, o + 3, none⟩ x3) p 59 := by obtain ⟨cs, h⟩ := h2; exact ⟨cs, (hs.block p hpg).trans h⟩
      have hf3 : Fly ((((w1.setCell ⟨g, o, none⟩ x0).setCell ⟨g, o + 1, none⟩ x1).setCell ⟨g, o + 2, none⟩ x2).setCell ⟨g, o + 3, none⟩ x3) 36 4 base (.slice (some ⟨g, o + 4, none⟩) (n - 1) (cap - 1)) (L.eraseIdx k).length (cellsOf (L.eraseIdx k)) :=
        ⟨cellsOf_length _, .inr ⟨g, o + 4, cap - 1, by rw [HEL.out], HA.out.2.2.2, by omega, by rw [HEL.out]; omega, hrow⟩⟩
      have h4' : Sole w w1 g := ⟨h4.os, h4.tape, h4.output, h4.size, h4.block⟩
      exact ⟨_, NetL.store ha3 ht3 hf3, rfl, (Tch.mono (tch_sole (h4'.trans hs)) (fun i _ e => .inr (by rw [e]; rfl))).then (tch_set _ _ _) (fun i _ e => .inl e)⟩
    have HF := Lib.hid hfin
    clear hc0 hf0 ha1 hfin
    go_enter Try.func26, Try.ntmps26
    go_upto_region 2 with (fail)
    go_region_law (refine step_copy_run rfl (.tmp 27) (.tmp 33) 46 46 rfl (.slice (some ⟨g, o + 4, none⟩) (n - 1) (cap - 1)) (.slice (some ⟨g, o, none⟩) k cap) rfl rfl (goInt k) w1 hcp ?_)
    all_goals
      go_wp2
      first
        | (go_end0; exact ⟨rfl, HF.out _ _ _ _⟩)
        | exact bodyPost_ret (v := .tuple #[]) (results_none rfl _ _ _) rfl ⟨rfl, HF.out _ _ _ _⟩
end Go.Proofs.Ytcahiogjmclnjaa
