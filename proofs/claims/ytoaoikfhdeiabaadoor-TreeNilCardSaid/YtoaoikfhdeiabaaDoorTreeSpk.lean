/- Package tree: the laws' own check: a directory is made, a file in it, and told of. -/
import Derived.Test.YtoaoikfhdeiabaaDoorTreeDone
import Derived.Test.YtoaoikfhdeiabaaDoorTreeStat
namespace Go.Proofs.YtoaoikfhdeiabaaDoor
open Go.RowKit Go.Maps
theorem ps_a0 : psOf [[97]] 0 = ⟨#[97]⟩ := rfl
theorem ps_f0 : psOf [[97], [102]] 0 = ⟨#[97]⟩ := rfl
theorem ps_f1 : psOf [[97], [102]] 1 = ⟨#[102]⟩ := rfl
set_option maxRecDepth 100000 in
set_option maxHeartbeats 4000000 in
theorem speaks07_any (w : World) : Calls Tryd.prog 4 #[] w fun e w' => e = .returned (.bool true) ∧ Below w.heap.size w w' := by
  go_enter Tryd.func4, Tryd.ntmps4
  go_wp2_with (fail)
  refine (new_tree w).mono ?_
  rintro ex w1 ⟨rfl, hw1⟩
  obtain ⟨t, ht⟩ : ∃ t, t = w.heap.size := ⟨_, rfl⟩
  have hr1 : w1.heap[t]? = some (.cells #[.int .i64 0, .int .i64 0, .map none] 67 (0, 0)) := by rw [hw1, ht]; exact heap_alloc_new w _
  have hb1 : Below t w w1 := by rw [hw1, ht]; exact (Below.refl _ _).alloc (Nat.le_refl _) _
  have hs1 : w1.heap.size = t + 1 := by rw [hw1, ht]; simp
  rw [← ht]
  have HT := Lib.hid ht
  clear hw1 ht
  have hN1 : NewAt w1 t sA [[97]] (fun _ => t) 0 (.map none) 0 (fun _ => none) (fun _ => 0) (fun _ => 0) :=
    ⟨pp_A, rfl, ⟨fun i hi => absurd hi (Nat.not_lt_zero i), fun i hi => absurd hi (Nat.not_lt_zero i), fun _ => rfl⟩, rfl, by simp [World.cell?, hr1], .inl ⟨rfl, rfl, rfl⟩, by decide, rfl, by rw [ps_a0]; decide, by simp [World.frozen?, hr1], fun i j hi hj _ => by omega, fun i hi => ⟨by simp [World.cell?, hr1], by simp [World.cell?, hr1], rfl, rfl, by simp [World.frozen?, hr1], trivial⟩⟩
  have HN1 := Lib.hid (And.intro hN1 (And.intro hr1 (And.intro hb1 hs1)))
  clear hN1 hr1 hb1 hs1
  go_wp2_with (fail)
  refine (apply_mkdir t [[97]] (fun _ => t) 0 (.map none) 0 (fun _ => none) (fun _ => 0) (fun _ => 0) sA ⟨#[]⟩ 0 0 0 0 0 0 0 w1 HN1.out.1).mono ?_
  rintro ex w2 ⟨rfl, w1', fd, hb2, hfd, hr2, hd2⟩
  have hN := HN1.out.1.below hb2
  have hd2' := hd2
  have hfl : fd < w1'.heap.size := (Array.getElem?_eq_some_iff.1 hr2).1
  have hs1 := HN1.out.2.2.2
  have htf : t ≠ fd := by omega
  have hrf : w2.heap[fd]? = some (.cells #[.int .i64 0, .int .i64 0, .map none] 65 (0, 0)) := (hd2.block hfl (fun _ _ => htf) (fun m e => by cases e)).trans hr2
  have hq0 : w2.cell? ⟨t, 0, none⟩ = some (.int .i64 0) := hd2.anc hN.dm (i := 0) (Nat.le_refl _) (by decide) (fun _ => by decide) (hN.dirs 0 (Nat.le_refl _)).1
  obtain ⟨hq1, hq2⟩ := hd2.cnt (i := 0) (Nat.le_refl _)
  obtain ⟨mv2, hm1, hm2, hm3⟩ := hd2.map hN.dm (fun i _ => ⟨_, (hN.dirs 0 (Nat.le_refl _)).2.1⟩)
  have hB2 : Below t w w2 := (HN1.out.2.2.1.trans (hb2.mono (by omega))).trans (hd2.bel (by have := hb2.size; omega) (fun _ _ => Nat.le_refl _) (fun m e => by cases e))
  have hmm : ∃ m, mv2 = .map (some m) ∧ w1'.heap.size ≤ m := by
    rcases hm3 with e | h
    · rw [e] at hm2
      rcases hm2 with ⟨_, h9, _⟩ | ⟨m, h9, _⟩
      · cases h9
      · cases h9
    · exact h
  obtain ⟨d2, hd2d⟩ : ∃ d2 : Nat → Nat, d2 = fun i => if i = 0 then t else fd := ⟨_, rfl⟩
  obtain ⟨c2, hc2d⟩ : ∃ c2 : Nat → Int, c2 = fun i => if i = 0 then 1 else 0 := ⟨_, rfl⟩
  have e0 : d2 0 = t := by rw [hd2d]; rfl
  have e1 : d2 1 = fd := by rw [hd2d]; rfl
  have z0 : c2 0 = 1 := by rw [hc2d]; rfl
  have z1 : c2 1 = 0 := by rw [hc2d]; rfl
  clear hd2d hc2d
  have hN2 : NewAt w2 t sAF [[97], [102]] d2 1 (.map none) 0 (fun _ => none) (fun _ => 0) c2 := by
    refine ⟨pp_AF, rfl, ⟨fun i hi => ?_, fun i hi => ?_, fun h => by cases h⟩, e0, by rw [e1]; simp [World.cell?, hrf], .inl ⟨rfl, rfl, rfl⟩, by decide, rfl, by rw [ps_f1]; decide, by rw [e1]; simp [World.frozen?, hrf], fun i j hi hj e => ?_, fun i hi => ?_⟩
    · obtain rfl : i = 0 := by omega
      rw [e0]
      exact ⟨mv2, 1, _, hm1, hm2, by rw [ps_f0, ps_a0, e1]; simp [updG]⟩
    · obtain rfl : i = 0 := by omega
      rw [ps_f0]
      decide
    · rcases (show i = 0 ∨ i = 1 by omega) with rfl | rfl <;> rcases (show j = 0 ∨ j = 1 by omega) with rfl | rfl
      · rfl
      · rw [e0, e1] at e; exact absurd e htf
      · rw [e0, e1] at e; exact absurd e.symm htf
      · rfl
    · rcases (show i = 0 ∨ i = 1 by omega) with rfl | rfl
      · rw [e0, z0]
        exact ⟨hq0, hq1, rfl, rfl, hq2, trivial⟩
      · rw [e1, z1]
        exact ⟨by simp [World.cell?, hrf], by simp [World.cell?, hrf], rfl, rfl, by simp [World.frozen?, hrf], trivial⟩
  have H2 := Lib.hid (And.intro hN2 (And.intro hm1 (And.intro hm2 (And.intro hmm (And.intro hB2 (And.intro htf (And.intro e0 (And.intro e1 (by have h := hfl; omega : t < fd)))))))))
  clear hN hd2' hd2 hfl hs1 htf hrf hq0 hq1 hq2 hm1 hm2 hm3 hB2 hmm e0 e1 z0 z1 hN2 hb2 hfd hr2 HN1
  go_wp2_with (fail)
  refine (apply_create t [[97], [102]] d2 1 (.map none) 0 (fun _ => none) (fun _ => 0) c2 sAF ⟨#[]⟩ 3 0 0 0 0 0 0 w2 H2.out.1).mono ?_
  rintro ex w3 ⟨rfl, w2', f, hb3, hff, hr3, hd3⟩
  obtain ⟨hN2, hm1, hm2, hmm, hB2, htf, e0, e1, htl⟩ := H2.out
  have hN := hN2.below hb3
  have hfl : f < w2'.heap.size := (Array.getElem?_eq_some_iff.1 hr3).1
  have htw : d2 0 < w2.heap.size := by rw [e0]; exact cell_lt hm1
  have hfw : d2 1 < w2.heap.size := cell_lt hN2.m0
  have hrf : w3.heap[f]? = some (.cells #[.bool true, .int .i64 3, .slice none 0 0] 74 (0, 0)) := (hd3.block hfl (fun i hi => by rcases (show i = 0 ∨ i = 1 by omega) with rfl | rfl <;> omega) (fun m e => by cases e)).trans hr3
  have hmt : w3.cell? ⟨t, 2, none⟩ = some mv2 := by
    have := hd3.anc hN.dm (i := 0) (j := 2) (v := mv2) (by omega) (by decide) (fun e => by rw [e0, e1] at e; exact absurd e htf) (by rw [e0]; exact (hb3.cell (p := ⟨t, 2, none⟩) (cell_lt hm1)).trans hm1)
    rwa [e0] at this
  have hDt : DM w3 mv2 1 (updG (fun _ => none) (psOf [[97]] 0) (true, fd)) := dm_same hm2 (fun m em => by
    rcases hm2 with ⟨h9, _⟩ | ⟨m', h9, hg⟩
    · rw [h9] at em; cases em
    · rw [h9] at em
      cases em
      refine (hd3.block (Nat.lt_of_lt_of_le hg.lt hb3.size) (fun i hi => ?_) (fun m e => by cases e)).trans (hb3.block _ hg.lt)
      obtain ⟨q0, _⟩ := hN2.dirs i hi
      exact ne_map q0 hg)
  obtain ⟨mv3, hx1, hx2, hx3⟩ := hd3.map hN.dm (fun i hi => ⟨_, (hN.dirs i hi).2.1⟩)
  have hW3 : Way w3 2 (psOf [[97], [102]]) d2 (false, f) := by
    refine ⟨fun i hi => ?_, fun i hi => ?_, fun h => by cases h⟩
    · rcases (show i = 0 ∨ i = 1 by omega) with rfl | rfl
      · rw [e0]
        exact ⟨mv2, 1, _, hmt, hDt, by rw [ps_f0, ps_a0, e1]; simp [updG]⟩
      · exact ⟨mv3, 1, _, hx1, hx2, by rw [ps_f1]; simp [updG]⟩
    · rcases (show i = 0 ∨ i = 1 by omega) with rfl | rfl
      · rw [ps_f0]; decide
      · rw [ps_f1]; decide
  have hB3 : Below t w w3 := (hB2.trans (hb3.mono (by omega))).trans (hd3.bel (by have := hb3.size; omega) (fun i hi => by rcases (show i = 0 ∨ i = 1 by omega) with rfl | rfl <;> omega) (fun m e => by cases e))
  have hst := stat_file t sAF [[97], [102]] d2 f true 3 w3 pp_AF hW3 e0 (by simp [World.cell?, hrf]) (by simp [World.cell?, hrf]) (by simp [World.cell?, hrf])
  have H3 := Lib.hid (And.intro hB3 (And.intro hst (by omega : t ≤ w2.heap.size)))
  have hle := Nat.le_trans hb3.size (show w2'.heap.size ≤ w3.heap.size from (hd3.bel (B := 0) (Nat.zero_le _) (fun _ _ => Nat.zero_le _) (fun m e => by cases e)).size)
  have H4 := Lib.hid hle
  clear hN2 hm1 hm2 hmm hB2 htf e0 e1 htl hN hfl htw hfw hrf hmt hDt hx1 hx2 hx3 hW3 hB3 hst hle hb3 hff hr3 hd3 H2
  go_wp2_with (fail)
  refine H3.out.2.1.mono ?_
  rintro ex w4 ⟨rfl, hb4⟩
  go_wp2_with (fail)
  go_ret
  refine ⟨rfl, ?_⟩
  rw [← HT.out]
  have hq := H4.out
  have hq2 := H3.out.2.2
  exact (H3.out.1.trans (hb4.mono (by omega))).alloc (by have := hb4.size; omega) _
end Go.Proofs.YtoaoikfhdeiabaaDoor
