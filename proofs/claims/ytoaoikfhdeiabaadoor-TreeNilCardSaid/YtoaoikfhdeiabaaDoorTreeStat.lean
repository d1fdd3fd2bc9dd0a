/- Package tree: Stat of a file without pieces. -/
import Derived.Test.YtoaoikfhdeiabaaDoorTreeFind
import Derived.StillTailTactics
import Derived.Lib.SliceRun
import Derived.Lib.Walk
namespace Go.Proofs.YtoaoikfhdeiabaaDoor
open Go.RowKit Go.Maps
theorem results_cells {P : Program} {fn : Func} {p : Tmp} {ty : TypeId} (h : fn.results = #[.cell p ty]) (tmps : Array Value) (w : World) (q : Nat) (cs : List Value) (d : TypeDesc)
    (hp : tmps.getD p undef = .pointer (some ⟨q, 0, none⟩)) (hc : w.rangeAt q 0 cs) (hu : P.underlying ty = some d) (hd : d.isRow = true) (hi : (P.info? ty).map (·.size) = some cs.length) :
    (results fn tmps).run P w = .ok (.agg cs.toArray) w := by
  have hp' : tmps[p]?.getD undef = .pointer (some ⟨q, 0, none⟩) := by simpa using hp
  simp [results, h, hp', asAddr, run_loadVar_mid w q 0 ty cs d hc hu hd hi]
theorem range7 {w : World} {q : Nat} {v0 v1 v2 v3 v4 v5 v6 : Value} (h0 : w.cell? ⟨q, 0, none⟩ = some v0) (h1 : w.cell? ⟨q, 1, none⟩ = some v1) (h2 : w.cell? ⟨q, 2, none⟩ = some v2) (h3 : w.cell? ⟨q, 3, none⟩ = some v3) (h4 : w.cell? ⟨q, 4, none⟩ = some v4) (h5 : w.cell? ⟨q, 5, none⟩ = some v5) (h6 : w.cell? ⟨q, 6, none⟩ = some v6) : w.rangeAt q 0 [v0, v1, v2, v3, v4, v5, v6] := by
  intro j v hj
  match j, hj with
  | 0, hj => simp at hj; rw [← hj]; exact h0
  | 1, hj => simp at hj; rw [← hj]; exact h1
  | 2, hj => simp at hj; rw [← hj]; exact h2
  | 3, hj => simp at hj; rw [← hj]; exact h3
  | 4, hj => simp at hj; rw [← hj]; exact h4
  | 5, hj => simp at hj; rw [← hj]; exact h5
  | 6, hj => simp at hj; rw [← hj]; exact h6
set_option maxRecDepth 100000 in
theorem pclone_nil (w : World) : Calls Tryd.prog 117 #[.slice none 0 0] w fun e w' => e = .returned (.slice none 0 0) ∧ w' = w := by
  have hnil : (binOp .eql 31 (.slice none 0 0) (.slice none 0 0)).run Tryd.prog w = .ok (.bool true) w := by simpa using Lib.run_eql_slice_nil w _ _ none 0 0 0 0 Tryd.underlying31
  go_enter Tryd.func117, Tryd.ntmps117
  go_wp2_with (fail)
  go_ret
  exact ⟨rfl, rfl⟩
set_option maxRecDepth 100000 in
set_option maxHeartbeats 4000000 in
theorem info_none (f : Nat) (o : Bool) (h : Int) (w : World) (h0 : w.cell? ⟨f, 0, none⟩ = some (.bool o)) (h1 : w.cell? ⟨f, 1, none⟩ = some (.int .i64 h)) (h2 : w.cell? ⟨f, 2, none⟩ = some (.slice none 0 0)) :
    Calls Tryd.prog 116 #[.pointer (some ⟨f, 0, none⟩)] w fun e w' => e = .returned (.agg #[.bool false, .bool o, .int .i64 h, .int .i64 0, .int .i64 0, .int .i64 0, .slice none 0 0]) ∧ Below w.heap.size w w' := by
  have hb : ∀ o, Below w.heap.size w (w.alloc o) := fun o => (Below.refl _ _).alloc (Nat.le_refl _) o
  obtain ⟨z, hz⟩ : ∃ z : Obj, z = .cells #[.bool false, .bool false, .int .i64 0, .int .i64 0, .int .i64 0, .int .i64 0, .slice none 0 0] 33 := ⟨_, rfl⟩
  obtain ⟨w1, hw1⟩ : ∃ w1, w1 = w.alloc z := ⟨_, rfl⟩
  have c0 : w1.cell? ⟨f, 0, none⟩ = some (.bool o) := by rw [hw1]; exact ((hb z).cell (p := ⟨f, 0, none⟩) (cell_lt h0)).trans h0
  have c1 : w1.cell? ⟨f, 1, none⟩ = some (.int .i64 h) := by rw [hw1]; exact ((hb z).cell (p := ⟨f, 1, none⟩) (cell_lt h0)).trans h1
  have c2 : w1.cell? ⟨f, 2, none⟩ = some (.slice none 0 0) := by rw [hw1]; exact ((hb z).cell (p := ⟨f, 2, none⟩) (cell_lt h0)).trans h2
  have HZ := Lib.hid (And.intro hz (And.intro hw1 (hb z)))
  clear h0 h1 h2 hb
  go_enter Tryd.func116, Tryd.ntmps116
  rw [hz] at hw1
  clear hz
  go_upto_region 1 with (fail)
  rw [← hw1]
  clear hw1
  go_wp2_with (fail)
  go_loopw [3, 11] (fun s3 i wr => s3 = .int .i64 0 ∧ i = .int .i64 0 ∧ wr = w1) (fun _ _ _ => 0)
  case atStart => exact ⟨rfl, rfl, rfl⟩
  case round =>
    obtain ⟨rfl, rfl, rfl⟩ := hrel
    go_wp2_with (fail)
    go_still_tail 15, (by kernel_rfl)
    still_call (pclone_nil wr.drew)
    repeat still_step
    refine wpStill_nil ?_
    change wpList _ _ _ _ _ wr.drew
    have hbx : wr.drew.heap[w.heap.size]? = some (.cells #[.bool false, .bool false, .int .i64 0, .int .i64 0, .int .i64 0, .int .i64 0, .slice none 0 0] 33 (0, 0)) := by
      show wr.heap[w.heap.size]? = _
      rw [HZ.out.2.1, HZ.out.1]
      exact heap_alloc_new w _
    clear c0 c1 c2
    have hb9 : Below w.heap.size w wr.drew := by
      refine Below.trans ?_ (⟨rfl, rfl, rfl, Nat.le_refl _, fun _ _ => rfl⟩ : Below w.heap.size wr wr.drew)
      rw [HZ.out.2.1]
      exact HZ.out.2.2
    clear HZ
    obtain ⟨w5, hw5⟩ : ∃ w5, w5 = wr.drew := ⟨_, rfl⟩
    rw [← hw5] at hbx hb9 ⊢
    clear hw5
    obtain ⟨q, hq⟩ : ∃ q, q = w.heap.size := ⟨_, rfl⟩
    rw [← hq] at hbx ⊢
    have HB := Lib.hid (And.intro hb9 (And.intro hq hbx))
    clear hb9 hq
    have c0 : w5.cell? ⟨q, 0, none⟩ = some (.bool false) := by simp [World.cell?, hbx]
    have c1 : w5.cell? ⟨q, 1, none⟩ = some (.bool false) := by simp [World.cell?, hbx]
    have c2 : w5.cell? ⟨q, 2, none⟩ = some (.int .i64 0) := by simp [World.cell?, hbx]
    have c3 : w5.cell? ⟨q, 3, none⟩ = some (.int .i64 0) := by simp [World.cell?, hbx]
    have c4 : w5.cell? ⟨q, 4, none⟩ = some (.int .i64 0) := by simp [World.cell?, hbx]
    have c5 : w5.cell? ⟨q, 5, none⟩ = some (.int .i64 0) := by simp [World.cell?, hbx]
    have c6 : w5.cell? ⟨q, 6, none⟩ = some (.slice none 0 0) := by simp [World.cell?, hbx]
    have f0 : w5.frozen? ⟨q, 0, none⟩ = false := by simp [World.frozen?, hbx]
    have f1 : w5.frozen? ⟨q, 1, none⟩ = false := by simp [World.frozen?, hbx]
    have f2 : w5.frozen? ⟨q, 2, none⟩ = false := by simp [World.frozen?, hbx]
    have f3 : w5.frozen? ⟨q, 3, none⟩ = false := by simp [World.frozen?, hbx]
    have f4 : w5.frozen? ⟨q, 4, none⟩ = false := by simp [World.frozen?, hbx]
    have f5 : w5.frozen? ⟨q, 5, none⟩ = false := by simp [World.frozen?, hbx]
    have f6 : w5.frozen? ⟨q, 6, none⟩ = false := by simp [World.frozen?, hbx]
    clear hbx
    go_wp2_with (fail)
    have h7 := set_block (k := 6) (v := .slice none 0 0) (set_block (k := 5) (v := .int .i64 0) (set_block (k := 4) (v := .int .i64 0) (set_block (k := 3) (v := .int .i64 0) (set_block (k := 2) (v := .int .i64 h) (set_block (k := 1) (v := .bool o) (set_block (k := 0) (v := .bool false) HB.out.2.2))))))
    have hall : ∀ j, (((((((w5.setCell ⟨q, 0, none⟩ (.bool false)).setCell ⟨q, 1, none⟩ (.bool o)).setCell ⟨q, 2, none⟩ (.int .i64 h)).setCell ⟨q, 3, none⟩ (.int .i64 0)).setCell ⟨q, 4, none⟩ (.int .i64 0)).setCell ⟨q, 5, none⟩ (.int .i64 0)).setCell ⟨q, 6, none⟩ (.slice none 0 0)).cell? ⟨q, j, none⟩ = (#[.bool false, .bool o, .int .i64 h, .int .i64 0, .int .i64 0, .int .i64 0, .slice none 0 0] : Array Value)[j]? := fun j => by
      unfold World.cell?
      dsimp only
      rw [h7]
      rfl
    refine bodyPost_ret (v := .agg #[.bool false, .bool o, .int .i64 h, .int .i64 0, .int .i64 0, .int .i64 0, .slice none 0 0]) (results_cells rfl _ _ q _ _ rfl (range7 ?_ ?_ ?_ ?_ ?_ ?_ ?_) Tryd.underlying33 rfl (by kernel_rfl)) rfl ⟨rfl, ?_⟩
    · exact (hall 0).trans rfl
    · exact (hall 1).trans rfl
    · exact (hall 2).trans rfl
    · exact (hall 3).trans rfl
    · exact (hall 4).trans rfl
    · exact (hall 5).trans rfl
    · exact (hall 6).trans rfl
    have hqq : w.heap.size ≤ q := Nat.le_of_eq HB.out.2.1.symm
    exact Below.setCell (p := ⟨q, 6, none⟩) (Below.setCell (p := ⟨q, 5, none⟩) (Below.setCell (p := ⟨q, 4, none⟩) (Below.setCell (p := ⟨q, 3, none⟩) (Below.setCell (p := ⟨q, 2, none⟩) (Below.setCell (p := ⟨q, 1, none⟩) (Below.setCell (p := ⟨q, 0, none⟩) HB.out.1 hqq _) hqq _) hqq _) hqq _) hqq _) hqq _) hqq _
set_option maxRecDepth 100000 in
set_option maxHeartbeats 4000000 in
theorem stat_file (t : Nat) (s : ByteArray) (xs : List Path.Bs) (d : Nat → Nat) (f : Nat) (o : Bool) (h : Int) (w : World) (hp : Path.pp (Ls s) = some xs) (hw : Way w xs.length (psOf xs) d (false, f)) (ht : d 0 = t) (h0 : w.cell? ⟨f, 0, none⟩ = some (.bool o)) (h1 : w.cell? ⟨f, 1, none⟩ = some (.int .i64 h)) (h2 : w.cell? ⟨f, 2, none⟩ = some (.slice none 0 0)) :
    Calls Tryd.prog 5 #[.pointer (some ⟨t, 0, none⟩), .string s] w fun e w' => e = .returned (.tuple #[.agg #[.bool false, .bool o, .int .i64 h, .int .i64 0, .int .i64 0, .int .i64 0, .slice none 0 0], .int .i64 0]) ∧ Below w.heap.size w w' := by
  have hb : ∀ o, Below w.heap.size w (w.alloc o) := fun o => (Below.refl _ _).alloc (Nat.le_refl _) o
  have hfi := fun o1 => find_ok t s xs d (false, f) (w.alloc o1) hp (hw.below (hb o1)) ht
  have HF := Lib.hid (And.intro hfi (And.intro hb (And.intro h0 (And.intro h1 h2))))
  clear hfi hb h0 h1 h2 hp hw ht
  go_enter Tryd.func5, Tryd.ntmps5
  go_wp2_with (fail)
  have hff := HF.out.1
  rw [show nvo (some (false, f)) = .iface 72 (.pointer (some ⟨f, 0, none⟩)) from rfl] at hff
  refine (hff _).mono ?_
  clear hff
  rintro ex w2 ⟨g, rfl, hb2, _⟩
  have hmeth : ∀ w, (method 253 72 (.pointer (some ⟨f, 0, none⟩)) "mahout/tree.info").run Tryd.prog w = .ok (116, .pointer (some ⟨f, 0, none⟩)) w := fun w => by kernel_rfl
  obtain ⟨q, hq⟩ : ∃ q, q = w.heap.size := ⟨_, rfl⟩
  have hqx : w2.heap[q]? = some (.cells #[.bool false, .bool false, .int .i64 0, .int .i64 0, .int .i64 0, .int .i64 0, .slice none 0 0] 33 (0, 0)) := by
    rw [hq]
    exact (hb2.block _ (by simp)).trans (heap_alloc_new w _)
  have hbw : Below w.heap.size w w2 := (HF.out.2.1 _).trans (hb2.mono (by simp))
  have hsz : w.heap.size < w2.heap.size := by have := hb2.size; simp at this; omega
  have HB := Lib.hid (And.intro hbw (And.intro hqx (And.intro hq hsz)))
  rw [← hq]
  clear hbw hqx hq hb2 hsz
  go_wp2_with (fail)
  have hal : ∀ o1, Below w2.heap.size w2 (w2.alloc o1) := fun o1 => (Below.refl _ _).alloc (Nat.le_refl _) o1
  have hfl : f < w2.heap.size := Nat.lt_of_lt_of_le (cell_lt HF.out.2.2.1) HB.out.1.size
  have hc : ∀ j v, w.cell? ⟨f, j, none⟩ = some v → ∀ o1, (w2.alloc o1).cell? ⟨f, j, none⟩ = some v := fun j v hv o1 => ((hal o1).cell (p := ⟨f, j, none⟩) hfl).trans ((HB.out.1.cell (p := ⟨f, j, none⟩) (cell_lt hv)).trans hv)
  refine (info_none f o h _ (hc 0 _ HF.out.2.2.1 _) (hc 1 _ HF.out.2.2.2.1 _) (hc 2 _ HF.out.2.2.2.2 _)).mono ?_
  clear hc hmeth hfl
  rintro ex w4 ⟨rfl, hb4⟩
  have hql : q < w2.heap.size := by rw [HB.out.2.2.1]; exact HB.out.2.2.2
  have hbx : w4.heap[q]? = some (.cells #[.bool false, .bool false, .int .i64 0, .int .i64 0, .int .i64 0, .int .i64 0, .slice none 0 0] 33 (0, 0)) := (hb4.block q (by simp; omega)).trans (((hal _).block q hql).trans HB.out.2.1)
  have hb9 : Below w.heap.size w w4 := HB.out.1.trans (((hal _).trans (hb4.mono (by simp))).mono HB.out.1.size)
  have hqq : w.heap.size ≤ q := Nat.le_of_eq HB.out.2.2.1.symm
  have HX := Lib.hid (And.intro hb9 (And.intro hbx hqq))
  have c0 : w4.cell? ⟨q, 0, none⟩ = some (.bool false) := by simp [World.cell?, hbx]
  have c1 : w4.cell? ⟨q, 1, none⟩ = some (.bool false) := by simp [World.cell?, hbx]
  have c2 : w4.cell? ⟨q, 2, none⟩ = some (.int .i64 0) := by simp [World.cell?, hbx]
  have c3 : w4.cell? ⟨q, 3, none⟩ = some (.int .i64 0) := by simp [World.cell?, hbx]
  have c4 : w4.cell? ⟨q, 4, none⟩ = some (.int .i64 0) := by simp [World.cell?, hbx]
  have c5 : w4.cell? ⟨q, 5, none⟩ = some (.int .i64 0) := by simp [World.cell?, hbx]
  have c6 : w4.cell? ⟨q, 6, none⟩ = some (.slice none 0 0) := by simp [World.cell?, hbx]
  have f0 : w4.frozen? ⟨q, 0, none⟩ = false := by simp [World.frozen?, hbx]
  have f1 : w4.frozen? ⟨q, 1, none⟩ = false := by simp [World.frozen?, hbx]
  have f2 : w4.frozen? ⟨q, 2, none⟩ = false := by simp [World.frozen?, hbx]
  have f3 : w4.frozen? ⟨q, 3, none⟩ = false := by simp [World.frozen?, hbx]
  have f4 : w4.frozen? ⟨q, 4, none⟩ = false := by simp [World.frozen?, hbx]
  have f5 : w4.frozen? ⟨q, 5, none⟩ = false := by simp [World.frozen?, hbx]
  have f6 : w4.frozen? ⟨q, 6, none⟩ = false := by simp [World.frozen?, hbx]
  clear hb9 hbx hqq hql hal hb4
  go_wp2_with (fail)
  have h7 := set_block (k := 6) (v := .slice none 0 0) (set_block (k := 5) (v := .int .i64 0) (set_block (k := 4) (v := .int .i64 0) (set_block (k := 3) (v := .int .i64 0) (set_block (k := 2) (v := .int .i64 h) (set_block (k := 1) (v := .bool o) (set_block (k := 0) (v := .bool false) HX.out.2.1))))))
  have hall : ∀ j, (((((((w4.setCell ⟨q, 0, none⟩ (.bool false)).setCell ⟨q, 1, none⟩ (.bool o)).setCell ⟨q, 2, none⟩ (.int .i64 h)).setCell ⟨q, 3, none⟩ (.int .i64 0)).setCell ⟨q, 4, none⟩ (.int .i64 0)).setCell ⟨q, 5, none⟩ (.int .i64 0)).setCell ⟨q, 6, none⟩ (.slice none 0 0)).cell? ⟨q, j, none⟩ = (#[.bool false, .bool o, .int .i64 h, .int .i64 0, .int .i64 0, .int .i64 0, .slice none 0 0] : Array Value)[j]? := fun j => by
    unfold World.cell?
    dsimp only
    rw [h7]
    rfl
  refine bodyPost_ret (v := .tuple #[.agg #[.bool false, .bool o, .int .i64 h, .int .i64 0, .int .i64 0, .int .i64 0, .slice none 0 0], .int .i64 0]) (results_cell_two rfl _ _ q _ _ _ rfl rfl (range7 ?_ ?_ ?_ ?_ ?_ ?_ ?_) Tryd.underlying33 rfl (by kernel_rfl)) rfl ⟨rfl, ?_⟩
  · exact (hall 0).trans rfl
  · exact (hall 1).trans rfl
  · exact (hall 2).trans rfl
  · exact (hall 3).trans rfl
  · exact (hall 4).trans rfl
  · exact (hall 5).trans rfl
  · exact (hall 6).trans rfl
  · exact Below.setCell (p := ⟨q, 6, none⟩) (Below.setCell (p := ⟨q, 5, none⟩) (Below.setCell (p := ⟨q, 4, none⟩) (Below.setCell (p := ⟨q, 3, none⟩) (Below.setCell (p := ⟨q, 2, none⟩) (Below.setCell (p := ⟨q, 1, none⟩) (Below.setCell (p := ⟨q, 0, none⟩) HX.out.1 HX.out.2.2 _) HX.out.2.2 _) HX.out.2.2 _) HX.out.2.2 _) HX.out.2.2 _) HX.out.2.2 _) HX.out.2.2 _
end Go.Proofs.YtoaoikfhdeiabaaDoor
