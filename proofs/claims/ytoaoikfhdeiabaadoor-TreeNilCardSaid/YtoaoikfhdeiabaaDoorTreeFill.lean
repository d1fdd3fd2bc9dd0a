/- Package tree: a node is put where nothing stands. -/
import Derived.Test.YtoaoikfhdeiabaaDoorTreeRec
import Derived.StillTailTactics
namespace Go.Proofs.YtoaoikfhdeiabaaDoor
open Go.RowKit Go.Maps
theorem dm_below {w w' : World} {mv : Value} {q : Nat} {G : Blk} (h : DM w mv q G) (hb : Below w.heap.size w w') : DM w' mv q G := by
  rcases h with h | ⟨m, e, h⟩
  · exact .inl h
  · exact .inr ⟨m, e, h.same (hb.block _ h.lt)⟩
theorem DM.no {w : World} {mv v : Value} {q b j : Nat} {G : Blk} (h : DM w mv q G) (hc : w.cell? ⟨b, j, none⟩ = some v) : ∀ m, mv = .map (some m) → b ≠ m := by
  intro m em
  rcases h with ⟨e1, _⟩ | ⟨m', e1, h2⟩
  · rw [e1] at em; cases em
  · rw [e1] at em
    cases em
    exact ne_map hc h2
theorem PutAt.cell {w w' : World} {d n n0 : Nat} {mv : Value} {G G0 : Blk} {nm : ByteArray} {b9 : Nd} (h : PutAt w w' d mv n G nm b9) (hm : DM w mv n0 G0) {b j : Nat} {v : Value} (hc : w.cell? ⟨b, j, none⟩ = some v) (hj : b ≠ d ∨ j ≠ 2) : w'.cell? ⟨b, j, none⟩ = some v := by
  obtain ⟨mv', p1, p2, p3, p4, p5, p6, p7, p8, p9, p10⟩ := h
  by_cases e : b = d
  · subst e
    exact (p9 j (hj.resolve_left (fun q => q rfl))).trans hc
  · exact (ce (p10 b (cell_lt hc) e (hm.no hc)) j).trans hc
theorem PutAt.frz {w w' : World} {d n n0 : Nat} {mv : Value} {G G0 : Blk} {nm : ByteArray} {b9 : Nd} (h : PutAt w w' d mv n G nm b9) (hm : DM w mv n0 G0) {b j i : Nat} {v : Value} (hc : w.cell? ⟨b, j, none⟩ = some v) : w'.frozen? ⟨b, i, none⟩ = w.frozen? ⟨b, i, none⟩ := by
  obtain ⟨mv', p1, p2, p3, p4, p5, p6, p7, p8, p9, p10⟩ := h
  by_cases e : b = d
  · subst e
    exact p8 i
  · exact fe (p10 b (cell_lt hc) e (hm.no hc)) i
set_option maxRecDepth 100000 in
theorem file_below (f : Nat) (w : World) : Calls Tryd.prog 114 #[.pointer (some ⟨f, 0, none⟩)] w fun e w' => e = .returned (.int .i64 0) ∧ w' = w := by
  go_enter Tryd.func114, Tryd.ntmps114
  go_wp2_with (fail)
  go_ret
  exact ⟨rfl, rfl⟩
set_option maxRecDepth 100000 in
theorem dir_below (d : Nat) (c : Int) (w : World) (h : w.cell? ⟨d, 1, none⟩ = some (.int .i64 c)) : Calls Tryd.prog 111 #[.pointer (some ⟨d, 0, none⟩)] w fun e w' => e = .returned (.int .i64 c) ∧ w' = w := by
  go_enter Tryd.func111, Tryd.ntmps111
  go_wp2_with (fail)
  go_ret
  exact ⟨rfl, rfl⟩
set_option maxRecDepth 100000 in
set_option maxHeartbeats 4000000 in
theorem fill_file (g : Nat) (ds : List Nat) (cap d f n k : Nat) (nm : ByteArray) (mv : Value) (G : Blk) (cs : Nat → Int) (w : World) (hl : ds.length ≤ 1048576) (hr : DirRow w g ds) (hnd : ds.Nodup) (hg : g ∉ ds) (hgl : g < w.heap.size) (h0 : ds.length = k + 1) (hd0 : ds[k]'(by omega) = d)
    (hd : Hid (∀ i (h : i < ds.length), w.cell? ⟨ds[i], 1, none⟩ = some (.int .i64 (cs i)) ∧ w.frozen? ⟨ds[i], 1, none⟩ = false ∧ IntKind.i64.wrap (cs i + 1) = cs i + 1))
    (hm0 : w.cell? ⟨d, 2, none⟩ = some mv) (hf : w.frozen? ⟨d, 2, none⟩ = false) (hm : DM w mv n G) (hn : n < 1048576) (hs : nm.size ≤ maxLen) :
    Calls Tryd.prog 37 #[.agg #[.slice (some ⟨g, 0, none⟩) (k + 1) cap, .string nm, .nilIface], nvo (some (false, f))] w fun e w' => e = .returned (.tuple #[]) ∧ ∃ w0 w1, Below w.heap.size w w0 ∧ w0.heap.size = w.heap.size + 1 ∧ PutAt w0 w1 d mv n G nm (false, f) ∧ Told w1 w' ds cs 1 ds.length := by
  go_enter Tryd.func37, Tryd.ntmps37
  go_wp2_with (fail)
  obtain ⟨w1, hw1⟩ : ∃ w1, w1 = w.alloc (.cells #[.slice (some ⟨g, 0, none⟩) (k + 1) cap, .string nm, .nilIface] 52) := ⟨_, rfl⟩
  have hb1 : Below w.heap.size w w1 := by rw [hw1]; exact (Below.refl _ _).alloc (Nat.le_refl _) _
  have hs1 : w1.heap.size = w.heap.size + 1 := by rw [hw1]; simp
  have hr1 : w1.heap[w.heap.size]? = some (.cells #[.slice (some ⟨g, 0, none⟩) (k + 1) cap, .string nm, .nilIface] 52 (0, 0)) := by rw [hw1]; exact heap_alloc_new w _
  rw [← hw1]
  clear hw1
  have r0 : w1.cell? ⟨w.heap.size, 0, none⟩ = some (.slice (some ⟨g, 0, none⟩) (k + 1) cap) := by simp [World.cell?, hr1]
  have r1 : w1.cell? ⟨w.heap.size, 1, none⟩ = some (.string nm) := by simp [World.cell?, hr1]
  have hrk : w1.cell? ⟨g, k, none⟩ = some (.pointer (some ⟨d, 0, none⟩)) := (hb1.cell (p := ⟨g, k, none⟩) hgl).trans ((hr k (by omega)).trans (by rw [hd0]))
  have hk0 : (0 : Int) ≤ (k : Int) := by omega
  have hk1 : (k : Int) < (k : Int) + 1 := by omega
  have hwr : IntKind.i64.wrap (k : Int) = (k : Int) := IntWalk.i64_in _ (by omega)
  go_still_tail 11, (by kernel_rfl)
  clear hwr
  change wpList _ _ _ _ _ w1.drew
  have hm1 : DM w1 mv n G := dm_below hm hb1
  have hpu := put_any d n mv G nm (false, f) w1.drew ((hb1.cell (p := ⟨d, 2, none⟩) (cell_lt hm0)).trans hm0) ((hb1.frozen (p := ⟨d, 2, none⟩) (cell_lt hm0)).trans hf) hm1 hn hs
  have HB := Lib.hid (And.intro hb1 (And.intro hs1 (And.intro hr1 (And.intro hm1 hrk))))
  clear hb1 hs1 r0 r1 hrk hm1
  go_wp2_with (go_at_call 67; refine hpu.mono ?_; rintro e w3 ⟨rfl, HP⟩)
  clear hpu
  replace HP : PutAt w1 w3 d mv n G nm (false, f) := HP
  have hq0 := HP.cell HB.out.2.2.2.1 (b := w.heap.size) (j := 0) (v := .slice (some ⟨g, 0, none⟩) (k + 1) cap) (by simp [World.cell?, hr1]) (.inr (by decide))
  have hq1 := HP.cell HB.out.2.2.2.1 (b := w.heap.size) (j := 1) (v := .string nm) (by simp [World.cell?, hr1]) (.inr (by decide))
  have hq2 := HP.cell HB.out.2.2.2.1 (b := w.heap.size) (j := 2) (v := .nilIface) (by simp [World.cell?, hr1]) (.inl (Nat.ne_of_gt (cell_lt hm0)))
  clear hr1
  have HF := Lib.hid (And.intro HP hm0)
  clear HP hm0
  rw [show nvo (some (false, f)) = .iface 72 (.pointer (some ⟨f, 0, none⟩)) from rfl]
  go_still_tail 4, (by kernel_rfl)
  have hmeth : ∀ w, (method 253 72 (.pointer (some ⟨f, 0, none⟩)) "mahout/tree.below").run Tryd.prog w = .ok (114, .pointer (some ⟨f, 0, none⟩)) w := fun w => by kernel_rfl
  still_call (file_below f w3.drew)
  repeat still_step
  refine wpStill_nil ?_
  clear hmeth hq0 hq1 hq2
  have hrc := recount_any g ds cap nm .nilIface (1) cs w3.drew hl (fun i hi => (HF.out.1.cell HB.out.2.2.2.1 ((HB.out.1.cell (p := ⟨g, i, none⟩) hgl).trans (hr i hi)) (.inl (fun e => hg (by rw [e, ← hd0]; exact List.getElem_mem _))) : w3.cell? ⟨g, i, none⟩ = _)) hnd hg (cell_lt (HF.out.1.cell HB.out.2.2.2.1 HB.out.2.2.2.2 (.inl (fun e => hg (by rw [e, ← hd0]; exact List.getElem_mem _))))) (.inl rfl)
    (Lib.hid fun i hi => ⟨HF.out.1.cell HB.out.2.2.2.1 ((HB.out.1.cell (p := ⟨ds[i], 1, none⟩) (cell_lt (hd.out i hi).1)).trans (hd.out i hi).1) (.inr (by decide)), (HF.out.1.frz HB.out.2.2.2.1 ((HB.out.1.cell (p := ⟨ds[i], 1, none⟩) (cell_lt (hd.out i hi).1)).trans (hd.out i hi).1)).trans ((HB.out.1.frozen (p := ⟨ds[i], 1, none⟩) (cell_lt (hd.out i hi).1)).trans (hd.out i hi).2.1), (hd.out i hi).2.2⟩)
  rw [h0] at hrc
  change wpList _ _ _ _ _ w3.drew
  go_wp2_with (go_at_call 68; refine hrc.mono ?_; rintro e w5 ⟨rfl, HT⟩)
  go_end0
  exact ⟨rfl, w1, w3, HB.out.1, HB.out.2.1, HF.out.1, by rw [h0]; exact ⟨HT.os, HT.tape, HT.output, HT.size, HT.far, HT.cnt, HT.oth⟩⟩
set_option maxRecDepth 100000 in
set_option maxHeartbeats 4000000 in
theorem fill_dir (g : Nat) (ds : List Nat) (cap d f n k : Nat) (c : Int) (nm : ByteArray) (mv : Value) (G : Blk) (cs : Nat → Int) (w : World) (hfc : w.cell? ⟨f, 1, none⟩ = some (.int .i64 c)) (hc1 : IntKind.i64.wrap (1 + c) = 1 + c) (hl : ds.length ≤ 1048576) (hr : DirRow w g ds) (hnd : ds.Nodup) (hg : g ∉ ds) (hgl : g < w.heap.size) (h0 : ds.length = k + 1) (hd0 : ds[k]'(by omega) = d)
    (hd : Hid (∀ i (h : i < ds.length), w.cell? ⟨ds[i], 1, none⟩ = some (.int .i64 (cs i)) ∧ w.frozen? ⟨ds[i], 1, none⟩ = false ∧ IntKind.i64.wrap (cs i + (1 + c)) = cs i + (1 + c)))
    (hm0 : w.cell? ⟨d, 2, none⟩ = some mv) (hf : w.frozen? ⟨d, 2, none⟩ = false) (hm : DM w mv n G) (hn : n < 1048576) (hs : nm.size ≤ maxLen) :
    Calls Tryd.prog 37 #[.agg #[.slice (some ⟨g, 0, none⟩) (k + 1) cap, .string nm, .nilIface], nvo (some (true, f))] w fun e w' => e = .returned (.tuple #[]) ∧ ∃ w0 w1, Below w.heap.size w w0 ∧ w0.heap.size = w.heap.size + 1 ∧ PutAt w0 w1 d mv n G nm (true, f) ∧ Told w1 w' ds cs (1 + c) ds.length := by
  go_enter Tryd.func37, Tryd.ntmps37
  go_wp2_with (fail)
  obtain ⟨w1, hw1⟩ : ∃ w1, w1 = w.alloc (.cells #[.slice (some ⟨g, 0, none⟩) (k + 1) cap, .string nm, .nilIface] 52) := ⟨_, rfl⟩
  have hb1 : Below w.heap.size w w1 := by rw [hw1]; exact (Below.refl _ _).alloc (Nat.le_refl _) _
  have hs1 : w1.heap.size = w.heap.size + 1 := by rw [hw1]; simp
  have hr1 : w1.heap[w.heap.size]? = some (.cells #[.slice (some ⟨g, 0, none⟩) (k + 1) cap, .string nm, .nilIface] 52 (0, 0)) := by rw [hw1]; exact heap_alloc_new w _
  rw [← hw1]
  clear hw1
  have r0 : w1.cell? ⟨w.heap.size, 0, none⟩ = some (.slice (some ⟨g, 0, none⟩) (k + 1) cap) := by simp [World.cell?, hr1]
  have r1 : w1.cell? ⟨w.heap.size, 1, none⟩ = some (.string nm) := by simp [World.cell?, hr1]
  have hrk : w1.cell? ⟨g, k, none⟩ = some (.pointer (some ⟨d, 0, none⟩)) := (hb1.cell (p := ⟨g, k, none⟩) hgl).trans ((hr k (by omega)).trans (by rw [hd0]))
  have hk0 : (0 : Int) ≤ (k : Int) := by omega
  have hk1 : (k : Int) < (k : Int) + 1 := by omega
  have hwr : IntKind.i64.wrap (k : Int) = (k : Int) := IntWalk.i64_in _ (by omega)
  go_still_tail 11, (by kernel_rfl)
  clear hwr
  change wpList _ _ _ _ _ w1.drew
  have hm1 : DM w1 mv n G := dm_below hm hb1
  have hpu := put_any d n mv G nm (true, f) w1.drew ((hb1.cell (p := ⟨d, 2, none⟩) (cell_lt hm0)).trans hm0) ((hb1.frozen (p := ⟨d, 2, none⟩) (cell_lt hm0)).trans hf) hm1 hn hs
  have HB := Lib.hid (And.intro hb1 (And.intro hs1 (And.intro hr1 (And.intro hm1 hrk))))
  clear hb1 hs1 r0 r1 hrk hm1
  go_wp2_with (go_at_call 67; refine hpu.mono ?_; rintro e w3 ⟨rfl, HP⟩)
  clear hpu
  replace HP : PutAt w1 w3 d mv n G nm (true, f) := HP
  have hq0 := HP.cell HB.out.2.2.2.1 (b := w.heap.size) (j := 0) (v := .slice (some ⟨g, 0, none⟩) (k + 1) cap) (by simp [World.cell?, hr1]) (.inr (by decide))
  have hq1 := HP.cell HB.out.2.2.2.1 (b := w.heap.size) (j := 1) (v := .string nm) (by simp [World.cell?, hr1]) (.inr (by decide))
  have hq2 := HP.cell HB.out.2.2.2.1 (b := w.heap.size) (j := 2) (v := .nilIface) (by simp [World.cell?, hr1]) (.inl (Nat.ne_of_gt (cell_lt hm0)))
  clear hr1
  have HF := Lib.hid (And.intro HP hm0)
  clear HP hm0
  rw [show nvo (some (true, f)) = .iface 56 (.pointer (some ⟨f, 0, none⟩)) from rfl]
  go_still_tail 4, (by kernel_rfl)
  have hmeth : ∀ w, (method 253 56 (.pointer (some ⟨f, 0, none⟩)) "mahout/tree.below").run Tryd.prog w = .ok (111, .pointer (some ⟨f, 0, none⟩)) w := fun w => by kernel_rfl
  still_call (dir_below f c w3.drew (HF.out.1.cell HB.out.2.2.2.1 ((HB.out.1.cell (p := ⟨f, 1, none⟩) (cell_lt hfc)).trans hfc) (.inr (by decide))))
  repeat still_step
  refine wpStill_nil ?_
  clear hmeth hq0 hq1 hq2
  have hrc := recount_any g ds cap nm .nilIface ((1 + c)) cs w3.drew hl (fun i hi => (HF.out.1.cell HB.out.2.2.2.1 ((HB.out.1.cell (p := ⟨g, i, none⟩) hgl).trans (hr i hi)) (.inl (fun e => hg (by rw [e, ← hd0]; exact List.getElem_mem _))) : w3.cell? ⟨g, i, none⟩ = _)) hnd hg (cell_lt (HF.out.1.cell HB.out.2.2.2.1 HB.out.2.2.2.2 (.inl (fun e => hg (by rw [e, ← hd0]; exact List.getElem_mem _))))) (.inl rfl)
    (Lib.hid fun i hi => ⟨HF.out.1.cell HB.out.2.2.2.1 ((HB.out.1.cell (p := ⟨ds[i], 1, none⟩) (cell_lt (hd.out i hi).1)).trans (hd.out i hi).1) (.inr (by decide)), (HF.out.1.frz HB.out.2.2.2.1 ((HB.out.1.cell (p := ⟨ds[i], 1, none⟩) (cell_lt (hd.out i hi).1)).trans (hd.out i hi).1)).trans ((HB.out.1.frozen (p := ⟨ds[i], 1, none⟩) (cell_lt (hd.out i hi).1)).trans (hd.out i hi).2.1), (hd.out i hi).2.2⟩)
  rw [h0] at hrc
  change wpList _ _ _ _ _ w3.drew
  go_wp2_with (go_at_call 68; refine hrc.mono ?_; rintro e w5 ⟨rfl, HT⟩)
  go_end0
  exact ⟨rfl, w1, w3, HB.out.1, HB.out.2.1, HF.out.1, by rw [h0]; exact ⟨HT.os, HT.tape, HT.output, HT.size, HT.far, HT.cnt, HT.oth⟩⟩
end Go.Proofs.YtoaoikfhdeiabaaDoor
