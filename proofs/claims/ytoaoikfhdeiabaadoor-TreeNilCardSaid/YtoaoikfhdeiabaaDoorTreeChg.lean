/- Package tree: change and Apply of a Mkdir or a Create where nothing stands. -/
import Derived.Test.YtoaoikfhdeiabaaDoorTreePtg
namespace Go.Proofs.YtoaoikfhdeiabaaDoor
open Go.RowKit Go.Maps
/-- a path where nothing stands and there is room: the way to its parent, the parent's map, all ancestors' quotas and counts -/
structure NewAt (w : World) (tr : Nat) (p : ByteArray) (xs : List Path.Bs) (d : Nat → Nat) (k : Nat) (mv : Value) (qn : Nat) (G : Blk) (qs cs : Nat → Int) : Prop where
  pp : Path.pp (Ls p) = some xs
  many : xs.length = k + 1
  way : Way w k (psOf xs) d (true, d k)
  top : d 0 = tr
  m0 : w.cell? ⟨d k, 2, none⟩ = some mv
  dm : DM w mv qn G
  few : qn < 1048576
  no : G (psOf xs k) = none
  sz : (psOf xs k).size ≤ maxLen
  fz : w.frozen? ⟨d k, 2, none⟩ = false
  inj : ∀ i j, i ≤ k → j ≤ k → d i = d j → i = j
  dirs : ∀ i, i ≤ k → w.cell? ⟨d i, 0, none⟩ = some (.int .i64 (qs i)) ∧ w.cell? ⟨d i, 1, none⟩ = some (.int .i64 (cs i)) ∧ IntKind.i64.wrap (cs i + 1) = cs i + 1 ∧ roomQ (qs i) (cs i) 1 = true ∧ w.frozen? ⟨d i, 1, none⟩ = false ∧ True
theorem NewAt.below {w w' : World} {tr : Nat} {p : ByteArray} {xs : List Path.Bs} {d : Nat → Nat} {k : Nat} {mv : Value} {qn : Nat} {G : Blk} {qs cs : Nat → Int} (h : NewAt w tr p xs d k mv qn G qs cs) (hb : Below w.heap.size w w') : NewAt w' tr p xs d k mv qn G qs cs :=
  ⟨h.pp, h.many, h.way.below hb, h.top, (hb.cell (p := ⟨d k, 2, none⟩) (cell_lt h.m0)).trans h.m0, dm_below h.dm hb, h.few, h.no, h.sz, (hb.frozen (p := ⟨d k, 2, none⟩) (cell_lt h.m0)).trans h.fz, h.inj, fun i hi => by
    obtain ⟨a1, a2, a3, a4, a5, _⟩ := h.dirs i hi
    exact ⟨(hb.cell (p := ⟨d i, 0, none⟩) (cell_lt a1)).trans a1, (hb.cell (p := ⟨d i, 1, none⟩) (cell_lt a2)).trans a2, a3, a4, (hb.frozen (p := ⟨d i, 1, none⟩) (cell_lt a2)).trans a5, trivial⟩⟩
theorem NewAt.len {w : World} {tr : Nat} {p : ByteArray} {xs : List Path.Bs} {d : Nat → Nat} {k : Nat} {mv : Value} {qn : Nat} {G : Blk} {qs cs : Nat → Int} (h : NewAt w tr p xs d k mv qn G qs cs) : k + 1 ≤ 1048576 := by
  have h1 := (Path.good_parts (good_of h.pp)).1
  have h2 := h.many
  omega
theorem NewAt.put {w : World} {tr : Nat} {p : ByteArray} {xs : List Path.Bs} {d : Nat → Nat} {k : Nat} {mv : Value} {qn : Nat} {G : Blk} {qs cs : Nat → Int} (h : NewAt w tr p xs d k mv qn G qs cs) (b : Nd) : Calls Tryd.prog 21 #[.pointer (some ⟨tr, 0, none⟩), .string p, nvo (some b)] w fun ex w' => ∃ q g, ex = .returned (.tuple #[.func (.func 36) #[] #[.pointer (some ⟨q, 0, none⟩), .pointer (some ⟨w.heap.size, 0, none⟩)], .int .i64 0]) ∧ PtAt w w' d k (psOf xs k) b q g :=
  putting_new tr p xs d k mv qn G b qs cs w h.pp h.many h.way h.top h.m0 h.dm h.no h.sz (Lib.hid fun i hi => ⟨(h.dirs i hi).1, (h.dirs i hi).2.1, (h.dirs i hi).2.2.1, (h.dirs i hi).2.2.2.1⟩)
set_option maxRecDepth 100000 in
set_option maxHeartbeats 4000000 in
theorem change_mkdir (tr : Nat) (d : Nat → Nat) (k : Nat) (nm : ByteArray) (p t : ByteArray) (c b0 b1 b2 z s q : Int) (w : World)
    (hput : ∀ w1 b, Below w.heap.size w w1 → Calls Tryd.prog 21 #[.pointer (some ⟨tr, 0, none⟩), .string p, nvo (some b)] w1 fun ex w' => ∃ q g, ex = .returned (.tuple #[.func (.func 36) #[] #[.pointer (some ⟨q, 0, none⟩), .pointer (some ⟨w1.heap.size, 0, none⟩)], .int .i64 0]) ∧ PtAt w1 w' d k nm b q g) :
    Calls Tryd.prog 15 #[.pointer (some ⟨tr, 0, none⟩), opV 1 p t c b0 b1 b2 z s q] w fun e w' => ∃ w1 q g, e = .returned (.tuple #[.func (.func 36) #[] #[.pointer (some ⟨q, 0, none⟩), .pointer (some ⟨w1.heap.size, 0, none⟩)], .int .i64 0]) ∧ Below w.heap.size w w1 ∧ (∃ f, w.heap.size ≤ f ∧ w1.heap[f]? = some (.cells #[.int .i64 0, .int .i64 0, .map none] 65 (0, 0)) ∧ PtAt w1 w' d k nm (true, f) q g) := by
  have HPUT := Lib.hid hput
  clear hput
  go_enter Tryd.func15, Tryd.ntmps15
  go_wp2_with (fail)
  have hw1 : ∀ o1, ((w.alloc o1).alloc (.cells #[.int .i64 0, .int .i64 0, .map none] 65)).heap[w.heap.size + 1]? = some (.cells #[.int .i64 0, .int .i64 0, .map none] 65 (0, 0)) := fun o1 => by
    have := heap_alloc_new (w.alloc o1) (.cells #[.int .i64 0, .int .i64 0, .map none] 65)
    simpa using this
  have hbw : ∀ o1 o2, Below w.heap.size w ((w.alloc o1).alloc o2) := fun o1 o2 => ((Below.refl _ _).alloc (Nat.le_refl _) o1).alloc (by simp) o2
  refine (HPUT.out _ (true, w.heap.size + 1) (hbw _ _)).mono ?_
  rintro ex w2 ⟨q1, g, rfl, hP⟩
  go_wp2_with (fail)
  go_ret2
  refine ⟨_, q1, g, ?_, hbw _ _, w.heap.size + 1, by omega, hw1 _, hP⟩
  simp
set_option maxRecDepth 100000 in
set_option maxHeartbeats 4000000 in
theorem change_create (tr : Nat) (d : Nat → Nat) (k : Nat) (nm : ByteArray) (p t : ByteArray) (c b0 b1 b2 z s q : Int) (w : World)
    (hput : ∀ w1 b, Below w.heap.size w w1 → Calls Tryd.prog 21 #[.pointer (some ⟨tr, 0, none⟩), .string p, nvo (some b)] w1 fun ex w' => ∃ q g, ex = .returned (.tuple #[.func (.func 36) #[] #[.pointer (some ⟨q, 0, none⟩), .pointer (some ⟨w1.heap.size, 0, none⟩)], .int .i64 0]) ∧ PtAt w1 w' d k nm b q g) :
    Calls Tryd.prog 15 #[.pointer (some ⟨tr, 0, none⟩), opV 2 p t c b0 b1 b2 z s q] w fun e w' => ∃ w1 q g, e = .returned (.tuple #[.func (.func 36) #[] #[.pointer (some ⟨q, 0, none⟩), .pointer (some ⟨w1.heap.size, 0, none⟩)], .int .i64 0]) ∧ Below w.heap.size w w1 ∧ (∃ f, w.heap.size ≤ f ∧ w1.heap[f]? = some (.cells #[.bool true, .int .i64 c, .slice none 0 0] 74 (0, 0)) ∧ PtAt w1 w' d k nm (false, f) q g) := by
  have HPUT := Lib.hid hput
  clear hput
  go_enter Tryd.func15, Tryd.ntmps15
  go_wp2_with (fail)
  have hw1 : ∀ o1, ((w.alloc o1).alloc (.cells #[.bool true, .int .i64 c, .slice none 0 0] 74)).heap[w.heap.size + 1]? = some (.cells #[.bool true, .int .i64 c, .slice none 0 0] 74 (0, 0)) := fun o1 => by
    have := heap_alloc_new (w.alloc o1) (.cells #[.bool true, .int .i64 c, .slice none 0 0] 74)
    simpa using this
  have hbw : ∀ o1 o2, Below w.heap.size w ((w.alloc o1).alloc o2) := fun o1 o2 => ((Below.refl _ _).alloc (Nat.le_refl _) o1).alloc (by simp) o2
  refine (HPUT.out _ (false, w.heap.size + 1) (hbw _ _)).mono ?_
  rintro ex w2 ⟨q1, g, rfl, hP⟩
  go_wp2_with (fail)
  go_ret2
  refine ⟨_, q1, g, ?_, hbw _ _, w.heap.size + 1, by omega, hw1 _, hP⟩
  simp
set_option maxRecDepth 100000 in
set_option maxHeartbeats 4000000 in
theorem apply_mkdir (tr : Nat) (xs : List Path.Bs) (d : Nat → Nat) (k : Nat) (mv : Value) (qn : Nat) (G : Blk) (qs cs : Nat → Int) (p t : ByteArray) (c b0 b1 b2 z s q : Int) (w : World) (H : NewAt w tr p xs d k mv qn G qs cs) :
    Calls Tryd.prog 7 #[.pointer (some ⟨tr, 0, none⟩), opV 1 p t c b0 b1 b2 z s q] w fun e w' => e = .returned (.int .i64 0) ∧ ∃ w1 f, Below w.heap.size w w1 ∧ w.heap.size ≤ f ∧ w1.heap[f]? = some (.cells #[.int .i64 0, .int .i64 0, .map none] 65 (0, 0)) ∧ Done1 w1 w' d k mv qn G (psOf xs k) (true, f) cs 1 := by
  have HN := Lib.hid H
  clear H
  go_enter Tryd.func7, Tryd.ntmps7
  go_wp2_with (fail)
  have hb1 : ∀ o, Below w.heap.size w (w.alloc o) := fun o => (Below.refl _ _).alloc (Nat.le_refl _) o
  refine (change_mkdir tr d k (psOf xs k) p t c b0 b1 b2 z s q _ (fun w1 b hb => (HN.out.below ((hb1 _).trans (hb.mono (by simp)))).put b)).mono ?_
  rintro ex w2 ⟨w1, q1, g, rfl, hb, f, hf1, hf2, hP⟩
  have hfl : w.heap.size ≤ f := by simp at hf1; omega
  have hbw1 : Below w.heap.size w w1 := (hb1 _).trans (hb.mono (by simp))
  have hN1 := HN.out.below hbw1
  have hf3 : w2.heap[f]? = some (.cells #[.int .i64 0, .int .i64 0, .map none] 65 (0, 0)) := (hP.bel.block f (Array.getElem?_eq_some_iff.1 hf2).1).trans hf2
  have hN2 := hN1.below hP.bel
  have hdo := putting1_any w1 d k qn q1 g (psOf xs k) mv G (true, f) 0 cs w2 hP hN2.len hN2.inj (by simp [World.cell?, hf3, show IntKind.i64.wrap 1 = 1 from rfl]) (Lib.hid fun i hi => ⟨cell_lt (hN1.dirs i hi).1, (hN2.dirs i hi).2.1, (hN2.dirs i hi).2.2.2.2.1, by simpa using (hN2.dirs i hi).2.2.1⟩) hN2.m0 hN2.fz hN2.dm hN2.few hN2.sz
  have HD := Lib.hid (And.intro hbw1 (And.intro hfl (And.intro hf2 (And.intro hdo hP.bel))))
  clear hb hP hf1 hf2 hf3 hN1 hN2 hdo hbw1 hfl hb1
  go_wp2_with (go_at_call 36; refine HD.out.2.2.2.1.mono ?_; rintro e w5 ⟨rfl, w6, w7, h1, h2, h3⟩)
  go_ret
  exact ⟨rfl, w1, f, HD.out.1, HD.out.2.1, HD.out.2.2.1, w6, w7, HD.out.2.2.2.2.trans (h1.mono HD.out.2.2.2.2.size), h2, h3⟩
set_option maxRecDepth 100000 in
set_option maxHeartbeats 4000000 in
theorem apply_create (tr : Nat) (xs : List Path.Bs) (d : Nat → Nat) (k : Nat) (mv : Value) (qn : Nat) (G : Blk) (qs cs : Nat → Int) (p t : ByteArray) (c b0 b1 b2 z s q : Int) (w : World) (H : NewAt w tr p xs d k mv qn G qs cs) :
    Calls Tryd.prog 7 #[.pointer (some ⟨tr, 0, none⟩), opV 2 p t c b0 b1 b2 z s q] w fun e w' => e = .returned (.int .i64 0) ∧ ∃ w1 f, Below w.heap.size w w1 ∧ w.heap.size ≤ f ∧ w1.heap[f]? = some (.cells #[.bool true, .int .i64 c, .slice none 0 0] 74 (0, 0)) ∧ Done1 w1 w' d k mv qn G (psOf xs k) (false, f) cs 1 := by
  have HN := Lib.hid H
  clear H
  go_enter Tryd.func7, Tryd.ntmps7
  go_wp2_with (fail)
  have hb1 : ∀ o, Below w.heap.size w (w.alloc o) := fun o => (Below.refl _ _).alloc (Nat.le_refl _) o
  refine (change_create tr d k (psOf xs k) p t c b0 b1 b2 z s q _ (fun w1 b hb => (HN.out.below ((hb1 _).trans (hb.mono (by simp)))).put b)).mono ?_
  rintro ex w2 ⟨w1, q1, g, rfl, hb, f, hf1, hf2, hP⟩
  have hfl : w.heap.size ≤ f := by simp at hf1; omega
  have hbw1 : Below w.heap.size w w1 := (hb1 _).trans (hb.mono (by simp))
  have hN1 := HN.out.below hbw1
  have hf3 : w2.heap[f]? = some (.cells #[.bool true, .int .i64 c, .slice none 0 0] 74 (0, 0)) := (hP.bel.block f (Array.getElem?_eq_some_iff.1 hf2).1).trans hf2
  have hN2 := hN1.below hP.bel
  have hdo := putting1_any w1 d k qn q1 g (psOf xs k) mv G (false, f) 0 cs w2 hP hN2.len hN2.inj (by simp [World.cell?, hf3, show IntKind.i64.wrap 1 = 1 from rfl]) (Lib.hid fun i hi => ⟨cell_lt (hN1.dirs i hi).1, (hN2.dirs i hi).2.1, (hN2.dirs i hi).2.2.2.2.1, by simpa using (hN2.dirs i hi).2.2.1⟩) hN2.m0 hN2.fz hN2.dm hN2.few hN2.sz
  have HD := Lib.hid (And.intro hbw1 (And.intro hfl (And.intro hf2 (And.intro hdo hP.bel))))
  clear hb hP hf1 hf2 hf3 hN1 hN2 hdo hbw1 hfl hb1
  go_wp2_with (go_at_call 36; refine HD.out.2.2.2.1.mono ?_; rintro e w5 ⟨rfl, w6, w7, h1, h2, h3⟩)
  go_ret
  exact ⟨rfl, w1, f, HD.out.1, HD.out.2.1, HD.out.2.2.1, w6, w7, HD.out.2.2.2.2.trans (h1.mono HD.out.2.2.2.2.size), h2, h3⟩
end Go.Proofs.YtoaoikfhdeiabaaDoor
