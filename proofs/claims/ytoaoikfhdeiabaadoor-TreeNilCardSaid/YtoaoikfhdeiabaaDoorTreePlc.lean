/- Package tree: the place at a path where nothing stands yet. -/
import Derived.Test.YtoaoikfhdeiabaaDoorTreeFind
import Derived.Deep.RegionHeld3
namespace Go.Proofs.YtoaoikfhdeiabaaDoor
open Go.RowKit Go.Maps
/-- the ancestors' row: so many cells, the first ones told -/
def RowF (w : World) (g n : Nat) (d : Nat → Nat) (k : Nat) : Prop := ∃ cs, w.heap[g]? = some (.cells cs 56 (0, 0)) ∧ cs.size = n ∧ ∀ i, i < k → cs[i]? = some (.pointer (some ⟨d i, 0, none⟩))
theorem RowF.same {w w' : World} {g n k : Nat} {d : Nat → Nat} (h : RowF w g n d k) (e : w'.heap[g]? = w.heap[g]?) : RowF w' g n d k := by
  obtain ⟨cs, h1, h2, h3⟩ := h
  exact ⟨cs, e.trans h1, h2, h3⟩
theorem RowF.lt {w : World} {g n k : Nat} {d : Nat → Nat} (h : RowF w g n d k) : g < w.heap.size := by
  obtain ⟨cs, h1, _⟩ := h
  exact (Array.getElem?_eq_some_iff.1 h1).1
theorem RowF.less {w : World} {g n k k' : Nat} {d : Nat → Nat} (h : RowF w g n d k) (hk : k' ≤ k) : RowF w g n d k' := by
  obtain ⟨cs, h1, h2, h3⟩ := h
  exact ⟨cs, h1, h2, fun i hi => h3 i (by omega)⟩
/-- behind the way to the parent: all but the row is as at wb -/
structure PS (wb w' : World) (g n k q : Nat) (d : Nat → Nat) (mv : Value) (qn : Nat) (G : Blk) : Prop where
  ins : InS wb g w'
  row : RowF w' g n d k
  dm0 : wb.cell? ⟨d k, 2, none⟩ = some mv
  dm : DM wb mv qn G
  dg : d k ≠ g
  gl : g < wb.heap.size
  gb : ∃ cs, wb.heap[g]? = some (.cells cs 56 (0, 0))
  bel : Below q wb w'
  ql : q ≤ g
theorem PS.cell {wb w' : World} {g n k q : Nat} {d : Nat → Nat} {mv : Value} {qn : Nat} {G : Blk} (h : PS wb w' g n k q d mv qn G) {b j : Nat} {v : Value} (hc : wb.cell? ⟨b, j, none⟩ = some v) (hn : b ≠ g) : w'.cell? ⟨b, j, none⟩ = some v :=
  ins_cell h.ins (cell_lt hc) hn hc
theorem ps_inside {wb w' : World} {g n k q : Nat} {d : Nat → Nat} {mv : Value} {qn : Nat} {G : Blk} {nm name : ByteArray} (hk : k < n) (hs : name.size ≤ maxLen) (hG : G name = none) (H : Hid (PS wb w' g n k q d mv qn G)) :
    Calls Tryd.prog 30 #[.agg #[.slice (some ⟨g, 0, none⟩) k n, .string nm, .iface 56 (.pointer (some ⟨d k, 0, none⟩))], .string name] w' fun e w'' => e = .returned (.tuple #[.agg #[.slice (some ⟨g, 0, none⟩) (k + 1) n, .string name, .nilIface], .int .i64 70]) ∧ Hid (PS wb w'' g n k q d mv qn G ∧ RowF w'' g n d (k + 1)) := by
  obtain ⟨cs, g1, g2, g3⟩ := H.out.row
  have hgw := (Array.getElem?_eq_some_iff.1 g1).1
  have hm : DM w' mv qn G := dm_same H.out.dm (fun m em => by
    rcases H.out.dm with ⟨e1, _⟩ | ⟨m', e1, h2⟩
    · rw [e1] at em; cases em
    · rw [e1] at em
      cases em
      refine H.out.ins.2 _ h2.lt (fun e => ?_)
      subst e
      obtain ⟨es, cl, z1⟩ := h2.map
      obtain ⟨cs9, z2⟩ := H.out.gb
      rw [z1] at z2
      cases z2)
  have hc := inside_dir (d k) g k n qn cs[k] mv G nm name w' hk (H.out.cell H.out.dm0 H.out.dg) hm (by simp [World.cell?, g1, show k < cs.size by omega]) (by simp [World.frozen?, g1]) hgw (cell_lt (H.out.cell H.out.dm0 H.out.dg)) H.out.dg hs
  rw [hG] at hc
  refine hc.mono ?_
  rintro e w'' ⟨rfl, hL⟩
  have hg5 : w''.heap[g]? = some (.cells (cs.setIfInBounds k (.pointer (some ⟨d k, 0, none⟩))) 56 (0, 0)) := (hL.block g (by simpa [World.setCell] using hgw)).trans (set_block g1)
  have hrow : RowF w'' g n d (k + 1) := ⟨_, hg5, by simpa using g2, fun i hi => by
    by_cases e : i = k
    · subst e
      simp [show i < cs.size by omega]
    · rw [Array.getElem?_setIfInBounds_ne (by omega)]
      exact g3 i (by omega)⟩
  have hsz : w'.heap.size ≤ w''.heap.size := by simpa [World.setCell] using hL.size
  refine ⟨rfl, Lib.hid ⟨⟨⟨Nat.le_trans H.out.ins.1 hsz, fun b hb hn => ?_⟩, hrow.less (Nat.le_succ _), H.out.dm0, H.out.dm, H.out.dg, H.out.gl, H.out.gb, (Below.setCell H.out.bel H.out.ql _).trans (hL.mono (Nat.le_trans H.out.ql (Nat.le_of_lt hgw))), H.out.ql⟩, hrow⟩⟩
  refine (hL.block b ?_).trans ((Below.heap_setCell _ _ _ _ hn).trans (H.out.ins.2 b hb hn))
  have := H.out.ins.1
  simp [World.setCell]
  omega
theorem PS.cells {wb w' : World} {g n k q : Nat} {d : Nat → Nat} {mv : Value} {qn : Nat} {G : Blk} {b j q9 : Nat} {name nm : ByteArray} (H : Hid (PS wb w' g n k q d mv qn G)) (HC : Hid (wb.cell? ⟨q9, 0, none⟩ = some (.slice (some ⟨g, 0, none⟩) k n) ∧ wb.cell? ⟨q9, 1, none⟩ = some (.string nm) ∧ wb.cell? ⟨q9, 2, none⟩ = some (.iface 56 (.pointer (some ⟨d k, 0, none⟩))) ∧ wb.cell? ⟨b, j, none⟩ = some (.string name) ∧ q9 ≠ g ∧ b ≠ g)) :
    w'.cell? ⟨q9, 0, none⟩ = some (.slice (some ⟨g, 0, none⟩) k n) ∧ w'.cell? ⟨q9, 1, none⟩ = some (.string nm) ∧ w'.cell? ⟨q9, 2, none⟩ = some (.iface 56 (.pointer (some ⟨d k, 0, none⟩))) ∧ w'.cell? ⟨b, j, none⟩ = some (.string name) :=
  ⟨H.out.cell HC.out.1 HC.out.2.2.2.2.1, H.out.cell HC.out.2.1 HC.out.2.2.2.2.1, H.out.cell HC.out.2.2.1 HC.out.2.2.2.2.1, H.out.cell HC.out.2.2.2.1 HC.out.2.2.2.2.2⟩
theorem dm_up {w w' : World} {mv : Value} {q : Nat} {G : Blk} (h : DM w mv q G) (hb : ∀ b, b < w.heap.size → w'.heap[b]? = w.heap[b]?) : DM w' mv q G :=
  dm_same h (fun m em => by
    rcases h with ⟨e1, _⟩ | ⟨m', e1, h2⟩
    · rw [e1] at em; cases em
    · rw [e1] at em
      cases em
      exact hb _ h2.lt)
theorem PS.up {wb w' : World} {g n k q : Nat} {d : Nat → Nat} {mv : Value} {qn : Nat} {G : Blk} (h : PS wb wb g n k q d mv qn G) (hs : wb.heap.size ≤ w'.heap.size) (hb : ∀ i, i < wb.heap.size → w'.heap[i]? = wb.heap[i]?) : PS w' w' g n k q d mv qn G where
  ins := ins_refl _ _
  row := h.row.same (hb _ h.gl)
  dm0 := (ce (hb _ (cell_lt h.dm0)) 2).trans h.dm0
  dm := dm_up h.dm hb
  dg := h.dg
  gl := Nat.lt_of_lt_of_le h.gl hs
  gb := by obtain ⟨cs, e⟩ := h.gb; exact ⟨cs, (hb _ h.gl).trans e⟩
  bel := Below.refl _ _
  ql := h.ql
/-- the four cells that the region reads -/
def PC (w : World) (q9 b j g k n dk : Nat) (nm name : ByteArray) : Prop := w.cell? ⟨q9, 0, none⟩ = some (.slice (some ⟨g, 0, none⟩) k n) ∧ w.cell? ⟨q9, 1, none⟩ = some (.string nm) ∧ w.cell? ⟨q9, 2, none⟩ = some (.iface 56 (.pointer (some ⟨dk, 0, none⟩))) ∧ w.cell? ⟨b, j, none⟩ = some (.string name)
theorem PC.same {w w' : World} {q9 b j g k n dk : Nat} {nm name : ByteArray} (h : PC w q9 b j g k n dk nm name) (hb : ∀ i, i < w.heap.size → w'.heap[i]? = w.heap[i]?) : PC w' q9 b j g k n dk nm name :=
  ⟨(ce (hb _ (cell_lt h.1)) 0).trans h.1, (ce (hb _ (cell_lt h.2.1)) 1).trans h.2.1, (ce (hb _ (cell_lt h.2.2.1)) 2).trans h.2.2.1, (ce (hb _ (cell_lt h.2.2.2)) j).trans h.2.2.2⟩
theorem up1 {w : World} (i : Nat) (_h : i < w.heap.size) : w.drew.heap[i]? = w.heap[i]? := rfl
theorem up2 {w : World} {o : Obj} (i : Nat) (h : i < w.heap.size) : (w.alloc o).drew.heap[i]? = w.heap[i]? := Below.heap_alloc _ _ _ h
theorem sz2 {w : World} {o : Obj} : w.heap.size ≤ (w.alloc o).drew.heap.size := by
  have : (w.alloc o).drew.heap.size = w.heap.size + 1 := by show (w.alloc o).heap.size = _; simp
  omega
def Zb (w : World) (z : Nat) : Prop := w.heap[z]? = some (.cells #[.slice none 0 0, .string ⟨#[]⟩, .nilIface] 52 (0, 0))
theorem bx_keep {w w6 : World} {g n k q : Nat} {d : Nat → Nat} {mv : Value} {qn : Nat} {G : Blk} {R : Prop} (hg : g < w.heap.size) (H : Hid (PS (w.alloc (.cells #[.slice none 0 0, .string ⟨#[]⟩, .nilIface] 52)).drew w6 g n k q d mv qn G ∧ R)) : Zb w6 w.heap.size :=
  (H.out.1.ins.2 _ (by show _ < (w.alloc _).heap.size; simp) (by omega)).trans (heap_alloc_new w _)
theorem Zb.all {w : World} {z : Nat} (h : Zb w z) : w.cell? ⟨z, 0, none⟩ = some (.slice none 0 0) ∧ w.cell? ⟨z, 1, none⟩ = some (.string ⟨#[]⟩) ∧ w.cell? ⟨z, 2, none⟩ = some .nilIface ∧ w.frozen? ⟨z, 0, none⟩ = false ∧ w.frozen? ⟨z, 1, none⟩ = false ∧ w.frozen? ⟨z, 2, none⟩ = false := by
  unfold Zb at h
  refine ⟨?_, ?_, ?_, ?_, ?_, ?_⟩ <;> simp [World.cell?, World.frozen?, h]
theorem PC.set3 {w : World} {z q9 b j g k n dk : Nat} {nm name : ByteArray} {u v x : Value} (h : PC w q9 b j g k n dk nm name) (n1 : z ≠ q9) (n2 : z ≠ b) : PC (((w.setCell ⟨z, 0, none⟩ u).setCell ⟨z, 1, none⟩ v).setCell ⟨z, 2, none⟩ x) q9 b j g k n dk nm name := by
  have hs : ∀ i, i ≠ z → (((w.setCell ⟨z, 0, none⟩ u).setCell ⟨z, 1, none⟩ v).setCell ⟨z, 2, none⟩ x).heap[i]? = w.heap[i]? := fun i hi => (Below.heap_setCell _ _ _ _ hi).trans ((Below.heap_setCell _ _ _ _ hi).trans (Below.heap_setCell _ _ _ _ hi))
  exact ⟨(ce (hs _ n1.symm) 0).trans h.1, (ce (hs _ n1.symm) 1).trans h.2.1, (ce (hs _ n1.symm) 2).trans h.2.2.1, (ce (hs _ n2.symm) j).trans h.2.2.2⟩
theorem PS.pc {wb w' : World} {g n k q : Nat} {d : Nat → Nat} {mv : Value} {qn : Nat} {G : Blk} {b j q9 : Nat} {name nm : ByteArray} (H : Hid (PS wb w' g n k q d mv qn G)) (h : PC wb q9 b j g k n (d k) nm name) (n1 : q9 ≠ g) (n2 : b ≠ g) : PC w' q9 b j g k n (d k) nm name :=
  ⟨H.out.cell h.1 n1, H.out.cell h.2.1 n1, H.out.cell h.2.2.1 n1, H.out.cell h.2.2.2 n2⟩
/-- behind the region: the place's box, the row -/
def PQ (wb wx : World) (r g k q2 : Nat) (d : Nat → Nat) (name : ByteArray) : Prop := wx.heap[q2]? = some (.cells #[.slice (some ⟨g, 0, none⟩) (k + 1) (k + 1), .string name, .nilIface] 52 (0, 0)) ∧ Below r wb wx ∧ RowF wx g (k + 1) d (k + 1) ∧ q2 ≠ r ∧ q2 ≠ g ∧ (∀ b, b < wb.heap.size → b ≠ g → wx.heap[b]? = wb.heap[b]?)
theorem fin1 {w4 w6 : World} {r g k qn : Nat} {d : Nat → Nat} {mv : Value} {G : Blk} {name : ByteArray} (H : Hid (PS w4.drew w6 g (k + 1) k r d mv qn G ∧ RowF w6 g (k + 1) d (k + 1))) (hr : r < w4.heap.size) : Hid (PQ w4 (w6.alloc (.cells #[.slice (some ⟨g, 0, none⟩) (k + 1) (k + 1), .string name, .nilIface] 52)) r g k w6.heap.size d name) := by
  obtain ⟨h, hR⟩ := H.out
  have hs : w4.heap.size ≤ w6.heap.size := h.ins.1
  have hg := hR.lt
  exact Lib.hid ⟨heap_alloc_new w6 _, ((below_drew1 (Below.refl r w4)).trans h.bel).alloc (by omega) _, hR.same (Below.heap_alloc _ _ _ hg), by omega, by omega, fun b hb hn => (Below.heap_alloc _ _ _ (by omega)).trans (h.ins.2 b hb hn)⟩
theorem fin2 {w4 w6 : World} {r g k qn : Nat} {d : Nat → Nat} {mv : Value} {G : Blk} {name : ByteArray} (H : Hid (PS (w4.alloc (.cells #[.slice none 0 0, .string ⟨#[]⟩, .nilIface] 52)).drew w6 g (k + 1) k r d mv qn G ∧ RowF w6 g (k + 1) d (k + 1))) (hr : r < w4.heap.size) (hg : g < w4.heap.size) : Hid (PQ w4 (((w6.setCell ⟨w4.heap.size, 0, none⟩ (.slice (some ⟨g, 0, none⟩) (k + 1) (k + 1))).setCell ⟨w4.heap.size, 1, none⟩ (.string name)).setCell ⟨w4.heap.size, 2, none⟩ .nilIface) r g k w4.heap.size d name) := by
  have hz := bx_keep hg H
  obtain ⟨h, hR⟩ := H.out
  have hne : g ≠ w4.heap.size := by omega
  have hs : ∀ i, i ≠ w4.heap.size → (((w6.setCell ⟨w4.heap.size, 0, none⟩ (.slice (some ⟨g, 0, none⟩) (k + 1) (k + 1))).setCell ⟨w4.heap.size, 1, none⟩ (.string name)).setCell ⟨w4.heap.size, 2, none⟩ .nilIface).heap[i]? = w6.heap[i]? := fun i hi => (Below.heap_setCell _ _ _ _ hi).trans ((Below.heap_setCell _ _ _ _ hi).trans (Below.heap_setCell _ _ _ _ hi))
  refine Lib.hid ⟨(set_block (set_block (set_block hz))).trans (by rfl), ?_, hR.same (hs g hne), by omega, by omega, fun b hb hn => (hs b (by omega)).trans ((h.ins.2 b (by show _ < (w4.alloc _).heap.size; simp; omega) hn).trans (Below.heap_alloc _ _ _ hb))⟩
  exact Below.setCell (p := ⟨w4.heap.size, 2, none⟩) (Below.setCell (p := ⟨w4.heap.size, 1, none⟩) (Below.setCell (p := ⟨w4.heap.size, 0, none⟩) ((below_drew1 ((Below.refl r w4).alloc (Nat.le_of_lt hr) _)).trans h.bel) (Nat.le_of_lt hr) _) (Nat.le_of_lt hr) _) (Nat.le_of_lt hr) _
set_option maxRecDepth 100000 in
set_option maxHeartbeats 8000000 in
theorem placeFor_new (t : Nat) (s : ByteArray) (xs : List Path.Bs) (d : Nat → Nat) (k : Nat) (mv : Value) (qn : Nat) (G : Blk) (w : World) (hp : Path.pp (Ls s) = some xs) (hk : xs.length = k + 1) (hw : Way w k (psOf xs) d (true, d k)) (h0 : d 0 = t)
    (hm0 : w.cell? ⟨d k, 2, none⟩ = some mv) (hm : DM w mv qn G) (hG : G (psOf xs k) = none) (hsz : (psOf xs k).size ≤ maxLen) :
    Calls Tryd.prog 34 #[.pointer (some ⟨t, 0, none⟩), .string s] w fun ex w' => ∃ g, ex = .returned (.tuple #[.agg #[.slice (some ⟨g, 0, none⟩) (k + 1) (k + 1), .string (psOf xs k), .nilIface], .int .i64 0]) ∧ Below w.heap.size w w' ∧ w.heap.size ≤ g ∧ RowF w' g (k + 1) d (k + 1) := by
  have hl := (Path.good_parts (good_of hp)).1
  have HPP := Lib.hid hp
  have HW := Lib.hid hw
  have H0 := Lib.hid h0
  have HM := Lib.hid (And.intro hm0 (And.intro hm (And.intro hG hsz)))
  have HK := Lib.hid hk
  rw [hk] at hl
  clear hp hw h0 hm0 hm hG hsz hk
  have hk0 : (0 : Int) ≤ (k : Int) := by omega
  have hk1 : (k : Int) < (k : Int) + 1 := by omega
  go_enter Tryd.func34, Tryd.ntmps34
  go_wp2_with (fail)
  obtain ⟨w1, hw1⟩ : ∃ w1, w1 = w.alloc (.cells #[.slice none 0 0, .string ⟨#[]⟩, .nilIface] 52) := ⟨_, rfl⟩
  have hb1 : Below w.heap.size w w1 := by rw [hw1]; exact (Below.refl _ _).alloc (Nat.le_refl _) _
  have hr1 : w1.heap[w.heap.size]? = some (.cells #[.slice none 0 0, .string ⟨#[]⟩, .nilIface] 52 (0, 0)) := by rw [hw1]; exact heap_alloc_new w _
  have hs1 : w1.heap.size = w.heap.size + 1 := by rw [hw1]; simp
  rw [← hw1]
  clear hw1
  refine (psplit_ok s xs w1 HPP.out).mono ?_
  rintro ex w2 ⟨A, c, rfl, hT, hb2⟩
  have hpt := parts_of hT
  rw [HK.out] at hpt ⊢
  have hcap : c = k + 1 := hT.cap.symm.trans HK.out
  have hde := descend_any t k c A (psOf xs) d (true, d k) w2 (by omega) (fun i hi => hpt i (by omega)) ((HW.out.below hb1).below (hb2.mono (by omega))) H0.out
  obtain ⟨b, off, hA, hbl, hbc⟩ := hpt k (by omega)
  subst hA hcap
  obtain ⟨nm, hnm⟩ : ∃ nm, nm = (if k = 0 then (⟨#[]⟩ : ByteArray) else psOf xs (k - 1)) := ⟨_, rfl⟩
  rw [← hnm, show nvo (some (true, d k)) = .iface 56 (.pointer (some ⟨d k, 0, none⟩)) from rfl] at hde
  have HDE := Lib.hid hde
  have HT := Lib.hid (And.intro hb1 (And.intro hb2 (And.intro hr1 (And.intro hs1 (And.intro hbl hbc)))))
  have hwr : IntKind.i64.wrap ((k : Int) + 1 - 1) = (k : Int) := by rw [IntWalk.i64_in _ (by omega)]; omega
  clear hT hb1 hb2 hr1 hs1 hde hpt hbl hbc hnm
  go_wp2_with (fail)
  refine HDE.out.mono ?_
  rintro ex w3 ⟨g, rfl, hb3, hg3, hrow⟩
  go_wp2_with (fail)
  obtain ⟨q9, hq9⟩ : ∃ q9, q9 = w3.heap.size := ⟨_, rfl⟩
  rw [← hq9]
  obtain ⟨w4, hw4⟩ : ∃ w4, w4 = w3.alloc (.cells #[.slice (some ⟨g, 0, none⟩) k (k + 1), .string nm, .iface 56 (.pointer (some ⟨d k, 0, none⟩))] 52) := ⟨_, rfl⟩
  rw [← hw4]
  have HF : Hid (PS w4 w4 g (k + 1) k w.heap.size d mv qn G ∧ PC w4 q9 b (off + k) g k (k + 1) (d k) nm (psOf xs k) ∧ q9 ≠ g ∧ b ≠ g ∧ Below w.heap.size w w4 ∧ w4.heap[w.heap.size]? = some (.cells #[.slice none 0 0, .string ⟨#[]⟩, .nilIface] 52 (0, 0)) ∧ w.heap.size < g) := by
    obtain ⟨hb1, hb2, hr1, hs1, hbl, hbc⟩ := HT.out
    obtain ⟨cs, g1, g2, g3⟩ := hrow
    have hz2 := hb2.size
    have hz3 := hb3.size
    have hgl := (Array.getElem?_eq_some_iff.1 g1).1
    have hnew : w4.heap[q9]? = some (.cells #[.slice (some ⟨g, 0, none⟩) k (k + 1), .string nm, .iface 56 (.pointer (some ⟨d k, 0, none⟩))] 52 (0, 0)) := by rw [hw4, hq9]; exact heap_alloc_new w3 _
    have hold : ∀ i, i < w3.heap.size → w4.heap[i]? = w3.heap[i]? := fun i hi => by rw [hw4]; exact Below.heap_alloc _ _ _ hi
    have hbw : Below w.heap.size w w4 := by rw [hw4]; exact (((hb1.trans (hb2.mono (by omega))).trans (hb3.mono (by omega)))).alloc (by omega) _
    have hup : ∀ i, i < w.heap.size → w4.heap[i]? = w.heap[i]? := fun i hi => hbw.block i hi
    have dl := cell_lt HM.out.1
    have h4 : w4.heap.size = w3.heap.size + 1 := by rw [hw4]; simp
    refine Lib.hid ⟨⟨ins_refl _ _, ⟨cs, (hold g hgl).trans g1, g2, g3⟩, (ce (hup _ dl) 2).trans HM.out.1, dm_up HM.out.2.1 hup, by omega, by omega, ⟨cs, (hold g hgl).trans g1⟩, Below.refl _ _, by omega⟩, ⟨by simp [World.cell?, hnew], by simp [World.cell?, hnew], by simp [World.cell?, hnew], ?_⟩, by omega, by omega, hbw, ?_, by omega⟩
    · exact (ce ((hold b (by omega)).trans (hb3.block b (by omega))) _).trans hbc
    · exact (hold _ (by omega)).trans ((hb3.block _ (by omega)).trans ((hb2.block _ (by omega)).trans hr1))
  clear hw4 hq9 hb3 hg3 hrow HDE HT hwr
  have hrl : w.heap.size < w4.heap.size := by
    have := HF.out.2.2.2.2.2.1
    exact (Array.getElem?_eq_some_iff.1 this).1
  go_cut [10, 7] (fun s10 s7 wx => ∃ q2, s10 = .pointer (some ⟨q2, 0, none⟩) ∧ s7 = .int .i64 70 ∧ Hid (PQ w4 wx w.heap.size g k q2 d (psOf xs k)))
  case first =>
    have HP0 := HF.out.1
    have hC0 := HF.out.2.1
    unfold PC at hC0
    have hzq : w4.heap.size ≠ q9 := Nat.ne_of_gt (cell_lt hC0.1)
    have hzb : w4.heap.size ≠ b := Nat.ne_of_gt (cell_lt hC0.2.2.2)
    have HPH := Lib.hid HP0
    clear HP0
    go_region_held3 (fun w' => w'.cell? ⟨q9, 0, none⟩ = some (.slice (some ⟨g, 0, none⟩) k (k + 1)) ∧ w'.cell? ⟨q9, 1, none⟩ = some (.string nm) ∧ w'.cell? ⟨q9, 2, none⟩ = some (.iface 56 (.pointer (some ⟨d k, 0, none⟩))) ∧ w'.cell? ⟨b, off + k, none⟩ = some (.string (psOf xs k))) (first | assumption | exact PC.set3 (by assumption) hzq hzb | exact PC.same (by assumption) (fun i hi => Below.heap_alloc _ _ _ hi))
      (first | (go_at_call 30; with_reducible refine (ps_inside (G := G) (mv := mv) (qn := qn) (q := w.heap.size) (n := k + 1) (by omega) HM.out.2.2.2 HM.out.2.2.1 (by first | exact Lib.hid (PS.up HPH.out (Nat.le_refl _) up1) | exact Lib.hid (PS.up HPH.out sz2 up2))).mono ?_; rintro e w6 ⟨rfl, H6⟩; have hS6 := PS.pc (Lib.hid H6.out.1) (by first | exact PC.same HF.out.2.1 up1 | exact PC.same HF.out.2.1 up2) HF.out.2.2.1 HF.out.2.2.2.1; unfold PC at hS6; try (have hZ := Zb.all (bx_keep HPH.out.gl H6); obtain ⟨z0, z1, z2, z3, z4, z5⟩ := hZ)))
    all_goals try go_wp2
    all_goals try go_meet
    all_goals try go_meet
    all_goals first | exact ⟨_, rfl, rfl, fin1 H6 hrl⟩ | exact ⟨_, rfl, rfl, fin2 H6 hrl HPH.out.gl⟩
  case rest =>
    obtain ⟨q2, rfl, rfl, HZ⟩ := hcut
    have hrb : wc.heap[w.heap.size]? = some (.cells #[.slice none 0 0, .string ⟨#[]⟩, .nilIface] 52 (0, 0)) := (HZ.out.2.2.2.2.2 _ hrl (by have := HF.out.2.2.2.2.2.2; omega)).trans HF.out.2.2.2.2.2.1
    have r0 : wc.cell? ⟨w.heap.size, 0, none⟩ = some (.slice none 0 0) := by simp [World.cell?, hrb]
    have r1 : wc.cell? ⟨w.heap.size, 1, none⟩ = some (.string ⟨#[]⟩) := by simp [World.cell?, hrb]
    have r2 : wc.cell? ⟨w.heap.size, 2, none⟩ = some .nilIface := by simp [World.cell?, hrb]
    have rf : ∀ j, wc.frozen? ⟨w.heap.size, j, none⟩ = false := fun j => by simp [World.frozen?, hrb]
    have q0 : wc.cell? ⟨q2, 0, none⟩ = some (.slice (some ⟨g, 0, none⟩) (k + 1) (k + 1)) := by simp [World.cell?, HZ.out.1]
    have q1 : wc.cell? ⟨q2, 1, none⟩ = some (.string (psOf xs k)) := by simp [World.cell?, HZ.out.1]
    have q3 : wc.cell? ⟨q2, 2, none⟩ = some .nilIface := by simp [World.cell?, HZ.out.1]
    clear hrb
    go_wp2
    have HB : Below w.heap.size w wc := HF.out.2.2.2.2.1.trans HZ.out.2.1
    have hgr : g ≠ w.heap.size := by have := HF.out.2.2.2.2.2.2; omega
    refine bodyPost_ret (v := .tuple #[.agg #[.slice (some ⟨g, 0, none⟩) (k + 1) (k + 1), .string (psOf xs k), .nilIface], .int .i64 0]) (results_cell_two rfl _ _ w.heap.size _ _ _ rfl rfl (range3 ?_ ?_ ?_) Tryd.underlying52 rfl (by kernel_rfl)) rfl ⟨g, rfl, ?_, Nat.le_of_lt HF.out.2.2.2.2.2.2, ?_⟩
    · simp [go_sem, r0, r1, r2]
    · simp [go_sem, r0, r1, r2]
    · simp [go_sem, r0, r1, r2]
    · exact Below.setCell (p := ⟨w.heap.size, 2, none⟩) (Below.setCell (p := ⟨w.heap.size, 1, none⟩) (Below.setCell (p := ⟨w.heap.size, 0, none⟩) HB (Nat.le_refl _) _) (Nat.le_refl _) _) (Nat.le_refl _) _
    · exact HZ.out.2.2.1.same ((Below.heap_setCell _ _ _ _ hgr).trans ((Below.heap_setCell _ _ _ _ hgr).trans (Below.heap_setCell _ _ _ _ hgr)))
end Go.Proofs.YtoaoikfhdeiabaaDoor
