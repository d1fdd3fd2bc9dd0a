/- Package tree: the way down from the root, where everything stands. -/
import Derived.Test.YtoaoikfhdeiabaaDoorTreeIns
import Derived.Test.YtoaoikfhdeiabaaDoorTreeRow
import Derived.Test.YtoaoikfhdeiabaaDoorTreePut
namespace Go.Proofs.YtoaoikfhdeiabaaDoor
open Go.RowKit Go.Maps
/-- the parts of a path as they came in -/
def PartsAt (w : World) (P : Option Addr) (n : Nat) (ps : Nat → ByteArray) : Prop := ∀ i, i < n → ∃ b off, P = some ⟨b, off, none⟩ ∧ b < w.heap.size ∧ w.cell? ⟨b, off + i, none⟩ = some (.string (ps i))
/-- a way down: the directories d 0, d 1 .. lead by the parts to the next one each, the last part to the node e -/
structure Way (w : World) (n : Nat) (ps : Nat → ByteArray) (d : Nat → Nat) (e : Nd) : Prop where
  dir : ∀ i, i < n → ∃ mv q G, w.cell? ⟨d i, 2, none⟩ = some mv ∧ DM w mv q G ∧ G (ps i) = some (if i + 1 = n then e else (true, d (i + 1)))
  sz : ∀ i, i < n → (ps i).size ≤ maxLen
  root : n = 0 → e = (true, d 0)
theorem dm_same {w w' : World} {mv : Value} {q : Nat} {G : Blk} (h : DM w mv q G) (hb : ∀ m, mv = .map (some m) → w'.heap[m]? = w.heap[m]?) : DM w' mv q G := by
  rcases h with h | ⟨m, e, h⟩
  · exact .inl h
  · exact .inr ⟨m, e, h.same (hb m e)⟩
theorem Way.below {w w' : World} {n : Nat} {ps : Nat → ByteArray} {d : Nat → Nat} {e : Nd} (h : Way w n ps d e) (hb : Below w.heap.size w w') : Way w' n ps d e :=
  ⟨fun i hi => by
    obtain ⟨mv, q, G, h1, h2, h3⟩ := h.dir i hi
    refine ⟨mv, q, G, (hb.cell (p := ⟨d i, 2, none⟩) (cell_lt h1)).trans h1, dm_same h2 (fun m em => ?_), h3⟩
    rcases h2 with ⟨e1, _⟩ | ⟨m', e1, h2⟩
    · rw [e1] at em; cases em
    · rw [e1] at em; cases em; exact hb.block _ h2.lt, h.sz, h.root⟩
/-- the node that the first k parts lead to -/
def nodeK (n : Nat) (d : Nat → Nat) (e : Nd) (k : Nat) : Nd := if k = n then e else (true, d k)
/-- behind k parts: the place in its box, the ancestors' row -/
structure DesAt (w wr : World) (n q g : Nat) (ps : Nat → ByteArray) (d : Nat → Nat) (e : Nd) (k : Nat) : Prop where
  bel : Below w.heap.size w wr
  c0 : wr.cell? ⟨q, 0, none⟩ = some (.slice (some ⟨g, 0, none⟩) k (n + 1))
  c1 : wr.cell? ⟨q, 1, none⟩ = some (.string (if k = 0 then ⟨#[]⟩ else ps (k - 1)))
  c2 : wr.cell? ⟨q, 2, none⟩ = some (nvo (some (nodeK n d e k)))
  qf : ∀ j, wr.frozen? ⟨q, j, none⟩ = false
  row : ∃ cs, wr.heap[g]? = some (.cells cs 56 (0, 0)) ∧ cs.size = n + 1 ∧ ∀ i, i < k → cs[i]? = some (.pointer (some ⟨d i, 0, none⟩))
  qg : q ≠ g
  ql : w.heap.size ≤ q ∧ w.heap.size ≤ g
theorem al3 (w : World) (a b c : Obj) : (((w.alloc a).alloc b).alloc c).heap[w.heap.size]? = some a ∧ (((w.alloc a).alloc b).alloc c).heap[w.heap.size + 1]? = some b ∧ (((w.alloc a).alloc b).alloc c).heap[w.heap.size + 1 + 1]? = some c := by
  have e1 := heap_alloc_new w a
  have e2 := heap_alloc_new (w.alloc a) b
  have e3 := heap_alloc_new ((w.alloc a).alloc b) c
  rw [World.size_alloc] at e2
  rw [World.size_alloc, World.size_alloc] at e3
  exact ⟨(Below.heap_alloc _ _ _ (by simp; omega)).trans ((Below.heap_alloc _ _ _ (by simp)).trans e1), (Below.heap_alloc _ _ _ (by simp)).trans e2, e3⟩
/-- the result's box as it was laid -/
abbrev RBox (w wr : World) : Prop := wr.heap[w.heap.size]? = some (.cells #[.slice none 0 0, .string ⟨#[]⟩, .nilIface] 52 (0, 0))
theorem des_start {w W' : World} {n q g : Nat} {ps : Nat → ByteArray} {d : Nat → Nat} {e : Nd} {t : Nat} (hw : Way w n ps d e) (h0 : d 0 = t) (hb : Below w.heap.size w W') (hq : W'.heap[q]? = some (.cells #[.slice (some ⟨g, 0, none⟩) 0 (n + 1), .string ⟨#[]⟩, .iface 56 (.pointer (some ⟨t, 0, none⟩))] 52 (0, 0)))
    (hg : W'.heap[g]? = some (.cells (madeCells #[.pointer none] (n + 1)) 56 (0, 0))) (hqg : q ≠ g) (hl : w.heap.size ≤ q ∧ w.heap.size ≤ g) : DesAt w W' n q g ps d e 0 := by
  have hnd : nodeK n d e 0 = (true, t) := by
    unfold nodeK
    by_cases hn : 0 = n
    · rw [if_pos hn, hw.root hn.symm, h0]
    · rw [if_neg hn, h0]
  refine ⟨hb, by simp [World.cell?, hq], by simp [World.cell?, hq], by rw [hnd]; simp [World.cell?, hq, nvo], fun j => by simp [World.frozen?, hq], ⟨_, hg, by simp [madeCells], fun i hi => absurd hi (Nat.not_lt_zero _)⟩, hqg, hl⟩
theorem set_block {w : World} {g k : Nat} {v : Value} {cs : Array Value} {e : TypeId} (h : w.heap[g]? = some (.cells cs e (0, 0))) : (w.setCell ⟨g, k, none⟩ v).heap[g]? = some (.cells (cs.setIfInBounds k v) e (0, 0)) := by
  simp [World.setCell, Array.getElem?_modify, h]
theorem des_step {w wr w5 : World} {n q g k : Nat} {ps : Nat → ByteArray} {d : Nat → Nat} {e : Nd} {o : Obj} {nv v0 v1 v2 : Value} (h : DesAt w wr n q g ps d e k) (hk : k < n) (hL : Laid1 wr g k (d k) w5) (hr : RBox w wr) (hqr : q ≠ w.heap.size ∧ g ≠ w.heap.size) (hnv : nv = nvo (some (if k + 1 = n then e else (true, d (k + 1)))))
    (y0 : w5.cell? ⟨q, 0, none⟩ = some v0) (y1 : w5.cell? ⟨q, 1, none⟩ = some v1) (y2 : w5.cell? ⟨q, 2, none⟩ = some v2) (yf : ∀ j, w5.frozen? ⟨q, j, none⟩ = false) :
    DesAt w ((((w5.setCell ⟨q, 0, none⟩ (.slice (some ⟨g, 0, none⟩) (k + 1) (n + 1))).setCell ⟨q, 1, none⟩ (.string (ps k))).setCell ⟨q, 2, none⟩ nv).alloc o) n q g ps d e (k + 1) ∧
    RBox w ((((w5.setCell ⟨q, 0, none⟩ (.slice (some ⟨g, 0, none⟩) (k + 1) (n + 1))).setCell ⟨q, 1, none⟩ (.string (ps k))).setCell ⟨q, 2, none⟩ nv).alloc o) := by
  obtain ⟨cs, g1, g2, g3⟩ := h.row
  have hgw := (Array.getElem?_eq_some_iff.1 g1).1
  have hrw := (Array.getElem?_eq_some_iff.1 hr).1
  have hqg := h.qg
  have b1 : Below w.heap.size w (wr.setCell ⟨g, k, none⟩ (.pointer (some ⟨d k, 0, none⟩))) := Below.setCell h.bel h.ql.2 _
  have b5 : Below w.heap.size w w5 := b1.trans (hL.mono h.bel.size)
  have b6 := Below.setCell (p := ⟨q, 2, none⟩) (Below.setCell (p := ⟨q, 1, none⟩) (Below.setCell (p := ⟨q, 0, none⟩) b5 h.ql.1 (.slice (some ⟨g, 0, none⟩) (k + 1) (n + 1))) h.ql.1 (.string (ps k))) h.ql.1 nv
  obtain ⟨W3, hW3⟩ : ∃ W3, W3 = ((w5.setCell ⟨q, 0, none⟩ (.slice (some ⟨g, 0, none⟩) (k + 1) (n + 1))).setCell ⟨q, 1, none⟩ (.string (ps k))).setCell ⟨q, 2, none⟩ nv := ⟨_, rfl⟩
  have c0 : W3.cell? ⟨q, 0, none⟩ = some (.slice (some ⟨g, 0, none⟩) (k + 1) (n + 1)) := by
    rw [hW3, World.cell?_setCell_other _ _ _ _ (by simp), World.cell?_setCell_other _ _ _ _ (by simp)]
    exact World.cell?_setCell_same _ _ _ y0
  have c1 : W3.cell? ⟨q, 1, none⟩ = some (.string (ps k)) := by
    rw [hW3, World.cell?_setCell_other _ _ _ _ (by simp)]
    exact World.cell?_setCell_same _ _ _ ((World.cell?_setCell_other _ _ _ _ (by simp)).trans y1)
  have c2 : W3.cell? ⟨q, 2, none⟩ = some nv := by
    rw [hW3]
    exact World.cell?_setCell_same _ _ _ ((World.cell?_setCell_other _ _ _ _ (by simp)).trans ((World.cell?_setCell_other _ _ _ _ (by simp)).trans y2))
  have cf : ∀ j, W3.frozen? ⟨q, j, none⟩ = false := fun j => by rw [hW3]; simp [yf j]
  have hblk : ∀ b, b ≠ q → W3.heap[b]? = w5.heap[b]? := fun b hb => by
    rw [hW3]
    exact (Below.heap_setCell _ _ _ _ hb).trans ((Below.heap_setCell _ _ _ _ hb).trans (Below.heap_setCell _ _ _ _ hb))
  rw [← hW3] at b6 ⊢
  have hq3 : q < W3.heap.size := cell_lt c0
  have ba : Below W3.heap.size W3 (W3.alloc o) := (Below.refl _ _).alloc (Nat.le_refl _) _
  have hg5 : w5.heap[g]? = some (.cells (cs.setIfInBounds k (.pointer (some ⟨d k, 0, none⟩))) 56 (0, 0)) := (hL.block g (by simpa [World.setCell] using hgw)).trans (set_block g1)
  have hg3 : W3.heap[g]? = _ := (hblk g (Ne.symm hqg)).trans hg5
  have hr5 : w5.heap[w.heap.size]? = _ := (hL.block w.heap.size (by simpa [World.setCell] using hrw)).trans ((Below.heap_setCell _ _ _ _ (fun q => hqr.2 q.symm)).trans hr)
  refine ⟨⟨b6.alloc b6.size o, (ba.cell (p := ⟨q, 0, none⟩) hq3).trans c0, (ba.cell (p := ⟨q, 1, none⟩) hq3).trans (c1.trans (by simp)), (ba.cell (p := ⟨q, 2, none⟩) hq3).trans (c2.trans (by rw [hnv]; rfl)), fun j => (ba.frozen (p := ⟨q, j, none⟩) hq3).trans (cf j), ⟨_, (ba.block g (Array.getElem?_eq_some_iff.1 hg3).1).trans hg3, by simpa using g2, fun i hi => ?_⟩, hqg, h.ql⟩, ?_⟩
  · by_cases e : i = k
    · subst e
      simp [show i < cs.size by omega]
    · rw [Array.getElem?_setIfInBounds_ne (by omega)]
      exact g3 i (by omega)
  · have hr3 := (hblk w.heap.size (fun q => hqr.1 q.symm)).trans hr5
    exact (ba.block _ (Array.getElem?_eq_some_iff.1 hr3).1).trans hr3
set_option maxRecDepth 100000 in
set_option maxHeartbeats 8000000 in
theorem descend_any (t n cp : Nat) (P : Option Addr) (ps : Nat → ByteArray) (d : Nat → Nat) (e : Nd) (w : World) (hn : n ≤ 1048576) (hP : PartsAt w P n ps) (hw : Way w n ps d e) (h0 : d 0 = t) :
    Calls Tryd.prog 18 #[.pointer (some ⟨t, 0, none⟩), .slice P n cp] w fun ex w' => ∃ g, ex = .returned (.tuple #[.agg #[.slice (some ⟨g, 0, none⟩) n (n + 1), .string (if n = 0 then ⟨#[]⟩ else ps (n - 1)), nvo (some e)], .int .i64 0]) ∧ Below w.heap.size w w' ∧ w.heap.size ≤ g ∧ ∃ cs, w'.heap[g]? = some (.cells cs 56 (0, 0)) ∧ cs.size = n + 1 ∧ ∀ i, i < n → cs[i]? = some (.pointer (some ⟨d i, 0, none⟩)) := by
  have HP := Lib.hid hP
  have HW := Lib.hid hw
  have H0 := Lib.hid h0
  clear hP hw h0
  obtain ⟨lp, hlp⟩ : ∃ lp, lp = (if n = 0 then (⟨#[]⟩ : ByteArray) else ps (n - 1)) := ⟨_, rfl⟩
  have HLP := Lib.hid hlp
  rw [← hlp]
  clear hlp
  obtain ⟨i0, hi0, hz0, hz1, hz2⟩ := info_parts infoDir
  have hmk : ∀ w : World, (Instr.makeSlice 48 (.int .i64 0) (.int .i64 ((n : Int) + 1))).run Tryd.prog w = .ok (.slice (some ⟨w.heap.size, 0, none⟩) 0 (n + 1)) (w.alloc (.cells (madeCells #[.pointer none] (n + 1)) 56)) := fun w => by
    have := run_make (P := Tryd.prog) w 48 56 i0 (.pointer none) Tryd.underlying48 hi0 hz0 .i64 .i64 0 (n + 1) (by omega) (by omega) (by rw [hz2]; omega) (by omega)
    simpa [hz1, Value.cells] using this
  have hwr : IntKind.i64.wrap ((n : Int) + 1) = (n : Int) + 1 := IntWalk.i64_in _ (by omega)
  go_enter Tryd.func18, Tryd.ntmps18
  go_wp2_with (fail)
  go_cut [6] (fun s6 wx => ∃ q g, s6 = .pointer (some ⟨q, 0, none⟩) ∧ Hid (DesAt w wx n q g ps d e 0 ∧ RBox w wx ∧ q ≠ w.heap.size ∧ g ≠ w.heap.size))
  case first =>
    go_region_with (fail)
    · obtain ⟨a1, a2, a3⟩ := al3 w (.cells #[.slice none 0 0, .string ⟨#[]⟩, .nilIface] 52) (.cells (madeCells #[.pointer none] (n + 1)) 56) (.cells #[.slice (some ⟨w.heap.size + 1, 0, none⟩) 0 (n + 1), .string ⟨#[]⟩, .iface 56 (.pointer (some ⟨t, 0, none⟩))] 52)
      have hz : Hid (DesAt w _ n (w.heap.size + 1 + 1) (w.heap.size + 1) ps d e 0 ∧ RBox w _ ∧ w.heap.size + 1 + 1 ≠ w.heap.size ∧ w.heap.size + 1 ≠ w.heap.size) := Lib.hid ⟨des_start HW.out H0.out (below_drew1 ((((Below.refl _ w).alloc (Nat.le_refl _) _).alloc (by simp) _).alloc (by simp; omega) _)) a3 a2 (by omega) (by omega), a1, by omega, by omega⟩
      clear a1 a2 a3
      go_wp2
      go_meet
      exact ⟨_, _, rfl, hz⟩
    · obtain ⟨a1, a2, a3⟩ := al3 w (.cells #[.slice none 0 0, .string ⟨#[]⟩, .nilIface] 52) (.cells #[.slice (some ⟨w.heap.size + 1 + 1, 0, none⟩) 0 (n + 1), .string ⟨#[]⟩, .iface 56 (.pointer (some ⟨t, 0, none⟩))] 52) (.cells (madeCells #[.pointer none] (n + 1)) 56)
      have hz : Hid (DesAt w _ n (w.heap.size + 1) (w.heap.size + 1 + 1) ps d e 0 ∧ RBox w _ ∧ w.heap.size + 1 ≠ w.heap.size ∧ w.heap.size + 1 + 1 ≠ w.heap.size) := Lib.hid ⟨des_start HW.out H0.out (below_drew1 ((((Below.refl _ w).alloc (Nat.le_refl _) _).alloc (by simp) _).alloc (by simp; omega) _)) a2 a3 (by omega) (by omega), a1, by omega, by omega⟩
      clear a1 a2 a3
      go_wp2
      go_meet
      exact ⟨_, _, rfl, hz⟩
  case rest =>
    obtain ⟨q, g, rfl, HZ⟩ := hcut
    clear hmk hwr
    go_wp2
    go_loopw [22] (fun iv wr => ∃ k : Nat, k ≤ n ∧ iv = .int .i64 (k : Int) ∧ Hid (DesAt w wr n q g ps d e k ∧ RBox w wr)) (fun iv _ => n - (intOf iv).toNat)
    case atStart => exact ⟨0, Nat.zero_le _, rfl, Lib.hid ⟨HZ.out.1, HZ.out.2.1⟩⟩
    case round =>
      obtain ⟨k, hk, rfl, HD⟩ := hrel
      by_cases hlt : k < n
      · obtain ⟨b, off, hPe, hb, hc⟩ := HP.out k hlt
        subst hPe
        have hc' : wr.cell? ⟨b, off + k, none⟩ = some (.string (ps k)) := (HD.out.1.bel.cell (p := ⟨b, off + k, none⟩) hb).trans hc
        obtain ⟨mv, qn, G, h1, h2, h3⟩ := (HW.out.below HD.out.1.bel).dir k hlt
        obtain ⟨h1w, _⟩ : (∃ v, w.cell? ⟨d k, 2, none⟩ = some v) ∧ True := by obtain ⟨mv', _, _, z, _⟩ := HW.out.dir k hlt; exact ⟨⟨_, z⟩, trivial⟩
        obtain ⟨v9, h1w⟩ := h1w
        have hdk : d k < w.heap.size := cell_lt h1w
        obtain ⟨cs, hg1, hg2, hg3⟩ := HD.out.1.row
        have hu : wr.cell? ⟨g, k, none⟩ = some cs[k] := by simp [World.cell?, hg1, show k < cs.size by omega]
        have huf : wr.frozen? ⟨g, k, none⟩ = false := by simp [World.frozen?, hg1]
        have hgw := (Array.getElem?_eq_some_iff.1 hg1).1
        have hcall := inside_dir (d k) g k (n + 1) qn cs[k] mv G (if k = 0 then ⟨#[]⟩ else ps (k - 1)) (ps k) wr (by omega) h1 h2 hu huf hgw (by have := HD.out.1.bel.size; omega) (by have := HD.out.1.ql; omega) (HW.out.sz k hlt)
        rw [h3] at hcall
        have x0 := HD.out.1.c0
        have x1 := HD.out.1.c1
        have x2 := HD.out.1.c2
        have xf := HD.out.1.qf
        rw [show nodeK n d e k = (true, d k) from if_neg (by omega)] at x2
        rw [show nvo (some (true, d k)) = .iface 56 (.pointer (some ⟨d k, 0, none⟩)) from rfl] at x2
        obtain ⟨nm, hnm⟩ : ∃ nm, nm = (if k = 0 then (⟨#[]⟩ : ByteArray) else ps (k - 1)) := ⟨_, rfl⟩
        rw [← hnm] at hcall x1
        obtain ⟨nv, hnv⟩ : ∃ nv, nv = nvo (some (if k + 1 = n then e else (true, d (k + 1)))) := ⟨_, rfl⟩
        have hform : ∃ t v, nv = .iface t v := by
          rw [hnv]
          rcases (if k + 1 = n then e else (true, d (k + 1))) with ⟨_ | _, y⟩ <;> exact ⟨_, _, rfl⟩
        rw [← hnv] at hcall
        obtain ⟨ty, vv, rfl⟩ := hform
        have HNV := Lib.hid hnv
        have HCL := Lib.hid hcall
        have HG := Lib.hid (And.intro hg1 (And.intro hg2 hg3))
        have hqr : q < wr.heap.size := cell_lt x0
        clear hcall h1 h2 h3 hu huf hgw hg1 hg2 hg3 hc hb h1w hdk hnm hnv
        go_wp2_with (fail)
        refine HCL.out.mono ?_
        rintro ex w5 ⟨rfl, hL⟩
        have hbq : w5.heap[q]? = wr.heap[q]? := (hL.block q (by simpa [World.setCell] using hqr)).trans (Below.heap_setCell _ _ _ _ HD.out.1.qg)
        have y0 : w5.cell? ⟨q, 0, none⟩ = some (.slice (some ⟨g, 0, none⟩) k (n + 1)) := (ce hbq 0).trans x0
        have y1 : w5.cell? ⟨q, 1, none⟩ = some (.string nm) := (ce hbq 1).trans x1
        have y2 : w5.cell? ⟨q, 2, none⟩ = some (.iface 56 (.pointer (some ⟨d k, 0, none⟩))) := (ce hbq 2).trans x2
        have yf : ∀ j, w5.frozen? ⟨q, j, none⟩ = false := fun j => by
          have := xf j
          unfold World.frozen? at this ⊢
          dsimp only at this ⊢
          rw [hbq]
          exact this
        have hq5 : q < w5.heap.size := cell_lt y0
        have HS := Lib.hid (fun o => des_step (o := o) HD.out.1 hlt hL HD.out.2 ⟨HZ.out.2.2.1, HZ.out.2.2.2⟩ HNV.out y0 y1 y2 yf)
        clear hL hbq x0 x1 x2 xf hc' HCL
        go_wp2
        go_roundw
        case rel =>
          exact ⟨k + 1, by omega, by first | rfl | go_num, Lib.hid (HS.out _)⟩
        case measure => simp [intOf]; omega
      · obtain rfl : k = n := by omega
        have x0 := HD.out.1.c0
        have x1 := HD.out.1.c1
        have x2 := HD.out.1.c2
        rw [show nodeK k d e k = e from if_pos rfl] at x2
        obtain ⟨nm, hnm⟩ : ∃ nm, nm = (if k = 0 then (⟨#[]⟩ : ByteArray) else ps (k - 1)) := ⟨_, rfl⟩
        rw [← hnm] at x1
        obtain ⟨nv, hnv⟩ : ∃ nv, nv = nvo (some e) := ⟨_, rfl⟩
        have hform : ∃ t v, nv = .iface t v := by
          rw [hnv]
          rcases e with ⟨_ | _, y⟩ <;> exact ⟨_, _, rfl⟩
        rw [← hnv] at x2
        obtain ⟨ty, vv, rfl⟩ := hform
        have HNV := Lib.hid (And.intro hnv hnm)
        have hrb := HD.out.2
        have r0 : wr.cell? ⟨w.heap.size, 0, none⟩ = some (.slice none 0 0) := by simp [World.cell?, hrb]
        have r1 : wr.cell? ⟨w.heap.size, 1, none⟩ = some (.string ⟨#[]⟩) := by simp [World.cell?, hrb]
        have r2 : wr.cell? ⟨w.heap.size, 2, none⟩ = some .nilIface := by simp [World.cell?, hrb]
        have rf : ∀ j, wr.frozen? ⟨w.heap.size, j, none⟩ = false := fun j => by simp [World.frozen?, hrb]
        clear hrb hnm hnv
        have HLN : Hid (Value.tuple #[.agg #[.slice (some ⟨g, 0, none⟩) k (k + 1), .string nm, .iface ty vv], .int .i64 0] = .tuple #[.agg #[.slice (some ⟨g, 0, none⟩) k (k + 1), .string lp, nvo (some e)], .int .i64 0]) := Lib.hid (by rw [HNV.out.1, HNV.out.2, HLP.out])
        go_wp2
        refine bodyPost_ret (v := .tuple #[.agg #[.slice (some ⟨g, 0, none⟩) k (k + 1), .string nm, .iface ty vv], .int .i64 0]) (results_cell_two rfl _ _ w.heap.size _ _ _ rfl rfl (range3 ?_ ?_ ?_) Tryd.underlying52 rfl (by kernel_rfl)) rfl ⟨g, by rw [HLN.out], ?_, HD.out.1.ql.2, ?_⟩
        · simp [go_sem, r0, r1, r2]
        · simp [go_sem, r0, r1, r2]
        · simp [go_sem, r0, r1, r2]
        · exact Below.setCell (p := ⟨w.heap.size, 2, none⟩) (Below.setCell (p := ⟨w.heap.size, 1, none⟩) (Below.setCell (p := ⟨w.heap.size, 0, none⟩) HD.out.1.bel (Nat.le_refl _) _) (Nat.le_refl _) _) (Nat.le_refl _) _
        · obtain ⟨cs, g1, g2, g3⟩ := HD.out.1.row
          have hne := HZ.out.2.2.2
          exact ⟨cs, (Below.heap_setCell _ _ _ _ hne).trans ((Below.heap_setCell _ _ _ _ hne).trans ((Below.heap_setCell _ _ _ _ hne).trans g1)), g2, g3⟩
end Go.Proofs.YtoaoikfhdeiabaaDoor
