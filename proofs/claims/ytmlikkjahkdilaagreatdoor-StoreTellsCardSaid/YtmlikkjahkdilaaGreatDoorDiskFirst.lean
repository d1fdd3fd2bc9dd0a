/- Package disk: the first change is entered. -/
import Derived.Test.YtmlikkjahkdilaaGreatDoorDiskEnter
namespace Go.Proofs.YtmlikkjahkdilaaGreatDoor
open Go.RowKit Go.Maps

theorem DiskAt.last {w : World} {p : Nat} {cp : Int} {l c h : Value} {u : Int} (d : DiskAt w p cp l c h u) (l' : Value) : DiskAt (w.setCell ⟨p, 1, none⟩ l') p cp l' c h u :=
  ⟨(World.cell?_setCell_other _ _ _ _ (by simp)).trans d.c0, World.cell?_setCell_same _ _ _ d.c1, (World.cell?_setCell_other _ _ _ _ (by simp)).trans d.c2, (World.cell?_setCell_other _ _ _ _ (by simp)).trans d.c3, (World.cell?_setCell_other _ _ _ _ (by simp)).trans d.c4,
    fun i => by rw [World.frozen?_setCell]; exact d.fr i, ty_set _ d.ty⟩
theorem DiskAt.helds {w : World} {p : Nat} {cp : Int} {l c h : Value} {u : Int} (d : DiskAt w p cp l c h u) (h' : Value) : DiskAt (w.setCell ⟨p, 3, none⟩ h') p cp l c h' u :=
  ⟨(World.cell?_setCell_other _ _ _ _ (by simp)).trans d.c0, (World.cell?_setCell_other _ _ _ _ (by simp)).trans d.c1, (World.cell?_setCell_other _ _ _ _ (by simp)).trans d.c2, World.cell?_setCell_same _ _ _ d.c3, (World.cell?_setCell_other _ _ _ _ (by simp)).trans d.c4,
    fun i => by rw [World.frozen?_setCell]; exact d.fr i, ty_set _ d.ty⟩
abbrev W2 (w : World) : World := (w.alloc (.map #[] 0)).alloc (.map #[] 0)
abbrev W4 (w : World) (p : Nat) : World := ((W2 w).setCell ⟨p, 1, none⟩ (.map (some w.heap.size))).setCell ⟨p, 3, none⟩ (.map (some (w.heap.size + 1)))
theorem w4_is {w : World} {p : Nat} {cp : Int} {l c h : Value} {u : Int} (d : DiskAt w p cp l c h u) :
    DiskAt (W4 w p) p cp (.map (some w.heap.size)) c (.map (some (w.heap.size + 1))) u ∧ FM (W4 w p) w.heap.size 0 (.map []) ∧ FM (W4 w p) (w.heap.size + 1) 0 (.map []) ∧ Tch w (W4 w p) (fun i => i = p) := by
  have hb : Below w.heap.size w (W2 w) := ((Below.refl _ w).alloc (Nat.le_refl _) _).alloc (by simp) _
  have hlt := d.lt
  have d2 : DiskAt (W2 w) p cp l c h u := d.tch (tch_below (fun i => False) hb) (fun e => e)
  have m1 : FM (w.alloc (.map #[] 0)) w.heap.size 0 (.map []) := World.ownsMap_made _ _ _ _
  have m2 : FM (W2 w) w.heap.size 0 (.map []) := m1.alloc _
  have m3 : FM (W2 w) (w.heap.size + 1) 0 (.map []) := by
    have := World.ownsMap_made (w.alloc (.map #[] 0)) Tryz.prog 9 hdr
    rwa [show (w.alloc (.map #[] 0)).heap.size = w.heap.size + 1 by simp] at this
  refine ⟨(d2.last _).helds _, World.ownsMap.setCell (World.ownsMap.setCell m2 (by simp; omega) _) (by simp; omega) _, World.ownsMap.setCell (World.ownsMap.setCell m3 (by simp; omega) _) (by simp; omega) _, ?_⟩
  exact ((tch_below (fun i => i = p) hb).trans (tch_set (W2 w) ⟨p, 1, none⟩ (.map (some w.heap.size)))).trans (tch_set _ ⟨p, 3, none⟩ (.map (some (w.heap.size + 1))))
set_option maxRecDepth 100000 in
set_option maxHeartbeats 4000000 in
theorem enter_first (p B : Nat) (cp used : Int) (chg : Value) (cs : List Value) (q : Nat) (name data : ByteArray) (w : World) (hk : DiskAt w p cp (.map none) chg (.map none) used)
    (hname : name.size ≤ maxLen) (hB : B ≤ w.heap.size) (hsz : data.size ≤ 140737488355328) (hcs : w.ownsRow B 71 1 chg q cs) (hq : q ≤ 8796093022206) :
    Calls Tryz.prog 44 #[.pointer (some ⟨p, 0, none⟩), ap name data] w fun e w' => e = .returned (.tuple #[]) ∧ ∃ L m v' chg', DiskAt w' p cp (.map (some L)) chg' (.map (some m)) used ∧ FM w' m 1 ((DataW.map []).put (sk name) (hd v')) ∧
      w'.ownsRow B 5 1 v' (0 + data.size) ([] ++ Lib.strCells data) ∧ w'.ownsRow B 71 1 chg' (q + 1) (cs ++ [ap name data]) ∧ FM w' L 0 (.map []) ∧ Tch w w' (fun i => i = p ∨ some i = chg.ownBlock) ∧ (w.heap.size ≤ L ∧ w.heap.size ≤ m) := by
  obtain ⟨i0, hi, hz0, hz1, hz2⟩ := info_parts infoChange
  have hmap : ∀ (w : World) (r : Option Nat), (binOp .eql 62 (.map r) (.map none)).run Tryz.prog w = .ok (.bool r.isNone) w := fun w r => run_eql_map_nil w _ _ _ _ Tryz.underlying62
  have hna : ∀ (n : Nat) (w : World), (nilAhead (n + 1) 68 (.agg #[.string name, .string data]) "mahout/disk.do").run Tryz.prog w = .ok (some false) w := fun _ _ => by kernel_rfl
  have hme : ∀ (n : Nat) (w : World), (method (n + 1) 68 (.agg #[.string name, .string data]) "mahout/disk.do").run Tryz.prog w = .ok (36, .agg #[.string name, .string data]) w := fun _ _ => by kernel_rfl
  have hmm := @run_makeMap Tryz.prog
  have H4 := w4_is hk
  have HCS0 := Lib.hid hcs
  have hlt := hk.lt
  have hb2 : Below w.heap.size w (W2 w) := ((Below.refl _ w).alloc (Nat.le_refl _) _).alloc (by simp) _
  have e1 := (hb2.cell (p := ⟨p, 1, none⟩) hlt).trans hk.c1
  have e3 := (hb2.cell (p := ⟨p, 3, none⟩) hlt).trans hk.c3
  have g1 := (hb2.frozen (p := ⟨p, 1, none⟩) hlt).trans (hk.fr 1)
  have g3 := (hb2.frozen (p := ⟨p, 3, none⟩) hlt).trans (hk.fr 3)
  have c1 := hk.c1
  have HCP := Lib.hid (fun b (hb : chg.ownBlock = some b) => (cells_apart (row_at hcs hb) hk.ty (by decide) : ¬ b = p))
  have HL4 := Lib.hid H4
  have HSZ := Lib.hid (And.intro hlt (fun b (hb : chg.ownBlock = some b) => (hcs.lt b hb).2))
  clear hk hcs hlt hb2 H4
  go_enter Tryz.func44, Tryz.ntmps44
  go_upto_region 2 with (fail)
  have hLS : ¬ (w.heap.size = p ∨ w.heap.size = w.heap.size + 1 ∨ some w.heap.size = (Value.slice none 0 0).ownBlock ∨ some w.heap.size = chg.ownBlock) := by
    rintro (h | h | h | h)
    · have := HSZ.out.1; omega
    · omega
    · cases h
    · have := HSZ.out.2 _ h.symm; omega
  have hIS : ∀ i, i < w.heap.size → (i = p ∨ i = w.heap.size + 1 ∨ some i = (Value.slice none 0 0).ownBlock ∨ some i = chg.ownBlock) → (i = p ∨ some i = chg.ownBlock) := by
    rintro i hi (h | h | h | h)
    · exact .inl h
    · omega
    · cases h
    · exact .inr h
  have hrc := row_tch HCS0.out HL4.out.2.2.2 (fun b hb => HCP.out b hb)
  have HLS := Lib.hid hLS
  have HIS := Lib.hid hIS
  have HRC := Lib.hid hrc
  have hB0 : B ≤ (W4 w p).heap.size := Nat.le_trans hB HL4.out.2.2.2.size
  clear e1 e3 g1 g3 c1 hLS hIS hrc HSZ
  change Code.wp _ _ _ _ (W4 w p)
  generalize hw0 : W4 w p = w0 at *
  generalize hL : w.heap.size = L at *
  generalize hm : L + 1 = m at *
  have HL : Hid (FM w0 L 0 (.map []) ∧ (∀ i, i < w.heap.size → (i = p ∨ i = m ∨ some i = (Value.slice none 0 0).ownBlock ∨ some i = chg.ownBlock) → (i = p ∨ some i = chg.ownBlock)) ∧ ¬ (L = p ∨ L = m ∨ some L = (Value.slice none 0 0).ownBlock ∨ some L = chg.ownBlock)) :=
    Lib.hid ⟨HL4.out.2.1, fun i hi => HIS.out i (by omega), HLS.out⟩
  have TW := Lib.hid HL4.out.2.2.2
  have HLQ : Hid (w.heap.size ≤ L ∧ w.heap.size ≤ m) := Lib.hid ⟨Nat.le_of_eq hL, by omega⟩
  have TW : Hid (Tch w w0 (fun i => i = p ∨ some i = chg.ownBlock)) := Lib.hid ((Tch.refl w _).then HL4.out.2.2.2 (fun i _ h => .inl h))
  have hk := HL4.out.1
  have ho := HL4.out.2.2.1
  have hcs := HRC.out
  have hdo := do_append m 0 B 0 (.map []) (.slice none 0 0) [] name data w0.drew ho (by unfold maxLen; omega) hname rfl (World.ownsRow_nil _ _ _ _) hB0 (by omega)
  have a1 : ¬ p = m := map_apart hk.ty ho
  have a2 : ¬ some p = (Value.slice none 0 0).ownBlock := fun e => by cases e
  have a3 : ∀ b, chg.ownBlock = some b → ¬ b = m ∧ ¬ some b = (Value.slice none 0 0).ownBlock ∧ ¬ b = p := fun b hb => ⟨map_apart (row_at hcs hb) ho, (fun e => by cases e), cells_apart (row_at hcs hb) hk.ty (by decide)⟩
  have HK := Lib.hid hk
  have HCS := Lib.hid hcs
  have HA := Lib.hid (And.intro a1 (And.intro a2 a3))
  have c1 := hk.c1
  have c3 := hk.c3
  clear ho hcs a1 a2 a3 hk HL4 HIS HLS HRC HCS0 HCP hL hm hw0
  go_cut [] (fun wx => ∃ v1, Hid (FM wx m (0 + 1) ((DataW.map []).put (sk name) (hd v1)) ∧ wx.ownsRow B 5 1 v1 (0 + data.size) ([] ++ Lib.strCells data) ∧ Tu3 w0.drew wx m (Value.slice none 0 0).ownBlock))
  case first =>
    go_region_with (go_at_call 36; refine hdo.mono ?_; rintro e w1 ⟨rfl, v1, h1, h2, h3⟩)
    all_goals
      first
        | (go_meet; exact ⟨v1, Lib.hid ⟨h1, h2, h3⟩⟩)
        | (go_wp2; go_meet; exact ⟨v1, Lib.hid ⟨h1, h2, h3⟩⟩)
  case rest =>
    obtain ⟨v1, H1⟩ := hcut
    have T1 : Tch w0 wc (fun i => i = m ∨ some i = (Value.slice none 0 0).ownBlock) := by
      have T0 := H1.out.2.2
      exact ⟨T0.os, T0.tape, T0.output, T0.size, fun k hk hn => T0.block k hk (fun e => hn (.inl e)) (fun e => hn (.inr e))⟩
    have D1 := HK.out.tch T1 (fun h => h.elim HA.out.1 HA.out.2.1)
    have R1 := row_tch HCS.out T1 (fun b hb h => h.elim (HA.out.2.2 b hb).1 (HA.out.2.2 b hb).2.1)
    have hBc : B ≤ wc.heap.size := Nat.le_trans hB0 T1.size
    have HT1 := Lib.hid T1
    have HD1 := Lib.hid D1
    have d2 := D1.c2
    have f2 := D1.fr 2
    clear T1 D1 hdo hmap hna hme HK HCS
    have hown := R1
    have HCH := Lib.hid R1
    clear R1
    go_wp2_with (at_builtin; refine wpList_append_own _ rfl _ _ 63 rfl B 71 i0 .nilIface 1 16 Tryz.underlying63 hi hz0 hz1 hz2 rfl (by decide) _ _ _ rfl (hown.alloc _) ⟨wc.heap.size, 0, none⟩ 1 1 [ap name data] rfl rfl ?c1 ?c2 ?c3 ?c4 ?c5 ?_)
    case c1 =>
      intro j u hj
      match j, hj with
      | 0, hj => simp at hj; subst hj; simp [Addr.add]
    case c2 => first | rfl | (intro u hu; simp at hu; subst hu; rfl)
    case c3 => unfold maxLen; omega
    case c4 => omega
    case c5 => simp; omega
    intro v' w2 hown' hgrow' _
    obtain ⟨g, gc, hvf⟩ : ∃ g gc, v' = .slice (some ⟨g, 0, none⟩) (q + 1) gc := by
      rcases hown'.2 with ⟨_, h⟩ | ⟨g, cap, cur, h, _⟩
      · omega
      · exact ⟨g, cap, h⟩
    subst hvf
    have T2 : Tch wc w2 (fun i => some i = chg.ownBlock) := ((tch_below _ ((Below.refl _ wc).alloc (Nat.le_refl _) _)).trans (tch_grown hgrow'))
    have D2 := HD1.out.tch T2 (fun e => (HA.out.2.2 p e.symm).2.2 rfl)
    have HD2 := Lib.hid D2
    have HT2 := Lib.hid T2
    have HO2 := Lib.hid hown'
    have g2 := D2.c2
    have g3 := D2.fr 2
    clear T2 D2 hown hown' hgrow' d2 f2
    go_wp2
    have hfin : DiskAt (w2.setCell ⟨p, 2, none⟩ (.slice (some ⟨g, 0, none⟩) (q + 1) gc)) p cp (.map (some L)) (.slice (some ⟨g, 0, none⟩) (q + 1) gc) (.map (some m)) used ∧ FM (w2.setCell ⟨p, 2, none⟩ (.slice (some ⟨g, 0, none⟩) (q + 1) gc)) m (0 + 1) ((DataW.map []).put (sk name) (hd v1)) ∧ (w2.setCell ⟨p, 2, none⟩ (.slice (some ⟨g, 0, none⟩) (q + 1) gc)).ownsRow B 5 1 v1 (0 + data.size) ([] ++ Lib.strCells data) ∧
        (w2.setCell ⟨p, 2, none⟩ (.slice (some ⟨g, 0, none⟩) (q + 1) gc)).ownsRow B 71 1 (.slice (some ⟨g, 0, none⟩) (q + 1) gc) (q + 1) (cs ++ [ap name data]) ∧ Tch w0 (w2.setCell ⟨p, 2, none⟩ (.slice (some ⟨g, 0, none⟩) (q + 1) gc)) (fun i => i = p ∨ i = m ∨ some i = (Value.slice none 0 0).ownBlock ∨ some i = chg.ownBlock) := by
      have ts := tch_set w2 ⟨p, 2, none⟩ (.slice (some ⟨g, 0, none⟩) (q + 1) gc)
      have fm2 := fm_tch H1.out.1 HT2.out (fun e => map_apart (row_at HCH.out e.symm) H1.out.1 rfl)
      have r2 := row_tch H1.out.2.1 HT2.out (fun b hb e => cells_apart (row_at H1.out.2.1 hb) (row_at HCH.out e.symm) (by decide) rfl)
      refine ⟨HD2.out.chg (.slice (some ⟨g, 0, none⟩) (q + 1) gc), fm_tch fm2 ts (fun e => map_apart HD2.out.ty fm2 e.symm), row_tch r2 ts (fun b hb => cells_apart (row_at r2 hb) HD2.out.ty (by decide)), row_tch HO2.out ts (fun b hb => cells_apart (row_at HO2.out hb) HD2.out.ty (by decide)), ?_⟩
      have t1 : Tch w0 wc (fun i => i = p ∨ i = m ∨ some i = (Value.slice none 0 0).ownBlock ∨ some i = chg.ownBlock) := (Tch.refl w0 _).then HT1.out (fun i _ h => h.elim (fun e => .inr (.inl e)) (fun e => .inr (.inr (.inl e))))
      exact (t1.then HT2.out (fun i _ h => .inr (.inr (.inr h)))).then ts (fun i _ h => .inl h)
    first
      | (go_end0; exact ⟨rfl, L, m, v1, .slice (some ⟨g, 0, none⟩) (q + 1) gc, hfin.1, hfin.2.1, hfin.2.2.1, hfin.2.2.2.1, fm_tch HL.out.1 hfin.2.2.2.2 HL.out.2.2, TW.out.then hfin.2.2.2.2 (fun i hi h => HL.out.2.1 i hi h), HLQ.out⟩)
      | (go_ret; exact ⟨rfl, L, m, v1, .slice (some ⟨g, 0, none⟩) (q + 1) gc, hfin.1, hfin.2.1, hfin.2.2.1, hfin.2.2.2.1, fm_tch HL.out.1 hfin.2.2.2.2 HL.out.2.2, TW.out.then hfin.2.2.2.2 (fun i hi h => HL.out.2.1 i hi h), HLQ.out⟩)
end Go.Proofs.YtmlikkjahkdilaaGreatDoor
