/- Package disk: a change is entered. -/
import Derived.Test.YtmlikkjahkdilaaGreatDoorDiskDo
import Derived.Test.YtmlikkjahkdilaaGreatDoorCloneN
import Derived.WalkSpells
import Derived.Deep.RegionHeld3
import Derived.Deep.DeepCutAuto
namespace Go.Proofs.YtmlikkjahkdilaaGreatDoor
open Go.RowKit Go.Maps

/-- a disk's cells -/
structure DiskAt (w : World) (p : Nat) (cp : Int) (last changes held : Value) (used : Int) : Prop where
  c0 : w.cell? ⟨p, 0, none⟩ = some (.int .i64 cp)
  c1 : w.cell? ⟨p, 1, none⟩ = some last
  c2 : w.cell? ⟨p, 2, none⟩ = some changes
  c3 : w.cell? ⟨p, 3, none⟩ = some held
  c4 : w.cell? ⟨p, 4, none⟩ = some (.int .i64 used)
  fr : ∀ i, w.frozen? ⟨p, i, none⟩ = false
  ty : ∃ cs, w.heap[p]? = some (.cells cs 65 (0, 0))
theorem row_at {w : World} {B k sz b : Nat} {e : TypeId} {v : Value} {xs : List Value} (h : w.ownsRow B e sz v k xs) (hb : v.ownBlock = some b) : ∃ cs, w.heap[b]? = some (.cells cs e (0, 0)) := by
  rcases h.2 with ⟨rfl, _⟩ | ⟨g, cap, cur, rfl, _, hg, _⟩
  · simp [Value.ownBlock] at hb
  · simp [Value.ownBlock] at hb
    subst hb
    exact ⟨cur, hg⟩
theorem cells_apart {w : World} {b c : Nat} {e e' : TypeId} (h : ∃ cs, w.heap[b]? = some (.cells cs e (0, 0))) (h' : ∃ cs, w.heap[c]? = some (.cells cs e' (0, 0))) (he : e ≠ e') : ¬ b = c := by
  rintro rfl
  obtain ⟨_, h⟩ := h
  obtain ⟨_, h'⟩ := h'
  rw [h] at h'
  injection h' with h'
  injection h' with _ h' _
  exact he h'
theorem map_apart {w : World} {b m n : Nat} {e : TypeId} {D : DataW Unit} (h : ∃ cs, w.heap[b]? = some (.cells cs e (0, 0))) (h' : FM w m n D) : ¬ b = m := by
  rintro rfl
  obtain ⟨_, h⟩ := h
  obtain ⟨_, _, h', _⟩ := h'
  rw [h] at h'
  cases h'
/-- nothing has turned but the blocks of S and new blocks -/
structure Tch (w w' : World) (S : Nat → Prop) : Prop where
  os : w'.os = w.os
  tape : w'.tape = w.tape
  output : w'.output = w.output
  size : w.heap.size ≤ w'.heap.size
  block : ∀ k, k < w.heap.size → ¬ S k → w'.heap[k]? = w.heap[k]?
theorem Tch.refl (w : World) (S : Nat → Prop) : Tch w w S := ⟨rfl, rfl, rfl, Nat.le_refl _, fun _ _ _ => rfl⟩
theorem Tch.trans {w w1 w2 : World} {S : Nat → Prop} (h : Tch w w1 S) (k : Tch w1 w2 S) : Tch w w2 S :=
  ⟨k.os.trans h.os, k.tape.trans h.tape, k.output.trans h.output, Nat.le_trans h.size k.size, fun i hi hn => (k.block i (Nat.lt_of_lt_of_le hi h.size) hn).trans (h.block i hi hn)⟩
/-- .. where the second step may turn new blocks beside -/
theorem Tch.then {w w1 w2 : World} {S S' : Nat → Prop} (h : Tch w w1 S) (k : Tch w1 w2 S') (hS : ∀ i, i < w.heap.size → S' i → S i) : Tch w w2 S :=
  ⟨k.os.trans h.os, k.tape.trans h.tape, k.output.trans h.output, Nat.le_trans h.size k.size, fun i hi hn => (k.block i (Nat.lt_of_lt_of_le hi h.size) (fun e => hn (hS i hi e))).trans (h.block i hi hn)⟩
theorem tch_below {w w' : World} (S : Nat → Prop) (h : Below w.heap.size w w') : Tch w w' S := ⟨h.os, h.tape, h.output, h.size, fun k hk _ => h.block k hk⟩
theorem tch_set (w : World) (a : Addr) (v : Value) : Tch w (w.setCell a v) (fun k => k = a.block) := ⟨rfl, rfl, rfl, by simp [World.setCell], fun k _ hn => Below.heap_setCell _ _ _ _ hn⟩
theorem tch_grown {w w' : World} {r : Option Nat} (h : w.grownBy w' r) : Tch w w' (fun k => some k = r) := ⟨h.os, h.tape, h.output, h.size, fun k hk hn => h.block k hk hn⟩
theorem tch_tu3 {w w' : World} {m : Nat} {r : Option Nat} (h : Tu3 w w' m r) : Tch w w' (fun k => k = m ∨ some k = r) := ⟨h.os, h.tape, h.output, h.size, fun k hk hn => h.block k hk (fun e => hn (.inl e)) (fun e => hn (.inr e))⟩
theorem DiskAt.lt {w : World} {p : Nat} {cp : Int} {l c h : Value} {u : Int} (d : DiskAt w p cp l c h u) : p < w.heap.size := by
  have c0 := d.c0
  rcases Nat.lt_or_ge p w.heap.size with h | h
  · exact h
  · simp [World.cell?, Array.getElem?_eq_none h] at c0
theorem cell_eq {w w' : World} {k : Nat} (h : w'.heap[k]? = w.heap[k]?) (i : Nat) : w'.cell? ⟨k, i, none⟩ = w.cell? ⟨k, i, none⟩ := by simp [World.cell?, h]
theorem frozen_eq {w w' : World} {k : Nat} (h : w'.heap[k]? = w.heap[k]?) (i : Nat) : w'.frozen? ⟨k, i, none⟩ = w.frozen? ⟨k, i, none⟩ := by simp [World.frozen?, h]
theorem DiskAt.tch {w w' : World} {S : Nat → Prop} {p : Nat} {cp : Int} {l c h : Value} {u : Int} (d : DiskAt w p cp l c h u) (t : Tch w w' S) (hp : ¬ S p) : DiskAt w' p cp l c h u :=
  have e := t.block p d.lt hp
  ⟨(cell_eq e 0).trans d.c0, (cell_eq e 1).trans d.c1, (cell_eq e 2).trans d.c2, (cell_eq e 3).trans d.c3, (cell_eq e 4).trans d.c4, fun i => (frozen_eq e i).trans (d.fr i), by rw [e]; exact d.ty⟩
theorem ty_set {w : World} {p i : Nat} {e : TypeId} (v : Value) (h : ∃ cs, w.heap[p]? = some (.cells cs e (0, 0))) : ∃ cs, (w.setCell ⟨p, i, none⟩ v).heap[p]? = some (.cells cs e (0, 0)) := by
  obtain ⟨cs, h⟩ := h
  simp [World.setCell, Array.getElem?_modify, h]
theorem DiskAt.chg {w : World} {p : Nat} {cp : Int} {l c h : Value} {u : Int} (d : DiskAt w p cp l c h u) (c' : Value) : DiskAt (w.setCell ⟨p, 2, none⟩ c') p cp l c' h u :=
  ⟨(World.cell?_setCell_other _ _ _ _ (by simp)).trans d.c0, (World.cell?_setCell_other _ _ _ _ (by simp)).trans d.c1, World.cell?_setCell_same _ _ _ d.c2, (World.cell?_setCell_other _ _ _ _ (by simp)).trans d.c3, (World.cell?_setCell_other _ _ _ _ (by simp)).trans d.c4,
    fun i => by rw [World.frozen?_setCell]; exact d.fr i, ty_set _ d.ty⟩
theorem row_tch {w w' : World} {S : Nat → Prop} {B k sz : Nat} {e : TypeId} {v : Value} {xs : List Value} (h : w.ownsRow B e sz v k xs) (t : Tch w w' S) (hv : ∀ b, v.ownBlock = some b → ¬ S b) : w'.ownsRow B e sz v k xs := by
  obtain ⟨h1, h2⟩ := h
  refine ⟨h1, ?_⟩
  rcases h2 with h2 | ⟨g, cap, cur, rfl, hb, hg, hr⟩
  · exact .inl h2
  · have hlt : g < w.heap.size := by
      rcases Nat.lt_or_ge g w.heap.size with h | h
      · exact h
      · simp [Array.getElem?_eq_none h] at hg
    exact .inr ⟨g, cap, cur, rfl, hb, (t.block g hlt (hv g rfl)).trans hg, hr⟩
theorem fm_tch {w w' : World} {S : Nat → Prop} {m n : Nat} {D : DataW Unit} (h : FM w m n D) (t : Tch w w' S) (hm : ¬ S m) : FM w' m n D := by
  obtain ⟨es, clock, h1, h2⟩ := h
  have hlt : m < w.heap.size := by
    rcases Nat.lt_or_ge m w.heap.size with h | h
    · exact h
    · simp [Array.getElem?_eq_none h] at h1
  exact ⟨es, clock, (t.block m hlt hm).trans h1, h2⟩
/-- an append as a change -/
abbrev ap (name data : ByteArray) : Value := .iface 68 (.agg #[.string name, .string data])
theorem infoChange : (Tryz.prog.info? 71).map (fun i => (i.zero, i.size, i.bytes)) = some (some .nilIface, 1, 16) := by kernel_rfl
set_option maxRecDepth 100000 in
set_option maxHeartbeats 4000000 in
theorem enter_some (p L m n B k : Nat) (cp used : Int) (chg v : Value) (xs cs : List Value) (q : Nat) (D : DataW Unit) (name data : ByteArray) (w : World) (hk : DiskAt w p cp (.map (some L)) chg (.map (some m)) used)
    (ho : FM w m n D) (hn : n < maxLen) (hname : name.size ≤ maxLen) (hv : hdr v = some (D.atKey (sk name) (hd (.slice none 0 0)), [])) (hrow : w.ownsRow B 5 1 v k xs) (hB : B ≤ w.heap.size) (hsz : k + data.size ≤ 140737488355328)
    (hcs : w.ownsRow B 71 1 chg q cs) (hq : q ≤ 8796093022206) :
    Calls Tryz.prog 44 #[.pointer (some ⟨p, 0, none⟩), ap name data] w fun e w' => e = .returned (.tuple #[]) ∧ ∃ v' chg', DiskAt w' p cp (.map (some L)) chg' (.map (some m)) used ∧ FM w' m (n + 1) (D.put (sk name) (hd v')) ∧
      w'.ownsRow B 5 1 v' (k + data.size) (xs ++ Lib.strCells data) ∧ w'.ownsRow B 71 1 chg' (q + 1) (cs ++ [ap name data]) ∧ Tch w w' (fun i => i = p ∨ i = m ∨ some i = v.ownBlock ∨ some i = chg.ownBlock) ∧ (∀ b, v'.ownBlock = some b → v.ownBlock = some b ∨ w.heap.size ≤ b) := by
  obtain ⟨i0, hi, hz0, hz1, hz2⟩ := info_parts infoChange
  have hmap : ∀ (w : World) (r : Option Nat), (binOp .eql 62 (.map r) (.map none)).run Tryz.prog w = .ok (.bool r.isNone) w := fun w r => run_eql_map_nil w _ _ _ _ Tryz.underlying62
  have hna : ∀ (n : Nat) (w : World), (nilAhead (n + 1) 68 (.agg #[.string name, .string data]) "mahout/disk.do").run Tryz.prog w = .ok (some false) w := fun _ _ => by kernel_rfl
  have hme : ∀ (n : Nat) (w : World), (method (n + 1) 68 (.agg #[.string name, .string data]) "mahout/disk.do").run Tryz.prog w = .ok (36, .agg #[.string name, .string data]) w := fun _ _ => by kernel_rfl
  have hdo := do_append_s m n B k D v xs name data w.drew ho hn hname hv hrow hB hsz
  have HK := Lib.hid hk
  have HCS := Lib.hid hcs
  have a1 : ¬ p = m := map_apart hk.ty ho
  have a2 : ¬ some p = v.ownBlock := fun e => cells_apart hk.ty (row_at hrow e.symm) (by decide) rfl
  have a3 : ∀ b, chg.ownBlock = some b → ¬ b = m ∧ ¬ some b = v.ownBlock ∧ ¬ b = p := fun b hb => ⟨map_apart (row_at hcs hb) ho, fun e => cells_apart (row_at hcs hb) (row_at hrow e.symm) (by decide) rfl, cells_apart (row_at hcs hb) hk.ty (by decide)⟩
  have HA := Lib.hid (And.intro a1 (And.intro a2 a3))
  obtain ⟨c0, c1, c2, c3, c4, fr, ty⟩ := hk
  clear ty
  clear ho hrow hcs a1 a2 a3
  go_enter Tryz.func44, Tryz.ntmps44
  go_upto_region 2 with (fail)
  go_cut [] (fun wx => ∃ v1, Hid (FM wx m (n + 1) (D.put (sk name) (hd v1)) ∧ wx.ownsRow B 5 1 v1 (k + data.size) (xs ++ Lib.strCells data) ∧ Tu3 w.drew wx m v.ownBlock ∧ (∀ b, v1.ownBlock = some b → v.ownBlock = some b ∨ w.heap.size ≤ b)))
  case first =>
    go_region_with (go_at_call 36; refine hdo.mono ?_; rintro e w1 ⟨rfl, v1, h1, h2, h3, h4⟩)
    all_goals
      first
        | (go_meet; exact ⟨v1, Lib.hid ⟨h1, h2, h3, h4⟩⟩)
        | (go_wp2; go_meet; exact ⟨v1, Lib.hid ⟨h1, h2, h3, h4⟩⟩)
  case rest =>
    obtain ⟨v1, H1⟩ := hcut
    have T1 : Tch w wc (fun i => i = m ∨ some i = v.ownBlock) := by
      have T0 := H1.out.2.2.1
      exact ⟨T0.os, T0.tape, T0.output, T0.size, fun k hk hn => T0.block k hk (fun e => hn (.inl e)) (fun e => hn (.inr e))⟩
    have D1 := HK.out.tch T1 (fun h => h.elim HA.out.1 HA.out.2.1)
    have R1 := row_tch HCS.out T1 (fun b hb h => h.elim (HA.out.2.2 b hb).1 (HA.out.2.2 b hb).2.1)
    have hBc : B ≤ wc.heap.size := Nat.le_trans hB T1.size
    have HT1 := Lib.hid T1
    have HD1 := Lib.hid D1
    have d2 := D1.c2
    have f2 := D1.fr 2
    clear T1 D1 c0 c1 c2 c3 c4 fr hdo hmap hna hme HK HCS
    have hown := R1
    have HCH := Lib.hid R1
    clear R1
    go_wp2_with (at_builtin; refine wpList_append_own _ rfl _ _ 63 rfl B 71 i0 .nilIface 1 16 Tryz.underlying63 hi hz0 hz1 hz2 rfl (by decide) _ _ _ rfl (hown.alloc _) ⟨wc.heap.size, 0, none⟩ 1 1 [ap name data] rfl rfl ?c1 ?c2 ?c3 ?c4 ?c5 ?_)
    case c1 =>
      intro j u hj
      match j, hj with
      | 0, hj => simp at hj; subst hj; simp [Addr.add]
    case c2 => first | rfl | (intro u hu; simp at hu; subst hu; rfl)
    case c3 => unfold maxLen; omega
    case c4 => omega
    case c5 => simp; omega
    intro v' w2 hown' hgrow' _
    obtain ⟨g, gc, hvf⟩ : ∃ g gc, v' = .slice (some ⟨g, 0, none⟩) (q + 1) gc := by
      rcases hown'.2 with ⟨_, h⟩ | ⟨g, cap, cur, h, _⟩
      · omega
      · exact ⟨g, cap, h⟩
    subst hvf
    have T2 : Tch wc w2 (fun i => some i = chg.ownBlock) := ((tch_below _ ((Below.refl _ wc).alloc (Nat.le_refl _) _)).trans (tch_grown hgrow'))
    have D2 := HD1.out.tch T2 (fun e => (HA.out.2.2 p e.symm).2.2 rfl)
    have HD2 := Lib.hid D2
    have HT2 := Lib.hid T2
    have HO2 := Lib.hid hown'
    have g2 := D2.c2
    have g3 := D2.fr 2
    clear T2 D2 hown hown' hgrow' d2 f2
    go_wp2
    have hfin : DiskAt (w2.setCell ⟨p, 2, none⟩ (.slice (some ⟨g, 0, none⟩) (q + 1) gc)) p cp (.map (some L)) (.slice (some ⟨g, 0, none⟩) (q + 1) gc) (.map (some m)) used ∧ FM (w2.setCell ⟨p, 2, none⟩ (.slice (some ⟨g, 0, none⟩) (q + 1) gc)) m (n + 1) (D.put (sk name) (hd v1)) ∧ (w2.setCell ⟨p, 2, none⟩ (.slice (some ⟨g, 0, none⟩) (q + 1) gc)).ownsRow B 5 1 v1 (k + data.size) (xs ++ Lib.strCells data) ∧
        (w2.setCell ⟨p, 2, none⟩ (.slice (some ⟨g, 0, none⟩) (q + 1) gc)).ownsRow B 71 1 (.slice (some ⟨g, 0, none⟩) (q + 1) gc) (q + 1) (cs ++ [ap name data]) ∧ Tch w (w2.setCell ⟨p, 2, none⟩ (.slice (some ⟨g, 0, none⟩) (q + 1) gc)) (fun i => i = p ∨ i = m ∨ some i = v.ownBlock ∨ some i = chg.ownBlock) := by
      have ts := tch_set w2 ⟨p, 2, none⟩ (.slice (some ⟨g, 0, none⟩) (q + 1) gc)
      have fm2 := fm_tch H1.out.1 HT2.out (fun e => map_apart (row_at HCH.out e.symm) H1.out.1 rfl)
      have r2 := row_tch H1.out.2.1 HT2.out (fun b hb e => cells_apart (row_at H1.out.2.1 hb) (row_at HCH.out e.symm) (by decide) rfl)
      refine ⟨HD2.out.chg (.slice (some ⟨g, 0, none⟩) (q + 1) gc), fm_tch fm2 ts (fun e => map_apart HD2.out.ty fm2 e.symm), row_tch r2 ts (fun b hb => cells_apart (row_at r2 hb) HD2.out.ty (by decide)), row_tch HO2.out ts (fun b hb => cells_apart (row_at HO2.out hb) HD2.out.ty (by decide)), ?_⟩
      have t1 : Tch w wc (fun i => i = p ∨ i = m ∨ some i = v.ownBlock ∨ some i = chg.ownBlock) := (Tch.refl w _).then HT1.out (fun i _ h => h.elim (fun e => .inr (.inl e)) (fun e => .inr (.inr (.inl e))))
      exact (t1.then HT2.out (fun i _ h => .inr (.inr (.inr h)))).then ts (fun i _ h => .inl h)
    first
      | (go_end0; exact ⟨rfl, v1, .slice (some ⟨g, 0, none⟩) (q + 1) gc, hfin.1, hfin.2.1, hfin.2.2.1, hfin.2.2.2.1, hfin.2.2.2.2, H1.out.2.2.2⟩)
      | (go_ret; exact ⟨rfl, v1, .slice (some ⟨g, 0, none⟩) (q + 1) gc, hfin.1, hfin.2.1, hfin.2.2.1, hfin.2.2.2.1, hfin.2.2.2.2, H1.out.2.2.2⟩)
end Go.Proofs.YtmlikkjahkdilaaGreatDoor
