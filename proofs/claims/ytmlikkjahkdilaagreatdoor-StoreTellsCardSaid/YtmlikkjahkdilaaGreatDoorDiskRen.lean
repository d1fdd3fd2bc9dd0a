/- Package disk: a file gets another name. -/
import Derived.Test.YtmlikkjahkdilaaGreatDoorDiskTake
namespace Go.Proofs.YtmlikkjahkdilaaGreatDoor
open Go.RowKit Go.Maps

set_option maxRecDepth 100000 in
set_option maxHeartbeats 2000000 in
theorem do_rename (m n : Nat) (D : DataW Unit) (fr tt : ByteArray) (w : World) (ho : FM w m n D) (hn : n < maxLen) (hf : fr.size ≤ maxLen) (ht : tt.size ≤ maxLen) (v : Value) (hv : hdr v = some (D.atKey (sk fr) (hd (.slice none 0 0)), [])) :
    Calls Tryz.prog 162 #[.agg #[.string fr, .string tt], .map (some m)] w fun e w' => e = .returned (.tuple #[]) ∧ FM w' m (n + 1) ((D.put (sk tt) (hd v)).del (sk fr)) ∧ Tch w w' (fun i => i = m) := by
  have hlk := look_file (ho.alloc (.cells #[.string fr, .string tt] 97)) hf hv
  have ho1 : FM (w.alloc (.cells #[.string fr, .string tt] 97)) m n D := ho.alloc _
  obtain ⟨w3, hup, ho3, hg3⟩ := ho1.update strLaw Tryz.underlying62 hn (Go.WideMaps.keyOf_string_mk Tryz.underlying9 ht) (hdr_hd hv)
  have hlt : m < w.heap.size := by
    obtain ⟨es, clock, h1, _⟩ := ho
    rcases Nat.lt_or_ge m w.heap.size with h | h
    · exact h
    · simp [Array.getElem?_eq_none h] at h1
  have d0 : w3.cell? ⟨w.heap.size, 0, none⟩ = some (.string fr) := (World.cell?_of_block (a := ⟨w.heap.size, 0, none⟩) (hg3.block w.heap.size (by simp) (fun e => by injection e with e; omega))).trans (by simp)
  go_enter Tryz.func162, Tryz.ntmps162
  go_wp2_with (at_delete; refine wpList_delete_own _ rfl _ _ 62 9 rfl 76 strLaw Tryz.underlying62 hdr m (n + 1) _ rfl ho3 _ (sk fr) rfl (Go.WideMaps.keyOf_string_mk Tryz.underlying9 hf) ?_; intro w1 hown1 hturn1)
  have hT : Tch w w1 (fun i => i = m) := ((tch_below (fun i => i = m) ((Below.refl _ w).alloc (Nat.le_refl _) _)).then (tch_grown hg3) (fun _ _ h => by injection h)).then (tch_turned hturn1) (fun _ _ h => h)
  first
    | (go_end0; exact ⟨rfl, hown1, hT⟩)
    | exact bodyPost_ret (v := .tuple #[]) (results_none rfl _ _ _) rfl ⟨rfl, hown1, hT⟩
    | (go_wp2; exact bodyPost_ret (v := .tuple #[]) (results_none rfl _ _ _) rfl ⟨rfl, hown1, hT⟩)
/-- a renaming as a change -/
abbrev rn (fr tt : ByteArray) : Value := .iface 97 (.agg #[.string fr, .string tt])
set_option maxRecDepth 100000 in
set_option maxHeartbeats 4000000 in
theorem enter_ren (p L m n B : Nat) (cp used : Int) (chg : Value) (cs : List Value) (q : Nat) (D : DataW Unit) (fr tt : ByteArray) (w : World) (hn : n < maxLen) (hf : fr.size ≤ maxLen) (ht : tt.size ≤ maxLen) (v : Value) (hv : hdr v = some (D.atKey (sk fr) (hd (.slice none 0 0)), [])) (hk : DiskAt w p cp (.map (some L)) chg (.map (some m)) used)
    (ho : FM w m n D) (hB : B ≤ w.heap.size)
    (hcs : w.ownsRow B 71 1 chg q cs) (hq : q ≤ 8796093022206) :
    Calls Tryz.prog 44 #[.pointer (some ⟨p, 0, none⟩), rn fr tt] w fun e w' => e = .returned (.tuple #[]) ∧ ∃ chg', DiskAt w' p cp (.map (some L)) chg' (.map (some m)) used ∧ FM w' m (n + 1) ((D.put (sk tt) (hd v)).del (sk fr)) ∧
      w'.ownsRow B 71 1 chg' (q + 1) (cs ++ [rn fr tt]) ∧ Tch w w' (fun i => i = p ∨ i = m ∨ some i = chg.ownBlock) := by
  obtain ⟨i0, hi, hz0, hz1, hz2⟩ := info_parts infoChange
  have hmap : ∀ (w : World) (r : Option Nat), (binOp .eql 62 (.map r) (.map none)).run Tryz.prog w = .ok (.bool r.isNone) w := fun w r => run_eql_map_nil w _ _ _ _ Tryz.underlying62
  have hna : ∀ (n : Nat) (w : World), (nilAhead (n + 1) 97 (.agg #[.string fr, .string tt]) "mahout/disk.do").run Tryz.prog w = .ok (some false) w := fun _ _ => by kernel_rfl
  have hme : ∀ (n : Nat) (w : World), (method (n + 1) 97 (.agg #[.string fr, .string tt]) "mahout/disk.do").run Tryz.prog w = .ok (162, .agg #[.string fr, .string tt]) w := fun _ _ => by kernel_rfl
  have hdo := do_rename m n D fr tt w.drew (ho.drew) hn hf ht v hv
  clear hv hf ht hn
  have HK := Lib.hid hk
  have HCS := Lib.hid hcs
  have a1 : ¬ p = m := map_apart hk.ty ho
  have a3 : ∀ b, chg.ownBlock = some b → ¬ b = m ∧ ¬ b = p := fun b hb => ⟨map_apart (row_at hcs hb) ho, cells_apart (row_at hcs hb) hk.ty (by decide)⟩
  have HA := Lib.hid (And.intro a1 a3)
  obtain ⟨c0, c1, c2, c3, c4, frz, ty⟩ := hk
  clear ty
  clear ho hcs a1 a3
  go_enter Tryz.func44, Tryz.ntmps44
  go_upto_region 2 with (fail)
  go_cut [] (fun wx => Hid (FM wx m (n + 1) ((D.put (sk tt) (hd v)).del (sk fr)) ∧ Tch w.drew wx (fun i => i = m)))
  case first =>
    go_region_with (go_at_call 162; refine hdo.mono ?_; rintro e w1 ⟨rfl, h1, h2⟩)
    all_goals
      first
        | (go_meet; exact Lib.hid ⟨h1, h2⟩)
        | (go_wp2; go_meet; exact Lib.hid ⟨h1, h2⟩)
  case rest =>
    have T1 : Tch w wc (fun i => i = m) := by
      have T0 := hcut.out.2
      exact ⟨T0.os, T0.tape, T0.output, T0.size, fun k hk hn => T0.block k hk hn⟩
    have D1 := HK.out.tch T1 HA.out.1
    have R1 := row_tch HCS.out T1 (fun b hb => (HA.out.2 b hb).1)
    have hBc : B ≤ wc.heap.size := Nat.le_trans hB T1.size
    have HT1 := Lib.hid T1
    have HD1 := Lib.hid D1
    have d2 := D1.c2
    have f2 := D1.fr 2
    clear T1 D1 c0 c1 c2 c3 c4 frz hdo hmap hna hme HK HCS
    have hown := R1
    have HCH := Lib.hid R1
    clear R1
    go_wp2_with (at_builtin; refine wpList_append_own _ rfl _ _ 63 rfl B 71 i0 .nilIface 1 16 Tryz.underlying63 hi hz0 hz1 hz2 rfl (by decide) _ _ _ rfl (hown.alloc _) ⟨wc.heap.size, 0, none⟩ 1 1 [rn fr tt] rfl rfl ?c1 ?c2 ?c3 ?c4 ?c5 ?_)
    case c1 =>
      intro j u hj
      match j, hj with
      | 0, hj => simp at hj; subst hj; simp [Addr.add]
    case c2 => first | rfl | (intro u hu; simp at hu; subst hu; rfl)
    case c3 => unfold maxLen; omega
    case c4 => omega
    case c5 => simp; omega
    intro v' w2 hown' hgrow' _
    obtain ⟨g, gc, hvf⟩ : ∃ g gc, v' = .slice (some ⟨g, 0, none⟩) (q + 1) gc := by
      rcases hown'.2 with ⟨_, h⟩ | ⟨g, cap, cur, h, _⟩
      · omega
      · exact ⟨g, cap, h⟩
    subst hvf
    have T2 : Tch wc w2 (fun i => some i = chg.ownBlock) := ((tch_below _ ((Below.refl _ wc).alloc (Nat.le_refl _) _)).trans (tch_grown hgrow'))
    have D2 := HD1.out.tch T2 (fun e => (HA.out.2 p e.symm).2 rfl)
    have HD2 := Lib.hid D2
    have HT2 := Lib.hid T2
    have HO2 := Lib.hid hown'
    have g2 := D2.c2
    have g3 := D2.fr 2
    clear T2 D2 hown hown' hgrow' d2 f2
    go_wp2
    have hfin : DiskAt (w2.setCell ⟨p, 2, none⟩ (.slice (some ⟨g, 0, none⟩) (q + 1) gc)) p cp (.map (some L)) (.slice (some ⟨g, 0, none⟩) (q + 1) gc) (.map (some m)) used ∧ FM (w2.setCell ⟨p, 2, none⟩ (.slice (some ⟨g, 0, none⟩) (q + 1) gc)) m (n + 1) ((D.put (sk tt) (hd v)).del (sk fr)) ∧
        (w2.setCell ⟨p, 2, none⟩ (.slice (some ⟨g, 0, none⟩) (q + 1) gc)).ownsRow B 71 1 (.slice (some ⟨g, 0, none⟩) (q + 1) gc) (q + 1) (cs ++ [rn fr tt]) ∧ Tch w (w2.setCell ⟨p, 2, none⟩ (.slice (some ⟨g, 0, none⟩) (q + 1) gc)) (fun i => i = p ∨ i = m ∨ some i = chg.ownBlock) := by
      have ts := tch_set w2 ⟨p, 2, none⟩ (.slice (some ⟨g, 0, none⟩) (q + 1) gc)
      have fm2 := fm_tch hcut.out.1 HT2.out (fun e => map_apart (row_at HCH.out e.symm) hcut.out.1 rfl)
      refine ⟨HD2.out.chg (.slice (some ⟨g, 0, none⟩) (q + 1) gc), fm_tch fm2 ts (fun e => map_apart HD2.out.ty fm2 e.symm), row_tch HO2.out ts (fun b hb => cells_apart (row_at HO2.out hb) HD2.out.ty (by decide)), ?_⟩
      have t1 : Tch w wc (fun i => i = p ∨ i = m ∨ some i = chg.ownBlock) := (Tch.refl w _).then HT1.out (fun i _ h => .inr (.inl h))
      exact (t1.then HT2.out (fun i _ h => .inr (.inr h))).then ts (fun i _ h => .inl h)
    first
      | (go_end0; exact ⟨rfl, .slice (some ⟨g, 0, none⟩) (q + 1) gc, hfin.1, hfin.2.1, hfin.2.2.1, hfin.2.2.2⟩)
      | (go_ret; exact ⟨rfl, .slice (some ⟨g, 0, none⟩) (q + 1) gc, hfin.1, hfin.2.1, hfin.2.2.1, hfin.2.2.2⟩)
end Go.Proofs.YtmlikkjahkdilaaGreatDoor
