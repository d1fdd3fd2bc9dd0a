/- Package disk: Append. -/
import Derived.Test.YtmlikkjahkdilaaGreatDoorDiskFirst
import Derived.Test.YtmlikkjahkdilaaGreatDoorLawEnd
import Derived.Deep.QuietTactic
import Derived.BigQuiet
import Derived.IntWalk
namespace Go.Proofs.YtmlikkjahkdilaaGreatDoor
open Go.RowKit Go.Maps

theorem some_name {R : ByteArray} (h : 0 < R.size) : R.toList.isEmpty = false := by
  rw [ByteArray.toList_eq]
  cases hl : R.data.toList with
  | nil => have : R.data.toList.length = 0 := by rw [hl]; rfl
           have h2 : R.data.size = 0 := by simpa using this
           have : R.size = 0 := h2
           omega
  | cons => rfl
theorem isName_any (s : ByteArray) (w : World) (h1 : 1 ≤ s.size) (h2 : s.size ≤ 64) :
    Calls Tryz.prog 48 #[.string s] w fun e w' => e = .returned (.bool true) ∧ w = w' := by
  have hne := some_name (R := s) h1
  have hle : (s.size : Int) ≤ 64 := by omega
  go_enter Tryz.func48, Tryz.ntmps48
  go_wp2
  go_ret
  exact ⟨rfl, rfl⟩
theorem DiskAt.uses {w : World} {p : Nat} {cp : Int} {l c h : Value} {u : Int} (d : DiskAt w p cp l c h u) (u' : Int) : DiskAt (w.setCell ⟨p, 4, none⟩ (.int .i64 u')) p cp l c h u' :=
  ⟨(World.cell?_setCell_other _ _ _ _ (by simp)).trans d.c0, (World.cell?_setCell_other _ _ _ _ (by simp)).trans d.c1, (World.cell?_setCell_other _ _ _ _ (by simp)).trans d.c2, (World.cell?_setCell_other _ _ _ _ (by simp)).trans d.c3, World.cell?_setCell_same _ _ _ d.c4,
    fun i => by rw [World.frozen?_setCell]; exact d.fr i, ty_set _ d.ty⟩
set_option maxRecDepth 100000 in
set_option maxHeartbeats 4000000 in
theorem append_first (p B : Nat) (cp : Int) (name data : ByteArray) (w : World) (hk : DiskAt w p cp (.map none) (.slice none 0 0) (.map none) 0)
    (h1 : 1 ≤ name.size) (h2 : name.size ≤ 64) (hB : B ≤ w.heap.size) (hsz : data.size ≤ 140737488351232) (hcp : (data.size : Int) ≤ cp) (hcp2 : cp ≤ 9223372036854775807) :
    Calls Tryz.prog 28 #[.pointer (some ⟨p, 0, none⟩), .string name, .string data] w fun e w' => e = .returned (.int .i64 0) ∧ ∃ L m v' chg', DiskAt w' p cp (.map (some L)) chg' (.map (some m)) (data.size : Int) ∧ FM w' m 1 ((DataW.map []).put (sk name) (hd v')) ∧
      w'.ownsRow B 5 1 v' (0 + data.size) ([] ++ Lib.strCells data) ∧ w'.ownsRow B 71 1 chg' 1 [ap name data] ∧ FM w' L 0 (.map []) ∧ Tch w w' (fun i => i = p) ∧ (w.heap.size ≤ L ∧ w.heap.size ≤ m) := by
  have HK := Lib.hid hk
  have hnm := isName_any name w h1 h2
  obtain ⟨c0, c1, c2, c3, c4, fr, ty⟩ := hk
  clear ty
  have hle : ¬ cp < (data.size : Int) := by omega
  go_enter Tryz.func28, Tryz.ntmps28
  go_upto_region 5 with (first | (go_at_call 48; refine hnm.mono ?_; rintro e w' ⟨rfl, rfl⟩) | go_in | go_quiet (fail))
  have hbn : Below w.heap.size w (w.drewN nq) := below_drewN (Below.refl _ w) nq
  generalize w.drewN nq = w1 at *
  have HB1 := Lib.hid hbn
  clear hbn c0 c1 c2 c3 c4 fr hnm
  go_wp2_with (fail)
  refine (clone_any name w1 (by omega)).mono ?_
  rintro e w2 ⟨rfl, hb2⟩
  have HB2 := Lib.hid (HB1.out.trans (hb2.mono HB1.out.size))
  clear hb2 HB1
  go_wp2_with (fail)
  refine (clone_any data w2 (by omega)).mono ?_
  rintro e w3 ⟨rfl, hb3⟩
  have HB3 := Lib.hid (HB2.out.trans (hb3.mono HB2.out.size))
  clear hb3 HB2
  have HD3 := Lib.hid (HK.out.tch (tch_below (fun _ => False) HB3.out) (fun e => e))
  go_wp2_with (fail)
  refine (enter_first p B cp 0 (.slice none 0 0) [] 0 name data w3 HD3.out (by unfold maxLen; omega) (Nat.le_trans hB HB3.out.size) (by omega) (World.ownsRow_nil _ _ _ _) (by omega)).mono ?_
  rintro e w4 ⟨rfl, L, m, v1, g1, hd4, hf4, hr4, hc4, hl4, ht4, hL4⟩
  have d4 := hd4.c4
  have d5 := hd4.fr 4
  have HF := Lib.hid (And.intro hd4 (And.intro hf4 (And.intro hr4 (And.intro hc4 (And.intro hl4 (And.intro ht4 (And.intro (Nat.le_trans HB3.out.size hL4.1) (Nat.le_trans HB3.out.size hL4.2))))))))
  clear hd4 hf4 hr4 hc4 hl4 ht4 hL4 HD3
  go_wp2
  go_ret
  refine ⟨rfl, L, m, v1, g1, ?_⟩
  obtain ⟨hd4, hf4, hr4, hc4, hl4, ht4, hL4⟩ := HF.out
  have ts := tch_set w4 ⟨p, 4, none⟩ (.int .i64 (data.size : Int))
  refine ⟨hd4.uses _, fm_tch hf4 ts (fun e => map_apart hd4.ty hf4 e.symm), row_tch hr4 ts (fun b hb => cells_apart (row_at hr4 hb) hd4.ty (by decide)), row_tch hc4 ts (fun b hb => cells_apart (row_at hc4 hb) hd4.ty (by decide)), fm_tch hl4 ts (fun e => map_apart hd4.ty hl4 e.symm), ?_, hL4⟩
  exact ((tch_below (fun i => i = p) HB3.out).then ht4 (fun i _ h => h.elim id (fun e => by cases e))).then ts (fun i _ h => h)
end Go.Proofs.YtmlikkjahkdilaaGreatDoor
