/- Package disk: Sync with one change; settling none. -/
import Derived.Test.YtmlikkjahkdilaaGreatDoorDiskSync
namespace Go.Proofs.YtmlikkjahkdilaaGreatDoor
open Go.RowKit Go.Maps

set_option maxRecDepth 100000 in
set_option maxHeartbeats 4000000 in
theorem sync_one {B2 : Nat} (p L B gc n k : Nat) (g : Nat) (cp used : Int) (held v : Value) (xs : List Value) (D : DataW Unit) (name data : ByteArray) (w : World) (hk : DiskAt w p cp (.map (some L)) (.slice (some ⟨g, 0, none⟩) 1 gc) held used)
    (ho : FM w L n D) (hn : n < maxLen) (hname : name.size ≤ maxLen) (hv : hdr v = some (D.atKey (sk name) (hd (.slice none 0 0)), [])) (hrow : w.ownsRow B 5 1 v k xs) (hB : B ≤ w.heap.size) (hsz : k + data.size ≤ 140737488355328)
    (hcs : w.ownsRow B2 71 1 (.slice (some ⟨g, 0, none⟩) 1 gc) 1 [ap name data]) (hgc : 1 ≤ gc) :
    Calls Tryz.prog 21 #[.pointer (some ⟨p, 0, none⟩)] w fun e w' => e = .returned (.tuple #[]) ∧ ∃ v', DiskAt w' p cp (.map (some L)) (.slice none 0 0) held used ∧ FM w' L (n + 1) (D.put (sk name) (hd v')) ∧
      w'.ownsRow B 5 1 v' (k + data.size) (xs ++ Lib.strCells data) ∧ Tch w w' (fun i => i = p ∨ i = L ∨ some i = v.ownBlock) := by
  have hst := settle_one p L B gc n k g cp used held v xs D name data w hk ho hn hname hv hrow hB hsz hcs hgc
  have c2 := hk.c2
  clear hk ho hrow hcs
  go_enter Tryz.func21, Tryz.ntmps21
  go_wp2_with (fail)
  refine hst.mono ?_
  rintro e w1 ⟨rfl, v1, chg, hd1, hf1, hr1, ht1⟩
  have d2 := hd1.c2
  have f2 := hd1.fr 2
  have HF := Lib.hid (And.intro hd1 (And.intro hf1 (And.intro hr1 ht1)))
  clear hst c2 hd1 hf1 hr1 ht1
  go_wp2
  have hfin : DiskAt (w1.setCell ⟨p, 2, none⟩ (.slice none 0 0)) p cp (.map (some L)) (.slice none 0 0) held used ∧ FM (w1.setCell ⟨p, 2, none⟩ (.slice none 0 0)) L (n + 1) (D.put (sk name) (hd v1)) ∧ (w1.setCell ⟨p, 2, none⟩ (.slice none 0 0)).ownsRow B 5 1 v1 (k + data.size) (xs ++ Lib.strCells data) ∧
      Tch w (w1.setCell ⟨p, 2, none⟩ (.slice none 0 0)) (fun i => i = p ∨ i = L ∨ some i = v.ownBlock) := by
    obtain ⟨hd1, hf1, hr1, ht1⟩ := HF.out
    have ts := tch_set w1 ⟨p, 2, none⟩ (.slice none 0 0)
    exact ⟨hd1.chg _, fm_tch hf1 ts (fun e => map_apart hd1.ty hf1 e.symm), row_tch hr1 ts (fun b hb => cells_apart (row_at hr1 hb) hd1.ty (by decide)), ht1.then ts (fun i _ h => .inl h)⟩
  first
    | (go_end0; exact ⟨rfl, v1, hfin⟩)
    | (go_ret; exact ⟨rfl, v1, hfin⟩)
    | exact bodyPost_ret (v := .tuple #[]) (results_none rfl _ _ _) rfl ⟨rfl, v1, hfin⟩
set_option maxRecDepth 100000 in
set_option maxHeartbeats 4000000 in
theorem settle_none (p gc : Nat) (g q : Nat) (cp used : Int) (last held : Value) (w : World) (hk : DiskAt w p cp last (.slice (some ⟨g, 0, none⟩) q gc) held used) (hq : q ≤ gc) (hg2 : gc ≤ 9223372036854775807) :
    Calls Tryz.prog 34 #[.pointer (some ⟨p, 0, none⟩), .int .i64 0] w fun e w' => e = .returned (.tuple #[]) ∧ w.setCell ⟨p, 2, none⟩ (.slice (some ⟨g, 0, none⟩) q gc) = w' := by
  obtain ⟨c0, c1, c2, c3, c4, fr, ty⟩ := hk
  clear ty
  have hq1 : (q : Int) ≤ (gc : Int) := by omega
  have f2 := fr 2
  go_enter Tryz.func34, Tryz.ntmps34
  go_wp2
  go_loopw [13] (fun i wr => i = .int .i64 0 ∧ w = wr) (fun _ _ => 0)
  case atStart => exact ⟨rfl, rfl⟩
  case round =>
    obtain ⟨rfl, rfl⟩ := hrel
    go_wp2
    first
      | (go_end0; exact ⟨rfl, rfl⟩)
      | (go_ret; exact ⟨rfl, rfl⟩)
      | exact bodyPost_ret (v := .tuple #[]) (results_none rfl _ _ _) rfl ⟨rfl, rfl⟩
end Go.Proofs.YtmlikkjahkdilaaGreatDoor
