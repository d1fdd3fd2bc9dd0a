/- Package disk: Append to a disk that was written. -/
import Derived.Test.YtmlikkjahkdilaaGreatDoorDiskApp
namespace Go.Proofs.YtmlikkjahkdilaaGreatDoor
open Go.RowKit Go.Maps

set_option maxRecDepth 100000 in
set_option maxHeartbeats 4000000 in
theorem append_some (p L m n B k : Nat) (cp used : Int) (chg v : Value) (xs cs : List Value) (q : Nat) (D : DataW Unit) (name data : ByteArray) (w : World) (hk : DiskAt w p cp (.map (some L)) chg (.map (some m)) used)
    (ho : FM w m n D) (hn : n < maxLen) (hv : hdr v = some (D.atKey (sk name) (hd (.slice none 0 0)), [])) (hrow : w.ownsRow B 5 1 v k xs) (hk2 : k + data.size ≤ 140737488355328)
    (hcs : w.ownsRow B 71 1 chg q cs) (hq : q ≤ 8796093022206) (hu : 0 ≤ used)
    (h1 : 1 ≤ name.size) (h2 : name.size ≤ 64) (hB : B ≤ w.heap.size) (hsz : data.size ≤ 140737488351232) (hcp : (data.size : Int) ≤ cp - used) (hcp2 : cp ≤ 9223372036854775807) :
    Calls Tryz.prog 28 #[.pointer (some ⟨p, 0, none⟩), .string name, .string data] w fun e w' => e = .returned (.int .i64 0) ∧ ∃ v' chg', DiskAt w' p cp (.map (some L)) chg' (.map (some m)) (used + data.size) ∧ FM w' m (n + 1) (D.put (sk name) (hd v')) ∧
      w'.ownsRow B 5 1 v' (k + data.size) (xs ++ Lib.strCells data) ∧ w'.ownsRow B 71 1 chg' (q + 1) (cs ++ [ap name data]) ∧ Tch w w' (fun i => i = p ∨ i = m ∨ some i = v.ownBlock ∨ some i = chg.ownBlock) ∧ (∀ b, v'.ownBlock = some b → v.ownBlock = some b ∨ w.heap.size ≤ b) := by
  have HO := Lib.hid ho
  have HR := Lib.hid hrow
  have HC := Lib.hid hcs
  have HU := Lib.hid (show -9223372036854775808 ≤ cp - used ∧ cp - used < 9223372036854775808 ∧ -9223372036854775808 ≤ used + data.size ∧ used + data.size < 9223372036854775808 by omega)
  clear ho hrow hcs
  have HK := Lib.hid hk
  have hnm := isName_any name w h1 h2
  obtain ⟨c0, c1, c2, c3, c4, fr, ty⟩ := hk
  clear ty
  have hle : ¬ cp - used < (data.size : Int) := by omega
  go_enter Tryz.func28, Tryz.ntmps28
  go_upto_region 5 with (first | (go_at_call 48; refine hnm.mono ?_; rintro e w' ⟨rfl, rfl⟩) | go_in | go_quiet (fail))
  have hbn : Below w.heap.size w (w.drewN nq) := below_drewN (Below.refl _ w) nq
  generalize w.drewN nq = w1 at *
  have HB1 := Lib.hid hbn
  clear hbn c0 c1 c2 c3 c4 fr hnm
  go_wp2_with (fail)
  refine (clone_any name w1 (by omega)).mono ?_
  rintro e w2 ⟨rfl, hb2⟩
  have HB2 := Lib.hid (HB1.out.trans (hb2.mono HB1.out.size))
  clear hb2 HB1
  go_wp2_with (fail)
  refine (clone_any data w2 (by omega)).mono ?_
  rintro e w3 ⟨rfl, hb3⟩
  have HB3 := Lib.hid (HB2.out.trans (hb3.mono HB2.out.size))
  clear hb3 HB2
  have TF := Lib.hid (tch_below (fun _ => False) HB3.out)
  have HD3 := Lib.hid (HK.out.tch TF.out (fun e => e))
  go_wp2_with (fail)
  refine (enter_some p L m n B k cp used chg v xs cs q D name data w3 HD3.out (fm_tch HO.out TF.out (fun e => e)) hn (by unfold maxLen; omega) hv (row_tch HR.out TF.out (fun _ _ e => e)) (Nat.le_trans hB HB3.out.size) (by omega) (row_tch HC.out TF.out (fun _ _ e => e)) hq).mono ?_
  rintro e w4 ⟨rfl, v1, g1, hd4, hf4, hr4, hc4, ht4, hx4⟩
  have d4 := hd4.c4
  have d5 := hd4.fr 4
  have HX4 : ∀ b, v1.ownBlock = some b → v.ownBlock = some b ∨ w.heap.size ≤ b := fun b hb => (hx4 b hb).imp id (fun h => Nat.le_trans HB3.out.size h)
  have HF := Lib.hid (And.intro hd4 (And.intro hf4 (And.intro hr4 (And.intro hc4 (And.intro ht4 HX4)))))
  clear hd4 hf4 hr4 hc4 ht4 hx4 HX4 HD3 TF HO HR HC
  go_wp2
  go_ret
  refine ⟨rfl, v1, g1, ?_⟩
  obtain ⟨hd4, hf4, hr4, hc4, ht4, hx4⟩ := HF.out
  have ts := tch_set w4 ⟨p, 4, none⟩ (.int .i64 (used + (data.size : Int)))
  refine ⟨hd4.uses _, fm_tch hf4 ts (fun e => map_apart hd4.ty hf4 e.symm), row_tch hr4 ts (fun b hb => cells_apart (row_at hr4 hb) hd4.ty (by decide)), row_tch hc4 ts (fun b hb => cells_apart (row_at hc4 hb) hd4.ty (by decide)), ?_, hx4⟩
  exact ((tch_below (fun i => i = p ∨ i = m ∨ some i = v.ownBlock ∨ some i = chg.ownBlock) HB3.out).then ht4 (fun i _ h => h)).then ts (fun i _ h => .inl h)
end Go.Proofs.YtmlikkjahkdilaaGreatDoor
