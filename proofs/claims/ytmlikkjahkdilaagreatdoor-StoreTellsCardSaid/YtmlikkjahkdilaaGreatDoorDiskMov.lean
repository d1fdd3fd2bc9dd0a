/- Package disk: Rename. -/
import Derived.Test.YtmlikkjahkdilaaGreatDoorDiskRen
namespace Go.Proofs.YtmlikkjahkdilaaGreatDoor
open Go.RowKit Go.Maps

set_option maxRecDepth 100000 in
set_option maxHeartbeats 4000000 in
theorem rename_yes (p L m n B : Nat) (cp used : Int) (chg v v2 : Value) (cs : List Value) (q : Nat) (D : DataW Unit) (fm tt : ByteArray) (w : World) (hk : DiskAt w p cp (.map (some L)) chg (.map (some m)) used)
    (ho : FM w m n D) (hn : n < maxLen) (hf0 : fm.size ≤ 281474976710656) (h1 : 1 ≤ tt.size) (h2 : tt.size ≤ 64) (hhf : Maps.has D (sk fm) = true) (hht : Maps.has D (sk tt) = false)
    (hv : hdr v = some (D.atKey (sk fm) (hd (.slice none 0 0)), [])) (hv2 : hdr v2 = some (D.atKey (sk tt) (hd (.slice none 0 0)), [])) (hB : B ≤ w.heap.size)
    (hcs : w.ownsRow B 71 1 chg q cs) (hq : q ≤ 8796093022206) :
    Calls Tryz.prog 31 #[.pointer (some ⟨p, 0, none⟩), .string fm, .string tt] w fun e w' => e = .returned (.int .i64 0) ∧ ∃ chg', DiskAt w' p cp (.map (some L)) chg' (.map (some m)) used ∧ FM w' m (n + 1) ((D.put (sk tt) (hd v)).del (sk fm)) ∧
      w'.ownsRow B 71 1 chg' (q + 1) (cs ++ [rn fm tt]) ∧ Tch w w' (fun i => i = p ∨ i = m ∨ some i = chg.ownBlock) := by
  have ht : tt.size ≤ maxLen := by unfold maxLen; omega
  have hf : fm.size ≤ maxLen := by unfold maxLen; omega
  have hnm := isName_any tt w h1 h2
  have hh := holds_any p m n cp used _ chg v D fm w hk ho hf true hhf hv
  have hh2 := holds_any p m n cp used _ chg v2 D tt w hk ho ht false hht hv2
  have H0 := Lib.hid (And.intro hk (And.intro ho (And.intro hcs hv)))
  clear hk ho hcs hhf hht hv hv2
  go_enter Tryz.func31, Tryz.ntmps31
  go_wp2_with (fail)
  refine hnm.mono ?_
  rintro e w' ⟨rfl, rfl⟩
  clear hnm
  go_wp2_with (fail)
  refine hh.mono ?_
  rintro e w' ⟨rfl, rfl⟩
  clear hh
  go_wp2_with (fail)
  refine hh2.mono ?_
  rintro e w' ⟨rfl, rfl⟩
  clear hh2
  go_wp2_with (fail)
  refine (clone_any fm w hf0).mono ?_
  rintro e w2 ⟨rfl, hb2⟩
  have HB2 := Lib.hid hb2
  clear hb2
  go_wp2_with (fail)
  refine (clone_any tt w2 (by omega)).mono ?_
  rintro e w3 ⟨rfl, hb3⟩
  have hb := HB2.out.trans (hb3.mono HB2.out.size)
  have t := tch_below (fun _ => False) hb
  obtain ⟨hk, ho, hcs, hv⟩ := H0.out
  have hen := enter_ren p L m n B cp used chg cs q D fm tt w3 hn hf ht v hv (hk.tch t (fun e => e)) (fm_tch ho t (fun e => e)) (Nat.le_trans hB hb.size) (row_tch hcs t (fun _ _ e => e)) hq
  have HT := Lib.hid t
  clear hb3 hb t hk ho hcs hv HB2
  go_wp2_with (fail)
  refine hen.mono ?_
  rintro e w7 ⟨rfl, chg', q1, q2, q3, q4⟩
  have T7 : Tch w w7 (fun i => i = p ∨ i = m ∨ some i = chg.ownBlock) := Tch.then ⟨HT.out.os, HT.out.tape, HT.out.output, HT.out.size, fun k hk _ => HT.out.block k hk (fun e => e)⟩ q4 (fun _ _ h => h)
  have H7 := Lib.hid (And.intro q1 (And.intro q2 q3))
  have HT7 := Lib.hid T7
  clear q1 q2 q3 q4 T7 hen HT
  go_wp2
  go_ret
  exact ⟨rfl, chg', H7.out.1, H7.out.2.1, H7.out.2.2, HT7.out⟩
end Go.Proofs.YtmlikkjahkdilaaGreatDoor
