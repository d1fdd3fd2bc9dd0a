/- Package disk: Delete, a file that isn't there, a disk of any size. -/
import Derived.Test.YtmlikkjahkdilaaGreatDoorDiskDel
namespace Go.Proofs.YtmlikkjahkdilaaGreatDoor
open Go.RowKit Go.Maps

theorem row_slice0 {w : World} {B k : Nat} {e : TypeId} {v : Value} {xs : List Value} (h : w.ownsRow B e 1 v k xs) : ∃ a c, v = .slice a k c := by
  rcases h.2 with ⟨rfl, h0⟩ | ⟨g, cap, cur, rfl, _⟩
  · exact ⟨none, 0, by rw [h0]⟩
  · exact ⟨_, _, rfl⟩
set_option maxRecDepth 100000 in
set_option maxHeartbeats 4000000 in
theorem delete_yes (p L m n B k : Nat) (cp used : Int) (chg v : Value) (xs cs : List Value) (q : Nat) (D : DataW Unit) (name : ByteArray) (w : World) (hk : DiskAt w p cp (.map (some L)) chg (.map (some m)) used)
    (ho : FM w m n D) (hname : name.size ≤ 64) (hhas : Maps.has D (sk name) = true) (hv : hdr v = some (D.atKey (sk name) (hd (.slice none 0 0)), [])) (hrow : w.ownsRow B 5 1 v k xs) (hB : B ≤ w.heap.size)
    (hcs : w.ownsRow B 71 1 chg q cs) (hq : q ≤ 8796093022206) (hu : (k : Int) ≤ used ∧ used ≤ 9223372036854775807) :
    Calls Tryz.prog 20 #[.pointer (some ⟨p, 0, none⟩), .string name] w fun e w' => e = .returned (.int .i64 0) ∧ ∃ chg', DiskAt w' p cp (.map (some L)) chg' (.map (some m)) (used - k) ∧ FM w' m n (D.del (sk name)) ∧
      w'.ownsRow B 71 1 chg' (q + 1) (cs ++ [dl name]) ∧ Tch w w' (fun i => i = p ∨ i = m ∨ some i = chg.ownBlock) := by
  have hnm : name.size ≤ maxLen := by unfold maxLen; omega
  have hh := holds_any p m n cp used _ chg v D name w hk ho hnm true hhas hv
  have hlk := look_file ho.drew hnm hv
  obtain ⟨a, c, rfl⟩ := row_slice0 hrow
  have hw1 : wrap64 (used - k) = used - k := IntWalk.wrap64_in _ ⟨by omega, by omega⟩
  have HK := Lib.hid hk
  have HO := Lib.hid (And.intro ho hcs)
  have c3 := hk.c3
  have c4 := hk.c4
  have f4 := hk.fr 4
  clear hk ho hrow hcs hhas hv
  go_enter Tryz.func20, Tryz.ntmps20
  go_wp2_with (fail)
  refine hh.mono ?_
  rintro e w' ⟨rfl, rfl⟩
  clear hh
  go_upto_region 5 with (fail)
  go_region
  have H5 : Hid (DiskAt (w.setCell ⟨p, 4, none⟩ (.int .i64 (used - k))).drew p cp (.map (some L)) chg (.map (some m)) (used - k) ∧ FM (w.setCell ⟨p, 4, none⟩ (.int .i64 (used - k))).drew m n D ∧ (w.setCell ⟨p, 4, none⟩ (.int .i64 (used - k))).drew.ownsRow B 71 1 chg q cs ∧ Tch w (w.setCell ⟨p, 4, none⟩ (.int .i64 (used - k))).drew (fun i => i = p)) := Lib.hid (by
    have t0 := tch_set w ⟨p, 4, none⟩ (.int .i64 (used - k))
    have t1 : Tch (w.setCell ⟨p, 4, none⟩ (.int .i64 (used - k))) (w.setCell ⟨p, 4, none⟩ (.int .i64 (used - k))).drew (fun _ => False) := tch_below _ (Below.refl _ _).drew
    have tt : Tch w (w.setCell ⟨p, 4, none⟩ (.int .i64 (used - k))).drew (fun i => i = p) := Tch.then t0 t1 (fun _ _ h => h.elim)
    obtain ⟨ho, hcs⟩ := HO.out
    exact ⟨(HK.out.uses _).tch t1 (fun e => e), fm_tch ho tt (fun e => map_apart HK.out.ty ho e.symm), row_tch hcs tt (fun b hb => cells_apart (row_at hcs hb) HK.out.ty (by decide)), tt⟩)
  generalize (w.setCell ⟨p, 4, none⟩ (.int .i64 (used - k))).drew = w5 at *
  clear hlk hw1 c3 c4 f4 HO
  go_wp2_with (fail)
  refine (clone_any name w5 (by omega)).mono ?_
  rintro e w6 ⟨rfl, hb6⟩
  have t6 := tch_below (fun _ => False) hb6
  have hen := enter_del p L m n B cp (used - k) chg cs q D name w6 (H5.out.1.tch t6 (fun e => e)) (fm_tch H5.out.2.1 t6 (fun e => e)) hnm (Nat.le_trans hB (Nat.le_trans H5.out.2.2.2.size t6.size)) (row_tch H5.out.2.2.1 t6 (fun _ _ e => e)) hq
  have T6 : Hid (Tch w w6 (fun i => i = p)) := Lib.hid (H5.out.2.2.2.then t6 (fun _ _ h => h.elim))
  clear hb6 t6 H5
  go_wp2_with (fail)
  refine hen.mono ?_
  rintro e w7 ⟨rfl, chg', q1, q2, q3, q4⟩
  have H7 := Lib.hid (And.intro q1 (And.intro q2 q3))
  have T7 : Tch w w7 (fun i => i = p ∨ i = m ∨ some i = chg.ownBlock) := Tch.then ⟨T6.out.os, T6.out.tape, T6.out.output, T6.out.size, fun k hk hn => T6.out.block k hk (fun e => hn (.inl e))⟩ q4 (fun _ _ h => h)
  have HT7 := Lib.hid T7
  clear q1 q2 q3 q4 T7 hen T6
  go_wp2
  go_ret
  exact ⟨rfl, chg', H7.out.1, H7.out.2.1, H7.out.2.2, HT7.out⟩
theorem look_nil_file (w : World) (s : ByteArray) (hs : s.size ≤ maxLen) : (Instr.lookup 62 (.map none) (.string s) true).run Tryz.prog w = .ok (.tuple #[.slice none 0 0, .bool false]) w := by
  have := Maps.look_nil (w := w) true strLaw Tryz.underlying62 (zeroRow w) (Go.WideMaps.keyOf_string_mk Tryz.underlying9 hs)
  simpa using this
theorem holds_nil (p : Nat) (cp used : Int) (last chg : Value) (name : ByteArray) (w : World) (hd0 : DiskAt w p cp last chg (.map none) used) (hname : name.size ≤ maxLen) :
    Calls Tryz.prog 43 #[.pointer (some ⟨p, 0, none⟩), .string name] w fun e w' => e = .returned (.bool false) ∧ w = w' := by
  have hl := look_nil_file w name hname
  have c3 := hd0.c3
  clear hd0 hname
  go_enter Tryz.func43, Tryz.ntmps43
  go_wp2
  go_ret
  exact ⟨rfl, rfl⟩
theorem read_not (p : Nat) (name : ByteArray) (w : World) (hh : Calls Tryz.prog 43 #[.pointer (some ⟨p, 0, none⟩), .string name] w fun e w' => e = .returned (.bool false) ∧ w = w') :
    Calls Tryz.prog 45 #[.pointer (some ⟨p, 0, none⟩), .string name] w fun e w' => e = .returned (.tuple #[.string ⟨#[]⟩, .int .i64 41]) ∧ w = w' := by
  go_enter Tryz.func45, Tryz.ntmps45
  go_wp2_with (fail)
  refine hh.mono ?_
  rintro e w' ⟨rfl, rfl⟩
  clear hh
  go_wp2
  go_ret2
  exact ⟨rfl, rfl⟩
theorem dnew_any (room : Int) (w : World) : Calls Tryz.prog 14 #[.int .i64 room] w fun e w' => e = .returned (.pointer (some ⟨w.heap.size, 0, none⟩)) ∧ DiskAt w' w.heap.size (max room 0) (.map none) (.slice none 0 0) (.map none) 0 ∧ Below w.heap.size w w' := by
  go_enter Tryz.func14, Tryz.ntmps14
  go_wp2
  all_goals
    go_ret
    refine ⟨rfl, ⟨?_, ?_, ?_, ?_, ?_, ?_, ?_⟩, (Below.refl _ w).alloc (Nat.le_refl _) _⟩
    · simp <;> omega
    · simp
    · simp
    · simp
    · simp
    · intro i; simp
    · exact ⟨_, heap_alloc_new w _⟩
end Go.Proofs.YtmlikkjahkdilaaGreatDoor
