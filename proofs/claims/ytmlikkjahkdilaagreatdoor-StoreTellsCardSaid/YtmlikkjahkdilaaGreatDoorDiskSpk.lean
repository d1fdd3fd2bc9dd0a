/- Package disk: a file is read; the laws' own check. -/
import Derived.Test.YtmlikkjahkdilaaGreatDoorDiskAnew
namespace Go.Proofs.YtmlikkjahkdilaaGreatDoor
open Go.RowKit Go.Maps

theorem look_ok_file {w : World} {m n : Nat} {D : DataW Unit} {s : ByteArray} {v : Value} (h : FM w m n D) (hs : s.size ≤ maxLen) (hv : hdr v = some (D.atKey (sk s) (hd (.slice none 0 0)), [])) :
    (Instr.lookup 62 (.map (some m)) (.string s) true).run Tryz.prog w = .ok (.tuple #[v, .bool (Maps.has D (sk s))]) w := by
  obtain ⟨v2, ps, hrun, hv2⟩ := h.look_ok strLaw Tryz.underlying62 (zeroRow w) (zd := hd (.slice none 0 0)) (zp := []) rfl (Go.WideMaps.keyOf_string_mk Tryz.underlying9 hs)
  have hp : ps = [] := hdr_ps hv2
  subst hp
  rw [hdr_inj hv hv2]
  exact hrun
theorem convert_row {w : World} {B k c g : Nat} {s : ByteArray} (hrow : w.ownsRow B 5 1 (.slice (some ⟨g, 0, none⟩) k c) k (Lib.strCells s)) : (convert 76 9 (.slice (some ⟨g, 0, none⟩) k c)).run Tryz.prog w = .ok (.string s) w := by
  have hl : s.data.toList.length = k := by
    have := hrow.1
    simpa [Lib.strCells] using this
  have := run_convert_bytes_back (P := Tryz.prog) w 76 9 5 ⟨g, 0, none⟩ c s.data.toList Tryz.underlying76 Tryz.underlying5 Tryz.underlying9 (fun j hj => by
    have h2 := World.ownsRow.cells hrow (g := g) rfl j (.int .u8 (s.data.toList[j].toNat : Int)) (by simp [Lib.strCells]; exact ⟨_, Array.getElem?_eq_getElem (by simpa using hj), rfl⟩)
    simpa [Addr.add_lit] using h2)
  rw [hl] at this
  simpa using this
set_option maxRecDepth 100000 in
set_option maxHeartbeats 2000000 in
theorem holds_yes (p m n : Nat) (cp used : Int) (last chg v : Value) (D : DataW Unit) (name : ByteArray) (w : World) (hd0 : DiskAt w p cp last chg (.map (some m)) used) (ho : FM w m n D) (hname : name.size ≤ maxLen) (hhas : Maps.has D (sk name) = true)
    (hv : hdr v = some (D.atKey (sk name) (hd (.slice none 0 0)), [])) :
    Calls Tryz.prog 43 #[.pointer (some ⟨p, 0, none⟩), .string name] w fun e w' => e = .returned (.bool true) ∧ w = w' := by
  have hl := look_ok_file ho hname hv
  rw [hhas] at hl
  have c3 := hd0.c3
  clear hd0 ho hname hhas hv
  go_enter Tryz.func43, Tryz.ntmps43
  go_wp2
  go_ret
  exact ⟨rfl, rfl⟩
set_option maxRecDepth 100000 in
set_option maxHeartbeats 2000000 in
theorem read_yes (p m n k c g B : Nat) (cp used : Int) (last chg : Value) (D : DataW Unit) (name s : ByteArray) (w : World) (hd0 : DiskAt w p cp last chg (.map (some m)) used) (ho : FM w m n D) (hname : name.size ≤ maxLen) (hhas : Maps.has D (sk name) = true)
    (hv : hdr (.slice (some ⟨g, 0, none⟩) k c) = some (D.atKey (sk name) (hd (.slice none 0 0)), [])) (hrow : w.ownsRow B 5 1 (.slice (some ⟨g, 0, none⟩) k c) k (Lib.strCells s)) :
    Calls Tryz.prog 45 #[.pointer (some ⟨p, 0, none⟩), .string name] w fun e w' => e = .returned (.tuple #[.string s, .int .i64 0]) ∧ w = w' := by
  have hh := holds_yes p m n cp used last chg _ D name w hd0 ho hname hhas hv
  have hl := look_file ho hname hv
  have hc := convert_row hrow
  have c3 := hd0.c3
  clear hd0 ho hname hhas hv hrow
  go_enter Tryz.func45, Tryz.ntmps45
  go_wp2_with (fail)
  refine hh.mono ?_
  rintro e w' ⟨rfl, rfl⟩
  clear hh
  go_wp2
  go_ret2
  exact ⟨rfl, rfl⟩
set_option maxHeartbeats 1000000 in
theorem dnew_nine (w : World) : Calls Tryz.prog 14 #[.int .i64 9] w fun e w' => e = .returned (.pointer (some ⟨w.heap.size, 0, none⟩)) ∧ DiskAt w' w.heap.size 9 (.map none) (.slice none 0 0) (.map none) 0 ∧ Below w.heap.size w w' := by
  go_enter Tryz.func14, Tryz.ntmps14
  go_wp2
  go_ret
  refine ⟨rfl, ⟨?_, ?_, ?_, ?_, ?_, ?_, ?_⟩, (Below.refl _ w).alloc (Nat.le_refl _) _⟩
  · simp
  · simp
  · simp
  · simp
  · simp
  · intro i; simp
  · exact ⟨_, heap_alloc_new w _⟩
/-- two maps, of which one holds more -/
theorem fm_ne {w : World} {m L n n' : Nat} {name : ByteArray} {d : DataW Unit} (h : FM w m n (empF.put (sk name) d)) (h' : FM w L n' empF) : ¬ m = L := by
  rintro rfl
  obtain ⟨es, clock, q1, _, _, q4⟩ := h
  obtain ⟨es', clock', q1', _, _, q4'⟩ := h'
  rw [q1] at q1'
  injection q1' with q1'
  injection q1' with q1' _
  subst q1'
  have e : empF.put (sk name) d = empF := q4.trans q4'.symm
  have := Maps.has_put_same (D := empF) ⟨[], rfl⟩ (sk_key name) d
  rw [e] at this
  cases this
theorem strCells_one (s : ByteArray) : ∀ u ∈ Lib.strCells s, u.oneCell' = true := by
  intro u hu
  simp only [Lib.strCells, List.mem_map] at hu
  obtain ⟨b, _, rfl⟩ := hu
  rfl
theorem row_slice {w : World} {B k : Nat} {e : TypeId} {v : Value} {xs : List Value} (h : w.ownsRow B e 1 v k xs) (hk : 0 < k) : ∃ g c, v = .slice (some ⟨g, 0, none⟩) k c ∧ k ≤ c ∧ c ≤ maxLen := by
  rcases h.2 with ⟨_, h0⟩ | ⟨g, cap, cur, q1, _, _, q2, q3, _⟩
  · omega
  · exact ⟨g, cap, q1, q2, q3⟩
theorem row_nil (w : World) (B : Nat) (e : TypeId) : w.ownsRow B e 1 (.slice none 0 0) 0 [] := ⟨rfl, .inl ⟨rfl, rfl⟩⟩
def sA : ByteArray := ⟨#[97]⟩
def sAbc : ByteArray := ⟨#[97, 98, 99]⟩
def sDe : ByteArray := ⟨#[100, 101]⟩
def sAbcd : ByteArray := ⟨#[97, 98, 99, 100]⟩
/-- after the first append, the sync and the second append -/
structure Spk (w0 w : World) (p : Nat) : Prop where
  bel : Below w0.heap.size w0 w
  hp : w0.heap.size ≤ p
  st : ∃ (L m g gc : Nat) (v : Value), DiskAt w p 9 (.map (some L)) (.slice (some ⟨g, 0, none⟩) 1 gc) (.map (some m)) 5 ∧ w0.heap.size ≤ L ∧ (∀ b, v.ownBlock = some b → w0.heap.size ≤ b) ∧ FM w L 1 (empF.put (sk sA) (hd v)) ∧ w.ownsRow w0.heap.size 5 1 v 3 (Lib.strCells sAbc) ∧
    w.ownsRow w0.heap.size 71 1 (.slice (some ⟨g, 0, none⟩) 1 gc) 1 [ap sA sDe] ∧ 1 ≤ gc ∧ gc ≤ maxLen
theorem crash_spk {w0 w : World} {p : Nat} (h : Spk w0 w p) :
    Calls Tryz.prog 15 #[.pointer (some ⟨p, 0, none⟩), .int .i64 0, .int .i64 1] w fun e w' => e = .returned (.tuple #[]) ∧ Held1 w0 w' p sA 4 (Lib.strCells sAbcd) := by
  obtain ⟨hb, hp, L, m, g, gc, v, hd0, hL, hvb, ho, hrow, hcs, h1, h2⟩ := h
  have hv : hdr v = some ((empF.put (sk sA) (hd v)).atKey (sk sA) (hd (.slice none 0 0)), []) := by rw [put_at]; exact hdr_row hrow
  refine crash_one (Held1 w0 · p sA 4 (Lib.strCells sAbcd)) p L w0.heap.size gc 1 3 g 1 9 5 (.map (some m)) v (Lib.strCells sAbc) (empF.put (sk sA) (hd v)) sA sDe w hd0 ho (by unfold maxLen; omega) (by decide) hv hrow hb.size (by decide) hcs h1 (by unfold maxLen at h2; omega) (by omega) ?_
  intro w1 v1 k1 o1 r1 t1
  have r1' : w1.ownsRow w0.heap.size 5 1 v1 4 (Lib.strCells sAbcd) := r1
  obtain ⟨g1, c1, rfl, hc1, hc2⟩ := row_slice r1' (by omega)
  have hb1 : Below w0.heap.size w0 w1 := ⟨t1.os.trans hb.os, t1.tape.trans hb.tape, t1.output.trans hb.output, Nat.le_trans hb.size t1.size, fun i hi => (t1.block i (Nat.lt_of_lt_of_le hi hb.size) (fun e => by
    rcases e with e | e | e
    · omega
    · omega
    · have := hvb i e.symm; omega)).trans (hb.block i hi)⟩
  refine anew_one w0 p L w0.heap.size g1 (1 + 1) 4 c1 9 5 (.map (some m)) _ sA (Lib.strCells sAbcd) w1 hb1 hp k1 o1 (fun kl hkl => ?_) (Maps.has_put_same (IsMap.put ⟨[], rfl⟩ _ _) (sk_key sA) _) (by decide) ?_ r1' (by omega) (by omega) (strCells_one _)
  · by_cases e : kl = sk sA
    · exact e
    · rw [Maps.has_put_other e] at hkl
      exact put_one sA _ kl hkl
  · rw [Maps.atKey_put_same (IsMap.put ⟨[], rfl⟩ _ _) (sk_key sA)]
    exact hdr_row r1'
theorem read_spk {w0 w : World} {p : Nat} (h : Held1 w0 w p sA 4 (Lib.strCells sAbcd)) :
    Calls Tryz.prog 45 #[.pointer (some ⟨p, 0, none⟩), .string sA] w fun e w' => e = .returned (.tuple #[.string sAbcd, .int .i64 0]) ∧ Below w0.heap.size w0 w' := by
  obtain ⟨hb, m, cp, used, last, chg, v, hd0, ho, hrow⟩ := h
  obtain ⟨g, c, rfl, _, _⟩ := row_slice hrow (by omega)
  refine (read_yes p m 1 4 c g w0.heap.size cp used last chg _ sA sAbcd w hd0 ho (by decide) (Maps.has_put_same ⟨[], rfl⟩ (sk_key sA) _) (by rw [put_at]; exact hdr_row hrow) hrow).mono ?_
  rintro e w' ⟨he, rfl⟩
  exact ⟨he, hb⟩
/-- after the first append -/
def Sp1 (w0 w : World) (p : Nat) : Prop := Below w0.heap.size w0 w ∧ w0.heap.size ≤ p ∧ ∃ (L m g gc : Nat) (v : Value), DiskAt w p 9 (.map (some L)) (.slice (some ⟨g, 0, none⟩) 1 gc) (.map (some m)) 3 ∧ w0.heap.size ≤ L ∧ w0.heap.size ≤ m ∧ FM w m 1 (empF.put (sk sA) (hd v)) ∧ w.ownsRow w0.heap.size 5 1 v 3 (Lib.strCells sAbc) ∧
  w.ownsRow w0.heap.size 71 1 (.slice (some ⟨g, 0, none⟩) 1 gc) 1 [ap sA sAbc] ∧ FM w L 0 empF ∧ 1 ≤ gc
/-- after the sync -/
def Sp2 (w0 w : World) (p : Nat) : Prop := Below w0.heap.size w0 w ∧ w0.heap.size ≤ p ∧ ∃ (L m : Nat) (v v2 : Value), DiskAt w p 9 (.map (some L)) (.slice none 0 0) (.map (some m)) 3 ∧ w0.heap.size ≤ L ∧ w0.heap.size ≤ m ∧ FM w m 1 (empF.put (sk sA) (hd v)) ∧ w.ownsRow w0.heap.size 5 1 v 3 (Lib.strCells sAbc) ∧
  FM w L 1 (empF.put (sk sA) (hd v2)) ∧ w.ownsRow w0.heap.size 5 1 v2 3 (Lib.strCells sAbc) ∧ ¬ m = L ∧ ∀ b, v2.ownBlock = some b → v.ownBlock ≠ some b
theorem sp1 {w0 w : World} {p : Nat} (hb : Below w0.heap.size w0 w) (hp : w0.heap.size ≤ p) (hd0 : DiskAt w p 9 (.map none) (.slice none 0 0) (.map none) 0) :
    Calls Tryz.prog 28 #[.pointer (some ⟨p, 0, none⟩), .string sA, .string sAbc] w fun e w' => e = .returned (.int .i64 0) ∧ Sp1 w0 w' p := by
  refine (append_first p w0.heap.size 9 sA sAbc w hd0 (by decide) (by decide) hb.size (by decide) (by decide) (by decide)).mono ?_
  rintro e w' ⟨he, L, m, v, chg, h1, h2, h3, h4, h5, t, hL⟩
  obtain ⟨g, gc, rfl, hg1, _⟩ := row_slice h4 (by omega)
  exact ⟨he, ⟨t.os.trans hb.os, t.tape.trans hb.tape, t.output.trans hb.output, Nat.le_trans hb.size t.size, fun i hi => (t.block i (Nat.lt_of_lt_of_le hi hb.size) (fun e => by omega)).trans (hb.block i hi)⟩, hp, L, m, g, gc, v, h1, Nat.le_trans hb.size hL.1, Nat.le_trans hb.size hL.2, h2, h3, h4, h5, hg1⟩
theorem sp2 {w0 w : World} {p : Nat} (h : Sp1 w0 w p) :
    Calls Tryz.prog 21 #[.pointer (some ⟨p, 0, none⟩)] w fun e w' => e = .returned (.tuple #[]) ∧ Sp2 w0 w' p := by
  obtain ⟨hb, hp, L, m, g, gc, v, hd0, hL, hm0, hm, hrow, hcs, hl, hgc⟩ := h
  refine (sync_one p L w.heap.size gc 0 0 g 9 3 (.map (some m)) (.slice none 0 0) [] empF sA sAbc w hd0 hl (by unfold maxLen; omega) (by decide) rfl (row_nil _ _ _) (Nat.le_refl _) (by decide) hcs hgc).mono ?_
  rintro e w' ⟨he, v2, h1, h2, h3, t⟩
  have hmL := fm_ne hm hl
  have hvb : ∀ b, v.ownBlock = some b → ¬ (b = p ∨ b = L ∨ some b = (Value.slice none 0 0).ownBlock) := fun b hb' hh => by
    rcases hh with e | e | e
    · exact cells_apart (row_at hrow hb') (e ▸ hd0.ty) (by decide) rfl
    · exact map_apart (row_at hrow hb') hl e
    · cases e
  have h3' : w'.ownsRow w0.heap.size 5 1 v2 3 (Lib.strCells sAbc) := ⟨h3.1, h3.2.imp id fun ⟨g, cap, cur, q1, q2, q3⟩ => ⟨g, cap, cur, q1, Nat.le_trans hb.size q2, q3⟩⟩
  refine ⟨he, ⟨t.os.trans hb.os, t.tape.trans hb.tape, t.output.trans hb.output, Nat.le_trans hb.size t.size, fun i hi => (t.block i (Nat.lt_of_lt_of_le hi hb.size) (fun e => ?_)).trans (hb.block i hi)⟩, hp, L, m, v, v2, h1, hL, hm0, fm_tch hm t (fun e => ?_), row_tch hrow t hvb, h2, h3', hmL, fun b hb2 hb1 => ?_⟩
  · rcases e with e | e | e
    · omega
    · omega
    · cases e
  · rcases e with e | e | e
    · exact map_apart hd0.ty hm e.symm
    · exact hmL e
    · cases e
  · have q1 := (h3.lt b hb2).1
    have q2 := (hrow.lt b hb1).2
    omega
theorem sp3 {w0 w : World} {p : Nat} (h : Sp2 w0 w p) :
    Calls Tryz.prog 28 #[.pointer (some ⟨p, 0, none⟩), .string sA, .string sDe] w fun e w' => e = .returned (.int .i64 0) ∧ Spk w0 w' p := by
  obtain ⟨hb, hp, L, m, v, v2, hd0, hL, hm0, hm, hrow, hl, hrow2, hmL, hv2⟩ := h
  refine (append_some p L m 1 w0.heap.size 3 9 3 (.slice none 0 0) v (Lib.strCells sAbc) [] 0 (empF.put (sk sA) (hd v)) sA sDe w hd0 hm (by unfold maxLen; omega) (by rw [put_at]; exact hdr_row hrow) hrow (by decide) (row_nil _ _ _) (by omega) (by omega) (by decide) (by decide) hb.size (by decide) (by decide) (by decide)).mono ?_
  rintro e w' ⟨he, v3, chg, h1, h2, h3, h4, t, _⟩
  obtain ⟨g, gc, rfl, hg1, hg2⟩ := row_slice h4 (by omega)
  refine ⟨he, ⟨t.os.trans hb.os, t.tape.trans hb.tape, t.output.trans hb.output, Nat.le_trans hb.size t.size, fun i hi => (t.block i (Nat.lt_of_lt_of_le hi hb.size) (fun e => ?_)).trans (hb.block i hi)⟩, hp, L, m, g, gc, v2, h1, hL, fun b hb' => (hrow2.lt b hb').1, fm_tch hl t (fun e => ?_), row_tch hrow2 t (fun b hb' e => ?_), h4, hg1, hg2⟩
  · rcases e with e | e | e | e
    · omega
    · omega
    · have := (hrow.lt i e.symm).1; omega
    · cases e
  · rcases e with e | e | e | e
    · exact map_apart hd0.ty hl e.symm
    · exact hmL e.symm
    · exact map_apart (row_at hrow e.symm) hl rfl
    · cases e
  · rcases e with e | e | e | e
    · exact cells_apart (row_at hrow2 hb') (e ▸ hd0.ty) (by decide) rfl
    · exact map_apart (row_at hrow2 hb') hm e
    · exact hv2 b hb' e.symm
    · cases e
end Go.Proofs.YtmlikkjahkdilaaGreatDoor
