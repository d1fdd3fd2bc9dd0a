/- Package disk: a disk with one file: what is appended, synced, read. -/
import Derived.Test.YtmlikkjahkdilaaGreatDoorDiskCr2
namespace Go.Proofs.YtmlikkjahkdilaaGreatDoor
open Go.RowKit Go.Maps

theorem bytesOf_all (cs : List ByteArray) : cs.take cs.length = cs := List.take_length
set_option maxRecDepth 100000 in
set_option maxHeartbeats 4000000 in
theorem sync_D (w0 : World) (p : Nat) (cp : Int) (name : ByteArray) (X : List UInt8) (cs : List ByteArray) (hl : Bool) (w : World) (hD : OneD w0 w p name cp X cs hl) (hh : hl = true ∨ 0 < cs.length) (hname : name.size ≤ maxLen) (hsz : (X ++ bytesOf cs).length ≤ 1099511627776) :
    Calls Tryz.prog 21 #[.pointer (some ⟨p, 0, none⟩)] w fun e w' => e = .returned (.tuple #[]) ∧ OneD w0 w' p name cp (X ++ bytesOf cs) [] true := by
  obtain ⟨hb0, hp0, L, m, chg, v, v2, hk, hL, hm, hLm, o2, o1, hcs, hv⟩ := hD
  rw [List.length_append] at hsz
  have hst := settle_any w0.heap.size p L cs.length cp _ chg (.map (some m)) v2 name X hl cs w hk o2 hh hcs (Nat.le_refl _) hname hb0.size (by omega)
  obtain ⟨a0, c0', hchg⟩ : ∃ a c, chg = .slice a cs.length c := by
    rcases hcs.form with ⟨h1, h2⟩ | ⟨g, c, h1, _⟩
    · exact ⟨none, 0, by rw [h1, h2]; rfl⟩
    · exact ⟨_, _, h1⟩
  have c2 := hk.c2
  rw [hchg] at c2
  have HX := Lib.hid (And.intro hb0 (And.intro hp0 (And.intro hL (And.intro hm (And.intro hLm (And.intro o1 (And.intro o2 (And.intro hv hk))))))))
  have HST := Lib.hid hst
  obtain ⟨q, hq⟩ : ∃ q, q = cs.length := ⟨_, rfl⟩
  have HQ := Lib.hid hq
  rw [← hq] at c2
  clear hst hk o2 o1 hcs hv hchg hb0 hp0 hL hname hsz hLm hm hq hh
  go_enter Tryz.func21, Tryz.ntmps21
  go_wp2_with (fail)
  refine calls_int (k' := (cs.length : Int)) (by rw [HQ.out]) (HST.out.mono ?_)
  rintro e w1 ⟨rfl, h1⟩
  have H1 : Hid (OneD w0 (w1.setCell ⟨p, 2, none⟩ (.slice none 0 0)) p name cp (X ++ bytesOf cs) [] true) := by
    obtain ⟨v', chg', k1, o3, t1, hx1, _⟩ := h1
    obtain ⟨hb0, hp0, hL, hm, hLm, o1, o2, hv, hk⟩ := HX.out
    rw [bytesOf_all] at o3
    have ts := tch_set w1 ⟨p, 2, none⟩ (.slice none 0 0)
    have hb : Below w0.heap.size w0 w1 := ⟨t1.os.trans hb0.os, t1.tape.trans hb0.tape, t1.output.trans hb0.output, Nat.le_trans hb0.size t1.size, fun i hi => (t1.block i (Nat.lt_of_lt_of_le hi hb0.size) (fun e => by
      rcases e with e | e | e
      · omega
      · omega
      · have := (o2.row.lt i e.symm).1; omega)).trans (hb0.block i hi)⟩
    have o4 := o1.tch t1 (fun e => by
      rcases e with e | e | e
      · exact o1.ap hk.ty e.symm
      · exact hLm e.symm
      · exact o1.ap (row_at o2.row e.symm) rfl) (fun b hb e => by
      rcases e with e | e | e
      · exact cells_apart (row_at o1.row hb) hk.ty (by decide) e
      · exact o2.ap (row_at o1.row hb) e
      · exact hv b e.symm hb)
    refine Lib.hid ⟨hb.setCell hp0 _, hp0, L, m, .slice none 0 0, v, v', ?_, hL, hm, hLm, o3.tch ts (fun e => o3.ap k1.ty e.symm) (fun b hb => cells_apart (row_at o3.row hb) k1.ty (by decide)), ?_, Chgs.nil _ _ _, fun b h2 h1 => ?_⟩
    · simpa [bytesOf] using k1.chg (.slice none 0 0)
    · simpa [bytesOf] using o4.tch ts (fun e => o4.ap k1.ty e.symm) (fun b hb => cells_apart (row_at o4.row hb) k1.ty (by decide))
    · rcases hx1 b h2 with h | h
      · exact hv b h h1
      · have := (o1.row.lt b h1).2
        omega
  have d2 : ∃ x, w1.cell? ⟨p, 2, none⟩ = some x := by obtain ⟨v', chg', k1, _⟩ := h1; exact ⟨_, k1.c2⟩
  have f2 : w1.frozen? ⟨p, 2, none⟩ = false := by obtain ⟨v', chg', k1, _⟩ := h1; exact k1.fr 2
  obtain ⟨x, d2⟩ := d2
  clear h1
  go_wp2
  first
    | (go_end0; exact ⟨rfl, H1.out⟩)
    | (go_ret; exact ⟨rfl, H1.out⟩)
    | exact bodyPost_ret (v := .tuple #[]) (results_none rfl _ _ _) rfl ⟨rfl, H1.out⟩
theorem append_D1 (w0 : World) (p : Nat) (cp : Int) (name data : ByteArray) (w : World) (hb : Below w0.heap.size w0 w) (hp : w0.heap.size ≤ p) (hk : DiskAt w p cp (.map none) (.slice none 0 0) (.map none) 0)
    (h1 : 1 ≤ name.size) (h2 : name.size ≤ 64) (hcp : (data.size : Int) ≤ cp) (hcp2 : cp ≤ 1099511627776) :
    Calls Tryz.prog 28 #[.pointer (some ⟨p, 0, none⟩), .string name, .string data] w fun e w' => e = .returned (.int .i64 0) ∧ OneD w0 w' p name cp [] [data] false := by
  refine (append_first p w0.heap.size cp name data w hk h1 h2 hb.size (by omega) hcp (by omega)).mono ?_
  rintro e w' ⟨he, L, m, v, chg, q1, q2, q3, q4, q5, t, hL⟩
  have hsz : data.size = ([] ++ bytesOf [data]).length := by simp [bytesOf]
  have hrow : w'.ownsRow w0.heap.size 5 1 v ([] ++ bytesOf [data]).length (Lib.byteCells ([] ++ bytesOf [data])) := by
    rw [← hsz]
    simpa [bytesOf, Lib.byteCells, Lib.strCells] using q3
  refine ⟨he, ⟨t.os.trans hb.os, t.tape.trans hb.tape, t.output.trans hb.output, Nat.le_trans hb.size t.size, fun i hi => (t.block i (Nat.lt_of_lt_of_le hi hb.size) (fun e => by omega)).trans (hb.block i hi)⟩, hp, L, m, chg, v, .slice none 0 0, by rw [← hsz]; exact q1, Nat.le_trans hb.size hL.1, Nat.le_trans hb.size hL.2, fun e => fm_ne q2 q5 e.symm,
    ⟨row_nil _ _ _, empF, ?_, (fun kl h => by cases h), rfl, rfl⟩, OneM.ofPut (D := empF) (fun kl h => by cases h) ⟨[], rfl⟩ q2 hrow, q4, fun b hb => by cases hb⟩
  obtain ⟨es, clock, r1, r2, r3, r4⟩ := q5
  exact ⟨es, clock, r1, r2, by omega, r4⟩
theorem append_D (w0 : World) (p : Nat) (cp : Int) (name data : ByteArray) (X : List UInt8) (cs : List ByteArray) (hl : Bool) (w : World) (hD : OneD w0 w p name cp X cs hl)
    (h1 : 1 ≤ name.size) (h2 : name.size ≤ 64) (hq : cs.length ≤ 8796093022206) (hcp : (data.size : Int) ≤ cp - ((X ++ bytesOf cs).length : Nat)) (hcp2 : cp ≤ 1099511627776) :
    Calls Tryz.prog 28 #[.pointer (some ⟨p, 0, none⟩), .string name, .string data] w fun e w' => e = .returned (.int .i64 0) ∧ OneD w0 w' p name cp X (cs ++ [data]) hl := by
  obtain ⟨hb, hp, L, m, chg, v, v2, hk, hL, hm, hLm, o2, o1, hcs, hv⟩ := hD
  obtain ⟨D, r1, r2, r3, r4⟩ := o1.fm
  refine (append_some p L m 1 w0.heap.size (X ++ bytesOf cs).length cp _ chg v _ _ cs.length D name data w hk r1 (by unfold maxLen; omega) r4 o1.row (by omega) hcs hq (by omega) h1 h2 hb.size (by omega) hcp (by omega)).mono ?_
  rintro e w' ⟨he, v3, chg3, q1, q2, q3, q4, t, hx⟩
  have ecs : X ++ bytesOf (cs ++ [data]) = X ++ bytesOf cs ++ data.data.toList := by rw [bytesOf_snoc, List.append_assoc]
  rw [cells_more, len_more, ← ecs] at q3
  have q1' : DiskAt w' p cp (.map (some L)) chg3 (.map (some m)) (((X ++ bytesOf (cs ++ [data])).length : Nat) : Int) := by
    rw [ecs, ← len_more]
    have : (((X ++ bytesOf cs).length + data.size : Nat) : Int) = ((X ++ bytesOf cs).length : Nat) + (data.size : Int) := by omega
    rw [this]
    exact q1
  refine ⟨he, ⟨t.os.trans hb.os, t.tape.trans hb.tape, t.output.trans hb.output, Nat.le_trans hb.size t.size, fun i hi => (t.block i (Nat.lt_of_lt_of_le hi hb.size) (fun e => ?_)).trans (hb.block i hi)⟩, hp, L, m, chg3, v3, v2, q1', hL, hm, hLm, o2.tch t (fun e => ?_) (fun b hb' e => ?_), OneM.ofPut r2 r1.isMap q2 q3, ?_, fun b hb2 hb3 => ?_⟩
  · rcases e with e | e | e | e
    · omega
    · omega
    · have := (o1.row.lt i e.symm).1; omega
    · have := (World.ownsRow.lt hcs i e.symm).1; omega
  · rcases e with e | e | e | e
    · exact o2.ap hk.ty e.symm
    · exact hLm e
    · exact o2.ap (row_at o1.row e.symm) rfl
    · exact o2.ap (row_at hcs e.symm) rfl
  · rcases e with e | e | e | e
    · exact cells_apart (row_at o2.row hb') hk.ty (by decide) e
    · exact o1.ap (row_at o2.row hb') e
    · exact hv b hb' e.symm
    · exact cells_apart (row_at o2.row hb') (row_at hcs e.symm) (by decide) rfl
  · unfold Chgs
    simpa using q4
  · rcases hx b hb3 with h | h
    · exact hv b hb2 h
    · have := (o2.row.lt b hb2).2
      omega
theorem convert_any {w : World} {B : Nat} {X : List UInt8} {v : Value} (hrow : w.ownsRow B 5 1 v X.length (Lib.byteCells X)) : (convert 76 9 v).run Tryz.prog w = .ok (.string ⟨X.toArray⟩) w := by
  rcases hrow.2 with ⟨rfl, h0⟩ | ⟨g, c, cur, rfl, _⟩
  · obtain rfl : X = [] := List.eq_nil_of_length_eq_zero h0
    rw [run_convert_bytes_string w 76 9 5 none 0 0 Tryz.underlying76 Tryz.underlying5 Tryz.underlying9]
    rfl
  · exact run_convert_bytes_back (P := Tryz.prog) w 76 9 5 ⟨g, 0, none⟩ c X Tryz.underlying76 Tryz.underlying5 Tryz.underlying9 (fun j hj => by
      have h2 := World.ownsRow.cells hrow (g := g) rfl j (.int .u8 (X[j].toNat : Int)) (by simp [Lib.byteCells, hj])
      simpa [Addr.add_lit] using h2)
set_option maxRecDepth 100000 in
set_option maxHeartbeats 2000000 in
theorem read_D (w0 : World) (p : Nat) (cp : Int) (name : ByteArray) (X : List UInt8) (cs : List ByteArray) (hl : Bool) (w : World) (hD : OneD w0 w p name cp X cs hl) (hname : name.size ≤ maxLen) :
    Calls Tryz.prog 45 #[.pointer (some ⟨p, 0, none⟩), .string name] w fun e w' => e = .returned (.tuple #[.string ⟨(X ++ bytesOf cs).toArray⟩, .int .i64 0]) ∧ w = w' := by
  obtain ⟨hb, hp, L, m, chg, v, v2, hk, hL, hm, hLm, o2, o1, hcs, hv⟩ := hD
  obtain ⟨D, r1, r2, r3, r4⟩ := o1.fm
  have hh := holds_yes p m 1 cp _ _ chg v D name w hk r1 hname r3 r4
  have hlk := look_file r1 hname r4
  have hc := convert_any o1.row
  have c3 := hk.c3
  obtain ⟨S, hS⟩ : ∃ S : ByteArray, S = ⟨(X ++ bytesOf cs).toArray⟩ := ⟨_, rfl⟩
  rw [← hS] at hc ⊢
  clear hb hp hk hL hm hLm o2 o1 hcs hv r1 r2 r3 r4 hS hname
  go_enter Tryz.func45, Tryz.ntmps45
  go_wp2_with (fail)
  refine hh.mono ?_
  rintro e w' ⟨rfl, rfl⟩
  clear hh
  go_wp2
  go_ret2
  exact ⟨rfl, rfl⟩
set_option maxRecDepth 100000 in
set_option maxHeartbeats 2000000 in
/-- no room: nothing is done -/
theorem append_no (p : Nat) (cp used : Int) (last chg held : Value) (name data : ByteArray) (w : World) (hk : DiskAt w p cp last chg held used) (h1 : 1 ≤ name.size) (h2 : name.size ≤ 64) (hu : 0 ≤ used ∧ used ≤ cp) (hcp : ¬ (data.size : Int) ≤ cp - used) (hcp2 : cp ≤ 9223372036854775807) :
    Calls Tryz.prog 28 #[.pointer (some ⟨p, 0, none⟩), .string name, .string data] w fun e w' => e = .returned (.int .i64 40) ∧ Below w.heap.size w w' := by
  have hnm := isName_any name w h1 h2
  obtain ⟨c0, c1, c2, c3, c4, fr, ty⟩ := hk
  clear ty
  have hle : cp - used < (data.size : Int) := by omega
  have hw1 : wrap64 (cp - used) = cp - used := IntWalk.wrap64_in _ ⟨by omega, by omega⟩
  go_enter Tryz.func28, Tryz.ntmps28
  have hd1 : decide (cp - used < (data.size : Int)) = true := by simpa using hle
  go_upto_region 4 with (first | (go_at_call 48; refine hnm.mono ?_; rintro e w' ⟨rfl, rfl⟩) | go_in | go_quiet (fail))
  go_wp2
  go_ret
  exact ⟨rfl, below_drewN (Below.refl _ w) nq⟩
end Go.Proofs.YtmlikkjahkdilaaGreatDoor
