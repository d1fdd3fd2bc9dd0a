/- Package journal: the names of its files, for small numbers. Package journal: the journal that lies on an empty disk, before anything is read. Package journal: what is read of an empty disk. Package journal: a journal over a disk that holds whatever files. Package journal: what the names of its first files say. Package journal: a file is laid under another name first; what is good of the records is kept. Package journal: what is good of torn records is kept in a file of its own; there is no image. -/
import Derived.Test.YtlflfaldnpcjcaaGreatDoorPlainKit
import Derived.Test.YtlflfaldnpcjcaaGreatDoorShelf
import Derived.Deep.DeepCutAuto
import Derived.Deep.QuietTactic
import Derived.BigQuiet
import Derived.IntWalk
import Derived.Test.YtlflfaldnpcjcaaGreatDoorDiskList0
import Derived.Test.YtlflfaldnpcjcaaGreatDoorDkCrash
import Derived.Test.YtlflfaldnpcjcaaGreatDoorDkList
import Derived.Lib.AtoiErrMem
import Derived.StillTailTactics
namespace Go.Proofs.YtlflfaldnpcjcaaGreatDoor
open Go.RowKit

/-- a small number as its digits -/
def digS (i : Nat) : ByteArray := ⟨(Lib.decDigits i).toArray⟩
theorem dig_len (i : Nat) (hi : i < 100) : (Lib.decDigits i).length ≤ 2 := by
  by_cases h : i < 10
  · rw [Lib.decDigits_one h]; simp
  · rw [Lib.decDigits_two h hi]; simp
theorem digS_size (i : Nat) (hi : i < 100) : (digS i).size ≤ 2 := by
  have := dig_len i hi
  simpa [digS, ByteArray.size] using this
def imgS (i : Nat) : ByteArray := ⟨#[105, 109, 97, 103, 101, 45]⟩ ++ digS i
def edtS (i j : Nat) : ByteArray := ⟨#[101, 100, 105, 116, 115, 45]⟩ ++ digS i ++ ⟨#[45]⟩ ++ digS j
set_option maxRecDepth 100000 in
set_option maxHeartbeats 1000000 in
theorem image_name (i : Nat) (hi : i < 100) (w : World) :
    Calls Tryz.prog 28 #[.int .i64 i] w fun e w' => e = .returned (.string (imgS i)) ∧ w = w' := by
  have h2 := digS_size i hi
  have hn : ¬ 9223372036854775807 < 6 + (digS i).size := by omega
  clear h2
  go_enter Tryz.func28, Tryz.ntmps28
  go_wp2_with (fail)
  refine (Tryz.strconv_Itoa_small i hi _).mono ?_
  rintro e w1 ⟨rfl, rfl⟩
  rw [show (⟨(Lib.decDigits i).toArray⟩ : ByteArray) = digS i from rfl]
  go_wp2
  go_ret
  exact ⟨rfl, rfl⟩
set_option maxRecDepth 100000 in
set_option maxHeartbeats 1000000 in
theorem edits_name (i j : Nat) (hi : i < 100) (hj : j < 100) (w : World) :
    Calls Tryz.prog 40 #[.int .i64 i, .int .i64 j] w fun e w' => e = .returned (.string (edtS i j)) ∧ w = w' := by
  have h2 := digS_size i hi
  have h3 := digS_size j hj
  have hn : ¬ 9223372036854775807 < 6 + (digS i).size := by omega
  have hn2 : ¬ 9223372036854775807 < 6 + (digS i).size + 1 := by omega
  have hn3 : ¬ 9223372036854775807 < 6 + (digS i).size + 1 + (digS j).size := by omega
  clear h2 h3
  have HJ := Lib.hid hj
  clear hj
  go_enter Tryz.func40, Tryz.ntmps40
  go_wp2_with (fail)
  refine (Tryz.strconv_Itoa_small i hi _).mono ?_
  rintro e w1 ⟨rfl, rfl⟩
  rw [show (⟨(Lib.decDigits i).toArray⟩ : ByteArray) = digS i from rfl]
  go_wp2_with (fail)
  refine (Tryz.strconv_Itoa_small j HJ.out _).mono ?_
  rintro e w2 ⟨rfl, rfl⟩
  rw [show (⟨(Lib.decDigits j).toArray⟩ : ByteArray) = digS j from rfl]
  go_wp2
  go_ret
  exact ⟨rfl, rfl⟩
end Go.Proofs.YtlflfaldnpcjcaaGreatDoor

namespace Go.Proofs.YtlflfaldnpcjcaaGreatDoor
open Go.RowKit

/-- a journal's cells -/
structure JAt (w : World) (j p : Nat) (seg nth cnt lst : Int) : Prop where
  c0 : w.cell? ⟨j, 0, none⟩ = some (.pointer (some ⟨p, 0, none⟩))
  c1 : w.cell? ⟨j, 1, none⟩ = some (.int .i64 seg)
  c2 : w.cell? ⟨j, 2, none⟩ = some (.int .i64 nth)
  c3 : w.cell? ⟨j, 3, none⟩ = some (.int .i64 cnt)
  c4 : w.cell? ⟨j, 4, none⟩ = some (.int .i64 lst)
  ty : ∃ cs, w.heap[j]? = some (.cells cs 59 (0, 0))
theorem JAt.lt {w : World} {j p : Nat} {seg nth cnt lst : Int} (h : JAt w j p seg nth cnt lst) : j < w.heap.size := by
  obtain ⟨cs, h⟩ := h.ty
  exact (Array.getElem?_eq_some_iff.1 h).1
theorem JAt.fr {w : World} {j p : Nat} {seg nth cnt lst : Int} (h : JAt w j p seg nth cnt lst) (i : Nat) : w.frozen? ⟨j, i, none⟩ = false := by
  obtain ⟨cs, h⟩ := h.ty
  simp [World.frozen?, h]
theorem JAt.same {w w' : World} {j p : Nat} {seg nth cnt lst : Int} (h : JAt w j p seg nth cnt lst) (e : w'.heap[j]? = w.heap[j]?) : JAt w' j p seg nth cnt lst :=
  ⟨(cell_eq e 0).trans h.c0, (cell_eq e 1).trans h.c1, (cell_eq e 2).trans h.c2, (cell_eq e 3).trans h.c3, (cell_eq e 4).trans h.c4, by obtain ⟨cs, k⟩ := h.ty; exact ⟨cs, e.trans k⟩⟩
theorem jat_new (w : World) (p : Nat) : JAt (w.alloc (.cells #[.pointer (some ⟨p, 0, none⟩), .int .i64 0, .int .i64 0, .int .i64 0, .int .i64 0] 59)) w.heap.size p 0 0 0 0 := by
  refine ⟨?_, ?_, ?_, ?_, ?_, ⟨_, heap_alloc_new w _⟩⟩ <;> simp
theorem dat_below {w w' : World} {p : Nat} {cp used : Int} {last chg held : Value} (h : DiskAt w p cp last chg held used) (hb : Below w.heap.size w w') : DiskAt w' p cp last chg held used := by
  have hlt : p < w.heap.size := by
    obtain ⟨cs, k⟩ := h.ty
    exact (Array.getElem?_eq_some_iff.1 k).1
  have e := hb.block p hlt
  exact ⟨(cell_eq e 0).trans h.c0, (cell_eq e 1).trans h.c1, (cell_eq e 2).trans h.c2, (cell_eq e 3).trans h.c3, (cell_eq e 4).trans h.c4, fun i => (frozen_eq e i).trans (h.fr i), by obtain ⟨cs, k⟩ := h.ty; exact ⟨cs, e.trans k⟩⟩
set_option maxRecDepth 100000 in
set_option maxHeartbeats 2000000 in
theorem newest_empty (p : Nat) (cp used : Int) (last chg : Value) (w : World) (hd : DiskAt w p cp last chg (.map none) used) :
    Calls Tryz.prog 18 #[.pointer (some ⟨p, 0, none⟩)] w fun e w' => e = .returned (.pointer (some ⟨w.heap.size, 0, none⟩)) ∧ Hid (JAt w' w.heap.size p 0 0 0 0 ∧ Below w.heap.size w w') := by
  have hbl : Below w.heap.size w (w.alloc (.cells #[.pointer (some ⟨p, 0, none⟩), .int .i64 0, .int .i64 0, .int .i64 0, .int .i64 0] 59)) := (Below.refl _ w).alloc (Nat.le_refl _) _
  have HD := Lib.hid (dat_below hd hbl)
  have HJ := Lib.hid (jat_new w p)
  have HB := Lib.hid hbl
  clear hd hbl
  go_enter Tryz.func18, Tryz.ntmps18
  go_wp2_with (fail)
  refine (dlist_empty p cp used last chg _ HD.out).mono ?_
  rintro e w2 ⟨⟨a, c, rfl⟩, hb2⟩
  have HJ2 := Lib.hid (HJ.out.same (hb2.block _ HJ.out.lt))
  have HB2 := Lib.hid (HB.out.trans (hb2.mono HB.out.size))
  clear hb2 HJ HB HD
  go_wp2_with (fail)
  go_loopw [21] (fun i wr => i = .int .i64 0 ∧ wr = w2) (fun _ _ => 0)
  case atStart => exact ⟨rfl, rfl⟩
  case round =>
    obtain ⟨rfl, rfl⟩ := hrel
    go_wp2_with (fail)
    go_loopw [43] (fun i wr2 => i = .int .i64 0 ∧ wr2 = wr) (fun _ _ => 0)
    case atStart => exact ⟨rfl, rfl⟩
    case round =>
      obtain ⟨rfl, rfl⟩ := hrel
      go_wp2
      go_ret
      exact ⟨rfl, Lib.hid ⟨HJ2.out, HB2.out⟩⟩
end Go.Proofs.YtlflfaldnpcjcaaGreatDoor

namespace Go.Proofs.YtlflfaldnpcjcaaGreatDoor
open Go.RowKit

theorem look_emp_file (w : World) (s : ByteArray) (hs : s.size ≤ maxLen) : (Instr.lookup 49 (.map none) (.string s) true).run Tryz.prog w = .ok (.tuple #[.slice none 0 0, .bool false]) w := by
  have := Maps.look_nil (w := w) true strLaw Tryz.underlying49 (zeroRow w) (Go.WideMaps.keyOf_string_mk Tryz.underlying9 hs)
  simpa using this
set_option maxRecDepth 100000 in
set_option maxHeartbeats 2000000 in
theorem holds_emp (p : Nat) (cp used : Int) (last chg : Value) (name : ByteArray) (w : World) (hd : DiskAt w p cp last chg (.map none) used) (hname : name.size ≤ maxLen) :
    Calls Tryz.prog 35 #[.pointer (some ⟨p, 0, none⟩), .string name] w fun e w' => e = .returned (.bool false) ∧ w = w' := by
  have hl := look_emp_file w name hname
  have c3 := hd.c3
  clear hd hname
  go_enter Tryz.func35, Tryz.ntmps35
  go_wp2
  go_ret
  exact ⟨rfl, rfl⟩
set_option maxRecDepth 100000 in
set_option maxHeartbeats 2000000 in
theorem read_emp (p : Nat) (cp used : Int) (last chg : Value) (name : ByteArray) (w : World) (hd : DiskAt w p cp last chg (.map none) used) (hname : name.size ≤ maxLen) :
    Calls Tryz.prog 15 #[.pointer (some ⟨p, 0, none⟩), .string name] w fun e w' => e = .returned (.tuple #[.string ⟨#[]⟩, .int .i64 41]) ∧ w = w' := by
  have hh := holds_emp p cp used last chg name w hd hname
  clear hd hname
  go_enter Tryz.func15, Tryz.ntmps15
  go_wp2_with (fail)
  refine hh.mono ?_
  rintro e w' ⟨rfl, rfl⟩
  clear hh
  go_wp2
  go_ret2
  exact ⟨rfl, rfl⟩
theorem imgS_size (i : Nat) (hi : i < 100) : (imgS i).size ≤ maxLen := by
  have := digS_size i hi
  simp only [imgS, ByteArray.size_append]
  unfold maxLen
  have h6 : (⟨#[105, 109, 97, 103, 101, 45]⟩ : ByteArray).size = 6 := rfl
  omega
theorem edtS_size (i j : Nat) (hi : i < 100) (hj : j < 100) : (edtS i j).size ≤ maxLen := by
  have := digS_size i hi
  have := digS_size j hj
  simp only [edtS, ByteArray.size_append]
  unfold maxLen
  have h6 : (⟨#[101, 100, 105, 116, 115, 45]⟩ : ByteArray).size = 6 := rfl
  have h1 : (⟨#[45]⟩ : ByteArray).size = 1 := rfl
  omega
set_option maxRecDepth 100000 in
set_option maxHeartbeats 2000000 in
theorem jimage_any (j p i : Nat) (nth cnt lst : Int) (w : World) (hi : i < 100) (h : Hid (JAt w j p i nth cnt lst)) :
    Calls Tryz.prog 30 #[.pointer (some ⟨j, 0, none⟩)] w fun e w' => e = .returned (.string (imgS i)) ∧ w = w' := by
  have c1 := h.out.c1
  have HI := Lib.hid hi
  clear hi
  go_enter Tryz.func30, Tryz.ntmps30
  go_wp2_with (fail)
  refine (image_name i HI.out _).mono ?_
  rintro e w' ⟨rfl, rfl⟩
  go_wp2
  go_ret
  exact ⟨rfl, rfl⟩
set_option maxRecDepth 100000 in
set_option maxHeartbeats 2000000 in
theorem jedits_any (j p i n : Nat) (cnt lst : Int) (w : World) (hi : i < 100) (hn : n < 100) (h : Hid (JAt w j p i n cnt lst)) :
    Calls Tryz.prog 20 #[.pointer (some ⟨j, 0, none⟩)] w fun e w' => e = .returned (.string (edtS i n)) ∧ Below w.heap.size w w' := by
  have hS0 : w.drew.cell? ⟨j, 1, none⟩ = some (.int .i64 i) ∧ w.drew.cell? ⟨j, 2, none⟩ = some (.int .i64 n) := ⟨h.out.c1, h.out.c2⟩
  have HI := Lib.hid (And.intro hi hn)
  have HB : Hid (Below w.heap.size w w.drew) := Lib.hid ⟨rfl, rfl, rfl, Nat.le_refl _, fun _ _ => rfl⟩
  clear hi hn
  go_enter Tryz.func20, Tryz.ntmps20
  go_upto_region 1 with (fail)
  go_region_held3 (fun w' => w'.cell? ⟨j, 1, none⟩ = some (.int .i64 i) ∧ w'.cell? ⟨j, 2, none⟩ = some (.int .i64 n)) (assumption)
    (first
      | (go_at_call 40; with_reducible refine (edits_name i n HI.out.1 HI.out.2 _).mono ?_; rintro e w6 ⟨rfl, rfl⟩))
  all_goals
    go_wp2
    go_ret
    exact ⟨rfl, HB.out⟩
set_option maxRecDepth 100000 in
set_option maxHeartbeats 2000000 in
theorem readImage_emp (j p i : Nat) (cp used nth cnt lst : Int) (last chg : Value) (w : World) (hi : i < 100) (h : Hid (JAt w j p i nth cnt lst)) (hd : Hid (DiskAt w p cp last chg (.map none) used)) :
    Calls Tryz.prog 19 #[.pointer (some ⟨j, 0, none⟩)] w fun e w' => e = .returned (.tuple #[.string ⟨#[]⟩, .int .i64 0]) ∧ Below w.heap.size w w' := by
  have hS0 : w.drew.cell? ⟨j, 0, none⟩ = some (.pointer (some ⟨p, 0, none⟩)) := h.out.c0
  have HI := Lib.hid hi
  have HB : Hid (Below w.heap.size w w.drew) := Lib.hid ⟨rfl, rfl, rfl, Nat.le_refl _, fun _ _ => rfl⟩
  have HJ := Lib.hid (h.out.same (show w.drew.heap[j]? = w.heap[j]? from rfl))
  have HD := Lib.hid (dat_below hd.out HB.out)
  clear hi
  go_enter Tryz.func19, Tryz.ntmps19
  go_upto_region 1 with (fail)
  go_region_held3 (fun w' => w'.cell? ⟨j, 0, none⟩ = some (.pointer (some ⟨p, 0, none⟩))) (assumption)
    (first
      | (go_at_call 30; with_reducible refine (jimage_any j p i nth cnt lst _ HI.out HJ).mono ?_; rintro e w6 ⟨rfl, rfl⟩)
      | (go_at_call 15; with_reducible refine (read_emp p cp used last chg _ _ HD.out (imgS_size i HI.out)).mono ?_; rintro e w7 ⟨rfl, rfl⟩))
  all_goals
    go_wp2
    go_ret2
    exact ⟨rfl, HB.out⟩
end Go.Proofs.YtlflfaldnpcjcaaGreatDoor

namespace Go.Proofs.YtlflfaldnpcjcaaGreatDoor
open Go.RowKit Go.Maps
/-- a journal and its disk, both of the law's own -/
structure JS (w0 w : World) (j p : Nat) (S : Nat → Prop) (cp : Int) (n : Nat) (L : Fs) (cs : List Chg) (seg nth cnt lst : Int) : Prop where
  dk : DK w0 w p S cp n L cs
  jt : JAt w j p seg nth cnt lst
  no : ¬ S j
  lo : w0.heap.size ≤ j
section
variable {w0 w w' : World} {j p n : Nat} {S : Nat → Prop} {cp seg nth cnt lst : Int} {L : Fs} {cs : List Chg}
theorem JS.below (h : JS w0 w j p S cp n L cs seg nth cnt lst) (hb : Below w.heap.size w w') : JS w0 w' j p S cp n L cs seg nth cnt lst :=
  ⟨h.dk.below hb, h.jt.same (hb.block _ h.jt.lt), h.no, h.lo⟩
/-- behind a call of the disk -/
theorem JS.disk (h : JS w0 w j p S cp n L cs seg nth cnt lst) {n' : Nat} {L' : Fs} {cs' : List Chg} (hd : DK w0 w' p (grow S w w') cp n' L' cs') (t : Tch w w' S) : JS w0 w' j p (grow S w w') cp n' L' cs' seg nth cnt lst :=
  ⟨hd, h.jt.same (t.block _ h.jt.lt h.no), fun e => e.elim h.no (fun e => by have := h.jt.lt; omega), h.lo⟩
end
end Go.Proofs.YtlflfaldnpcjcaaGreatDoor

namespace Go.Proofs.YtlflfaldnpcjcaaGreatDoor
open Go.RowKit
def tmpS : ByteArray := ⟨#[116, 109, 112]⟩
/-- one digit -/
def dg1 (k : Nat) : ByteArray := ⟨#[UInt8.ofNat (48 + k)]⟩
theorem digS_one {k : Nat} (hk : k < 10) : digS k = dg1 k := by unfold digS dg1; rw [Lib.decDigits_one hk]
/-- the file of the first segment's records -/
def edN (k : Nat) : ByteArray := ⟨#[101, 100, 105, 116, 115, 45, 48, 45, UInt8.ofNat (48 + k)]⟩
theorem edt_one {k : Nat} (hk : k < 10) : edtS 0 k = edN k := by
  unfold edtS
  rw [digS_one hk, digS_one (show 0 < 10 by decide)]
  have : k = 0 ∨ k = 1 ∨ k = 2 ∨ k = 3 ∨ k = 4 ∨ k = 5 ∨ k = 6 ∨ k = 7 ∨ k = 8 ∨ k = 9 := by omega
  rcases this with rfl | rfl | rfl | rfl | rfl | rfl | rfl | rfl | rfl | rfl <;> decide
theorem dg1_atoi {k : Nat} (hk : k < 10) : Lib.atoi (dg1 k).data.toList = some (k : Int) := by
  have : k = 0 ∨ k = 1 ∨ k = 2 ∨ k = 3 ∨ k = 4 ∨ k = 5 ∨ k = 6 ∨ k = 7 ∨ k = 8 ∨ k = 9 := by omega
  rcases this with rfl | rfl | rfl | rfl | rfl | rfl | rfl | rfl | rfl | rfl <;> decide
set_option maxRecDepth 100000 in
set_option maxHeartbeats 1000000 in
theorem number_one (k : Nat) (hk : k < 10) (w : World) :
    Calls Tryz.prog 55 #[.string (dg1 k)] w fun e w' => e = .returned (.tuple #[.int .i64 k, .bool true]) ∧ Below w.heap.size w w' := by
  have ha := dg1_atoi hk
  have h1 : ¬ (k : Int) < 0 := by omega
  have h2 : ¬ (999999999 : Int) < (k : Int) := by omega
  have hs : (dg1 k).size ≤ 18 := by show 1 ≤ 18; decide
  have HD := Lib.hid (digS_one hk)
  have HK := Lib.hid hk
  clear hk
  have hat := Tryz.strconv_Atoi (dg1 k) k hs ha w
  clear hs ha
  go_enter Tryz.func55, Tryz.ntmps55
  go_wp2_with (fail)
  refine hat.mono ?_
  rintro e w1 ⟨rfl, t, rfl⟩
  clear hat
  have HB := Lib.hid (Lib.bytesWorld_below w 5 t)
  go_wp2_with (fail)
  refine (Tryz.strconv_Itoa_small k (Nat.lt_trans HK.out (by decide)) _).mono ?_
  rintro e w2 ⟨rfl, rfl⟩
  rw [show (⟨(Lib.decDigits k).toArray⟩ : ByteArray) = dg1 k from HD.out]
  go_wp2_with (fail)
  go_ret2
  exact ⟨rfl, HB.out⟩
set_option maxRecDepth 100000 in
set_option maxHeartbeats 1000000 in
theorem lite_dash (s x y : ByteArray) (o : Nat) (w : World) (h1 : Lib.indexByte s.data.toList 45 = (o : Int)) (h2 : o < s.size) (hx : s.extract 0 o = x) (hy : s.extract (o + 1) s.size = y) (hs : s.size ≤ 1000) :
    Calls Tryz.prog 74 #[.string s, .string ⟨#[45]⟩] w fun e w' => e = .returned (.tuple #[.string x, .string y, .bool true]) ∧ ∃ n, w' = w.drewN n := by
  have hi := Tryz.stringslite_Index_one s 45 w
  rw [h1] at hi
  subst hx hy
  clear h1
  go_enter Tryz.func74, Tryz.ntmps74
  go_wp2_with (fail)
  refine hi.mono ?_
  rintro e w' ⟨rfl, rfl⟩
  clear hi
  go_wp2_with (fail)
  go_quiet (fail)
  go_wp2
  go_ret3
  exact ⟨rfl, _, rfl⟩
set_option maxRecDepth 100000 in
set_option maxHeartbeats 1000000 in
theorem cut_dash (s x y : ByteArray) (o : Nat) (w : World) (h1 : Lib.indexByte s.data.toList 45 = (o : Int)) (h2 : o < s.size) (hx : s.extract 0 o = x) (hy : s.extract (o + 1) s.size = y) (hs : s.size ≤ 1000) :
    Calls Tryz.prog 56 #[.string s, .string ⟨#[45]⟩] w fun e w' => e = .returned (.tuple #[.string x, .string y, .bool true]) ∧ ∃ n, w' = w.drewN n := by
  have hc := lite_dash s x y o w h1 h2 hx hy hs
  clear h1 h2 hx hy hs
  go_enter Tryz.func56, Tryz.ntmps56
  go_wp2_with (fail)
  refine hc.mono ?_
  rintro e w' ⟨rfl, n, rfl⟩
  go_wp2
  go_ret3
  exact ⟨rfl, _, rfl⟩
def imgP : ByteArray := ⟨#[105, 109, 97, 103, 101, 45]⟩
def edtP : ByteArray := ⟨#[101, 100, 105, 116, 115, 45]⟩
def tail2 (k : Nat) : ByteArray := ⟨#[48, 45, UInt8.ofNat (48 + k)]⟩
set_option maxRecDepth 100000 in
set_option maxHeartbeats 1000000 in
theorem image_of (k : Nat) (w : World) :
    Calls Tryz.prog 38 #[.string (edN k)] w fun e w' => e = .returned (.tuple #[.int .i64 0, .bool false]) ∧ w = w' := by
  have hc := Tryz.strings_CutPrefix (edN k) imgP w
  rw [show Lib.hasPrefix (edN k).data.toList imgP.data.toList = false from rfl] at hc
  generalize (⟨(Lib.trimPrefix (edN k).data.toList imgP.data.toList).toArray⟩ : ByteArray) = zz at hc
  go_enter Tryz.func38, Tryz.ntmps38
  go_wp2_with (fail)
  refine hc.mono ?_
  rintro e w1 ⟨rfl, rfl⟩
  go_wp2_with (fail)
  go_ret2
  exact ⟨rfl, rfl⟩
set_option maxRecDepth 100000 in
set_option maxHeartbeats 1000000 in
theorem edits_of (k : Nat) (hk : k < 10) (w : World) :
    Calls Tryz.prog 39 #[.string (edN k)] w fun e w' => e = .returned (.tuple #[.int .i64 0, .int .i64 k, .bool true]) ∧ Below w.heap.size w w' := by
  have hc := Tryz.strings_CutPrefix (edN k) edtP w
  rw [show Lib.hasPrefix (edN k).data.toList edtP.data.toList = true from rfl, show (⟨(Lib.trimPrefix (edN k).data.toList edtP.data.toList).toArray⟩ : ByteArray) = tail2 k from rfl] at hc
  have HC := Lib.hid (fun w => cut_dash (tail2 k) (dg1 0) (dg1 k) 1 w rfl (by show 1 < 3; decide) rfl rfl (by show 3 ≤ 1000; decide))
  have HK := Lib.hid hk
  clear hk
  go_enter Tryz.func39, Tryz.ntmps39
  go_wp2_with (fail)
  refine hc.mono ?_
  rintro e w1 ⟨rfl, rfl⟩
  clear hc
  go_wp2_with (fail)
  refine (HC.out _).mono ?_
  rintro e w2 ⟨rfl, n, rfl⟩
  go_wp2_with (fail)
  refine (number_one 0 (by decide) _).mono ?_
  rintro e w3 ⟨rfl, hb3⟩
  have HB3 := Lib.hid hb3
  clear hb3
  go_wp2_with (fail)
  refine (number_one k HK.out _).mono ?_
  rintro e w4 ⟨rfl, hb4⟩
  have HB4 : Hid (Below w1.heap.size w1 w4) := Lib.hid ((⟨HB3.out.os, HB3.out.tape, HB3.out.output, HB3.out.size, HB3.out.block⟩ : Below w1.heap.size w1 w3).trans (hb4.mono HB3.out.size))
  clear hb4
  go_wp2_with (fail)
  go_ret3
  exact ⟨rfl, HB4.out⟩
end Go.Proofs.YtlflfaldnpcjcaaGreatDoor

namespace Go.Proofs.YtlflfaldnpcjcaaGreatDoor
open Go.RowKit Go.Maps
/-- behind some calls: the old blocks but those of the disk stay, the disk's are old ones of it or new -/
structure JP (w w' : World) (S S' : Nat → Prop) : Prop where
  t : Tch w w' S
  s : ∀ b, S' b → S b ∨ w.heap.size ≤ b
theorem JP.refl (w : World) (S : Nat → Prop) : JP w w S S := ⟨Tch.refl _ _, fun _ h => .inl h⟩
theorem JP.trans {w w1 w2 : World} {S S1 S2 : Nat → Prop} (h : JP w w1 S S1) (k : JP w1 w2 S1 S2) : JP w w2 S S2 :=
  ⟨h.t.then k.t (fun i hi hs => (h.s i hs).resolve_right (by omega)), fun b hb => (k.s b hb).elim (fun e => h.s b e) (fun e => .inr (Nat.le_trans h.t.size e))⟩
theorem JP.of {w w' : World} {S : Nat → Prop} (t : Tch w w' S) : JP w w' S (grow S w w') := ⟨t, fun b hb => hb.elim .inl (fun e => .inr e.1)⟩
theorem JP.bel {w w' : World} {S : Nat → Prop} (hb : Below w.heap.size w w') : JP w w' S S := ⟨tch_below S hb, fun _ h => .inl h⟩
/-- a file laid: its bytes under the other name, then under its own -/
def layL (L : Fs) (name g : ByteArray) : Fs := held (held L [.app tmpS g]) [.ren tmpS name]
theorem held_tmp {L : Fs} (g : ByteArray) (h : getF L tmpS = none) (q : ByteArray) : getF (held L [.app tmpS g]) q = if q = tmpS then some g else getF L q := by
  show getF (putF L tmpS (orE (getF L tmpS) ++ g)) q = _
  rw [getF_putF, h, show orE none ++ g = g from ByteArray.empty_append]
set_option maxRecDepth 100000 in
set_option maxHeartbeats 4000000 in
theorem lay_K {w0 w : World} {j p n : Nat} {S : Nat → Prop} {cp seg nth cnt lst : Int} {L : Fs} (name g : ByteArray) (h : Hid (JS w0 w j p S cp n L [] seg nth cnt lst)) (hcp : 0 ≤ cp ∧ cp ≤ 9223372036854775807) (hn : n ≤ 1099511627776) (hsz : totF L + g.size ≤ 140737488355328) (hroom : (g.size : Int) ≤ cp - totF L)
    (ht : getF L tmpS = none) (hnm : getF L name = none) (hns : 1 ≤ name.size ∧ name.size ≤ 64) (hne : ¬ name = tmpS) :
    Calls Tryz.prog 27 #[.pointer (some ⟨j, 0, none⟩), .string name, .string g] w fun e w' => e = .returned (.int .i64 0) ∧ ∃ S', Hid (JS w0 w' j p S' cp (n + 4) (layL L name g) [] seg nth cnt lst ∧ JP w w' S S') := by
  have c0 := h.out.jt.c0
  have hR : appR cp (held L []) tmpS g = 0 := by
    unfold appR
    rw [held_nil, if_pos (by show 1 ≤ 3 ∧ 3 ≤ 64; decide), if_neg (by omega)]
  have hC : appC cp L [] tmpS g = [.app tmpS g] := by unfold appC; rw [if_pos hR]; rfl
  have hL1 := held_tmp g ht
  have hap := append_K tmpS g (Lib.hid h.out.dk) hcp (by unfold maxLen; omega) (by show 0 ≤ _; omega) (by rw [held_nil]; exact hsz)
  rw [hR, hC] at hap
  have hT1 : totF (held L [.app tmpS g]) = totF L + g.size := by
    have := tot_app L [] h.out.dk.srt tmpS g
    simpa [held_nil] using this
  have HF := Lib.hid (And.intro hL1 (And.intro hnm (And.intro hns (And.intro hne (And.intro hT1 (And.intro hsz hn))))))
  clear hR hC hL1 hnm hns hne hT1 hsz hn hcp hroom ht
  go_enter Tryz.func27, Tryz.ntmps27
  go_wp2_with (fail)
  refine hap.mono ?_
  rintro e w1 ⟨rfl, hk⟩
  have H1 := Lib.hid (And.intro (h.out.disk hk.out.1 hk.out.2) (JP.of hk.out.2))
  clear hap hk h c0
  have c0 := H1.out.1.jt.c0
  go_wp2_with (fail)
  refine (sync_K (Lib.hid H1.out.1.dk) (by have := HF.out.2.2.2.2.2.2; unfold maxLen; simp; omega) (by have := HF.out.2.2.2.2.2.1; simp [wts, wtC]; omega)).mono ?_
  rintro e w2 ⟨rfl, hk⟩
  have H2 := Lib.hid (And.intro (H1.out.1.disk hk.out.1 hk.out.2) (H1.out.2.trans (JP.of hk.out.2)))
  clear hk H1 c0
  have c0 := H2.out.1.jt.c0
  have hR : renR (held (held L [.app tmpS g]) []) tmpS name = 0 := by
    unfold renR
    rw [held_nil, if_pos HF.out.2.2.1, HF.out.1, HF.out.1, if_pos rfl, if_neg HF.out.2.2.2.1, HF.out.2.1]
    rfl
  have hre := rename_K tmpS name (Lib.hid H2.out.1.dk) (by show 3 ≤ maxLen; decide) (by have := HF.out.2.2.2.2.2.2; unfold maxLen; simp; omega) (by show 0 ≤ _; omega) (by rw [held_nil, HF.out.2.2.2.2.1]; exact HF.out.2.2.2.2.2.1)
  rw [hR, show renC (held L [.app tmpS g]) [] tmpS name = [.ren tmpS name] by unfold renC; rw [if_pos hR]; rfl] at hre
  clear hR
  go_wp2_with (fail)
  refine hre.mono ?_
  rintro e w3 ⟨rfl, hk⟩
  have H3 := Lib.hid (And.intro (H2.out.1.disk hk.out.1 hk.out.2) (H2.out.2.trans (JP.of hk.out.2)))
  clear hk H2 hre c0
  have c0 := H3.out.1.jt.c0
  go_wp2_with (fail)
  refine (sync_K (Lib.hid H3.out.1.dk) (by have := HF.out.2.2.2.2.2.2; unfold maxLen; simp; omega) (by have h1 := HF.out.2.2.2.2.2.1; have h2 := HF.out.2.2.2.2.1; simp [wts, wtC]; omega)).mono ?_
  rintro e w4 ⟨rfl, hk⟩
  have H4 := Lib.hid (And.intro (H3.out.1.disk hk.out.1 hk.out.2) (H3.out.2.trans (JP.of hk.out.2)))
  clear hk H3 c0
  go_wp2_with (fail)
  go_ret
  exact ⟨rfl, _, Lib.hid ⟨H4.out.1, H4.out.2⟩⟩
end Go.Proofs.YtlflfaldnpcjcaaGreatDoor

namespace Go.Proofs.YtlflfaldnpcjcaaGreatDoor
open Go.RowKit Go.Maps
theorem jat_nth {w : World} {j p : Nat} {seg a b cnt lst : Int} (h : JAt w j p seg a cnt lst) : JAt (w.setCell ⟨j, 2, none⟩ (.int .i64 b)) j p seg b cnt lst := by
  obtain ⟨cs, hk⟩ := h.ty
  refine ⟨?_, ?_, ?_, ?_, ?_, ?_⟩
  · exact (World.cell?_setCell_other _ _ _ _ (by simp)).trans h.c0
  · exact (World.cell?_setCell_other _ _ _ _ (by simp)).trans h.c1
  · exact World.cell?_setCell_same _ _ _ h.c2
  · exact (World.cell?_setCell_other _ _ _ _ (by simp)).trans h.c3
  · exact (World.cell?_setCell_other _ _ _ _ (by simp)).trans h.c4
  · exact ⟨cs.set! 2 (.int .i64 b), by simp [World.setCell, Array.getElem?_modify, hk]⟩
theorem JS.setj {w0 w : World} {j p n i : Nat} {S : Nat → Prop} {cp seg nth cnt lst nth' cnt' lst' : Int} {L : Fs} {cs : List Chg} {v : Value} (h : JS w0 w j p S cp n L cs seg nth cnt lst) (hj : JAt (w.setCell ⟨j, i, none⟩ v) j p seg nth' cnt' lst') : JS w0 (w.setCell ⟨j, i, none⟩ v) j p S cp n L cs seg nth' cnt' lst' :=
  ⟨⟨h.dk.bel.setCell (p := ⟨j, i, none⟩) h.lo _, h.dk.m.tch (S' := fun b => b = j) ⟨rfl, rfl, rfl, by simp [World.setCell], fun b _ hb => Below.heap_setCell _ _ _ _ hb⟩ (fun b hb e => h.no (e ▸ hb))⟩, hj, h.no, h.lo⟩
set_option maxRecDepth 100000 in
set_option maxHeartbeats 4000000 in
theorem keep_K {w0 w : World} {j p n : Nat} {S : Nat → Prop} {cp cnt lst : Int} {L : Fs} (k : Nat) (g : ByteArray) (h : Hid (JS w0 w j p S cp n L [] 0 k cnt lst)) (hk : k + 1 < 10) (hcp : 0 ≤ cp ∧ cp ≤ 9223372036854775807) (hn : n ≤ 1099511627775) (hsz : totF L + g.size ≤ 140737488355328) (hroom : (g.size : Int) ≤ cp - totF L)
    (ht : getF L tmpS = none) (hnm : getF L (edN (k + 1)) = none) :
    Calls Tryz.prog 22 #[.pointer (some ⟨j, 0, none⟩), .string g] w fun e w' => e = .returned (.int .i64 0) ∧ ∃ S', Hid (JS w0 w' j p S' cp (n + 5) (layL L (edN (k + 1)) g) [] 0 (k + 1 : Nat) cnt lst ∧ Tch w w' (fun b => S b ∨ b = j) ∧ ∀ b, S' b → S b ∨ w.heap.size ≤ b) := by
  have c0 := h.out.jt.c0
  have hR : delR (held L []) tmpS = 41 := by unfold delR; rw [held_nil, ht]; rfl
  have hde := delete_K tmpS (Lib.hid h.out.dk) (by show 3 ≤ maxLen; decide) (by unfold maxLen; omega) (by show 0 ≤ _; omega) (by rw [held_nil]; omega)
  rw [hR, show delC L [] tmpS = [] by unfold delC; rw [hR]; rfl] at hde
  have HF := Lib.hid (And.intro hk (And.intro hcp (And.intro hn (And.intro hsz (And.intro hroom (And.intro ht hnm))))))
  clear hk hcp hn hsz hroom ht hnm hR
  go_enter Tryz.func22, Tryz.ntmps22
  go_wp2_with (fail)
  refine hde.mono ?_
  rintro e w1 ⟨rfl, hD⟩
  have H1 := Lib.hid (And.intro (h.out.disk hD.out.1 hD.out.2) (JP.of hD.out.2))
  clear hde hD c0
  have c1 := H1.out.1.jt.c1
  have c2 := H1.out.1.jt.c2
  have hw1 : IntKind.i64.wrap ((k : Int) + 1) = ((k + 1 : Nat) : Int) := by rw [IntWalk.i64_in _ (by have := HF.out.1; omega)]; omega
  have hen := edits_name 0 (k + 1) (by decide) (Nat.lt_trans HF.out.1 (by decide)) w1.drew
  rw [edt_one HF.out.1] at hen
  have hen2 := hen.mono (fun e w'' (h : _ ∧ w1.drew = w'') => And.intro h.1 h.2.symm)
  clear hen
  go_wp2_with (fail)
  go_still_tail 12, (by kernel_rfl)
  still_call hen2
  repeat still_step
  refine wpStill_nil ?_
  change wpList _ _ _ _ _ w1.drew
  have hdr : Below w1.heap.size w1 w1.drew := ⟨rfl, rfl, rfl, Nat.le_refl _, fun _ _ => rfl⟩
  have hla := lay_K (edN (k + 1)) g (Lib.hid (H1.out.1.below hdr)) HF.out.2.1 (by have := HF.out.2.2.1; omega) HF.out.2.2.2.1 HF.out.2.2.2.2.1 HF.out.2.2.2.2.2.1 HF.out.2.2.2.2.2.2 (by show 1 ≤ 9 ∧ 9 ≤ 64; decide) (fun e => by
    have : (edN (k + 1)).size = tmpS.size := by rw [e]
    exact absurd this (by show ¬ 9 = 3; decide))
  have HJ1 : Hid (JP w w1.drew S (grow S w w1)) := Lib.hid (H1.out.2.trans (JP.bel hdr))
  clear hen2 c1 c2 hw1 hdr H1
  go_wp2_with (fail)
  refine hla.mono ?_
  rintro e w3 ⟨rfl, S1, HL⟩
  clear hla
  have H3 := Lib.hid (And.intro HL.out.1 (HJ1.out.trans HL.out.2))
  have c2 := H3.out.1.jt.c2
  have f2 := H3.out.1.jt.fr 2
  have hw1 : IntKind.i64.wrap ((k : Int) + 1) = ((k + 1 : Nat) : Int) := by rw [IntWalk.i64_in _ (by have := HF.out.1; omega)]; omega
  clear HL HJ1
  go_wp2_with (fail)
  go_ret
  refine ⟨rfl, S1, Lib.hid ⟨?_, ?_, H3.out.2.s⟩⟩
  · refine H3.out.1.setj ?_
    have := jat_nth (b := ((k + 1 : Nat) : Int)) H3.out.1.jt
    simpa using this
  · exact ⟨H3.out.2.t.os, H3.out.2.t.tape, H3.out.2.t.output, by simpa [World.setCell] using H3.out.2.t.size, fun b hb hn => (Below.heap_setCell _ _ _ _ (fun e => hn (.inr e))).trans (H3.out.2.t.block b hb (fun e => hn (.inl e)))⟩
end Go.Proofs.YtlflfaldnpcjcaaGreatDoor

