/- The contracts of wire.fourBytes and wire.fromFour. The contract of wire.Frame. The contract of strings.Clone: the same text. Quiet calls (they leave the world as it is) inside a region that draws its order. Over any program. The contract of wire.Next. The contract of wire.Next, where there are eight bytes at least. The contract of wire.Next, whole. The contract of wire.All: the bodies of all frames, in a row of the call's own. Plain mathematics: a change within four bytes in a row is seen by the sum; sums add up as bits do. Plain mathematics of streams of frames: what is read of them whole, cut short, or changed within four bytes in a row. What a row that lists the table of package crc gives to the walks, and a world that meets it. Package journal: what wire.All hands back, as a row of texts. -/
import Derived.Test.YtmlikkjahkdilaaGreatDoorStkC
import Derived.Test.YtmlikkjahkdilaaGreatDoorStkW
import Derived.Deep.QuietTactic
import Derived.BigQuiet
import Derived.Lib.Strings
import Derived.Lib.BufferWrite
import Derived.Lib.UnsafeStr
import Derived.Test.YtmlikkjahkdilaaGreatDoorLawEnd
import Derived.OwnWalk
import Derived.Laws.AppendOwn
import Derived.Test.YtmlikkjahkdilaaGreatDoorCards
import Derived.Test.YtmlikkjahkdilaaGreatDoorTie
import Derived.WalkKit
import Derived.ProofKit
import Derived.OpenShut
import Derived.Deep.DeepHandedRow
import Derived.Lib.LaidTab
namespace Go.Proofs.YtmlikkjahkdilaaGreatDoor
open Go.RowKit

def four (n : Nat) : List UInt8 := [UInt8.ofNat n, UInt8.ofNat (n / 256), UInt8.ofNat (n / 65536), UInt8.ofNat (n / 16777216)]
def fourS (n : Nat) : ByteArray := ⟨(four n).toArray⟩
theorem four_length (n : Nat) : (four n).length = 4 := rfl
theorem fourS_size (n : Nat) : (fourS n).size = 4 := rfl
def unfour (a b c d : UInt8) : Nat := a.toNat + 256 * b.toNat + 65536 * c.toNat + 16777216 * d.toNat
def fourCells (n : Nat) : Array Value := #[.int .u8 ((n : Int) % 256), .int .u8 ((n : Int) / 256 % 256), .int .u8 ((n : Int) / 65536 % 256), .int .u8 ((n : Int) / 16777216)]
theorem four_row (n : Nat) (hn : n < 4294967296) (w : World) (e : TypeId) : Row8 (w.alloc (.cells (fourCells n) e)) w.heap.size (four n) := by
  intro j hj
  rw [four_length] at hj
  constructor
  · rw [World.cell?_alloc_mark]
    have h4 : j = 0 ∨ j = 1 ∨ j = 2 ∨ j = 3 := by omega
    rcases h4 with rfl | rfl | rfl | rfl <;> simp [fourCells, four] <;> omega
  · rw [World.frozen?_alloc_mark]
    simp [fourCells]
set_option maxHeartbeats 4000000 in
theorem four_any (n : Nat) (w : World) (hn : n < 4294967296) :
    Calls Tryz.prog 70 #[.int .u32 (n : Int)] w fun e w' => e = .returned (.string (fourS n)) ∧ Below w.heap.size w w' := by
  have hbk := (four_row n hn w 5).back (P := Tryz.prog) 76 9 5 4 Tryz.underlying76 Tryz.underlying5 Tryz.underlying9
  rw [four_length] at hbk
  unfold fourCells at hbk
  obtain ⟨q, hq⟩ : ∃ q : ByteArray, q = ⟨(four n).toArray⟩ := ⟨_, rfl⟩
  rw [← hq] at hbk
  have HQ := Lib.hid hq
  clear hq
  go_enter Tryz.func70, Tryz.ntmps70
  go_wp2
  go_ret
  exact ⟨by rw [HQ.out]; rfl, (Below.refl _ _).alloc (Nat.le_refl _) _⟩
theorem or_four (a b c d : Nat) (ha : a < 256) (hb : b < 256) (hc : c < 256) (hd : d < 256) :
    bits BinOp.or IntKind.u32 (bits BinOp.or IntKind.u32 (bits BinOp.or IntKind.u32 ((a : Int) % 4294967296) ((b : Int) % 4294967296 * 256 % 4294967296)) ((c : Int) % 4294967296 * 65536 % 4294967296)) ((d : Int) % 4294967296 * 16777216 % 4294967296)
      = ((a + 256 * b + 65536 * c + 16777216 * d : Nat) : Int) := by
  have e0 : (a : Int) % 4294967296 = (a : Nat) := by omega
  have e1 : (b : Int) % 4294967296 * 256 % 4294967296 = ((2 ^ 8 * b : Nat) : Int) := by omega
  have e2 : (c : Int) % 4294967296 * 65536 % 4294967296 = ((2 ^ 16 * c : Nat) : Int) := by omega
  have e3 : (d : Int) % 4294967296 * 16777216 % 4294967296 = ((2 ^ 24 * d : Nat) : Int) := by omega
  have h1 : a ||| 2 ^ 8 * b = 2 ^ 8 * b + a := by rw [Nat.or_comm]; exact (Nat.two_pow_add_eq_or_of_lt (i := 8) ha b).symm
  have l1 : 2 ^ 8 * b + a < 2 ^ 16 := by omega
  have h2 : (2 ^ 8 * b + a) ||| 2 ^ 16 * c = 2 ^ 16 * c + (2 ^ 8 * b + a) := by rw [Nat.or_comm]; exact (Nat.two_pow_add_eq_or_of_lt (i := 16) l1 c).symm
  have l2 : 2 ^ 16 * c + (2 ^ 8 * b + a) < 2 ^ 24 := by omega
  have h3 : (2 ^ 16 * c + (2 ^ 8 * b + a)) ||| 2 ^ 24 * d = 2 ^ 24 * d + (2 ^ 16 * c + (2 ^ 8 * b + a)) := by rw [Nat.or_comm]; exact (Nat.two_pow_add_eq_or_of_lt (i := 24) l2 d).symm
  rw [e0, e1, e2, e3, u32_or_nat _ _ (by omega) (by omega), h1, u32_or_nat _ _ (by omega) (by omega), h2, u32_or_nat _ _ (by omega) (by omega), h3]
  omega
set_option maxHeartbeats 4000000 in
theorem from_any (s : ByteArray) (h : 4 ≤ s.size) (w : World) :
    Calls Tryz.prog 121 #[.string s] w fun e w' => e = .returned (.int .u32 (unfour s[0] s[1] s[2] s[3] : Nat)) ∧ ∃ n, w' = w.drewN n := by
  have i0 : (0 : Int) < (s.size : Int) := by omega
  have i1 : (1 : Int) < (s.size : Int) := by omega
  have i2 : (2 : Int) < (s.size : Int) := by omega
  have i3 : (3 : Int) < (s.size : Int) := by omega
  have j0 : 0 < s.size := by omega
  have j1 : 1 < s.size := by omega
  have j2 : 2 < s.size := by omega
  have j3 : 3 < s.size := by omega
  go_enter Tryz.func121, Tryz.ntmps121
  go_wp2_with (fail)
  go_quiet (fail)
  go_wp2
  go_ret
  have hv := or_four s[0].toNat s[1].toNat s[2].toNat s[3].toNat s[0].toNat_lt s[1].toNat_lt s[2].toNat_lt s[3].toNat_lt
  refine ⟨?_, _, rfl⟩
  exact congrArg (fun z => Ending.returned (Value.int .u32 z)) hv
end Go.Proofs.YtmlikkjahkdilaaGreatDoor

namespace Go.Proofs.YtmlikkjahkdilaaGreatDoor
open Go.RowKit

/-- a body with its length and its checksums -/
def headL (n : Nat) : List UInt8 := four n ++ four (Crc.sum (four n)).toNat
def frameL (l : List UInt8) : List UInt8 := headL l.length ++ l ++ four (Crc.sum l).toNat
theorem frameL_length (l : List UInt8) : (frameL l).length = l.length + 12 := by
  unfold frameL headL
  simp only [List.length_append, four_length]
  omega
theorem four_U (x : BitVec 32) (w : World) : Calls Tryz.prog 70 #[.int .u32 (U x)] w fun e w' => e = .returned (.string (fourS x.toNat)) ∧ Below w.heap.size w w' := four_any x.toNat w x.isLt
theorem fourS_data (n : Nat) : (fourS n).data.toList = four n := rfl
set_option maxHeartbeats 4000000 in
theorem frame_big (s : ByteArray) (w : World) (h : 1048576 < s.size) : Calls Tryz.prog 51 #[.string s] w fun e w' => e = .returned (.string ⟨#[]⟩) ∧ w = w' := by
  have t0 : (1048576 : Int) < (s.size : Int) := by omega
  go_enter Tryz.func51, Tryz.ntmps51
  go_wp2
  go_ret
  exact ⟨rfl, rfl⟩
set_option maxHeartbeats 4000000 in
theorem frame_any (s : ByteArray) (w : World) (hh : Half w) (hs : s.size ≤ 1048576) :
    Calls Tryz.prog 51 #[.string s] w fun e w' => e = .returned (.string ⟨(frameL s.data.toList).toArray⟩) ∧ Below w.heap.size w w' := by
  have t0 : ¬ (1048576 : Int) < (s.size : Int) := by omega
  have hlt := hh.lt
  have HH := Lib.hid hh
  clear hh
  go_enter Tryz.func51, Tryz.ntmps51
  go_wp2_with (fail)
  refine (four_any s.size _ (by omega)).mono ?_
  rintro e w1 ⟨rfl, hb1⟩
  have B1 := Lib.hid hb1
  have H1 := Lib.hid (HH.out.below hb1 hlt)
  have s1 := hb1.size
  obtain ⟨q, hq⟩ : ∃ q, q = fourS s.size := ⟨_, rfl⟩
  have hql : q.data.toList = four s.size := by rw [hq]; rfl
  have hqs : q.size = 4 := by rw [hq]; rfl
  rw [← hq]
  have HQ := Lib.hid hql
  clear hb1 hq hql
  go_wp2_with (fail)
  refine (sum_any q _ H1.out (by unfold maxLen; omega)).mono ?_
  rw [HQ.out]
  rintro e w2 ⟨rfl, rfl⟩
  go_wp2_with (fail)
  refine (four_U _ _).mono ?_
  rintro e w3 ⟨rfl, hb3⟩
  have B3 := Lib.hid (B1.out.trans (hb3.mono B1.out.size))
  have H3 := Lib.hid (H1.out.below hb3 (by omega))
  have s3 := B3.out.size
  obtain ⟨r, hr⟩ : ∃ r, r = fourS (Crc.sum (four s.size)).toNat := ⟨_, rfl⟩
  have hrs : r.size = 4 := by rw [hr]; rfl
  rw [← hr]
  have HR := Lib.hid hr
  clear hb3 hr H1 B1
  go_wp2_with (fail)
  refine (sum_any s _ H3.out (by unfold maxLen; omega)).mono ?_
  rintro e w4 ⟨rfl, rfl⟩
  go_wp2_with (fail)
  refine (four_U _ _).mono ?_
  rintro e w5 ⟨rfl, hb5⟩
  have B5 := Lib.hid (B3.out.trans (hb5.mono B3.out.size))
  obtain ⟨t, ht⟩ : ∃ t, t = fourS (Crc.sum s.data.toList).toNat := ⟨_, rfl⟩
  have hts : t.size = 4 := by rw [ht]; rfl
  rw [← ht]
  have HT := Lib.hid ht
  clear hb5 ht H3 B3
  have z1 : (q ++ r).size ≤ 140737488351232 := by rw [ByteArray.size_append]; omega
  have z2 : (q ++ r ++ s).size ≤ 140737488351232 := by rw [ByteArray.size_append, ByteArray.size_append]; omega
  have z3 : (q ++ r ++ s ++ t).size ≤ 140737488351232 := by rw [ByteArray.size_append, ByteArray.size_append, ByteArray.size_append]; omega
  go_wp2
  go_ret
  refine ⟨?_, B5.out⟩
  refine congrArg (fun z => Ending.returned (Value.string z)) (?_ : q ++ r ++ s ++ t = _)
  apply ByteArray.ext
  apply Array.ext'
  simp only [ByteArray.data_append, Array.toList_append]
  rw [HQ.out, HR.out, HT.out]
  show four s.size ++ four (Crc.sum (four s.size)).toNat ++ s.data.toList ++ four (Crc.sum s.data.toList).toNat = _
  unfold frameL headL
  rw [show s.data.toList.length = s.size by simp]
end Go.Proofs.YtmlikkjahkdilaaGreatDoor

namespace Go.Proofs.YtmlikkjahkdilaaGreatDoor
open Go.RowKit

theorem info8c : (Tryz.prog.info? 5).map (fun i => (i.zero, i.size, i.bytes)) = some (some (.int .u8 0), 1, 1) := by kernel_rfl
theorem make8c (n : Nat) (hn : n ≤ 281474976710656) : ∀ w : World, (Instr.makeSlice 76 (.int .i64 (n : Int)) (.int .i64 (n : Int))).run Tryz.prog w =
    .ok (.slice (some ⟨w.heap.size, 0, none⟩) n n) (w.alloc (.cells (madeCells #[.int .u8 0] n) 5)) := by
  intro w
  obtain ⟨i, hi, hz0, hz1, hz2⟩ := info_parts info8c
  have := run_make (P := Tryz.prog) w 76 5 i (.int .u8 0) Tryz.underlying76 hi hz0 .i64 .i64 n n (by omega) (by omega) (by rw [hz2]; omega) (by omega)
  simpa [hz1, Value.cells] using this


set_option maxHeartbeats 4000000 in
set_option maxRecDepth 100000 in
theorem slclone_bb (s : ByteArray) (w : World) (hlim : s.size ≤ 281474976710656) :
    Calls Tryz.prog 60 #[.string s] w fun e w' => e = .returned (.string s) ∧ Below w.heap.size w w' := by
  by_cases h0 : s.size = 0
  · have hs : s = ⟨#[]⟩ := ByteArray.ext (Array.eq_empty_of_size_eq_zero h0)
    subst hs
    go_enter Tryz.func60, Tryz.ntmps60
    go_wp2
    go_ret
    exact ⟨rfl, Below.refl _ _⟩
  · have hne : s.data.toList ≠ [] := fun e => h0 (by rw [Lib.size_eq, e]; rfl)
    have hmk := make8c s.size hlim
    obtain ⟨i0, hi, _, hz1, _⟩ := info_parts info8c
    have hinfo : (Tryz.prog.info? 5).map (·.size) = some 1 := by rw [hi]; simp [hz1]
    have hco : Tryz.prog.cellsOf 5 = 1 := by kernel_rfl
    clear hi hz1
    obtain ⟨M, hM⟩ : ∃ M, M = madeCells #[Value.int .u8 0] s.size := ⟨_, rfl⟩
    have hMs : M.size = s.size := by rw [hM, size_madeCells]
    rw [← hM] at hmk
    have hcp := Lib.run_copy_row_string (P := Tryz.prog) (w.alloc (.cells M 5)) 76 9 3 5 w.heap.size 0 s.size s.size s M 5 Tryz.underlying76 hinfo (heap_alloc_new w _) (Nat.le_refl _) (by omega)
    obtain ⟨Y, hY⟩ : ∃ Y, Y = (M.toList.take 0 ++ Lib.byteCells s.data.toList ++ M.toList.drop (0 + s.size)).toArray := ⟨_, rfl⟩
    rw [← hY] at hcp
    have hYl : Y.toList = Lib.byteCells s.data.toList := by
      rw [hY, List.toList_toArray, List.take_zero, List.nil_append, List.drop_of_length_le (by rw [Array.length_toList]; omega), List.append_nil]
    have hYs : Y.size = s.size := by rw [← Array.length_toList, hYl, Lib.byteCells_length, ← Lib.size_eq]
    have hgY : ((w.alloc (.cells M 5)).setRow w.heap.size Y).heap[w.heap.size]? = some (.cells Y 5 (0, 0)) := setRow_heap _ _ M _ 5 (0, 0) (heap_alloc_new w _)
    have hUS := Lib.run_unsafeString_row (P := Tryz.prog) ((w.alloc (.cells M 5)).setRow w.heap.size Y) 135 3 9 5 Tryz.underlying135 hco w.heap.size Y.size (by unfold World.shape?; rw [hgY]) s.data.toList hne (by rw [← Lib.size_eq]; omega) (by rw [← Lib.size_eq]; omega)
      (fun j x hx => Lib.cells_of_row hgY Y.size j _ (by rw [List.take_of_length_le (by rw [Array.length_toList]; exact Nat.le_refl _), hYl]; simp [Lib.byteCells, hx]))
    rw [← Lib.size_eq] at hUS
    have hb1 : Below w.heap.size w (w.alloc (.cells M 5)) := (Below.refl _ w).alloc (Nat.le_refl _) _
    have hb2 : Below w.heap.size (w.alloc (.cells M 5)) ((w.alloc (.cells M 5)).setRow w.heap.size Y) := ⟨rfl, rfl, rfl, by simp, fun k hk => setRow_other _ _ _ _ (by omega)⟩
    have HB := Lib.hid (Lib.below_freeze (hb1.trans hb2) (p := ⟨w.heap.size, 0, none⟩) (Nat.le_refl _) s.size)
    clear hY hM hYl hYs hgY hb1 hb2
    go_enter Tryz.func60, Tryz.ntmps60
    go_wp2
    go_ret
    exact ⟨rfl, HB.out⟩
theorem clone_bb (s : ByteArray) (w : World) (hlim : s.size ≤ 281474976710656) :
    Calls Tryz.prog 38 #[.string s] w fun e w' => e = .returned (.string s) ∧ Below w.heap.size w w' := by
  go_enter Tryz.func38, Tryz.ntmps38
  go_wp2_with (fail)
  refine (slclone_bb s _ hlim).mono ?_
  rintro e w1 ⟨rfl, hb⟩
  have HB := Lib.hid hb
  clear hb
  go_wp2
  go_ret
  exact ⟨rfl, HB.out⟩
end Go.Proofs.YtmlikkjahkdilaaGreatDoor

namespace Go.Proofs.YtmlikkjahkdilaaGreatDoor
open Go.RowKit
theorem quiet_left {P : Program} {f : FuncId} {args : Array Value} {w : World} {n : Nat} {v : Value}
    (h : Calls P f args (w.drewN n) fun e w' => e = .returned v ∧ w.drewN n = w') : Calls P f args (w.drewN n) fun e w'' => e = .returned v ∧ ∃ m, w'' = w.drewN m :=
  h.mono fun _ _ ⟨he, hm⟩ => ⟨he, n, hm.symm⟩
theorem quiet_add_left {P : Program} {f : FuncId} {args : Array Value} {w : World} {a n : Nat} {v : Value}
    (h : Calls P f args (w.drewN (a + n)) fun e w' => e = .returned v ∧ w.drewN (a + n) = w') :
    Calls P f args (w.drewN (a + n)) fun e w'' => e = .returned v ∧ ∃ m, w'' = w.drewN (a + m) :=
  h.mono fun _ _ ⟨he, hm⟩ => ⟨he, n, hm.symm⟩
end Go.Proofs.YtmlikkjahkdilaaGreatDoor

namespace Go.Proofs.YtmlikkjahkdilaaGreatDoor
open Go.RowKit

def un4 (r : List UInt8) : Nat := unfour (r.getD 0 0) (r.getD 1 0) (r.getD 2 0) (r.getD 3 0)
theorem un4_lt (r : List UInt8) : un4 r < 4294967296 := by
  unfold un4 unfour
  have := (r.getD 0 0).toNat_lt
  have := (r.getD 1 0).toNat_lt
  have := (r.getD 2 0).toNat_lt
  have := (r.getD 3 0).toNat_lt
  omega
/-- what stands at the beginning of r: the body, and the error -/
def nxAt (r : List UInt8) : List UInt8 × Int :=
  if r = [] then ([], 3) else if r.length < 8 then ([], 23) else
  if (Crc.sum (r.take 4)).toNat ≠ un4 (r.drop 4) ∨ 1048576 < un4 r then ([], 24) else
  if r.length < un4 r + 12 then ([], 23) else
  if (Crc.sum ((r.drop 8).take (un4 r))).toNat ≠ un4 (r.drop (8 + un4 r)) then ([], 24) else ((r.drop 8).take (un4 r), 0)
theorem getD_at (s : ByteArray) (i : Nat) (h : i < s.size) : s.data.toList.getD i 0 = s[i] := by
  have h' : i < s.data.toList.length := by simpa using h
  rw [List.getD_eq_getElem?_getD, List.getElem?_eq_getElem h']
  rfl
theorem from_un4 (s : ByteArray) (h : 4 ≤ s.size) (w : World) :
    Calls Tryz.prog 121 #[.string s] w fun e w' => e = .returned (.int .u32 (un4 s.data.toList : Nat)) ∧ ∃ n, w' = w.drewN n := by
  refine (from_any s h w).mono ?_
  rintro e w' ⟨rfl, hw⟩
  refine ⟨?_, hw⟩
  unfold un4
  rw [getD_at s 0 (by omega), getD_at s 1 (by omega), getD_at s 2 (by omega), getD_at s 3 (by omega)]
theorem rest_data' (s : ByteArray) (i : Nat) : (s.extract i s.size).data.toList = s.data.toList.drop i := by
  rw [Lib.extract_data, List.take_of_length_le]
  simp
def nxVal (b : List UInt8) (at_ e : Int) : Value := .tuple #[.string ⟨b.toArray⟩, .int .i64 at_, .int .i64 e]
set_option maxHeartbeats 4000000 in
theorem next_arg (s : ByteArray) (at_ : Int) (w : World) (h : at_ < 0 ∨ (s.size : Int) < at_) :
    Calls Tryz.prog 99 #[.string s, .int .i64 at_] w fun e w' => e = .returned (nxVal [] 0 2) ∧ w = w' := by
  by_cases h0 : at_ < 0
  · go_enter Tryz.func99, Tryz.ntmps99
    go_wp2
    go_ret3
    exact ⟨rfl, rfl⟩
  · have t1 : (s.size : Int) < at_ := by omega
    go_enter Tryz.func99, Tryz.ntmps99
    go_wp2
    go_ret3
    exact ⟨rfl, rfl⟩
set_option maxHeartbeats 4000000 in
theorem next_short (s : ByteArray) (a : Nat) (w : World) (ha : a ≤ s.size) (hs : s.size ≤ 140737488351232) (h : s.size - a < 8) :
    Calls Tryz.prog 99 #[.string s, .int .i64 (a : Int)] w fun e w' => e = .returned (nxVal [] 0 (if a = s.size then 3 else 23)) ∧ w = w' := by
  have hsz : (s.extract a s.size).size = s.size - a := by rw [ByteArray.size_extract]; omega
  by_cases h0 : a = s.size
  · have hE : Hid (a = s.size) := h0
    have t1 : (s.extract a s.size).toList.isEmpty = true := by
      rw [ByteArray.toList_eq]
      have : (s.extract a s.size).data.toList.length = 0 := by simp; omega
      rw [List.eq_nil_of_length_eq_zero this]; rfl
    clear h0
    go_enter Tryz.func99, Tryz.ntmps99
    go_wp2
    go_ret3
    exact ⟨rfl, rfl⟩
  · have hE : Hid (¬ a = s.size) := h0
    have t1 : (s.extract a s.size).toList.isEmpty = false := by
      rw [ByteArray.toList_eq]
      cases hc : (s.extract a s.size).data.toList with
      | nil => have := congrArg List.length hc; simp at this; omega
      | cons x r => rfl
    have t2 : ((s.extract a s.size).size : Int) < 8 := by omega
    clear h0
    go_enter Tryz.func99, Tryz.ntmps99
    go_wp2
    go_ret3
    exact ⟨rfl, rfl⟩
theorem below_drewN0 (w : World) (n : Nat) : Below w.heap.size w (w.drewN n) := ⟨rfl, rfl, rfl, Nat.le_refl _, fun _ _ => rfl⟩
theorem from_quiet (s : ByteArray) (h : 4 ≤ s.size) (w : World) (n : Nat) :
    Calls Tryz.prog 121 #[.string s] (w.drewN n) fun e w' => e = .returned (.int .u32 (un4 s.data.toList : Nat)) ∧ ∃ m, w' = w.drewN m := by
  refine (from_un4 s h (w.drewN n)).mono ?_
  rintro e w' ⟨rfl, m, rfl⟩
  exact ⟨rfl, n + m, World.drewN_drewN w n m⟩
def nxEnd (a : Nat) (r : List UInt8 × Int) : Value := nxVal r.1 (if r.2 = 0 then (a : Int) + r.1.length + 12 else 0) r.2
end Go.Proofs.YtmlikkjahkdilaaGreatDoor

namespace Go.Proofs.YtmlikkjahkdilaaGreatDoor
open Go.RowKit

theorem from_at (s : ByteArray) (h : 4 ≤ s.size) (M : Nat) (hM : M = un4 s.data.toList) (w : World) (n : Nat) :
    Calls Tryz.prog 121 #[.string s] (w.drewN n) fun e w' => e = .returned (.int .u32 (M : Nat)) ∧ ∃ m, w' = w.drewN m := by
  rw [hM]; exact from_quiet s h w n
theorem sum_at (s : ByteArray) (h : s.size ≤ 140737488351232) (X : BitVec 32) (hX : X = Crc.sum s.data.toList) (w : World) (hh : Half w) (n : Nat) :
    Calls Tryz.prog 69 #[.string s] (w.drewN n) fun e w' => e = .returned (.int .u32 (U X)) ∧ w.drewN n = w' := by
  rw [hX]; exact sum_any s (w.drewN n) (hh.below (below_drewN0 w n) hh.lt) (by unfold maxLen; omega)
structure NxSet (s : ByteArray) (a : Nat) (q q4 q5 : ByteArray) (N M : Nat) (X : BitVec 32) : Prop where
  e : s.extract a s.size = q
  e4 : q.extract 0 4 = q4
  e5 : q.extract 4 q.size = q5
  ql : q.data.toList = s.data.toList.drop a
  z8 : 8 ≤ q.size
  zs : q.size ≤ 140737488351232
  z4 : q4.size = 4
  z5 : q5.size = q.size - 4
  qs : q.size = s.size - a
  hN : N = un4 q.data.toList
  hM : M = un4 q5.data.toList
  hX : X = Crc.sum q4.data.toList
  nx : nxAt (s.data.toList.drop a) = if X.toNat ≠ M ∨ 1048576 < N then ([], 24) else
      if q.size < N + 12 then ([], 23) else
      if (Crc.sum ((q.data.toList.drop 8).take N)).toNat ≠ un4 (q.data.toList.drop (8 + N)) then ([], 24) else ((q.data.toList.drop 8).take N, 0)
theorem nx_set (s : ByteArray) (a : Nat) (ha : a ≤ s.size) (hs : s.size ≤ 140737488351232) (h8 : 8 ≤ s.size - a) : ∃ q q4 q5 N M X, NxSet s a q q4 q5 N M X := by
  have hql : (s.extract a s.size).data.toList = s.data.toList.drop a := rest_data' s a
  have hqs : (s.extract a s.size).size = s.size - a := by rw [ByteArray.size_extract]; omega
  refine ⟨_, _, _, _, _, _, rfl, rfl, rfl, hql, by omega, by omega, by rw [ByteArray.size_extract]; omega, by rw [ByteArray.size_extract]; omega, hqs, rfl, rfl, rfl, ?_⟩
  have e2 : (s.extract a s.size).data.toList.length = (s.extract a s.size).size := by simp
  have h4 : ((s.extract a s.size).extract 0 4).data.toList = (s.extract a s.size).data.toList.take 4 := by rw [Lib.extract_data]; simp
  have h5 : ((s.extract a s.size).extract 4 (s.extract a s.size).size).data.toList = (s.extract a s.size).data.toList.drop 4 := by rw [rest_data']
  rw [h4, h5, ← hql]
  obtain ⟨l, hl⟩ : ∃ l, l = (s.extract a s.size).data.toList := ⟨_, rfl⟩
  rw [← hl] at e2 ⊢
  unfold nxAt
  rw [if_neg (by intro e; rw [e] at e2; simp at e2; omega), if_neg (by omega), ← e2]
theorem nonempty_of {q : ByteArray} (h : 8 ≤ q.size) : q.toList.isEmpty = false := by
  rw [ByteArray.toList_eq]
  cases hc : q.data.toList with
  | nil =>
    have e1 : q.data.toList.length = 0 := by rw [hc]; rfl
    have e2 : q.data.toList.length = q.size := by simp
    omega
  | cons x r => rfl
theorem drew_below {w w1 : World} (h : ∃ n, w1 = w.drewN n) : Below w.heap.size w w1 := by
  obtain ⟨n, rfl⟩ := h
  exact below_drewN0 w n
theorem drew_half {w w1 : World} (hh : Half w) (h : ∃ n, w1 = w.drewN n) : Half w1 := hh.below (drew_below h) hh.lt
theorem drew_drew {w w1 : World} {n : Nat} (h : ∃ n, w1 = w.drewN n) : ∃ m, w1.drewN n = w.drewN m := by
  obtain ⟨k, rfl⟩ := h
  exact ⟨k + n, World.drewN_drewN w k n⟩
set_option maxHeartbeats 4000000 in
theorem next_a (s : ByteArray) (a : Nat) (q q4 q5 : ByteArray) (N M : Nat) (X : BitVec 32) (w : World) (ha : a ≤ s.size) (hs : s.size ≤ 140737488351232) (k : NxSet s a q q4 q5 N M X) (hh : Half w)
    (c : X.toNat ≠ M ∨ 1048576 < N) :
    Calls Tryz.prog 99 #[.string s, .int .i64 (a : Int)] w fun e w' => e = .returned (nxEnd a (nxAt (s.data.toList.drop a))) ∧ Below w.heap.size w w' := by
  have HE : Hid (nxAt (s.data.toList.drop a) = ([], 24)) := by
    show _ = _
    rw [k.nx, if_pos c]
  have t1 := nonempty_of k.z8
  have t2 : ¬ (q.size : Int) < 8 := by have := k.z8; omega
  have b4 : (4 : Int) ≤ (q.size : Int) := by omega
  have z8 := k.z8
  have FN := fun (v : World) (n : Nat) => Lib.hid (from_at q (by have := k.z8; omega) N k.hN v n)
  have FM := fun (v : World) (n : Nat) => Lib.hid (from_at q5 (by have := k.z5; have := k.z8; omega) M k.hM v n)
  have FX := fun (v : World) (hv : Half v) (n : Nat) => Lib.hid (sum_at q4 (by have := k.z4; omega) X k.hX v hv n)
  have e := k.e
  have e4 := k.e4
  have e5 := k.e5
  have zs := k.zs
  have HH := Lib.hid hh
  clear hh k
  by_cases c1 : X.toNat = M
  · have c2 : 1048576 < N := by rcases c with h | h; exact absurd c1 h; exact h
    have t3 : (U X != (M : Int)) = false := by unfold U; simp [c1]
    clear c c1
    go_enter Tryz.func99, Tryz.ntmps99
    go_wp2_with (fail)
    refine (FN _ 0).out.mono ?_
    rintro e w1 ⟨rfl, hw1⟩
    have HW := Lib.hid hw1
    have H1 := Lib.hid (drew_half HH.out hw1)
    clear hw1
    go_wp2_with (fail)
    go_quiet (first | (go_at_call 69; exact quiet_left (FX _ H1.out _).out) | (go_at_call 121; exact (FM _ _).out))
    go_wp2
    go_ret3
    exact ⟨by rw [HE.out]; rfl, drew_below (drew_drew HW.out)⟩
  · have t3 : (U X != (M : Int)) = true := by unfold U; simp; omega
    clear c c1
    go_enter Tryz.func99, Tryz.ntmps99
    go_wp2_with (fail)
    refine (FN _ 0).out.mono ?_
    rintro e w1 ⟨rfl, hw1⟩
    have HW := Lib.hid hw1
    have H1 := Lib.hid (drew_half HH.out hw1)
    clear hw1
    go_wp2_with (fail)
    go_quiet (first | (go_at_call 69; exact quiet_left (FX _ H1.out _).out) | (go_at_call 121; exact (FM _ _).out))
    go_wp2
    go_ret3
    exact ⟨by rw [HE.out]; rfl, drew_below (drew_drew HW.out)⟩
set_option maxHeartbeats 4000000 in
theorem next_b (s : ByteArray) (a : Nat) (q q4 q5 : ByteArray) (N M : Nat) (X : BitVec 32) (w : World) (ha : a ≤ s.size) (hs : s.size ≤ 140737488351232) (k : NxSet s a q q4 q5 N M X) (hh : Half w)
    (c1 : X.toNat = M) (c2 : ¬ 1048576 < N) (c3 : q.size < N + 12) :
    Calls Tryz.prog 99 #[.string s, .int .i64 (a : Int)] w fun e w' => e = .returned (nxEnd a (nxAt (s.data.toList.drop a))) ∧ Below w.heap.size w w' := by
  have HE : Hid (nxAt (s.data.toList.drop a) = ([], 23)) := by
    show _ = _
    rw [k.nx, if_neg (by omega), if_pos c3]
  have t1 := nonempty_of k.z8
  have t2 : ¬ (q.size : Int) < 8 := by have := k.z8; omega
  have b4 : (4 : Int) ≤ (q.size : Int) := by omega
  have z8 := k.z8
  have FN := fun (v : World) (n : Nat) => Lib.hid (from_at q (by have := k.z8; omega) N k.hN v n)
  have FM := fun (v : World) (n : Nat) => Lib.hid (from_at q5 (by have := k.z5; have := k.z8; omega) M k.hM v n)
  have FX := fun (v : World) (hv : Half v) (n : Nat) => Lib.hid (sum_at q4 (by have := k.z4; omega) X k.hX v hv n)
  have e := k.e
  have e4 := k.e4
  have e5 := k.e5
  have zs := k.zs
  have HH := Lib.hid hh
  have t3 : (U X != (M : Int)) = false := by unfold U; simp [c1]
  have t4 : (q.size : Int) < 8 + (N : Int) + 4 := by omega
  clear hh k c1 c3
  go_enter Tryz.func99, Tryz.ntmps99
  go_wp2_with (fail)
  refine (FN _ 0).out.mono ?_
  rintro e w1 ⟨rfl, hw1⟩
  have HW := Lib.hid hw1
  have H1 := Lib.hid (drew_half HH.out hw1)
  clear hw1
  go_wp2_with (fail)
  go_quiet (first | (go_at_call 69; exact quiet_left (FX _ H1.out _).out) | (go_at_call 121; exact (FM _ _).out))
  go_wp2
  go_ret3
  exact ⟨by rw [HE.out]; rfl, drew_below (drew_drew HW.out)⟩
end Go.Proofs.YtmlikkjahkdilaaGreatDoor

namespace Go.Proofs.YtmlikkjahkdilaaGreatDoor
open Go.RowKit

theorem from_add (s : ByteArray) (h : 4 ≤ s.size) (M : Nat) (hM : M = un4 s.data.toList) (w : World) (a n : Nat) :
    Calls Tryz.prog 121 #[.string s] (w.drewN (a + n)) fun e w' => e = .returned (.int .u32 (M : Nat)) ∧ ∃ m, w' = w.drewN (a + m) := by
  rw [hM]
  refine (from_un4 s h (w.drewN (a + n))).mono ?_
  rintro e w' ⟨rfl, m, rfl⟩
  exact ⟨rfl, n + m, by rw [World.drewN_drewN, Nat.add_assoc]⟩
theorem below_from {w v w5 : World} (hb : Below v.heap.size v w5) (h : ∃ n, v = w.drewN n) : Below w.heap.size w w5 :=
  (drew_below h).trans (hb.mono (drew_below h).size)
structure NxBody (q : ByteArray) (N : Nat) (bd r : ByteArray) (L : Nat) (Y : BitVec 32) : Prop where
  e6 : q.extract 8 (8 + N) = bd
  e7 : q.extract (8 + N) q.size = r
  zb : bd.size = N
  zr : 4 ≤ r.size
  bl : bd.data.toList = (q.data.toList.drop 8).take N
  hL : L = un4 r.data.toList
  hL2 : L = un4 (q.data.toList.drop (8 + N))
  hY : Y = Crc.sum bd.data.toList
theorem nx_body (q : ByteArray) (N : Nat) (h : N + 12 ≤ q.size) : ∃ bd r L Y, NxBody q N bd r L Y := by
  have hb : (q.extract 8 (8 + N)).data.toList = (q.data.toList.drop 8).take N := by
    rw [Lib.extract_data, show 8 + N - 8 = N by omega]
  exact ⟨_, _, _, _, rfl, rfl, by rw [ByteArray.size_extract]; omega, by rw [ByteArray.size_extract]; omega, hb, rfl, by rw [rest_data'], rfl⟩
set_option maxHeartbeats 4000000 in
theorem next_d (s : ByteArray) (a : Nat) (q q4 q5 : ByteArray) (N M : Nat) (X : BitVec 32) (w : World) (ha : a ≤ s.size) (hs : s.size ≤ 140737488351232) (k : NxSet s a q q4 q5 N M X) (hh : Half w)
    (c1 : X.toNat = M) (c2 : ¬ 1048576 < N) (c3 : N + 12 ≤ q.size) (bd r : ByteArray) (L : Nat) (Y : BitVec 32) (b : NxBody q N bd r L Y) (c4 : Y.toNat ≠ L) :
    Calls Tryz.prog 99 #[.string s, .int .i64 (a : Int)] w fun e w' => e = .returned (nxEnd a (nxAt (s.data.toList.drop a))) ∧ Below w.heap.size w w' := by
  have HE : Hid (nxAt (s.data.toList.drop a) = ([], 24)) := by
    show _ = _
    rw [k.nx, if_neg (by omega), if_neg (by omega), ← b.bl, ← b.hL2, ← b.hY, if_pos c4]
  have t1 := nonempty_of k.z8
  have t2 : ¬ (q.size : Int) < 8 := by have := k.z8; omega
  have b4 : (4 : Int) ≤ (q.size : Int) := by omega
  have z8 := k.z8
  have FN := fun (v : World) (n : Nat) => Lib.hid (from_at q (by have := k.z8; omega) N k.hN v n)
  have FM := fun (v : World) (n : Nat) => Lib.hid (from_at q5 (by have := k.z5; have := k.z8; omega) M k.hM v n)
  have FX := fun (v : World) (hv : Half v) (n : Nat) => Lib.hid (sum_at q4 (by have := k.z4; omega) X k.hX v hv n)
  have FL := fun (v : World) (n : Nat) => Lib.hid (from_at r b.zr L b.hL v n)
  have FLA := fun (v : World) (a n : Nat) => Lib.hid (from_add r b.zr L b.hL v a n)
  have FY := fun (v : World) (hv : Half v) (n : Nat) => Lib.hid (sum_at bd (by have := b.zb; have := k.zs; omega) Y b.hY v hv n)
  have e := k.e
  have e4 := k.e4
  have e5 := k.e5
  have e6 := b.e6
  have e7 := b.e7
  have zs := k.zs
  have zb := Lib.hid b.zb
  have HH := Lib.hid hh
  have t3 : (U X != (M : Int)) = false := by unfold U; simp [c1]
  have t4 : ¬ (q.size : Int) < 8 + (N : Int) + 4 := by omega
  have t5 : (8 : Int) + (N : Int) ≤ (q.size : Int) := by omega
  have t6 : (U Y != (L : Int)) = true := by unfold U; simp; omega
  clear hh k c1 c3 c4 b
  go_enter Tryz.func99, Tryz.ntmps99
  go_wp2_with (fail)
  refine (FN _ 0).out.mono ?_
  rintro e w1 ⟨rfl, hw1⟩
  have HW := Lib.hid hw1
  have H1 := Lib.hid (drew_half HH.out hw1)
  clear hw1
  go_wp2_with (fail)
  go_quiet (first | (go_at_call 69; exact quiet_left (FX _ H1.out _).out) | (go_at_call 121; exact (FM _ _).out))
  go_wp2
  go_quiet (first | (go_at_call 69; first | exact quiet_add_left (FY _ H1.out _).out | exact quiet_left (FY _ H1.out _).out) | (go_at_call 121; first | exact (FLA _ _ _).out | exact (FL _ _).out))
  go_wp2
  go_ret3
  exact ⟨by rw [HE.out]; rfl, drew_below (drew_drew (drew_drew HW.out))⟩
set_option maxHeartbeats 4000000 in
theorem next_e (s : ByteArray) (a : Nat) (q q4 q5 : ByteArray) (N M : Nat) (X : BitVec 32) (w : World) (ha : a ≤ s.size) (hs : s.size ≤ 140737488351232) (k : NxSet s a q q4 q5 N M X) (hh : Half w)
    (c1 : X.toNat = M) (c2 : ¬ 1048576 < N) (c3 : N + 12 ≤ q.size) (bd r : ByteArray) (L : Nat) (Y : BitVec 32) (b : NxBody q N bd r L Y) (c4 : Y.toNat = L) :
    Calls Tryz.prog 99 #[.string s, .int .i64 (a : Int)] w fun e w' => e = .returned (nxEnd a (nxAt (s.data.toList.drop a))) ∧ Below w.heap.size w w' := by
  have HE : Hid (nxAt (s.data.toList.drop a) = (bd.data.toList, 0)) := by
    show _ = _
    rw [k.nx, if_neg (by omega), if_neg (by omega), ← b.bl, ← b.hL2, ← b.hY, if_neg (by omega)]
  have t1 := nonempty_of k.z8
  have t2 : ¬ (q.size : Int) < 8 := by have := k.z8; omega
  have b4 : (4 : Int) ≤ (q.size : Int) := by omega
  have z8 := k.z8
  have FN := fun (v : World) (n : Nat) => Lib.hid (from_at q (by have := k.z8; omega) N k.hN v n)
  have FM := fun (v : World) (n : Nat) => Lib.hid (from_at q5 (by have := k.z5; have := k.z8; omega) M k.hM v n)
  have FX := fun (v : World) (hv : Half v) (n : Nat) => Lib.hid (sum_at q4 (by have := k.z4; omega) X k.hX v hv n)
  have FL := fun (v : World) (n : Nat) => Lib.hid (from_at r b.zr L b.hL v n)
  have FLA := fun (v : World) (a n : Nat) => Lib.hid (from_add r b.zr L b.hL v a n)
  have FY := fun (v : World) (hv : Half v) (n : Nat) => Lib.hid (sum_at bd (by have := b.zb; have := k.zs; omega) Y b.hY v hv n)
  have e := k.e
  have e4 := k.e4
  have e5 := k.e5
  have e6 := b.e6
  have e7 := b.e7
  have zs := k.zs
  have zb := Lib.hid b.zb
  have HH := Lib.hid hh
  have t3 : (U X != (M : Int)) = false := by unfold U; simp [c1]
  have t4 : ¬ (q.size : Int) < 8 + (N : Int) + 4 := by omega
  have t5 : (8 : Int) + (N : Int) ≤ (q.size : Int) := by omega
  have t6 : (U Y != (L : Int)) = false := by unfold U; simp [c4]
  clear hh k c1 c3 c4 b
  go_enter Tryz.func99, Tryz.ntmps99
  go_wp2_with (fail)
  refine (FN _ 0).out.mono ?_
  rintro e w1 ⟨rfl, hw1⟩
  have HW := Lib.hid hw1
  have H1 := Lib.hid (drew_half HH.out hw1)
  clear hw1
  go_wp2_with (fail)
  go_quiet (first | (go_at_call 69; exact quiet_left (FX _ H1.out _).out) | (go_at_call 121; exact (FM _ _).out))
  go_wp2
  go_quiet (first | (go_at_call 69; first | exact quiet_add_left (FY _ H1.out _).out | exact quiet_left (FY _ H1.out _).out) | (go_at_call 121; first | exact (FLA _ _ _).out | exact (FL _ _).out))
  go_wp2_with (fail)
  refine (clone_bb bd _ (by have := zb.out; omega)).mono ?_
  rintro e w5 ⟨rfl, hb5⟩
  have B5 := Lib.hid hb5
  clear hb5
  go_wp2
  go_ret3
  refine ⟨?_, ?_⟩
  · rw [HE.out]
    unfold nxEnd nxVal
    simp only [if_true]
    have hz : bd.data.toList.length = N := by rw [← zb.out]; simp
    rw [hz]
    have hbd : (⟨bd.data.toList.toArray⟩ : ByteArray) = bd := by simp
    rw [hbd, show (a : Int) + N + 12 = a + (8 + N) + 4 by omega]
    rfl
  · first | exact below_from B5.out (drew_drew HW.out) | exact below_from B5.out (drew_drew (drew_drew HW.out))
theorem next_any (s : ByteArray) (a : Nat) (w : World) (ha : a ≤ s.size) (hs : s.size ≤ 140737488351232) (hh : Half w) :
    Calls Tryz.prog 99 #[.string s, .int .i64 (a : Int)] w fun e w' => e = .returned (nxEnd a (nxAt (s.data.toList.drop a))) ∧ Below w.heap.size w w' := by
  by_cases h8 : s.size - a < 8
  · refine (next_short s a w ha hs h8).mono ?_
    rintro e w' ⟨rfl, rfl⟩
    refine ⟨?_, Below.refl _ _⟩
    have hl : (s.data.toList.drop a).length = s.size - a := by simp
    unfold nxAt
    by_cases h0 : a = s.size
    · have hnil : s.data.toList.drop a = [] := List.eq_nil_of_length_eq_zero (by omega)
      rw [if_pos h0, if_pos hnil]
      rfl
    · rw [if_neg h0, if_neg (by intro e; rw [e] at hl; simp at hl; omega), if_pos (by omega)]
      rfl
  · obtain ⟨q, q4, q5, N, M, X, k⟩ := nx_set s a ha hs (by omega)
    by_cases c1 : X.toNat ≠ M ∨ 1048576 < N
    · exact next_a s a q q4 q5 N M X w ha hs k hh c1
    · have c2 : X.toNat = M := by omega
      have c3 : ¬ 1048576 < N := by omega
      by_cases c4 : q.size < N + 12
      · exact next_b s a q q4 q5 N M X w ha hs k hh c2 c3 c4
      · obtain ⟨bd, r, L, Y, b⟩ := nx_body q N (by omega)
        by_cases c5 : Y.toNat = L
        · exact next_e s a q q4 q5 N M X w ha hs k hh c2 c3 (by omega) bd r L Y b c5
        · exact next_d s a q q4 q5 N M X w ha hs k hh c2 c3 (by omega) bd r L Y b c5
end Go.Proofs.YtmlikkjahkdilaaGreatDoor

namespace Go.Proofs.YtmlikkjahkdilaaGreatDoor
open Go.RowKit

/-- the bodies of all frames, the place where they end, and why -/
def allL (l : List UInt8) : List (List UInt8) × Nat × Int :=
  if _h3 : (nxAt l).2 = 3 then ([], 0, 0) else
  if _h0 : (nxAt l).2 = 0 then
    if _hl : 12 ≤ l.length then
      ((nxAt l).1 :: (allL (l.drop ((nxAt l).1.length + 12))).1, (nxAt l).1.length + 12 + (allL (l.drop ((nxAt l).1.length + 12))).2.1, (allL (l.drop ((nxAt l).1.length + 12))).2.2)
    else ([], 0, 0)
  else ([], 0, (nxAt l).2)
termination_by l.length
decreasing_by all_goals (simp only [List.length_drop]; omega)
theorem nx_ok_len {l : List UInt8} (h : (nxAt l).2 = 0) : (nxAt l).1.length + 12 ≤ l.length ∧ (nxAt l).1.length ≤ 1048576 := by
  unfold nxAt at h ⊢
  split at h
  · cases h
  · rw [if_neg (by assumption)]
    split at h
    · cases h
    · rw [if_neg (by assumption)]
      split at h
      · cases h
      · rw [if_neg (by assumption)]
        split at h
        · cases h
        · rw [if_neg (by assumption)]
          split at h
          · cases h
          · rw [if_neg (by assumption)]
            rename_i h1 h2 h3
            simp only [List.length_take, List.length_drop]
            omega
theorem all_end {l : List UInt8} (h : (nxAt l).2 = 3) : allL l = ([], 0, 0) := by rw [allL, dif_pos h]
theorem all_bad {l : List UInt8} (h3 : (nxAt l).2 ≠ 3) (h : (nxAt l).2 ≠ 0) : allL l = ([], 0, (nxAt l).2) := by rw [allL, dif_neg h3, dif_neg h]
theorem all_more {l : List UInt8} (h : (nxAt l).2 = 0) :
    allL l = ((nxAt l).1 :: (allL (l.drop ((nxAt l).1.length + 12))).1, (nxAt l).1.length + 12 + (allL (l.drop ((nxAt l).1.length + 12))).2.1, (allL (l.drop ((nxAt l).1.length + 12))).2.2) := by
  rw [allL, dif_neg (by omega), dif_pos h, dif_pos (by have := (nx_ok_len h).1; omega)]
def strV (l : List UInt8) : Value := .string ⟨l.toArray⟩
def AllPost (w : World) (l : List UInt8) (e : Ending) (w' : World) : Prop :=
  ∃ v, e = .returned (.tuple #[v, .int .i64 (allL l).2.1, .int .i64 (allL l).2.2]) ∧ w'.ownsRow w.heap.size 9 1 v (allL l).1.length ((allL l).1.map strV) ∧ Below w.heap.size w w'
/-- what is known of what was gathered, where the rest begins at a -/
def AllInv (l : List UInt8) (a : Nat) (acc : List (List UInt8)) : Prop :=
  12 * acc.length ≤ a ∧ allL l = (acc ++ (allL (l.drop a)).1, a + (allL (l.drop a)).2.1, (allL (l.drop a)).2.2)
theorem AllInv.start (l : List UInt8) : AllInv l 0 [] := ⟨Nat.zero_le _, by simp⟩
theorem AllInv.more {l : List UInt8} {a : Nat} {acc : List (List UInt8)} (h : AllInv l a acc) (h0 : (nxAt (l.drop a)).2 = 0) :
    AllInv l (a + (nxAt (l.drop a)).1.length + 12) (acc ++ [(nxAt (l.drop a)).1]) := by
  obtain ⟨h1, h2⟩ := h
  refine ⟨by simp; omega, ?_⟩
  rw [h2, all_more h0, List.drop_drop]
  rw [show a + ((nxAt (l.drop a)).1.length + 12) = a + (nxAt (l.drop a)).1.length + 12 by omega]
  generalize allL (l.drop (a + (nxAt (l.drop a)).1.length + 12)) = t
  simp only [List.append_assoc, List.singleton_append]
  congr 2
  omega
theorem ownsRow_below {w w' : World} {B : Nat} {e : TypeId} {v : Value} {n : Nat} {xs : List Value} (h : w.ownsRow B e 1 v n xs) (hb : Below w.heap.size w w') : w'.ownsRow B e 1 v n xs := by
  obtain ⟨hl, h⟩ := h
  refine ⟨hl, ?_⟩
  rcases h with h | ⟨g, cap, cur, h1, h2, h3, h4, h5, h6, h7⟩
  · exact .inl h
  · have hg : g < w.heap.size := by
      rcases Nat.lt_or_ge g w.heap.size with hl | hl
      · exact hl
      · rw [Array.getElem?_eq_none hl] at h3; cases h3
    exact .inr ⟨g, cap, cur, h1, h2, (hb.block g hg).trans h3, h4, h5, h6, h7⟩
theorem ownsRow_block {w : World} {B : Nat} {e : TypeId} {v : Value} {n : Nat} {xs : List Value} (h : w.ownsRow B e 1 v n xs) : ∀ k, v.ownBlock = some k → B ≤ k := by
  rcases h.2 with ⟨rfl, _⟩ | ⟨g, cap, cur, rfl, h2, _⟩
  · intro k hk; cases hk
  · intro k hk; injection hk with hk; rw [← hk]; exact h2
theorem infoStr : (Tryz.prog.info? 9).map (fun i => (i.zero, i.size, i.bytes)) = some (some (.string ⟨#[]⟩), 1, 16) := by kernel_rfl
theorem all_fin {w wr w1 : World} {B : Nat} {l : List UInt8} {a : Nat} {acc : List (List UInt8)} {v : Value} {er : Int} (HI : Hid (AllInv l a acc ∧ wr.ownsRow B 9 1 v acc.length (acc.map strV) ∧ Below B w wr))
    (HE : Hid (allL (l.drop a) = ([], 0, er))) (hB : B = w.heap.size) (hb : Hid (Below wr.heap.size wr w1)) : AllPost w l (.returned (.tuple #[v, .int .i64 (a : Int), .int .i64 er])) w1 := by
  obtain ⟨⟨_, h2⟩, ho, hbl⟩ := HI.out
  rw [HE.out] at h2
  simp only [List.append_nil, Nat.add_zero] at h2
  subst hB
  refine ⟨v, ?_, ?_, hbl.trans (hb.out.mono hbl.size)⟩
  · rw [h2]
  · rw [h2]; exact ownsRow_below ho hb.out
theorem all_step {w w1 w2 : World} {B : Nat} {o : Obj} {v : Value} {n : Nat} {xs : List Value} (h1 : Hid (Below B w w1)) (hB : B = w.heap.size) (hown : w1.ownsRow B 9 1 v n xs) (hg : (w1.alloc o).grownBy w2 v.ownBlock) : Below B w w2 := by
  have h3 : Below B w1 (w1.alloc o) := (Below.refl _ _).alloc (by have := h1.out.size; omega) _
  exact (h1.out.trans h3).grown hg (by have := h1.out.size; simp; omega) (ownsRow_block hown)
set_option maxHeartbeats 1000000 in
theorem all_any (s : ByteArray) (w : World) (hs : s.size ≤ 1099511627776) (hh : Half w) :
    Calls Tryz.prog 65 #[.string s] w (AllPost w s.data.toList) := by
  obtain ⟨i0, hi, hz0, hz1, hz2⟩ := info_parts infoStr
  obtain ⟨l, hl⟩ : ∃ l, l = s.data.toList := ⟨_, rfl⟩
  rw [← hl]
  have HL := Lib.hid hl
  have HH := Lib.hid hh
  have h2 := hh.lt
  have zl : l.length = s.size := by rw [hl]; simp
  have ZL := Lib.hid zl
  clear hl hh zl
  obtain ⟨B, hB⟩ : ∃ B, B = w.heap.size := ⟨_, rfl⟩
  have HB := Lib.hid hB
  clear hB h2
  go_enter Tryz.func65, Tryz.ntmps65
  go_wp2
  go_loopw [5, 6] (fun v i wr => ∃ (a : Nat) (acc : List (List UInt8)), a ≤ s.size ∧ i = .int .i64 a ∧ Hid (AllInv l a acc ∧ wr.ownsRow B 9 1 v acc.length (acc.map strV) ∧ Below B w wr)) (fun _ i _ => s.size - (intOf i).toNat)
  case atStart => exact ⟨0, [], Nat.zero_le _, rfl, Lib.hid ⟨AllInv.start l, ⟨rfl, .inl ⟨rfl, rfl⟩⟩, Below.refl _ _⟩⟩
  case round =>
    obtain ⟨a, acc, ha, rfl, HI⟩ := hrel
    have hH := HH.out.below HI.out.2.2 (by rw [HB.out]; exact HH.out.lt)
    obtain ⟨r, hr⟩ : ∃ r, r = nxAt (l.drop a) := ⟨_, rfl⟩
    have hn := next_any s a wr ha (by omega) hH
    rw [← HL.out, ← hr] at hn
    unfold nxEnd nxVal at hn
    obtain ⟨bd, er⟩ := r
    simp only at hn
    obtain ⟨q, hq⟩ : ∃ q : ByteArray, q = ⟨bd.toArray⟩ := ⟨_, rfl⟩
    rw [← hq] at hn
    by_cases c3 : er = 3
    · subst c3
      have HN := Lib.hid hn
      have HE : Hid (allL (l.drop a) = ([], 0, 0)) := all_end (by rw [← hr])
      clear hn hr hH hq
      go_wp2_with (fail)
      refine HN.out.mono ?_
      rintro e w1 ⟨rfl, hb⟩
      have HB1 := Lib.hid hb
      clear hb
      go_wp2
      go_ret3
      exact all_fin HI HE HB.out HB1
    · by_cases c0 : er = 0
      · subst c0
        have hn0 : (nxAt (l.drop a)).2 = 0 := by rw [← hr]
        have hlen := nx_ok_len hn0
        have hm := HI.out.1.more hn0
        rw [← hr] at hlen hm
        simp only at hlen hm
        rw [if_pos rfl] at hn
        have hle : a + bd.length + 12 ≤ s.size := by
          have := ZL.out
          have := hlen.1
          simp only [List.length_drop] at this
          omega
        have hacc : 12 * acc.length ≤ a := HI.out.1.1
        have HM := Lib.hid hm
        have HN := Lib.hid hn
        have HQ := Lib.hid hq
        obtain ⟨d, hd⟩ : ∃ d, d = bd.length := ⟨_, rfl⟩
        rw [← hd] at hle HN HM
        clear hn hr hH hq hn0 hlen hm c3 hd
        go_wp2_with (fail)
        refine HN.out.mono ?_
        rintro e w1 ⟨rfl, hb⟩
        have hown := ownsRow_below HI.out.2.1 hb
        have B1 := Lib.hid (HI.out.2.2.trans (hb.mono (by have := HI.out.2.2.size; rw [HB.out]; exact this)))
        have hBz : B ≤ w1.heap.size := by have := B1.out.size; rw [HB.out]; omega
        clear hb
        go_wp2_with (at_builtin; refine wpList_append_own _ rfl _ _ 36 rfl B 9 i0 (.string ⟨#[]⟩) 1 16 Tryz.underlying36 hi hz0 hz1 hz2 rfl (by decide) _ _ _ rfl (hown.alloc _) ⟨w1.heap.size, 0, none⟩ 1 1 [.string q] rfl rfl ?c1 ?c2 ?c3 ?c4 ?c5 ?_)
        case c1 =>
          intro j u hj
          match j, hj with
          | 0, hj => simp at hj; subst hj; simp [Addr.add]
        case c2 => first | rfl | (intro u hu; simp at hu; subst hu; rfl)
        case c3 => unfold maxLen; omega
        case c4 => omega
        case c5 => simp; omega
        intro v' w2 hown' hgrow' _
        have HG := Lib.hid (all_step B1 HB.out hown hgrow')
        have hown2 : w2.ownsRow B 9 1 v' (acc ++ [bd]).length ((acc ++ [bd]).map strV) := by
          rw [List.length_append, List.map_append]
          show w2.ownsRow B _ 1 v' (acc.length + 1) (acc.map strV ++ [Value.string ⟨bd.toArray⟩])
          rw [← HQ.out]
          exact hown'
        have HO := Lib.hid hown2
        clear hown hown' hgrow' hown2
        go_wp2
        go_roundw
        case rel => exact ⟨a + d + 12, acc ++ [bd], hle, by push_cast; rfl, Lib.hid ⟨HM.out, HO.out, HG.out⟩⟩
        case measure => simp [intOf]; omega
      · have HE : Hid (allL (l.drop a) = ([], 0, er)) := by
          show _ = _
          rw [all_bad (by rw [← hr]; exact c3) (by rw [← hr]; exact c0), ← hr]
        rw [if_neg c0] at hn
        have HN := Lib.hid hn
        have t3 : (er == 3) = false := by simpa using c3
        have t0 : (er != 0) = true := by simpa using c0
        clear hn hr hH hq c3 c0
        go_wp2_with (fail)
        refine HN.out.mono ?_
        rintro e w1 ⟨rfl, hb⟩
        have HB1 := Lib.hid hb
        clear hb
        go_wp2
        go_ret3
        exact all_fin HI HE HB.out HB1
end Go.Proofs.YtmlikkjahkdilaaGreatDoor

namespace Go.Proofs.YtmlikkjahkdilaaGreatDoor.Crc

theorem s8_shl {x : BitVec 32} (h : x.toNat < 16777216) : s8 (x <<< 8) = x := by
  have e8 : (x <<< 8).toNat = x.toNat * 256 := by rw [BitVec.toNat_shiftLeft, Nat.shiftLeft_eq]; omega
  have e4 : s4 (x <<< 8) = (x <<< 8) >>> 4 := s4_even _ (by omega)
  have e4' : ((x <<< 8) >>> 4).toNat = x.toNat * 16 := by rw [BitVec.toNat_ushiftRight, Nat.shiftRight_eq_div_pow, e8]; omega
  unfold s8
  rw [e4, s4_even _ (by omega)]
  apply BitVec.eq_of_toNat_eq
  rw [BitVec.toNat_ushiftRight, Nat.shiftRight_eq_div_pow, e4']
  omega

def word : List UInt8 → BitVec 32
  | [] => 0#32
  | a :: m => by8 a ^^^ (word m <<< 8)
theorem by8_toNat (a : UInt8) : (by8 a).toNat = a.toNat := by
  unfold by8; have := a.toNat_lt; rw [BitVec.toNat_ofNat]; omega
theorem word_cons (a : UInt8) (m : List UInt8) (h : (word m).toNat < 16777216) : (word (a :: m)).toNat = a.toNat + 256 * (word m).toNat := by
  have ha := a.toNat_lt
  rw [show word (a :: m) = by8 a ^^^ (word m <<< 8) from rfl, BitVec.toNat_xor, by8_toNat, BitVec.toNat_shiftLeft, Nat.shiftLeft_eq]
  have e : (word m).toNat * 2 ^ 8 % 2 ^ 32 = 2 ^ 8 * (word m).toNat := by omega
  rw [e]
  have e2 : a.toNat ^^^ 2 ^ 8 * (word m).toNat = 2 ^ 8 * (word m).toNat + a.toNat := by
    rw [Nat.two_pow_add_eq_or_of_lt (by omega : a.toNat < 2 ^ 8)]
    apply Nat.eq_of_testBit_eq
    intro i
    rw [Nat.testBit_xor, Nat.testBit_or, Nat.testBit_two_pow_mul]
    by_cases hi : 8 ≤ i
    · have : a.toNat.testBit i = false := Nat.testBit_lt_two_pow (Nat.lt_of_lt_of_le (by omega : a.toNat < 2 ^ 8) (Nat.pow_le_pow_right (by decide) hi))
      simp [this]
    · simp [hi]
  rw [e2]
  omega
theorem word_lt : ∀ (m : List UInt8), m.length ≤ 4 → (word m).toNat < 256 ^ m.length
  | [], _ => by simp [word]
  | a :: m, h => by
    have ih := word_lt m (by simp at h; omega)
    have hl : m.length ≤ 3 := by simp at h; omega
    have h3 : 256 ^ m.length ≤ 256 ^ 3 := Nat.pow_le_pow_right (by decide) hl
    have hb : (word m).toNat < 16777216 := by omega
    have ha := a.toNat_lt
    rw [word_cons a m hb, List.length_cons, Nat.pow_succ]
    omega
theorem word_lt3 (m : List UInt8) (h : m.length ≤ 3) : (word m).toNat < 16777216 := by
  have h1 := word_lt m (by omega)
  have h3 : 256 ^ m.length ≤ 256 ^ 3 := Nat.pow_le_pow_right (by decide) h
  omega
theorem run_word : ∀ (m : List UInt8) (q : BitVec 32), m.length ≤ 4 → run q m = zs m.length (q ^^^ word m)
  | [], q, _ => by simp [run, word, zs, Nat.repeat]
  | a :: m, q, h => by
    have hl : m.length ≤ 3 := by simp at h; omega
    have ih := run_word m (step q a) (by omega)
    have e : run q (a :: m) = run (step q a) m := rfl
    rw [e, ih]
    have hs : word m = s8 (word m <<< 8) := (s8_shl (word_lt3 m hl)).symm
    have e2 : step q a ^^^ word m = s8 (q ^^^ word (a :: m)) := by
      conv => lhs; rw [hs]
      unfold step
      rw [← s8_xor, word, BitVec.xor_assoc]
    rw [e2, zs_comm]
    rfl
theorem word_inj : ∀ (m n : List UInt8), m.length = n.length → m.length ≤ 4 → word m = word n → m = n
  | [], [], _, _, _ => rfl
  | [], _ :: _, h, _, _ => by simp at h
  | _ :: _, [], h, _, _ => by simp at h
  | a :: m, b :: n, hl, h4, hw => by
    have hm : m.length ≤ 3 := by simp at h4; omega
    have hl' : m.length = n.length := by simpa using hl
    have h := congrArg BitVec.toNat hw
    rw [word_cons a m (word_lt3 m hm), word_cons b n (word_lt3 n (by omega))] at h
    have ha := a.toNat_lt
    have hb := b.toNat_lt
    have e1 : a.toNat = b.toNat := by omega
    have e2 : (word m).toNat = (word n).toNat := by omega
    rw [UInt8.toNat_inj.1 e1, word_inj m n hl' (by omega) (BitVec.eq_of_toNat_eq e2)]
theorem xor_zero_eq {a b : BitVec 32} (h : a ^^^ b = 0#32) : a = b := by
  have := congrArg (· ^^^ b) h
  simpa [BitVec.xor_assoc] using this
theorem zs_inj {n : Nat} {a b : BitVec 32} (h : zs n a = zs n b) : a = b := by
  apply xor_zero_eq
  apply zs_zero (n := n)
  rw [zs_xor, h]
  simp
theorem run_diff (a b : BitVec 32) (l : List UInt8) : run a l ^^^ run b l = zs l.length (a ^^^ b) := by
  have h1 := run_xor a 0#32 l
  have h2 := run_xor b 0#32 l
  rw [BitVec.xor_zero] at h1 h2
  rw [h1, h2, xor_swap, zs_xor]
  simp
theorem run_inj {a b : BitVec 32} {l : List UInt8} (h : run a l = run b l) : a = b := by
  apply xor_zero_eq
  apply zs_zero (n := l.length)
  rw [← run_diff, h]
  simp
theorem mid_inj {q : BitVec 32} {m n : List UInt8} (hl : m.length = n.length) (h4 : m.length ≤ 4) (h : run q m = run q n) : m = n := by
  rw [run_word m q h4, run_word n q (by omega), hl] at h
  have h2 := zs_inj h
  have h3 : word m = word n := by
    have := congrArg (q ^^^ ·) h2
    simpa [← BitVec.xor_assoc] using this
  exact word_inj m n hl h4 h3
theorem sum_inj {a b : List UInt8} (h : sum a = sum b) : run (~~~ 0#32) a = run (~~~ 0#32) b := by
  unfold sum ext at h
  have := congrArg (~~~ ·) h
  simpa using this
/-- NO CHANGE WITHIN FOUR BYTES IN A ROW GOES UNSEEN. -/
theorem burst {l m : List UInt8} (hlen : l.length = m.length) (a : Nat) (h1 : l.take a = m.take a) (h2 : l.drop (a + 4) = m.drop (a + 4)) (hne : l ≠ m) : sum l ≠ sum m := by
  intro h
  have hr := sum_inj h
  have d1 : l = l.take a ++ ((l.drop a).take 4 ++ l.drop (a + 4)) := by
    rw [← List.drop_drop, List.take_append_drop, List.take_append_drop]
  have d2 : m = m.take a ++ ((m.drop a).take 4 ++ m.drop (a + 4)) := by
    rw [← List.drop_drop, List.take_append_drop, List.take_append_drop]
  rw [d1, d2, run_append, run_append, run_append, run_append, h1, h2] at hr
  have h3 := run_inj hr
  have h4 := mid_inj (by simp [hlen]) (by simp; omega) h3
  apply hne
  rw [d1, d2, h1, h2, h4]

/-- three texts of one length and the sum of their bits -/
theorem run_three : ∀ (a b c d : List UInt8), a.length = d.length → b.length = d.length → c.length = d.length → (∀ i, i < d.length → d[i]?.getD 0 = a[i]?.getD 0 ^^^ b[i]?.getD 0 ^^^ c[i]?.getD 0) →
    ∀ (p q r : BitVec 32), run (p ^^^ q ^^^ r) d = run p a ^^^ run q b ^^^ run r c
  | [], [], [], [], _, _, _, _, _, _, _ => rfl
  | x :: a, y :: b, z :: c, t :: d, ha, hb, hc, hd, p, q, r => by
    have h0 := hd 0 (by simp)
    simp only [List.getElem?_cons_zero, Option.getD_some] at h0
    have ih := run_three a b c d (by simpa using ha) (by simpa using hb) (by simpa using hc) (fun i hi => by simpa using hd (i + 1) (by simpa using hi)) (step p x) (step q y) (step r z)
    have e : step (p ^^^ q ^^^ r) t = step p x ^^^ step q y ^^^ step r z := by
      unfold step
      rw [← s8_xor, ← s8_xor]
      congr 1
      have e3 : by8 t = by8 x ^^^ by8 y ^^^ by8 z := by
        apply BitVec.eq_of_toNat_eq
        rw [BitVec.toNat_xor, BitVec.toNat_xor, by8_toNat, by8_toNat, by8_toNat, by8_toNat, h0, UInt8.toNat_xor, UInt8.toNat_xor]
      rw [e3]
      generalize by8 x = X
      generalize by8 y = Y
      generalize by8 z = Z
      ext i hi
      simp only [BitVec.getElem_xor]
      cases p[i] <;> cases q[i] <;> cases r[i] <;> cases X[i] <;> cases Y[i] <;> cases Z[i] <;> rfl
    show run (step (p ^^^ q ^^^ r) t) d = run (step p x) a ^^^ run (step q y) b ^^^ run (step r z) c
    rw [e, ih]
  | [], _, _, _ :: _, h, _, _, _, _, _, _ => by simp at h
  | _ :: _, _, _, [], h, _, _, _, _, _, _ => by simp at h
  | _, [], _, _ :: _, _, h, _, _, _, _, _ => by simp at h
  | _, _ :: _, _, [], _, h, _, _, _, _, _ => by simp at h
  | _, _, [], _ :: _, _, _, h, _, _, _, _ => by simp at h
  | _, _, _ :: _, [], _, _, h, _, _, _, _ => by simp at h
/-- sums add up as bits do -/
theorem affine (a b c d : List UInt8) (ha : a.length = d.length) (hb : b.length = d.length) (hc : c.length = d.length) (hd : ∀ i, i < d.length → d[i]?.getD 0 = a[i]?.getD 0 ^^^ b[i]?.getD 0 ^^^ c[i]?.getD 0) :
    sum a ^^^ sum b ^^^ sum c = sum d := by
  have h := run_three a b c d ha hb hc hd (~~~ 0#32) (~~~ 0#32) (~~~ 0#32)
  have e : (~~~ 0#32 : BitVec 32) ^^^ ~~~ 0#32 ^^^ ~~~ 0#32 = ~~~ 0#32 := by decide
  rw [e] at h
  unfold sum ext
  rw [h]
  generalize run (~~~ 0#32) a = p
  generalize run (~~~ 0#32) b = q
  generalize run (~~~ 0#32) c = r
  ext i hi
  simp only [BitVec.getElem_xor, BitVec.getElem_not]
  cases p[i] <;> cases q[i] <;> cases r[i] <;> rfl
end Go.Proofs.YtmlikkjahkdilaaGreatDoor.Crc

namespace Go.Proofs.YtmlikkjahkdilaaGreatDoor
open Go.RowKit

theorem un4_four (n : Nat) (hn : n < 4294967296) (r : List UInt8) : un4 (four n ++ r) = n := by
  show unfour (UInt8.ofNat n) (UInt8.ofNat (n / 256)) (UInt8.ofNat (n / 65536)) (UInt8.ofNat (n / 16777216)) = n
  unfold unfour
  simp only [UInt8.toNat_ofNat']
  omega
theorem un4_app {c : List UInt8} (h : c.length = 4) (r : List UInt8) : un4 (c ++ r) = un4 c := by
  match c, h with
  | [a, b, c, d], _ => rfl
theorem un4_inj {c d : List UInt8} (hc : c.length = 4) (hd : d.length = 4) (h : un4 c = un4 d) : c = d := by
  match c, hc, d, hd with
  | [a, b, c, d], _, [e, f, g, k], _ =>
    have h' : unfour a b c d = unfour e f g k := h
    unfold unfour at h'
    have := a.toNat_lt
    have := b.toNat_lt
    have := c.toNat_lt
    have := d.toNat_lt
    have := e.toNat_lt
    have := f.toNat_lt
    have := g.toNat_lt
    have := k.toNat_lt
    rw [UInt8.toNat_inj.1 (by omega : a.toNat = e.toNat), UInt8.toNat_inj.1 (by omega : b.toNat = f.toNat), UInt8.toNat_inj.1 (by omega : c.toNat = g.toNat), UInt8.toNat_inj.1 (by omega : d.toNat = k.toNat)]
theorem un4_four' (n : Nat) (hn : n < 4294967296) : un4 (four n) = n := by have := un4_four n hn []; simpa using this
theorem sum_test {h c : List UInt8} (hc : c.length = 4) : (Crc.sum h).toNat ≠ un4 c ↔ c ≠ four (Crc.sum h).toNat := by
  constructor
  · intro h1 h2; apply h1; rw [h2, un4_four' _ (Crc.sum h).isLt]
  · intro h1 h2; apply h1; exact un4_inj hc (four_length _) (by rw [un4_four' _ (Crc.sum h).isLt, h2])
theorem nx_pieces {h c r : List UInt8} (hh : h.length = 4) (hc : c.length = 4) :
    nxAt (h ++ (c ++ r)) = if c ≠ four (Crc.sum h).toNat ∨ 1048576 < un4 h then ([], 24) else
      if r.length < un4 h + 4 then ([], 23) else
      if (Crc.sum (r.take (un4 h))).toNat ≠ un4 (r.drop (un4 h)) then ([], 24) else (r.take (un4 h), 0) := by
  have e1 : (h ++ (c ++ r)).take 4 = h := by rw [← hh]; exact List.take_left
  have e2 : (h ++ (c ++ r)).drop 4 = c ++ r := by rw [← hh]; exact List.drop_left
  have e3 : (h ++ (c ++ r)).drop 8 = r := by
    have : (h ++ (c ++ r)).drop 8 = ((h ++ (c ++ r)).drop 4).drop 4 := by rw [List.drop_drop]
    rw [this, e2, show (4 : Nat) = c.length from hc.symm]; exact List.drop_left
  have e4 : (h ++ (c ++ r)).drop (8 + un4 h) = r.drop (un4 h) := by rw [← List.drop_drop, e3]
  have e5 : (h ++ (c ++ r)).length = r.length + 8 := by simp only [List.length_append]; omega
  have e6 := sum_test (h := h) hc
  unfold nxAt
  rw [if_neg (by intro e; rw [e] at e5; simp at e5), if_neg (by omega), e1, e2, e3, un4_app hh, un4_app hc, e4, e5]
  have e7 : ((Crc.sum h).toNat ≠ un4 c ∨ 1048576 < un4 h) = (c ≠ four (Crc.sum h).toNat ∨ 1048576 < un4 h) := by rw [propext e6]
  simp only [e7]
  have e8 : (r.length + 8 < un4 h + 12) = (r.length < un4 h + 4) := by apply propext; omega
  simp only [e8]
theorem frameL_pieces (b : List UInt8) (r : List UInt8) : frameL b ++ r = four b.length ++ (four (Crc.sum (four b.length)).toNat ++ (b ++ (four (Crc.sum b).toNat ++ r))) := by
  unfold frameL headL
  simp only [List.append_assoc]
theorem nx_frame (b r : List UInt8) (hb : b.length ≤ 1048576) : nxAt (frameL b ++ r) = (b, 0) := by
  rw [frameL_pieces, nx_pieces (four_length _) (four_length _), un4_four' _ (by omega)]
  rw [if_neg (by rintro (h | h); exact h rfl; omega), if_neg (by simp only [List.length_append, four_length]; omega)]
  rw [List.take_left, List.drop_left, if_neg]
  intro h
  apply h
  rw [un4_app (four_length _), un4_four' _ (Crc.sum b).isLt]
/-- frames one behind the other -/
def stream : List (List UInt8) → List UInt8
  | [] => []
  | b :: bs => frameL b ++ stream bs
theorem stream_append (a b : List (List UInt8)) : stream (a ++ b) = stream a ++ stream b := by
  induction a with
  | nil => rfl
  | cons x a ih => show frameL x ++ stream (a ++ b) = frameL x ++ stream a ++ stream b; rw [ih, List.append_assoc]
def Small (bs : List (List UInt8)) : Prop := ∀ b ∈ bs, b.length ≤ 1048576
theorem all_frame (b r : List UInt8) (hb : b.length ≤ 1048576) : allL (frameL b ++ r) = (b :: (allL r).1, b.length + 12 + (allL r).2.1, (allL r).2.2) := by
  have h := nx_frame b r hb
  have h0 : (nxAt (frameL b ++ r)).2 = 0 := by rw [h]
  rw [all_more h0, h]
  have e : (frameL b ++ r).drop (b.length + 12) = r := by rw [← frameL_length]; exact List.drop_left
  simp only [e]
theorem nx_nil : nxAt [] = ([], 3) := by unfold nxAt; rw [if_pos rfl]
theorem all_nil : allL [] = ([], 0, 0) := all_end (by rw [nx_nil])
/-- what is read of whole frames and what follows them -/
theorem all_stream (bs : List (List UInt8)) (hb : Small bs) (r : List UInt8) : allL (stream bs ++ r) = (bs ++ (allL r).1, (stream bs).length + (allL r).2.1, (allL r).2.2) := by
  induction bs with
  | nil => simp [stream]
  | cons b bs ih =>
    show allL (frameL b ++ stream bs ++ r) = _
    rw [List.append_assoc, all_frame b _ (hb b (by simp)), ih (fun x hx => hb x (by simp [hx]))]
    simp only [List.cons_append, stream, List.length_append, frameL_length]
    congr 2
    omega
theorem all_whole (bs : List (List UInt8)) (hb : Small bs) : allL (stream bs) = (bs, (stream bs).length, 0) := by
  have := all_stream bs hb []
  rw [all_nil] at this
  simpa using this
/-- a code word's register -/
theorem word_four (X : BitVec 32) : Crc.word (four X.toNat) = X := by
  have hx := X.isLt
  apply BitVec.eq_of_toNat_eq
  have w0 : (Crc.word []).toNat = 0 := rfl
  have w1 := Crc.word_cons (UInt8.ofNat (X.toNat / 16777216)) [] (by rw [w0]; omega)
  have w2 := Crc.word_cons (UInt8.ofNat (X.toNat / 65536)) [UInt8.ofNat (X.toNat / 16777216)] (Crc.word_lt3 _ (by simp))
  have w3 := Crc.word_cons (UInt8.ofNat (X.toNat / 256)) [UInt8.ofNat (X.toNat / 65536), UInt8.ofNat (X.toNat / 16777216)] (Crc.word_lt3 _ (by simp))
  have w4 := Crc.word_cons (UInt8.ofNat X.toNat) [UInt8.ofNat (X.toNat / 256), UInt8.ofNat (X.toNat / 65536), UInt8.ofNat (X.toNat / 16777216)] (Crc.word_lt3 _ (by simp))
  show (Crc.word [UInt8.ofNat X.toNat, UInt8.ofNat (X.toNat / 256), UInt8.ofNat (X.toNat / 65536), UInt8.ofNat (X.toNat / 16777216)]).toNat = X.toNat
  rw [w4, w3, w2, w1, w0]
  simp only [UInt8.toNat_ofNat']
  omega
theorem run_coded (h : List UInt8) : Crc.run (~~~ 0#32) (h ++ four (Crc.sum h).toNat) = Crc.zs 4 (BitVec.allOnes 32) := by
  rw [Crc.run_append, Crc.run_word _ _ (by rw [four_length]; omega), four_length, word_four]
  congr 1
  unfold Crc.sum Crc.ext
  generalize Crc.run (~~~ 0#32) h = q
  ext i hi
  simp only [BitVec.getElem_xor, BitVec.getElem_not, BitVec.getElem_allOnes]
  cases q[i] <;> rfl
/-- two lists that agree but for four places in a row -/
def Near4 (l m : List UInt8) (a : Nat) : Prop := l.length = m.length ∧ ∀ i, i < a ∨ a + 4 ≤ i → l[i]? = m[i]?
theorem near_run {l m : List UInt8} {a : Nat} (h : Near4 l m a) (q : BitVec 32) (hr : Crc.run q l = Crc.run q m) : l = m := by
  obtain ⟨hl, h⟩ := h
  have h1 : l.take a = m.take a := by
    apply List.ext_getElem?
    intro i
    rw [List.getElem?_take, List.getElem?_take]
    split
    · exact h i (.inl (by assumption))
    · rfl
  have h2 : l.drop (a + 4) = m.drop (a + 4) := by
    apply List.ext_getElem?
    intro i
    rw [List.getElem?_drop, List.getElem?_drop]
    exact h _ (.inr (by omega))
  have d1 : l = l.take a ++ ((l.drop a).take 4 ++ l.drop (a + 4)) := by
    rw [← List.drop_drop, List.take_append_drop, List.take_append_drop]
  have d2 : m = m.take a ++ ((m.drop a).take 4 ++ m.drop (a + 4)) := by
    rw [← List.drop_drop, List.take_append_drop, List.take_append_drop]
  rw [d1, d2, Crc.run_append, Crc.run_append, Crc.run_append, Crc.run_append, h1, h2] at hr
  have h3 := Crc.run_inj hr
  have h4 := Crc.mid_inj (by simp [hl]) (by simp; omega) h3
  rw [d1, d2, h1, h2, h4]
theorem near_coded {h h' c' : List UInt8} {a : Nat} (hn : Near4 (h' ++ c') (h ++ four (Crc.sum h).toNat) a) (hne : h' ++ c' ≠ h ++ four (Crc.sum h).toNat) : c' ≠ four (Crc.sum h').toNat := by
  intro e
  apply hne
  apply near_run hn (~~~ 0#32)
  rw [run_coded, e, run_coded]
theorem near_left {p q r s : List UInt8} {a : Nat} (h : Near4 (p ++ q) (r ++ s) a) (hl : p.length = r.length) : Near4 p r a := by
  refine ⟨hl, fun i hi => ?_⟩
  have := h.2 i hi
  by_cases hp : i < p.length
  · rwa [List.getElem?_append_left hp, List.getElem?_append_left (by omega)] at this
  · rw [List.getElem?_eq_none (by omega), List.getElem?_eq_none (by omega)]
theorem near_right {p q r s : List UInt8} {a : Nat} (h : Near4 (p ++ q) (r ++ s) a) (hl : p.length = r.length) : Near4 q s (a - p.length) := by
  refine ⟨by have := h.1; simp only [List.length_append] at this; omega, fun i hi => ?_⟩
  have := h.2 (i + p.length) (by omega)
  rw [List.getElem?_append_right (by omega), List.getElem?_append_right (by omega)] at this
  rwa [show i + p.length - p.length = i by omega, show i + p.length - r.length = i by omega] at this
theorem split_at {l : List UInt8} {n : Nat} (h : n ≤ l.length) : ∃ p q, l = p ++ q ∧ p.length = n := ⟨l.take n, l.drop n, (List.take_append_drop n l).symm, by simp; omega⟩
/-- a changed frame is told as corrupt -/
theorem nx_changed {b t1 t2 : List UInt8} {a : Nat} (hb : b.length ≤ 1048576) (hn : Near4 t1 (frameL b) a) (hne : t1 ≠ frameL b) : nxAt (t1 ++ t2) = ([], 24) := by
  have hl := hn.1
  rw [frameL_length] at hl
  obtain ⟨h', r1, rfl, hh⟩ := split_at (l := t1) (n := 4) (by omega)
  simp only [List.length_append] at hl
  obtain ⟨c', r2, rfl, hc⟩ := split_at (l := r1) (n := 4) (by omega)
  simp only [List.length_append] at hl
  obtain ⟨b', e', rfl, hbl⟩ := split_at (l := r2) (n := b.length) (by omega)
  simp only [List.length_append] at hl
  have he : e'.length = 4 := by omega
  have hf : frameL b = (four b.length ++ four (Crc.sum (four b.length)).toNat) ++ (b ++ four (Crc.sum b).toNat) := by unfold frameL headL; simp only [List.append_assoc]
  have ha : h' ++ (c' ++ (b' ++ e')) = (h' ++ c') ++ (b' ++ e') := by simp only [List.append_assoc]
  rw [ha, hf] at hn hne
  have hlen1 : (h' ++ c').length = (four b.length ++ four (Crc.sum (four b.length)).toNat).length := by simp only [List.length_append, four_length]; omega
  have n1 := near_left hn hlen1
  have n2 := near_right hn hlen1
  have hg : h' ++ (c' ++ (b' ++ e')) ++ t2 = h' ++ (c' ++ (b' ++ (e' ++ t2))) := by simp only [List.append_assoc]
  rw [hg, nx_pieces hh hc]
  by_cases h1 : h' ++ c' = four b.length ++ four (Crc.sum (four b.length)).toNat
  · obtain ⟨rfl, rfl⟩ := List.append_inj h1 (by rw [hh, four_length])
    have h2 : b' ++ e' ≠ b ++ four (Crc.sum b).toNat := by
      intro e; apply hne; rw [e]
    have h3 := near_coded n2 h2
    rw [un4_four' _ (by omega), if_neg (by rintro (h | h); exact h rfl; omega), if_neg (by simp only [List.length_append]; omega)]
    rw [← hbl, List.take_left, List.drop_left, if_pos]
    rw [un4_app he]
    exact (sum_test he).2 h3
  · have h3 := near_coded n1 h1
    rw [if_pos (.inl h3)]
theorem all_corrupt {b t1 t2 : List UInt8} {a : Nat} (hb : b.length ≤ 1048576) (hn : Near4 t1 (frameL b) a) (hne : t1 ≠ frameL b) : allL (t1 ++ t2) = ([], 0, 24) := by
  have hx := nx_changed (t2 := t2) hb hn hne
  rw [all_bad (by rw [hx]; decide) (by rw [hx]; decide), hx]
/-- NO CHANGE WITHIN FOUR BYTES IN A ROW LETS ANYTHING ELSE BE READ -/
theorem all_changed (bs : List (List UInt8)) (hb : Small bs) : ∀ (t : List UInt8) (a : Nat), Near4 t (stream bs) a → t ≠ stream bs →
    ∃ k, k < bs.length ∧ allL t = (bs.take k, (stream (bs.take k)).length, 24) := by
  induction bs with
  | nil =>
    intro t a hn hne
    exfalso
    apply hne
    exact List.eq_nil_of_length_eq_zero hn.1
  | cons b bs ih =>
    intro t a hn hne
    have hl := hn.1
    have hs : stream (b :: bs) = frameL b ++ stream bs := rfl
    rw [hs, List.length_append, frameL_length] at hl
    obtain ⟨t1, t2, rfl, h1⟩ := split_at (l := t) (n := b.length + 12) (by omega)
    have hl1 : t1.length = (frameL b).length := by rw [h1, frameL_length]
    rw [hs] at hn hne
    by_cases he : t1 = frameL b
    · subst he
      have hne2 : t2 ≠ stream bs := fun e => hne (by rw [e])
      obtain ⟨k, hk, hal⟩ := ih (fun x hx => hb x (by simp [hx])) t2 _ (near_right hn rfl) hne2
      refine ⟨k + 1, by simp; omega, ?_⟩
      rw [all_frame b t2 (hb b (by simp)), hal]
      simp only [List.take_succ_cons, stream, List.length_append, frameL_length]
    · exact ⟨0, by simp, all_corrupt (hb b (by simp)) (near_left hn hl1) he⟩
/-- a frame that is cut short is torn -/
theorem all_torn {b p : List UInt8} {n : Nat} (hb : b.length ≤ 1048576) (h0 : 0 < n) (hn : n < b.length + 12) (hp : p = (frameL b).take n) : allL p = ([], 0, 23) := by
  have hl : p.length = n := by rw [hp, List.length_take, frameL_length]; omega
  have hx : nxAt p = ([], 23) := by
    rcases Nat.lt_or_ge n 8 with h8 | h8
    · unfold nxAt
      rw [if_neg (by intro e; rw [e] at hl; simp at hl; omega), if_pos (by omega)]
    · have hf : frameL b = four b.length ++ (four (Crc.sum (four b.length)).toNat ++ (b ++ four (Crc.sum b).toNat)) := by unfold frameL headL; simp only [List.append_assoc]
      have e1 : p = four b.length ++ (four (Crc.sum (four b.length)).toNat ++ (b ++ four (Crc.sum b).toNat).take (n - 8)) := by
        rw [hp, hf, List.take_append, List.take_of_length_le (by rw [four_length]; omega), four_length, List.take_append, List.take_of_length_le (by rw [four_length]; omega), four_length]
        rw [show n - 4 - 4 = n - 8 by omega]
      rw [e1, nx_pieces (four_length _) (four_length _), un4_four' _ (by omega), if_neg (by rintro (h | h); exact h rfl; omega), if_pos]
      rw [List.length_take]
      omega
  rw [all_bad (by rw [hx]; decide) (by rw [hx]; decide), hx]
end Go.Proofs.YtmlikkjahkdilaaGreatDoor

namespace Go.Proofs.YtmlikkjahkdilaaGreatDoor
open Go.ChangeShapes Go.WideShapes Go.ChangeAt Go.RowKit

theorem laidOut : laidOutB Tryz.prog = true := by kernel_rfl
theorem own : ownKnob Tryz.prog.godebug = none := by kernel_rfl
theorem gHalf : Tryz.prog.globalNamed "mahout/crc.half" = some 3 := by kernel_rfl
theorem gHalfType : (Tryz.prog.globals[3]?).map (·.type) = some 180 := by kernel_rfl
theorem cellsHalf : Tryz.prog.cellsOf 180 = 16 := by kernel_rfl
theorem cellsU32 : Tryz.prog.cellsOf 93 = 1 := by kernel_rfl

theorem table {W : World} (h : laidMetH Tryz.prog [("mahout/crc.half", Rows.laid_mahout_crc_half)] W) : Lib.TabIs Tryz.prog W "mahout/crc.half" .u32 Crc.half :=
  Lib.tabIs_of_head (rest := []) gHalf gHalfType Tryz.underlying180 Tryz.underlying93 cellsU32 cellsHalf h
theorem half_small : ∀ n : Fin 16, U (BitVec.ofNat 32 (Crc.half.getD n.val 0).toNat) = Crc.half.getD n.val 0 := by decide
theorem half_of {W : World} (h : laidMetH Tryz.prog [("mahout/crc.half", Rows.laid_mahout_crc_half)] W) : Half W := by
  intro x
  have hl := Crc.low_toNat x
  have hlt : (x &&& 15#32).toNat < 16 := by omega
  have := (table h).cell gHalf (x &&& 15#32).toNat (by simpa [Crc.half] using hlt)
  rw [this]
  unfold Crc.tab
  have e := half_small ⟨(x &&& 15#32).toNat, hlt⟩
  simp only [] at e
  rw [e]

/-- A WORLD FOR THE WITNESS: the settled one, the table (block 0) holding what its initialiser lays. -/
noncomputable def laidWorld (os : Os) : World :=
  { World.holding Tryz.prog os ⟨#[], #[], []⟩ with heap := (World.holding Tryz.prog os ⟨#[], #[], []⟩).heap.modify 3 fun
      | .cells _ t frozen => .cells (Crc.half.map fun z => Value.int .u32 z).toArray t frozen
      | o => o }
end Go.Proofs.YtmlikkjahkdilaaGreatDoor

namespace Go.Proofs.YtmlikkjahkdilaaGreatDoor
open Go.RowKit
theorem strV_q (l : List UInt8) : strV l = .string ⟨l.toArray⟩ := rfl
/-- texts that lie above a height -/
def TextRow (w : World) (B : Nat) (ao : Option Addr) (bs : List (List UInt8)) : Prop :=
  ∀ i, (h : i < bs.length) → ∃ g, ao = some ⟨g, 0, none⟩ ∧ B ≤ g ∧ g < w.heap.size ∧ w.cell? ⟨g, i, none⟩ = some (strV bs[i])
theorem all_post {w w' : World} {l : List UInt8} {bs : List (List UInt8)} {n m : Nat} {er : Int} {e : Ending} (hal : allL l = (bs, n, er)) (hm : bs.length = m) (h : AllPost w l e w') :
    ∃ ao cp, e = .returned (.tuple #[.slice ao m cp, .int .i64 n, .int .i64 er]) ∧ TextRow w' w.heap.size ao bs ∧ Below w.heap.size w w' := by
  obtain ⟨v, he, ho, hb⟩ := h
  rw [hal] at he ho
  simp only at he ho
  rw [hm] at ho
  obtain ⟨hl, ho⟩ := ho
  rcases ho with ⟨rfl, h0⟩ | ⟨g, cap, cur, rfl, h2, h3, h4, h5, h6, h7⟩
  · subst h0
    exact ⟨none, 0, he, fun i hi => absurd hi (by omega), hb⟩
  · refine ⟨_, _, he, fun i hi => ⟨g, rfl, h2, ?_, ?_⟩, hb⟩
    · rcases Nat.lt_or_ge g w'.heap.size with hl | hl
      · exact hl
      · rw [Array.getElem?_eq_none hl] at h3; cases h3
    · have hi2 : i < cur.size := by omega
      have e1 : cur.toList[i]? = some (strV bs[i]) := by
        have : (cur.toList.take (m * 1))[i]? = some (strV bs[i]) := by rw [h7, List.getElem?_map, List.getElem?_eq_getElem hi]; rfl
        rw [List.getElem?_take] at this
        split at this
        · exact this
        · cases this
      simp only [World.cell?, h3]
      simpa using e1
end Go.Proofs.YtmlikkjahkdilaaGreatDoor

