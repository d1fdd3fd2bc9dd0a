/- Plain mathematics of the wire's forms: a number's pieces of seven bits, and back. No program is read here. A row of bytes of the call's own: it reads as a list of bytes; stores, draws, new blocks. Over any program. The contract of wire.number: the pieces of seven bits of a number, the lowest first. The contracts of wire.Pack's methods: a Pack is a chain of forms, the last one first. The contracts of wire.Pack's Int, Text and Bool, for a Pack and for none. The contract of wire.Pack's Bytes: all forms, the first one first. -/
import Derived.Laws.BitsAllLaws
import Derived.Below
import Derived.Deep.Draws
import Derived.Laws.IdiomStrings
import Derived.Laws.MakeOwn
import Derived.Laws.OwnMore
import Derived.OwnWalk
import Derived.Test.YtmlikkjahkdilaaGreatDoorRows
import Derived.WalkKit
import Derived.WalkLawsBesides
import Derived.WalkSpells
import Derived.Lib.Hide
import Derived.Laws.AppendOwn
import Derived.Deep.DeepCutAuto
import Derived.Deep.AppendLies
import Derived.Lib.LazyBuf
import Derived.Deep.LoopGhost
import Derived.RegionTactic
import Derived.Deep.RegionLaw
import Derived.StillTailTactics
namespace Go.Proofs.YtmlikkjahkdilaaGreatDoor.Wire

/-- numbers below 0 stand between the others -/
def zig (n : Int) : Nat := if n < 0 then (-2 * n - 1).toNat else (2 * n).toNat
def zag (u : Nat) : Int := if u % 2 = 1 then -((u / 2 : Nat) : Int) - 1 else ((u / 2 : Nat) : Int)
theorem zag_zig (n : Int) : zag (zig n) = n := by
  unfold zag zig
  by_cases h : n < 0
  · rw [if_pos h]; split <;> omega
  · rw [if_neg h]; split <;> omega
theorem zig_zag (u : Nat) : zig (zag u) = u := by
  unfold zag zig
  split
  · rw [if_pos (by omega)]; omega
  · rw [if_neg (by omega)]; omega
theorem zig_lt {n : Int} (h : -9223372036854775808 ≤ n ∧ n ≤ 9223372036854775807) : zig n < 2 ^ 64 := by
  unfold zig; split <;> omega
theorem zag_bd {u : Nat} (h : u < 2 ^ 64) : -9223372036854775808 ≤ zag u ∧ zag u ≤ 9223372036854775807 := by
  unfold zag; split <;> omega

/-- the pieces of u, at most k of them -/
def vi : Nat → Nat → List UInt8
  | 0, _ => []
  | k + 1, u => if u < 128 then [UInt8.ofNat u] else UInt8.ofNat (u % 128 + 128) :: vi k (u / 128)
theorem vi_small (k u : Nat) (h : u < 128) : vi (k + 1) u = [UInt8.ofNat u] := by simp [vi, h]
theorem vi_big (k u : Nat) (h : ¬ u < 128) : vi (k + 1) u = UInt8.ofNat (u % 128 + 128) :: vi k (u / 128) := by simp [vi, h]
theorem vi_length : ∀ (k u : Nat), (vi k u).length ≤ k
  | 0, _ => by simp [vi]
  | k + 1, u => by
    unfold vi
    split
    · simp
    · have := vi_length k (u / 128); simp; omega
theorem vi_pos (k u : Nat) : 0 < (vi (k + 1) u).length := by
  unfold vi; split <;> simp
theorem vi_mono : ∀ (k u v : Nat), u ≤ v → (vi k u).length ≤ (vi k v).length
  | 0, _, _, _ => by simp [vi]
  | k + 1, u, v, h => by
    by_cases hu : u < 128
    · have := vi_pos k v
      rw [vi_small k u hu]
      show 1 ≤ _
      exact this
    · rw [vi_big k u hu, vi_big k v (by omega)]
      have := vi_mono k (u / 128) (v / 128) (by omega)
      simp; omega
/-- the form of a number -/
def num (n : Int) : List UInt8 := vi 10 (zig n)
def text (l : List UInt8) : List UInt8 := num l.length ++ l
def bool (b : Bool) : List UInt8 := if b then [1] else [0]
theorem num_length (n : Int) : 1 ≤ (num n).length ∧ (num n).length ≤ 10 := ⟨vi_pos 9 _, vi_length 10 _⟩
end Go.Proofs.YtmlikkjahkdilaaGreatDoor.Wire

namespace Go.Proofs.YtmlikkjahkdilaaGreatDoor
open Go.RowKit

def Row8 (w : World) (g : Nat) (l : List UInt8) : Prop :=
  ∀ j (h : j < l.length), w.cell? ⟨g, j, none⟩ = some (.int .u8 (l[j].toNat : Int)) ∧ w.frozen? ⟨g, j, none⟩ = false
section
variable {w w' : World} {g : Nat} {l : List UInt8}
theorem Row8.cell (h : Row8 w g l) {j : Nat} (hj : j < l.length) : w.cell? ⟨g, j, none⟩ = some (.int .u8 (l[j].toNat : Int)) := (h j hj).1
theorem Row8.frozen (h : Row8 w g l) {j : Nat} (hj : j < l.length) : w.frozen? ⟨g, j, none⟩ = false := (h j hj).2
theorem Row8.drew (h : Row8 w g l) : Row8 w.drew g l := h
theorem Row8.drewN (h : Row8 w g l) (n : Nat) : Row8 (w.drewN n) g l := h
theorem Row8.below {B : Nat} (h : Row8 w g l) (hb : Below B w w') (hg : g < B) : Row8 w' g l := fun j hj =>
  ⟨(hb.cell (p := ⟨g, j, none⟩) hg).trans (h j hj).1, (hb.frozen (p := ⟨g, j, none⟩) hg).trans (h j hj).2⟩
theorem Row8.set (h : Row8 w g l) (j : Nat) (b : UInt8) : Row8 (w.setCell ⟨g, j, none⟩ (.int .u8 (b.toNat : Int))) g (l.set j b) := by
  intro i hi
  have hi' : i < l.length := by simpa using hi
  constructor
  · by_cases e : i = j
    · subst e
      simp only [List.getElem_set_self]
      exact World.cell?_setCell_same _ _ _ (h i hi').1
    · rw [World.cell?_setCell_other _ _ _ _ (by intro e2; injection e2 with _ e3 _; exact e e3.symm)]
      rw [List.getElem_set_ne (fun e2 => e e2.symm)]
      exact (h i hi').1
  · rw [World.frozen?_setCell]; exact (h i hi').2
theorem Row8.of_string (w : World) (s : ByteArray) (e : TypeId) (cap : Nat) :
    Row8 (w.alloc (.cells (bytesRow s cap) e ((bytesRow s cap).size, (bytesRow s cap).size + 1))) w.heap.size s.data.toList := by
  intro j hj
  have hj' : j < s.data.size := by simpa using hj
  refine ⟨?_, ?_⟩
  · rw [World.cell?_alloc_mark, bytesRow_at s cap j hj']
    simp
  · rw [World.frozen?_alloc_mark]
    have : s.data.size ≤ (bytesRow s cap).size := by unfold bytesRow; simp
    simp
    omega
theorem Row8.made (w : World) (e : TypeId) (n : Nat) : Row8 (w.alloc (.cells (madeCells #[.int .u8 0] n) e)) w.heap.size (List.replicate n 0) := by
  intro j hj
  have hj' : j < n := by simpa using hj
  refine ⟨?_, ?_⟩
  · rw [World.cell?_alloc_mark]
    unfold madeCells
    simp [hj', Nat.mod_one]
  · rw [World.frozen?_alloc_mark]
    simp
theorem Row8.back {P : Program} (h : Row8 w g l) (src dst e : TypeId) (cap : Nat) (hs : P.underlying src = some (.slice e)) (he : P.underlying e = some (.int .u8)) (hd : P.underlying dst = some .string) :
    (convert src dst (.slice (some ⟨g, 0, none⟩) l.length cap)).run P w = .ok (.string ⟨l.toArray⟩) w :=
  run_convert_bytes_back w src dst e ⟨g, 0, none⟩ cap l hs he hd (fun j hj => by
    have := (h j hj).1
    by_cases e : j = 0
    · subst e; exact this
    · simpa [Addr.add, e] using this)
end
end Go.Proofs.YtmlikkjahkdilaaGreatDoor

namespace Go.Proofs.YtmlikkjahkdilaaGreatDoor
open Go.RowKit

theorem info8 : (Tryz.prog.info? 5).map (fun i => (i.zero, i.size, i.bytes)) = some (some (.int .u8 0), 1, 1) := by kernel_rfl
def b8 (b : UInt8) : Value := .int .u8 (b.toNat : Int)
def Own8 (w : World) (base : Nat) (v : Value) (l : List UInt8) : Prop := w.ownsRow base 5 1 v l.length (l.map b8)
theorem Own8.nil (w : World) (base : Nat) (cap : Nat) (cur : Array Value) (hb : base ≤ w.heap.size) (hm : cap ≤ maxLen) (hs : cur.size = cap) :
    Own8 (w.alloc (.cells cur 5)) base (.slice (some ⟨w.heap.size, 0, none⟩) 0 cap) [] := World.ownsRow_made w cur cap hb hm (by rw [hs, Nat.mul_one])
theorem Own8.row {w : World} {base : Nat} {v : Value} {l : List UInt8} (h : Own8 w base v l) (hl : 0 < l.length) :
    ∃ g cap, v = .slice (some ⟨g, 0, none⟩) l.length cap ∧ base ≤ g ∧ g < w.heap.size ∧ Row8 w g l := by
  obtain ⟨g, cap, hv, hb, hlt⟩ := World.ownsRow.form h hl
  refine ⟨g, cap, hv, hb, hlt, ?_⟩
  subst hv
  intro j hj
  refine ⟨?_, World.ownsRow.frozenAt h j⟩
  rw [World.ownsRow.cellAt h j (by omega)]
  simp [b8, hj]
theorem make10 : ∀ w : World, (Instr.makeSlice 76 (.int .i64 0) (.int .i64 10)).run Tryz.prog w =
    .ok (.slice (some ⟨w.heap.size, 0, none⟩) 0 10) (w.alloc (.cells (madeCells #[.int .u8 0] 10) 5)) := by
  intro w
  obtain ⟨i, hi, hz0, hz1, hz2⟩ := info_parts info8
  have := run_make (P := Tryz.prog) w 76 5 i (.int .u8 0) Tryz.underlying76 hi hz0 .i64 .i64 0 10 (by omega) (by omega) (by rw [hz2]; omega) (by omega)
  simpa [hz1, Value.cells] using this

theorem zig_neg (n : Int) (h1 : -9223372036854775808 ≤ n) (h2 : n < 0) : bits BinOp.xor IntKind.u64 IntKind.u64.max (IntKind.u64.wrap (IntKind.u64.wrap n * 2)) = ((Wire.zig n : Nat) : Int) := by
  have e1 : IntKind.u64.wrap (IntKind.u64.wrap n * 2) = (((2 * n + 18446744073709551616).toNat : Nat) : Int) := by
    rw [IntKind.wrap_u64, IntKind.wrap_u64]; omega
  have e2 : IntKind.u64.max = ((18446744073709551615 : Nat) : Int) := rfl
  rw [e1, e2, bits_xor_u64_nat _ _ (by omega) (by omega)]
  have e3 : (18446744073709551615 : Nat) ^^^ (2 * n + 18446744073709551616).toNat = 18446744073709551615 - (2 * n + 18446744073709551616).toNat := by
    have hlt : (2 * n + 18446744073709551616).toNat < 2 ^ 64 := by omega
    have := BitVec.toNat_not (x := BitVec.ofNat 64 (2 * n + 18446744073709551616).toNat)
    rw [BitVec.toNat_ofNat, Nat.mod_eq_of_lt hlt] at this
    have h3 : ~~~ (BitVec.ofNat 64 (2 * n + 18446744073709551616).toNat) = BitVec.allOnes 64 ^^^ BitVec.ofNat 64 (2 * n + 18446744073709551616).toNat := by
      rw [BitVec.allOnes_xor]
    rw [h3, BitVec.toNat_xor, BitVec.toNat_ofNat, Nat.mod_eq_of_lt hlt, BitVec.toNat_allOnes] at this
    simpa using this
  rw [e3]
  unfold Wire.zig
  rw [if_pos h2]
  omega
theorem zig_pos (n : Int) (h2 : 0 ≤ n) (h3 : n ≤ 9223372036854775807) : IntKind.u64.wrap (IntKind.u64.wrap n * 2) = ((Wire.zig n : Nat) : Int) := by
  rw [IntKind.wrap_u64, IntKind.wrap_u64]
  unfold Wire.zig
  rw [if_neg (by omega)]
  omega
def Fits (k u : Nat) : Prop := u < 128 ^ k
set_option maxRecDepth 100000 in
theorem or_tab : ∀ x : Fin 256, x.val ||| 128 = x.val % 128 + 128 := by decide
theorem or128 (u : Nat) : bits BinOp.or IntKind.u8 ((u : Int) % 256) 128 = ((UInt8.ofNat (u % 128 + 128)).toNat : Int) := by
  have h := u8_or_nat (u % 256) 128 (by omega) (by omega)
  have e : ((u : Int) % 256) = ((u % 256 : Nat) : Int) := by omega
  rw [e]
  have e2 : (128 : Int) = ((128 : Nat) : Int) := rfl
  rw [e2, h, UInt8.toNat_ofNat']
  have h3 := or_tab ⟨u % 256, by omega⟩
  simp only [] at h3
  rw [h3]
  omega
theorem low8 (u : Nat) (h : u < 128) : (u : Int) % 256 = ((UInt8.ofNat u).toNat : Int) := by
  rw [UInt8.toNat_ofNat']; omega

theorem low8' (u : Nat) (h : u < 128) : (u : Int) = ((UInt8.ofNat u).toNat : Int) := by
  rw [UInt8.toNat_ofNat']; omega
theorem app_more {B : Nat} {w wr w1 : World} {v v' : Value} {xs : List UInt8} {b : UInt8} {o : Obj} (hb : Below B w wr) (hown : w1.ownsRow B 5 1 v' (xs.length + 1) (xs.map b8 ++ [.int .u8 (b.toNat : Int)]))
    (hg : (wr.alloc o).grownBy w1 v.ownBlock) (ho : Own8 wr B v xs) (hB : B ≤ wr.heap.size := by first | assumption | omega) : Own8 w1 B v' (xs ++ [b]) ∧ Below B w w1 := by
  refine ⟨?_, ?_⟩
  · unfold Own8
    have e : (xs ++ [b]).map b8 = xs.map b8 ++ [.int .u8 (b.toNat : Int)] := by simp [b8]
    rw [e, List.length_append]
    exact hown
  · exact (hb.alloc hB _).grown hg (by simp; omega) (fun k hk => (World.ownsRow.lt ho k hk).1)
theorem wpList_push8 {ops : Array Oper} {rest : List Oper} {o : Oper} {a : Act} {Q : Exit → Act → World → Prop} {w wr : World} {B : Nat} (hgd : o.guard = none) (s x : Operand)
    (ho : o.op = .call { callee := .builtin .append, args := #[s, x], argTypes := #[76, 76] }) (v : Value) (hs : a.eval s = v) (n : Int)
    (hx : a.eval x = .slice (some ⟨wr.heap.size, 0, none⟩) 1 1) (xs : List UInt8) (b : UInt8) (hn : n = (b.toNat : Int)) (hown : Own8 wr B v xs) (hbel : Below B w wr) (hB : B ≤ w.heap.size) (hlen : xs.length ≤ 1000000000000)
    (h : ∀ v' w1, Own8 w1 B v' (xs ++ [b]) → Below B w w1 → wpList Tryz.prog ops Q rest (a.put o.dst v') w1) :
    wpList Tryz.prog ops Q (o :: rest) a (wr.alloc (.cells #[.int .u8 n] 5)) := by
  subst hn
  obtain ⟨i0, hi, hz0, hz1, hz2⟩ := info_parts info8
  have hsz := hbel.size
  refine wpList_append_own _ hgd s x 76 ho B 5 i0 (.int .u8 0) 1 1 Tryz.underlying76 hi hz0 hz1 hz2 rfl (by decide) v xs.length (xs.map b8) hs (World.ownsRow.alloc hown _) ⟨wr.heap.size, 0, none⟩ 1 1 [.int .u8 (b.toNat : Int)] hx rfl
    (cell_one_new _ _ _) (by intro u hu; simp at hu; subst hu; rfl) (by unfold maxLen; omega) (by omega) (by simp; omega) ?_
  intro v' w1 hown' hg _
  obtain ⟨h1, h2⟩ := app_more hbel hown' hg hown (by omega)
  exact h v' w1 h1 h2

set_option maxRecDepth 100000 in
set_option maxHeartbeats 1000000 in
theorem number_any (n : Int) (w : World) (hn : -9223372036854775808 ≤ n ∧ n ≤ 9223372036854775807) :
    Calls Tryz.prog 67 #[.int .i64 n] w fun e w' => e = .returned (.string ⟨(Wire.num n).toArray⟩) ∧ Below w.heap.size w w' := by
  have HZ := Wire.zig_lt hn
  obtain ⟨hn1, hn2⟩ := hn
  have hmk := make10
  obtain ⟨i0, hi, hz0, hz1, hz2⟩ := info_parts info8
  have HF : Fits 10 (Wire.zig n) := Nat.lt_of_lt_of_le HZ (by decide)
  clear HZ
  have hcut0 : n < 0 ∨ 0 ≤ n := by omega
  go_enter Tryz.func67, Tryz.ntmps67
  go_upto_if 9 with (fail)
  go_cut [3] (fun s3 wx => s3 = .int .u64 ((Wire.zig n : Nat) : Int) ∧ w = wx)
  case first =>
    by_cases hneg : n < 0
    · have hz := zig_neg n hn1 hneg
      go_wp2
      go_meet
      exact ⟨rfl, rfl⟩
    · have hz := zig_pos n (by omega) hn2
      go_wp2
      go_meet
      exact ⟨rfl, rfl⟩
  case rest =>
    obtain ⟨rfl, rfl⟩ := hcut
    have O0 : Hid (Own8 (w.alloc (.cells (madeCells #[.int .u8 0] 10) 5)) w.heap.size (.slice (some ⟨w.heap.size, 0, none⟩) 0 10) []) := Own8.nil _ _ _ _ (Nat.le_refl _) (by decide) (size_madeCells _ _)
    have B0 : Hid (Below w.heap.size w (w.alloc (.cells (madeCells #[.int .u8 0] 10) 5))) := (Below.refl _ _).alloc (Nat.le_refl _) _
    go_wp2
    go_loopw [3, 4] (fun sv v wr => ∃ (k u : Nat) (xs : List UInt8), sv = .int .u64 (u : Int) ∧ Hid (Fits (k + 1) u) ∧ k ≤ 9 ∧ xs.length + k ≤ 9 ∧ Hid (xs ++ Wire.vi (k + 1) u = Wire.num n) ∧ Hid (Own8 wr w.heap.size v xs) ∧ Hid (Below w.heap.size w wr)) (fun sv _ _ => (intOf sv).toNat)
    case atStart => exact ⟨9, Wire.zig n, [], rfl, HF, by omega, by simp, rfl, O0, B0⟩
    case round =>
      obtain ⟨k, u, xs, rfl, HFk, hk, hxk, HX, HO, HB⟩ := hrel
      clear O0 B0 hmk HF
      by_cases hlt : u < 128
      · have hge : ¬ (128 ≤ (u : Int)) := by omega
        have h8 := low8 u hlt
        have hend : xs ++ [UInt8.ofNat u] = Wire.num n := by have := HX.out; rw [Wire.vi_small k u hlt] at this; exact this
        have HE := Lib.hid hend
        clear hend
        have hlo := low8' u hlt
        have HLO := Lib.hid hlo
        clear hlo
        go_wp2_with ((at_builtin; go_must (refine wpList_push8 rfl _ _ rfl _ rfl _ rfl _ _ HLO.out HO.out HB.out (Nat.le_refl _) (by omega) ?_); go_must (intro v' w1 hO1 hB1; rw [HE.out] at hO1; obtain ⟨g, cap, rfl, _, _, HR⟩ := hO1.row (by have := Wire.num_length n; omega); have hbk := HR.back (P := Tryz.prog) 76 9 5 cap Tryz.underlying76 Tryz.underlying5 Tryz.underlying9; have HB1' := Lib.hid hB1; clear hO1 hB1 HR)))
        go_ret
        exact ⟨rfl, HB1'.out⟩
      · have hge : 128 ≤ (u : Int) := by omega
        obtain ⟨x, hx⟩ : ∃ x, x = UInt8.ofNat (u % 128 + 128) := ⟨_, rfl⟩
        have h8 := or128 u
        rw [← hx] at h8
        have hk0 : 1 ≤ k := by
          rcases Nat.eq_zero_or_pos k with h | h
          · subst h; have := HFk.out; unfold Fits at this; omega
          · exact h
        have hnext : (xs ++ [x]) ++ Wire.vi k (u / 128) = Wire.num n := by
          rw [hx]
          have := HX.out
          rw [Wire.vi_big k u hlt] at this
          rw [← this]; simp
        have hfit : Fits k (u / 128) := by
          have := HFk.out
          unfold Fits at this ⊢
          rw [Nat.pow_succ] at this
          omega
        have HN := Lib.hid hnext
        clear hnext hx
        go_wp2_with ((at_builtin; refine wpList_push8 rfl _ _ rfl _ rfl _ rfl _ _ rfl HO.out HB.out (Nat.le_refl _) (by omega) ?_; intro v' w1 hO1 hB1; have HO1' := Lib.hid hO1; have HB1' := Lib.hid hB1; clear hO1 hB1))
        go_roundw
        case rel =>
          obtain ⟨j, rfl⟩ : ∃ j, k = j + 1 := ⟨k - 1, by omega⟩
          exact ⟨j, u / 128, xs ++ [x], by go_num, hfit, by omega, by simp; omega, HN.out, HO1'.out, HB1'.out⟩
        case measure => simp [intOf]; omega
end Go.Proofs.YtmlikkjahkdilaaGreatDoor

namespace Go.Proofs.YtmlikkjahkdilaaGreatDoor
open Go.RowKit

/-- a chain of forms: all its blocks lie at L or behind it, no form is empty -/
def Chain (w : World) (L : Nat) : Option Addr → List ByteArray → Prop
  | h, [] => h = none
  | h, s :: rest => ∃ g h', h = some ⟨g, 0, none⟩ ∧ L ≤ g ∧ g < w.heap.size ∧ w.cell? ⟨g, 0, none⟩ = some (.pointer h') ∧ w.cell? ⟨g, 1, none⟩ = some (.string s) ∧ 0 < s.size ∧ Chain w L h' rest
theorem Chain.keep {w w' : World} {L : Nat} (hs : w.heap.size ≤ w'.heap.size) (hk : ∀ g, L ≤ g → g < w.heap.size → w'.heap[g]? = w.heap[g]?) : ∀ {parts : List ByteArray} {h : Option Addr}, Chain w L h parts → Chain w' L h parts
  | [], _, hc => hc
  | _ :: _, _, ⟨g, h', e, hl, hg, h0, h1, hp, hr⟩ =>
    ⟨g, h', e, hl, by omega, (World.cell?_of_block (a := ⟨g, 0, none⟩) (hk g hl hg)).trans h0, (World.cell?_of_block (a := ⟨g, 1, none⟩) (hk g hl hg)).trans h1, hp, Chain.keep hs hk hr⟩
theorem Chain.below {w w' : World} {L B : Nat} {parts : List ByteArray} {h : Option Addr} (hc : Chain w L h parts) (hb : Below B w w') (hB : w.heap.size ≤ B) : Chain w' L h parts :=
  hc.keep hb.size fun g _ hg => hb.block g (by omega)

/-- a Pack that lies in block p; its forms lie at L or behind it -/
def PackIs (w : World) (p L : Nat) (parts : List ByteArray) : Prop :=
  p < L ∧ L ≤ w.heap.size ∧ w.frozen? ⟨p, 0, none⟩ = false ∧ ∃ h, w.cell? ⟨p, 0, none⟩ = some (.pointer h) ∧ Chain w L h parts
theorem PackIs.below {w w' : World} {p L B : Nat} {parts : List ByteArray} (h : PackIs w p L parts) (hb : Below B w w') (hB : w.heap.size ≤ B) : PackIs w' p L parts := by
  obtain ⟨hl, h0, h1, hd, h2, h3⟩ := h
  have := hb.size
  exact ⟨hl, by omega, (hb.frozen (p := ⟨p, 0, none⟩) (by show p < B; omega)).trans h1, hd, (hb.cell (p := ⟨p, 0, none⟩) (by show p < B; omega)).trans h2, h3.below hb hB⟩
/-- another Pack's step leaves this one as it is: the other lies outside of the chain -/
theorem PackIs.grown {w w' : World} {p q L : Nat} {parts : List ByteArray} (h : PackIs w p L parts) (hg : w.grownBy w' (some q)) (hq : q < L) (hne : p ≠ q) : PackIs w' p L parts := by
  obtain ⟨hl, h0, h1, hd, h2, h3⟩ := h
  have := hg.size
  have hp : w'.heap[p]? = w.heap[p]? := hg.block p (by omega) (by intro e; injection e with e; omega)
  exact ⟨hl, by omega, (World.frozen?_of_block (a := ⟨p, 0, none⟩) hp).trans h1, hd, (World.cell?_of_block (a := ⟨p, 0, none⟩) hp).trans h2,
    h3.keep hg.size fun g hl hgs => hg.block g hgs (by intro e; injection e with e; omega)⟩
theorem PackIs.new (w : World) (t : TypeId) : PackIs (w.alloc (.cells #[.pointer none] t)) w.heap.size (w.heap.size + 1) [] := by
  refine ⟨by omega, by simp, ?_, none, ?_, rfl⟩
  · simp [World.frozen?_alloc_at]
  · rw [World.cell?_alloc_at _ _ _ _ rfl]; rfl
/-- the bound may be raised while the Pack is empty -/
theorem PackIs.raise {w : World} {p L L' : Nat} (h : PackIs w p L []) (hl : L ≤ L') (hs : L' ≤ w.heap.size) : PackIs w p L' [] := by
  obtain ⟨h0, _, h1, hd, h2, h3⟩ := h
  exact ⟨by omega, hs, h1, hd, h2, h3⟩

def PutWorld (w : World) (p : Nat) (h : Option Addr) (s : ByteArray) : World :=
  (w.setCell ⟨p, 0, none⟩ (.pointer (some ⟨w.heap.size, 0, none⟩))).alloc (.cells #[.pointer h, .string s] 121)

theorem setCell_size (w : World) (a : Addr) (u : Value) : (w.setCell a u).heap.size = w.heap.size := by simp [World.setCell]
theorem put_block {w : World} {p : Nat} (h : Option Addr) (s : ByteArray) {k : Nat} (hk : k < w.heap.size) (hne : k ≠ p) : (PutWorld w p h s).heap[k]? = w.heap[k]? := by
  unfold PutWorld
  rw [Below.heap_alloc _ _ k (by rw [setCell_size]; exact hk)]
  exact Below.heap_setCell _ _ _ k hne
theorem grownBy_put {w : World} {p : Nat} (h : Option Addr) (s : ByteArray) : w.grownBy (PutWorld w p h s) (some p) :=
  ⟨rfl, rfl, rfl, by unfold PutWorld; simp [World.setCell], fun k hk hne => put_block h s hk (by intro e; exact hne (by rw [e]))⟩
theorem PackIs.put {w : World} {p L : Nat} {h : Option Addr} {s : ByteArray} {parts : List ByteArray} (hl : p < L) (hL : L ≤ w.heap.size) (h1 : w.frozen? ⟨p, 0, none⟩ = false) (h2 : w.cell? ⟨p, 0, none⟩ = some (.pointer h))
    (h3 : Chain w L h parts) (hs : 0 < s.size) : PackIs (PutWorld w p h s) p L (s :: parts) := by
  have h0 : p < w.heap.size := by omega
  have hsz : (PutWorld w p h s).heap.size = w.heap.size + 1 := by unfold PutWorld; simp [World.setCell]
  have hold : ∀ a : Addr, a.block < w.heap.size → (PutWorld w p h s).cell? a = (w.setCell ⟨p, 0, none⟩ (.pointer (some ⟨w.heap.size, 0, none⟩))).cell? a := fun a ha =>
    World.cell?_of_block (Below.heap_alloc _ _ _ (by rw [setCell_size]; exact ha))
  have hnew : ∀ j, (PutWorld w p h s).cell? ⟨w.heap.size, j, none⟩ = (#[.pointer h, .string s] : Array Value)[j]? := fun j => by
    unfold PutWorld
    have e : w.heap.size = (w.setCell ⟨p, 0, none⟩ (.pointer (some ⟨w.heap.size, 0, none⟩))).heap.size := (setCell_size _ _ _).symm
    conv => lhs; arg 2; rw [e]
    exact World.cell?_alloc_at _ _ _ _ rfl
  refine ⟨hl, by omega, ?_, some ⟨w.heap.size, 0, none⟩, ?_, w.heap.size, h, rfl, by omega, by omega, ?_, ?_, hs, ?_⟩
  · have : (PutWorld w p h s).frozen? ⟨p, 0, none⟩ = (w.setCell ⟨p, 0, none⟩ (.pointer (some ⟨w.heap.size, 0, none⟩))).frozen? ⟨p, 0, none⟩ :=
      World.frozen?_of_block (Below.heap_alloc _ _ _ (by rw [setCell_size]; exact h0))
    rw [this, World.frozen?_setCell]
    exact h1
  · rw [hold _ h0]
    exact World.cell?_setCell_same _ _ _ h2
  · rw [hnew 0]; rfl
  · rw [hnew 1]; rfl
  · exact h3.keep (by omega) fun g hl hgs => put_block h s hgs (by omega)

theorem put_raw (p : Nat) (h : Option Addr) (s : ByteArray) (w : World) (hp : p < w.heap.size) (hc : w.cell? ⟨p, 0, none⟩ = some (.pointer h)) (hf : w.frozen? ⟨p, 0, none⟩ = false) :
    Calls Tryz.prog 66 #[.pointer (some ⟨p, 0, none⟩), .string s] w fun e w' => e = .returned (.tuple #[]) ∧ PutWorld w p h s = w' := by
  go_enter Tryz.func66, Tryz.ntmps66
  go_wp2
  go_end0
  exact ⟨rfl, rfl⟩
theorem put_nil (s : ByteArray) (w : World) :
    Calls Tryz.prog 66 #[.pointer none, .string s] w fun e w' => e = .returned (.tuple #[]) ∧ w = w' := by
  go_enter Tryz.func66, Tryz.ntmps66
  go_wp2
  go_end0
  exact ⟨rfl, rfl⟩
end Go.Proofs.YtmlikkjahkdilaaGreatDoor

namespace Go.Proofs.YtmlikkjahkdilaaGreatDoor
open Go.RowKit

theorem grown_after {w w1 w2 : World} {p : Nat} (hb : Below w.heap.size w w1) (hg : w1.grownBy w2 (some p)) : w.grownBy w2 (some p) :=
  ⟨hg.os.trans hb.os, hg.tape.trans hb.tape, hg.output.trans hb.output, Nat.le_trans hb.size hg.size, fun k hk hne => (hg.block k (Nat.lt_of_lt_of_le hk hb.size) hne).trans (hb.block k hk)⟩
theorem grown_trans' {w w1 w2 : World} {p : Option Nat} (hb : w.grownBy w1 p) (hg : w1.grownBy w2 p) : w.grownBy w2 p :=
  ⟨hg.os.trans hb.os, hg.tape.trans hb.tape, hg.output.trans hb.output, Nat.le_trans hb.size hg.size, fun k hk hne => (hg.block k (Nat.lt_of_lt_of_le hk hb.size) hne).trans (hb.block k hk hne)⟩
theorem below_grown {B : Nat} {w w1 w2 : World} {p : Nat} (hb : Below B w w1) (hg : w1.grownBy w2 (some p)) (hB : B ≤ p) (hs : B ≤ w1.heap.size) : Below B w w2 :=
  hb.grown hg hs (fun k hk => by injection hk with hk; omega)

theorem PackIs.put2 {w : World} {p L : Nat} {parts : List ByteArray} (hP : PackIs w p L parts) {s : ByteArray} (hs : 0 < s.size) :
    ∃ h, p < w.heap.size ∧ w.cell? ⟨p, 0, none⟩ = some (.pointer h) ∧ w.frozen? ⟨p, 0, none⟩ = false ∧ Hid (∀ w2, PutWorld w p h s = w2 → PackIs w2 p L (s :: parts) ∧ w.grownBy w2 (some p)) := by
  obtain ⟨hl, hL, hf, hd, hc, hch⟩ := hP
  exact ⟨hd, by omega, hc, hf, fun w2 e => by subst e; exact ⟨PackIs.put hl hL hf hc hch hs, grownBy_put _ _⟩⟩

def numS (n : Int) : ByteArray := ⟨(Wire.num n).toArray⟩
def boolS (b : Bool) : ByteArray := if b then ⟨#[1]⟩ else ⟨#[0]⟩
theorem numS_size (n : Int) : 1 ≤ (numS n).size ∧ (numS n).size ≤ 10 := by
  have := Wire.num_length n
  unfold numS
  show 1 ≤ (Wire.num n).toArray.size ∧ (Wire.num n).toArray.size ≤ 10
  simpa using this
theorem boolS_size (b : Bool) : (boolS b).size = 1 := by cases b <;> rfl
theorem number_S (n : Int) (w : World) (hn : -9223372036854775808 ≤ n ∧ n ≤ 9223372036854775807) :
    Calls Tryz.prog 67 #[.int .i64 n] w fun e w' => e = .returned (.string (numS n)) ∧ Below w.heap.size w w' := number_any n w hn

theorem int_pack (p L : Nat) (n : Int) (w : World) (parts : List ByteArray) (hP : PackIs w p L parts) (hn : -9223372036854775808 ≤ n ∧ n ≤ 9223372036854775807) :
    Calls Tryz.prog 49 #[.pointer (some ⟨p, 0, none⟩), .int .i64 n] w fun e w' => e = .returned (.tuple #[]) ∧ PackIs w' p L (numS n :: parts) ∧ w.grownBy w' (some p) := by
  have HP := Lib.hid hP
  have HN := Lib.hid hn
  clear hP hn
  go_enter Tryz.func49, Tryz.ntmps49
  go_wp2_with (first | (go_at_call 67; refine (number_S n _ HN.out).mono ?_; rintro e w1 ⟨rfl, hb1⟩; have HB := Lib.hid hb1; have hp1 := HP.out.below hb1 (Nat.le_refl _); have HP1 := Lib.hid hp1; clear hb1 hp1) | (go_at_call 66; go_must (obtain ⟨hd, h0, hc, hf, HQ⟩ := HP1.out.put2 (numS_size n).1; refine (put_raw p hd _ _ h0 hc hf).mono ?_; rintro e w2 ⟨rfl, hw2⟩; have HW := Lib.hid (HQ.out w2 hw2); clear hw2 hc hf)))
  go_end0
  exact ⟨rfl, HW.out.1, grown_after HB.out HW.out.2⟩
theorem int_nil (n : Int) (w : World) (hn : -9223372036854775808 ≤ n ∧ n ≤ 9223372036854775807) :
    Calls Tryz.prog 49 #[.pointer none, .int .i64 n] w fun e w' => e = .returned (.tuple #[]) ∧ Below w.heap.size w w' := by
  have HN := Lib.hid hn
  clear hn
  go_enter Tryz.func49, Tryz.ntmps49
  go_wp2_with (first | (go_at_call 67; refine (number_S n _ HN.out).mono ?_; rintro e w1 ⟨rfl, hb1⟩; have HB := Lib.hid hb1; clear hb1) | (go_at_call 66; refine (put_nil _ _).mono ?_; rintro e w2 ⟨rfl, rfl⟩))
  go_end0
  exact ⟨rfl, HB.out⟩


end Go.Proofs.YtmlikkjahkdilaaGreatDoor

namespace Go.Proofs.YtmlikkjahkdilaaGreatDoor
open Go.RowKit

/-- all the forms' bytes; the list has the last one first -/
def cat : List ByteArray → List UInt8
  | [] => []
  | s :: r => cat r ++ s.data.toList
def tot : List ByteArray → Nat
  | [] => 0
  | s :: r => tot r + s.size
theorem cat_length : ∀ l : List ByteArray, (cat l).length = tot l
  | [] => rfl
  | s :: r => by simp [cat, tot, cat_length r]
theorem cat_append : ∀ (a b : List ByteArray), cat (a ++ b) = cat b ++ cat a
  | [], b => by simp [cat]
  | s :: r, b => by simp [cat, cat_append r b]
theorem tot_append : ∀ (a b : List ByteArray), tot (a ++ b) = tot b + tot a
  | [], b => by simp [tot]
  | s :: r, b => by simp [tot, tot_append r b]; omega

theorem tot_snoc (a : List ByteArray) (s : ByteArray) : tot (a ++ [s]) = tot a + s.size := by rw [tot_append]; simp [tot]; omega
theorem cat_snoc (a : List ByteArray) (s : ByteArray) : cat (a ++ [s]) = s.data.toList ++ cat a := by rw [cat_append]; simp [cat]
theorem size_toList (s : ByteArray) : s.data.toList.length = s.size := by simp

/-- the head of a chain, as a walk reads it -/
theorem Chain.nil_ {w : World} {L : Nat} {h : Option Addr} (hc : Chain w L h []) : h = none := hc
theorem Chain.cons_ {w : World} {L : Nat} {h : Option Addr} {s : ByteArray} {r : List ByteArray} (hc : Chain w L h (s :: r)) :
    ∃ g h', h = some ⟨g, 0, none⟩ ∧ L ≤ g ∧ g < w.heap.size ∧ w.cell? ⟨g, 0, none⟩ = some (.pointer h') ∧ w.cell? ⟨g, 1, none⟩ = some (.string s) ∧ 0 < s.size ∧ Hid (Chain w L h' r) := hc

theorem make8 (n : Nat) (hn : n ≤ 281474976710656) : ∀ w : World, (Instr.makeSlice 76 (.int .i64 (n : Int)) (.int .i64 (n : Int))).run Tryz.prog w =
    .ok (.slice (some ⟨w.heap.size, 0, none⟩) n n) (w.alloc (.cells (madeCells #[.int .u8 0] n) 5)) := by
  intro w
  obtain ⟨i, hi, hz0, hz1, hz2⟩ := info_parts info8
  have := run_make (P := Tryz.prog) w 76 5 i (.int .u8 0) Tryz.underlying76 hi hz0 .i64 .i64 n n (by omega) (by omega) (by rw [hz2]; omega) (by omega)
  simpa [hz1, Value.cells] using this
theorem sizeOf8 : ∀ w, (Go.sizeOf 5).run Tryz.prog w = .ok 1 w := fun _ => by kernel_rfl

theorem mid_get (l m : List UInt8) (o : Nat) (ho : o + m.length ≤ l.length) (j : Nat) :
    (l.take o ++ m ++ l.drop (o + m.length))[j]? = if o ≤ j ∧ j < o + m.length then m[j - o]? else l[j]? := by
  have h1 : (l.take o).length = o := by rw [List.length_take]; omega
  rw [List.append_assoc, List.getElem?_append, List.getElem?_append, h1]
  by_cases hj : j < o
  · rw [if_pos hj, if_neg (by omega), List.getElem?_take_of_lt hj]
  · rw [if_neg hj]
    by_cases hm : j - o < m.length
    · rw [if_pos hm, if_pos (by omega)]
    · rw [if_neg hm, if_neg (by omega), List.getElem?_drop]
      congr 1
      omega
/-- a row of bytes behind a copy into its middle -/
theorem Row8.setCells {w : World} {g : Nat} {l : List UInt8} (h : Row8 w g l) (o : Nat) (m : List UInt8) (ho : o + m.length ≤ l.length) :
    Row8 (w.setCells g o (m.map fun x => Value.int .u8 (x.toNat : Int))) g (l.take o ++ m ++ l.drop (o + m.length)) := by
  intro j hj
  have hl : (l.take o ++ m ++ l.drop (o + m.length)).length = l.length := by simp; omega
  have hj' : j < l.length := by omega
  have key := mid_get l m o ho j
  rw [List.getElem?_eq_getElem hj] at key
  refine ⟨?_, ?_⟩
  · by_cases hin : o ≤ j ∧ j < o + m.length
    · have hm : j - o < m.length := by omega
      have := World.cell?_setCells_in g (m.map fun x => Value.int .u8 (x.toNat : Int)) o w (fun i hi => by
        rw [(h (o + i) (by simp at hi; omega)).1]; rfl) (j - o) (by simpa using hm)
      rw [show o + (j - o) = j by omega] at this
      rw [this]
      rw [if_pos hin, List.getElem?_eq_getElem hm] at key
      injection key with key
      rw [key, List.getElem_map]
    · rw [World.cell?_setCells_out g _ o w ⟨g, j, none⟩ (fun _ _ => by simp only [List.length_map]; omega), (h j hj').1]
      rw [if_neg hin, List.getElem?_eq_getElem hj'] at key
      injection key with key
      rw [key]
  · rw [World.frozen?_setCells]; exact (h j hj').2
theorem below_setCells {B b : Nat} {a : World} (hb : B ≤ b) : ∀ (vs : List Value) (o : Nat) (w : World), Below B a w → Below B a (w.setCells b o vs)
  | [], _, _, h => h
  | v :: r, o, w, h => below_setCells hb r (o + 1) _ (h.setCell (by exact hb) v)

set_option maxHeartbeats 1000000 in
theorem bytes_raw (p L : Nat) (h : Option Addr) (w : World) (parts : List ByteArray) (hc : w.cell? ⟨p, 0, none⟩ = some (.pointer h)) (hch : Chain w L h parts) (hp : p < w.heap.size) (ht : tot parts ≤ 281474976710656) :
    Calls Tryz.prog 52 #[.pointer (some ⟨p, 0, none⟩)] w fun e w' => e = .returned (.string ⟨(cat parts).toArray⟩) ∧ Below w.heap.size w w' := by
  have HC := Lib.hid hch
  clear hch
  go_enter Tryz.func52, Tryz.ntmps52
  go_wp2
  go_loopg [3, 4] parts.length (fun k s3 s4 wr => ∃ (done rest : List ByteArray) (h' : Option Addr), k = rest.length ∧ Hid (parts = done ++ rest) ∧ s3 = .int .i64 (tot done : Nat) ∧ s4 = .pointer h' ∧ Hid (Chain w L h' rest) ∧ w = wr)
  case atStart => exact ⟨[], parts, h, rfl, rfl, rfl, rfl, HC, rfl⟩
  case round =>
    obtain ⟨done, rest, h', hk, HP, rfl, rfl, HR, rfl⟩ := hrel
    have HK := Lib.hid hk
    clear hk
    cases rest with
    | nil =>
      obtain rfl := HR.out.nil_
      have hparts : parts = done := by simpa using HP.out
      subst hparts
      clear HR HP HK
      have hmk := make8 (tot parts) ht
      have R0 := Lib.hid (Row8.made w 5 (tot parts))
      have B0 : Hid (Below w.heap.size w (w.alloc (.cells (madeCells #[.int .u8 0] (tot parts)) 5))) := (Below.refl _ _).alloc (Nat.le_refl _) _
      go_wp2
      go_loopg [3, 6] parts.length (fun k s3 s6 wr => ∃ (done rest : List ByteArray) (h' : Option Addr) (l : List UInt8) (n : Nat), k = rest.length ∧ Hid (parts = done ++ rest) ∧ Hid (n = tot rest) ∧ s3 = .int .i64 (n : Int) ∧ s6 = .pointer h' ∧ Hid (Chain w L h' rest) ∧ Hid (Row8 wr w.heap.size l) ∧ Hid (l.length = tot parts) ∧ Hid (l.drop n = cat done) ∧ Hid (Below w.heap.size w wr))
      case atStart => exact ⟨[], parts, h, List.replicate (tot parts) 0, tot parts, rfl, rfl, rfl, rfl, rfl, HC, R0, Lib.hid (by simp), Lib.hid (by simp [cat]), B0⟩
      case round =>
        obtain ⟨done, rest, h', l, n, hk, HP, HT, rfl, rfl, HR, HRow, HLen, HDrop, HB⟩ := hrel
        have HK := Lib.hid hk
        clear hk hmk R0 B0
        cases rest with
        | nil =>
          obtain rfl := HR.out.nil_
          have hl : l = cat parts := by
            have h1 := HDrop.out
            have h2 := HT.out
            simp only [tot] at h2
            rw [h2, List.drop_zero] at h1
            rw [h1]
            have := HP.out
            simp only [List.append_nil] at this
            rw [this]
          have hbk := HRow.out.back (P := Tryz.prog) 76 9 5 (tot parts) Tryz.underlying76 Tryz.underlying5 Tryz.underlying9
          rw [HLen.out, hl] at hbk
          have HL := Lib.hid hl
          clear hl
          go_wp2
          go_ret
          exact ⟨rfl, HB.out⟩
        | cons s rest =>
          obtain ⟨g, h2, rfl, hg1, hg2, hc0', hc1', hs, HR2⟩ := HR.out.cons_
          have hc0 : wr.cell? ⟨g, 0, none⟩ = some (.pointer h2) := (HB.out.cell (p := ⟨g, 0, none⟩) hg2).trans hc0'
          have hc1 : wr.cell? ⟨g, 1, none⟩ = some (.string s) := (HB.out.cell (p := ⟨g, 1, none⟩) hg2).trans hc1'
          clear hc0' hc1'
          obtain ⟨m, hm⟩ : ∃ m, m = tot rest := ⟨_, rfl⟩
          have hn : n = m + s.size := by have := HT.out; simp only [tot] at this; omega
          have hmt : m + s.size ≤ tot parts := by
            have := HP.out
            rw [this, tot_append]; simp only [tot]; omega
          have HM := Lib.hid hm
          clear hm
          subst hn
          have hlm : m + s.data.toList.length ≤ l.length := by rw [HLen.out, size_toList]; omega
          have HCS : Hid (∀ j, j < s.size → (wr.drew.cell? ⟨w.heap.size, m + j, none⟩).isSome = true) := fun j hj => by
            have := (HRow.out (m + j) (by rw [size_toList] at hlm; omega)).1
            show (wr.cell? ⟨w.heap.size, m + j, none⟩).isSome = true
            rw [this]; rfl
          have HFS : Hid (∀ j, j < s.size → wr.drew.frozen? ⟨w.heap.size, m + j, none⟩ = false) := fun j hj =>
            (HRow.out (m + j) (by rw [size_toList] at hlm; omega)).2
          have HRow2 := Lib.hid ((HRow.out.drew).setCells m s.data.toList hlm)
          have HB2 := Lib.hid (below_setCells (b := w.heap.size) (Nat.le_refl _) (s.data.toList.map fun x => Value.int .u8 (x.toNat : Int)) m _ HB.out.drew)
          have HLen2 : Hid ((l.take m ++ s.data.toList ++ l.drop (m + s.data.toList.length)).length = tot parts) := by
            have := HLen.out
            show _ = _
            simp only [List.length_append, List.length_take, List.length_drop]
            omega
          have HDrop2 : Hid ((l.take m ++ s.data.toList ++ l.drop (m + s.data.toList.length)).drop m = cat (done ++ [s])) := by
            have h1 : (l.take m).length = m := by rw [List.length_take]; omega
            show _ = _
            rw [List.append_assoc, List.drop_append_of_le_length (by omega), List.drop_of_length_le (by omega), List.nil_append, size_toList, cat_snoc, HDrop.out]
          have hne : ¬ (tot parts = m) := by omega
          have hmle : m ≤ tot parts := by omega
          have HC0 : Hid (∀ W1, Below w.heap.size w W1 → W1.cell? ⟨g, 0, none⟩ = some (.pointer h2)) := fun W1 hb => (hb.cell (p := ⟨g, 0, none⟩) hg2).trans (((HB.out.cell (p := ⟨g, 0, none⟩) hg2).symm).trans hc0)
          clear hlm
          go_wp2
          go_region_law (refine step_copy_string rfl (.tmp 47) (.tmp 51) 76 9 rfl 5 Tryz.underlying76 sizeOf8 w.heap.size m (tot parts - m) (tot parts - m) (by simp [Act.eval, Act.put]) s (by simp [Act.eval, Act.put]) (by omega) HCS.out HFS.out ?_)
          all_goals
            generalize wr.drew.setCells w.heap.size m (List.map (fun x => Value.int .u8 (x.toNat : Int)) s.data.toList) = W1 at HRow2 HB2 ⊢
            have hc0n := HC0.out W1 HB2.out
            go_wp2
            go_roundg rest.length
            case measure => have := HK.out; simp at this; omega
            case rel => exact ⟨done ++ [s], rest, h2, _, m, rfl, Lib.hid (by rw [HP.out]; simp), HM, rfl, rfl, HR2, HRow2, HLen2, HDrop2, HB2⟩
    | cons s rest =>
      obtain ⟨g, h2, rfl, hg1, hg2, hc0, hc1, hs, HR2⟩ := HR.out.cons_
      have htot : tot done + s.size ≤ 281474976710656 := by
        have := HP.out
        rw [this, tot_append] at ht
        simp [tot] at ht
        omega
      go_wp2
      go_roundg rest.length
      case measure => have := HK.out; simp at this; omega
      case rel => exact ⟨done ++ [s], rest, h2, rfl, Lib.hid (by rw [HP.out]; simp), by rw [tot_snoc]; go_num, rfl, HR2, rfl⟩
end Go.Proofs.YtmlikkjahkdilaaGreatDoor

