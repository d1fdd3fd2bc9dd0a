/- The contract of wire.number: the pieces of seven bits of a number, the lowest first. -/
import Derived.Test.YtndcmjgjecdgcaaDoorRows
import Derived.Test.YtndcmjgjecdgcaaDoorWireMath
import Derived.Test.YtndcmjgjecdgcaaDoorBytes
import Derived.WalkKit
import Derived.WalkLawsBesides
import Derived.WalkSpells
import Derived.Lib.Hide
import Derived.OwnWalk
import Derived.Laws.AppendOwn
import Derived.Deep.DeepCutAuto
import Derived.Deep.AppendLies
namespace Go.Proofs.YtndcmjgjecdgcaaDoor
open Go.RowKit

theorem info8 : (Tryd.prog.info? 5).map (fun i => (i.zero, i.size, i.bytes)) = some (some (.int .u8 0), 1, 1) := by kernel_rfl
def b8 (b : UInt8) : Value := .int .u8 (b.toNat : Int)
def Own8 (w : World) (base : Nat) (v : Value) (l : List UInt8) : Prop := w.ownsRow base 5 1 v l.length (l.map b8)
theorem Own8.nil (w : World) (base : Nat) (cap : Nat) (cur : Array Value) (hb : base ≤ w.heap.size) (hm : cap ≤ maxLen) (hs : cur.size = cap) :
    Own8 (w.alloc (.cells cur 5)) base (.slice (some ⟨w.heap.size, 0, none⟩) 0 cap) [] := World.ownsRow_made w cur cap hb hm (by rw [hs, Nat.mul_one])
theorem Own8.row {w : World} {base : Nat} {v : Value} {l : List UInt8} (h : Own8 w base v l) (hl : 0 < l.length) :
    ∃ g cap, v = .slice (some ⟨g, 0, none⟩) l.length cap ∧ base ≤ g ∧ g < w.heap.size ∧ Row8 w g l := by
  obtain ⟨g, cap, hv, hb, hlt⟩ := World.ownsRow.form h hl
  refine ⟨g, cap, hv, hb, hlt, ?_⟩
  subst hv
  intro j hj
  refine ⟨?_, World.ownsRow.frozenAt h j⟩
  rw [World.ownsRow.cellAt h j (by omega)]
  simp [b8, hj]
theorem make10 : ∀ w : World, (Instr.makeSlice 89 (.int .i64 0) (.int .i64 10)).run Tryd.prog w =
    .ok (.slice (some ⟨w.heap.size, 0, none⟩) 0 10) (w.alloc (.cells (madeCells #[.int .u8 0] 10) 5)) := by
  intro w
  obtain ⟨i, hi, hz0, hz1, hz2⟩ := info_parts info8
  have := run_make (P := Tryd.prog) w 89 5 i (.int .u8 0) Tryd.underlying89 hi hz0 .i64 .i64 0 10 (by omega) (by omega) (by rw [hz2]; omega) (by omega)
  simpa [hz1, Value.cells] using this

theorem zig_neg (n : Int) (h1 : -9223372036854775808 ≤ n) (h2 : n < 0) : bits BinOp.xor IntKind.u64 IntKind.u64.max (IntKind.u64.wrap (IntKind.u64.wrap n * 2)) = ((Wire.zig n : Nat) : Int) := by
  have e1 : IntKind.u64.wrap (IntKind.u64.wrap n * 2) = (((2 * n + 18446744073709551616).toNat : Nat) : Int) := by
    rw [IntKind.wrap_u64, IntKind.wrap_u64]; omega
  have e2 : IntKind.u64.max = ((18446744073709551615 : Nat) : Int) := rfl
  rw [e1, e2, bits_xor_u64_nat _ _ (by omega) (by omega)]
  have e3 : (18446744073709551615 : Nat) ^^^ (2 * n + 18446744073709551616).toNat = 18446744073709551615 - (2 * n + 18446744073709551616).toNat := by
    have hlt : (2 * n + 18446744073709551616).toNat < 2 ^ 64 := by omega
    have := BitVec.toNat_not (x := BitVec.ofNat 64 (2 * n + 18446744073709551616).toNat)
    rw [BitVec.toNat_ofNat, Nat.mod_eq_of_lt hlt] at this
    have h3 : ~~~ (BitVec.ofNat 64 (2 * n + 18446744073709551616).toNat) = BitVec.allOnes 64 ^^^ BitVec.ofNat 64 (2 * n + 18446744073709551616).toNat := by
      rw [BitVec.allOnes_xor]
    rw [h3, BitVec.toNat_xor, BitVec.toNat_ofNat, Nat.mod_eq_of_lt hlt, BitVec.toNat_allOnes] at this
    simpa using this
  rw [e3]
  unfold Wire.zig
  rw [if_pos h2]
  omega
theorem zig_pos (n : Int) (h2 : 0 ≤ n) (h3 : n ≤ 9223372036854775807) : IntKind.u64.wrap (IntKind.u64.wrap n * 2) = ((Wire.zig n : Nat) : Int) := by
  rw [IntKind.wrap_u64, IntKind.wrap_u64]
  unfold Wire.zig
  rw [if_neg (by omega)]
  omega
def Fits (k u : Nat) : Prop := u < 128 ^ k
set_option maxRecDepth 100000 in
theorem or_tab : ∀ x : Fin 256, x.val ||| 128 = x.val % 128 + 128 := by decide
theorem or128 (u : Nat) : bits BinOp.or IntKind.u8 ((u : Int) % 256) 128 = ((UInt8.ofNat (u % 128 + 128)).toNat : Int) := by
  have h := u8_or_nat (u % 256) 128 (by omega) (by omega)
  have e : ((u : Int) % 256) = ((u % 256 : Nat) : Int) := by omega
  rw [e]
  have e2 : (128 : Int) = ((128 : Nat) : Int) := rfl
  rw [e2, h, UInt8.toNat_ofNat']
  have h3 := or_tab ⟨u % 256, by omega⟩
  simp only [] at h3
  rw [h3]
  omega
theorem low8 (u : Nat) (h : u < 128) : (u : Int) % 256 = ((UInt8.ofNat u).toNat : Int) := by
  rw [UInt8.toNat_ofNat']; omega

theorem low8' (u : Nat) (h : u < 128) : (u : Int) = ((UInt8.ofNat u).toNat : Int) := by
  rw [UInt8.toNat_ofNat']; omega
theorem app_more {B : Nat} {w wr w1 : World} {v v' : Value} {xs : List UInt8} {b : UInt8} {o : Obj} (hb : Below B w wr) (hown : w1.ownsRow B 5 1 v' (xs.length + 1) (xs.map b8 ++ [.int .u8 (b.toNat : Int)]))
    (hg : (wr.alloc o).grownBy w1 v.ownBlock) (ho : Own8 wr B v xs) (hB : B ≤ wr.heap.size := by first | assumption | omega) : Own8 w1 B v' (xs ++ [b]) ∧ Below B w w1 := by
  refine ⟨?_, ?_⟩
  · unfold Own8
    have e : (xs ++ [b]).map b8 = xs.map b8 ++ [.int .u8 (b.toNat : Int)] := by simp [b8]
    rw [e, List.length_append]
    exact hown
  · exact (hb.alloc hB _).grown hg (by simp; omega) (fun k hk => (World.ownsRow.lt ho k hk).1)
theorem wpList_push8 {ops : Array Oper} {rest : List Oper} {o : Oper} {a : Act} {Q : Exit → Act → World → Prop} {w wr : World} {B : Nat} (hgd : o.guard = none) (s x : Operand)
    (ho : o.op = .call { callee := .builtin .append, args := #[s, x], argTypes := #[89, 89] }) (v : Value) (hs : a.eval s = v) (n : Int)
    (hx : a.eval x = .slice (some ⟨wr.heap.size, 0, none⟩) 1 1) (xs : List UInt8) (b : UInt8) (hn : n = (b.toNat : Int)) (hown : Own8 wr B v xs) (hbel : Below B w wr) (hB : B ≤ w.heap.size) (hlen : xs.length ≤ 1000000000000)
    (h : ∀ v' w1, Own8 w1 B v' (xs ++ [b]) → Below B w w1 → wpList Tryd.prog ops Q rest (a.put o.dst v') w1) :
    wpList Tryd.prog ops Q (o :: rest) a (wr.alloc (.cells #[.int .u8 n] 5)) := by
  subst hn
  obtain ⟨i0, hi, hz0, hz1, hz2⟩ := info_parts info8
  have hsz := hbel.size
  refine wpList_append_own _ hgd s x 89 ho B 5 i0 (.int .u8 0) 1 1 Tryd.underlying89 hi hz0 hz1 hz2 rfl (by decide) v xs.length (xs.map b8) hs (World.ownsRow.alloc hown _) ⟨wr.heap.size, 0, none⟩ 1 1 [.int .u8 (b.toNat : Int)] hx rfl
    (cell_one_new _ _ _) (by intro u hu; simp at hu; subst hu; rfl) (by unfold maxLen; omega) (by omega) (by simp; omega) ?_
  intro v' w1 hown' hg _
  obtain ⟨h1, h2⟩ := app_more hbel hown' hg hown (by omega)
  exact h v' w1 h1 h2

set_option maxHeartbeats 1000000 in
theorem number_any (n : Int) (w : World) (hn : -9223372036854775808 ≤ n ∧ n ≤ 9223372036854775807) :
    Calls Tryd.prog 37 #[.int .i64 n] w fun e w' => e = .returned (.string ⟨(Wire.num n).toArray⟩) ∧ Below w.heap.size w w' := by
  have HZ := Wire.zig_lt hn
  obtain ⟨hn1, hn2⟩ := hn
  have hmk := make10
  obtain ⟨i0, hi, hz0, hz1, hz2⟩ := info_parts info8
  have HF : Fits 10 (Wire.zig n) := Nat.lt_of_lt_of_le HZ (by decide)
  clear HZ
  have hcut0 : n < 0 ∨ 0 ≤ n := by omega
  go_enter Tryd.func37, Tryd.ntmps37
  go_upto_if 9 with (fail)
  go_cut [3] (fun s3 wx => s3 = .int .u64 ((Wire.zig n : Nat) : Int) ∧ w = wx)
  case first =>
    by_cases hneg : n < 0
    · have hz := zig_neg n hn1 hneg
      go_wp2
      go_meet
      exact ⟨rfl, rfl⟩
    · have hz := zig_pos n (by omega) hn2
      go_wp2
      go_meet
      exact ⟨rfl, rfl⟩
  case rest =>
    obtain ⟨rfl, rfl⟩ := hcut
    have O0 : Hid (Own8 (w.alloc (.cells (madeCells #[.int .u8 0] 10) 5)) w.heap.size (.slice (some ⟨w.heap.size, 0, none⟩) 0 10) []) := Own8.nil _ _ _ _ (Nat.le_refl _) (by decide) (size_madeCells _ _)
    have B0 : Hid (Below w.heap.size w (w.alloc (.cells (madeCells #[.int .u8 0] 10) 5))) := (Below.refl _ _).alloc (Nat.le_refl _) _
    go_wp2
    go_loopw [3, 4] (fun sv v wr => ∃ (k u : Nat) (xs : List UInt8), sv = .int .u64 (u : Int) ∧ Hid (Fits (k + 1) u) ∧ k ≤ 9 ∧ xs.length + k ≤ 9 ∧ Hid (xs ++ Wire.vi (k + 1) u = Wire.num n) ∧ Hid (Own8 wr w.heap.size v xs) ∧ Hid (Below w.heap.size w wr)) (fun sv _ _ => (intOf sv).toNat)
    case atStart => exact ⟨9, Wire.zig n, [], rfl, HF, by omega, by simp, rfl, O0, B0⟩
    case round =>
      obtain ⟨k, u, xs, rfl, HFk, hk, hxk, HX, HO, HB⟩ := hrel
      clear O0 B0 hmk HF
      by_cases hlt : u < 128
      · have hge : ¬ (128 ≤ (u : Int)) := by omega
        have h8 := low8 u hlt
        have hend : xs ++ [UInt8.ofNat u] = Wire.num n := by have := HX.out; rw [Wire.vi_small k u hlt] at this; exact this
        have HE := Lib.hid hend
        clear hend
        have hlo := low8' u hlt
        have HLO := Lib.hid hlo
        clear hlo
        go_wp2_with ((at_builtin; go_must (refine wpList_push8 rfl _ _ rfl _ rfl _ rfl _ _ HLO.out HO.out HB.out (Nat.le_refl _) (by omega) ?_); go_must (intro v' w1 hO1 hB1; rw [HE.out] at hO1; obtain ⟨g, cap, rfl, _, _, HR⟩ := hO1.row (by have := Wire.num_length n; omega); have hbk := HR.back (P := Tryd.prog) 89 9 5 cap Tryd.underlying89 Tryd.underlying5 Tryd.underlying9; have HB1' := Lib.hid hB1; clear hO1 hB1 HR)))
        go_ret
        exact ⟨rfl, HB1'.out⟩
      · have hge : 128 ≤ (u : Int) := by omega
        obtain ⟨x, hx⟩ : ∃ x, x = UInt8.ofNat (u % 128 + 128) := ⟨_, rfl⟩
        have h8 := or128 u
        rw [← hx] at h8
        have hk0 : 1 ≤ k := by
          rcases Nat.eq_zero_or_pos k with h | h
          · subst h; have := HFk.out; unfold Fits at this; omega
          · exact h
        have hnext : (xs ++ [x]) ++ Wire.vi k (u / 128) = Wire.num n := by
          rw [hx]
          have := HX.out
          rw [Wire.vi_big k u hlt] at this
          rw [← this]; simp
        have hfit : Fits k (u / 128) := by
          have := HFk.out
          unfold Fits at this ⊢
          rw [Nat.pow_succ] at this
          omega
        have HN := Lib.hid hnext
        clear hnext hx
        go_wp2_with ((at_builtin; refine wpList_push8 rfl _ _ rfl _ rfl _ rfl _ _ rfl HO.out HB.out (Nat.le_refl _) (by omega) ?_; intro v' w1 hO1 hB1; have HO1' := Lib.hid hO1; have HB1' := Lib.hid hB1; clear hO1 hB1))
        go_roundw
        case rel =>
          obtain ⟨j, rfl⟩ : ∃ j, k = j + 1 := ⟨k - 1, by omega⟩
          exact ⟨j, u / 128, xs ++ [x], by go_num, hfit, by omega, by simp; omega, HN.out, HO1'.out, HB1'.out⟩
        case measure => simp [intOf]; omega
end Go.Proofs.YtndcmjgjecdgcaaDoor
