/- Numbers as digits, and back. No program. Package store: the names of its files. Package store: the block of a name. -/
import Derived.Lib.Atoi
import Derived.Lib.ItoaMem
import Derived.Lib.ItoaNum
import Derived.Lib.Split
import Derived.WalkKit
import Derived.Test.YtmlikkjahkdilaaGreatDoorPlainKit
import Derived.Test.YtmlikkjahkdilaaGreatDoorShelf
import Derived.Test.YtmlikkjahkdilaaGreatDoorLawEnd
import Derived.Lib.LaidTab
import Derived.Lib.AtoiErrMem
import Derived.Deep.DeepCutAuto
import Derived.IntWalk
import Derived.Shelf.SlSortCmp.QuietGrown
import Derived.BigQuiet
import Derived.Laws.Alloc2
import Derived.Deep.RegionHeld3
namespace Go.Proofs.YtmlikkjahkdilaaGreatDoor
open Go.Lib
theorem decFrom_app : ∀ (l : List UInt8) (acc n : Nat) (b : UInt8) (d : Nat), decFrom acc l = some n → digitVal b = some d → decFrom acc (l ++ [b]) = some (n * 10 + d)
  | [], acc, n, b, d, h, hd => by
    simp only [decFrom, Option.some.injEq] at h
    subst h
    simp [decFrom, hd]
  | a :: t, acc, n, b, d, h, hd => by
    simp only [decFrom, List.cons_append] at h ⊢
    cases ha : digitVal a with
    | none => rw [ha] at h; cases h
    | some e =>
      rw [ha] at h
      exact decFrom_app t _ n b d h hd
theorem digit_val {i : Nat} (h : i < 10) : digitVal (UInt8.ofNat (48 + i)) = some i := by
  unfold digitVal
  have : (UInt8.ofNat (48 + i)).toNat = 48 + i := by simp [UInt8.toNat_ofNat']; omega
  rw [this, if_pos (by omega)]
  congr 1
  omega
theorem dec_step {u : Nat} (h : ¬ u < 10) : decDigits u = decDigits (u / 10) ++ [UInt8.ofNat (48 + u % 10)] := by
  rw [decDigits, dif_neg h]
theorem dec_digits : ∀ u : Nat, decFrom 0 (decDigits u) = some u := by
  intro u
  induction u using Nat.strongRecOn with
  | _ u ih =>
    by_cases h : u < 10
    · rw [decDigits_one h]
      unfold decFrom
      rw [digit_val h]
      simp [decFrom]
    · rw [dec_step h, decFrom_app _ 0 (u / 10) _ (u % 10) (ih (u / 10) (by omega)) (digit_val (by omega))]
      congr 1
      omega
theorem digits_digit (u : Nat) (b : UInt8) (hb : b ∈ decDigits u) : 48 ≤ b.toNat ∧ b.toNat ≤ 57 := by
  obtain ⟨k, hk, rfl⟩ := List.getElem_of_mem hb
  obtain ⟨d, hd⟩ := digit_of_decFrom (decDigits u) 0 u (dec_digits u) k _ (List.getElem?_eq_getElem hk)
  unfold digitVal at hd
  split at hd
  · assumption
  · cases hd
theorem digits_cons (u : Nat) : ∃ b r, decDigits u = b :: r := by
  have h := nDigits_pos u
  rw [← decDigits_length] at h
  match hc : decDigits u, h with
  | b :: r, _ => exact ⟨b, r, rfl⟩
theorem atoi_digits (u : Nat) : atoi (decDigits u) = some (u : Int) := by
  obtain ⟨b, r, e⟩ := digits_cons u
  have hb := digits_digit u b (by rw [e]; exact List.mem_cons_self ..)
  have h1 : (b == 45) = false := by
    rw [beq_eq_false_iff_ne]
    intro h
    rw [h] at hb
    exact absurd hb.1 (by decide)
  have h2 : (b == 43) = false := by
    rw [beq_eq_false_iff_ne]
    intro h
    rw [h] at hb
    exact absurd hb.1 (by decide)
  have h3 := dec_digits u
  rw [e] at h3 ⊢
  show (if b == 45 then (decNat r).map fun (m : Nat) => -(m : Int) else if b == 43 then (decNat r).map fun (m : Nat) => (m : Int) else (decNat (b :: r)).map fun (m : Nat) => (m : Int)) = _
  rw [h1, h2]
  simp [decNat, h3]
theorem digits_inj {a b : Nat} (h : decDigits a = decDigits b) : a = b := by
  have h1 := dec_digits a
  rw [h, dec_digits b] at h1
  injection h1 with h1
  exact h1.symm
theorem pow_digits : ∀ k u, nDigits u = k + 1 → k = 0 ∨ 10 ^ k ≤ u := by
  intro k
  induction k with
  | zero => intro u _; exact .inl rfl
  | succ k ih =>
    intro u hu
    by_cases hs : u < 10
    · rw [nDigits_small hs] at hu; omega
    · rw [nDigits_big hs] at hu
      rcases ih (u / 10) (by omega) with h0 | h0
      · subst h0; exact .inr (by omega)
      · refine .inr ?_
        rw [Nat.pow_succ]
        have := Nat.mul_le_mul_right 10 h0
        omega
theorem digits_13 {u : Nat} (h : u ≤ 1099511627776) : (decDigits u).length ≤ 13 := by
  rw [decDigits_length]
  have hp := nDigits_pos u
  by_cases h9 : nDigits u ≤ 13
  · exact h9
  · exfalso
    rcases pow_digits (nDigits u - 1) u (by omega) with h0 | h0
    · omega
    · have : 10 ^ 13 ≤ 10 ^ (nDigits u - 1) := Nat.pow_le_pow_right (by decide) (by omega)
      omega
theorem index_dash : ∀ (l r : List UInt8), (∀ b ∈ l, b ≠ 45) → indexByte (l ++ 45 :: r) 45 = (l.length : Int)
  | [], r, _ => by simp [indexByte]
  | a :: t, r, h => by
    have h1 : (a == 45) = false := by rw [beq_eq_false_iff_ne]; exact h a (List.mem_cons_self ..)
    have ih := index_dash t r (fun b hb => h b (List.mem_cons_of_mem _ hb))
    show (if a == 45 then (0 : Int) else if indexByte (t ++ 45 :: r) 45 == -1 then -1 else indexByte (t ++ 45 :: r) 45 + 1) = _
    rw [h1, ih]
    have : ((t.length : Int) == -1) = false := by rw [beq_eq_false_iff_ne]; omega
    rw [this]
    simp
theorem no_dash (u : Nat) : ∀ x ∈ decDigits u, x ≠ 45 := fun x hx e => by have := digits_digit u x hx; rw [e] at this; exact absurd this.1 (by decide)
theorem count_no (l : List UInt8) (h : ∀ x ∈ l, x ≠ 45) : l.count 45 = 0 := List.count_eq_zero.2 fun hm => h 45 hm rfl
theorem index_no : ∀ (l : List UInt8), (∀ b ∈ l, b ≠ 45) → indexByte l 45 = -1
  | [], _ => rfl
  | a :: t, h => by
    have h1 : (a == 45) = false := by rw [beq_eq_false_iff_ne]; exact h a (List.mem_cons_self ..)
    have ih := index_no t (fun b hb => h b (List.mem_cons_of_mem _ hb))
    show (if a == 45 then (0 : Int) else if indexByte t 45 == -1 then -1 else indexByte t 45 + 1) = _
    rw [h1, ih]
    rfl
end Go.Proofs.YtmlikkjahkdilaaGreatDoor

namespace Go.Proofs.YtmlikkjahkdilaaGreatDoor
open Go.RowKit Go.Sort Go.Shelf
/-- the table of powers of ten -/
def Pw (w : World) : Prop := Lib.TabIs Tryz.prog w "internal/strconv.uint64pow10" .u64 Lib.pow10Tab
theorem Pw.below {w w' : World} (h : Pw w) (hb : Below w.heap.size w w') : Pw w' := by
  have hg : Tryz.prog.globalNamed "internal/strconv.uint64pow10" = some 4 := by kernel_rfl
  unfold Pw Lib.TabIs World.var? at *
  rw [hg] at h ⊢
  simp only [Option.bind_some] at h ⊢
  have hl : 4 < w.heap.size := by
    rcases Nat.lt_or_ge 4 w.heap.size with hl | hl
    · exact hl
    · rw [Array.getElem?_eq_none hl] at h; cases h
  rw [hb.block _ hl]
  exact h
theorem bel_grow (w : World) (n : Nat) (os : Array Obj) : Below w.heap.size w (Sort.grow (w.drewN n) os) :=
  ⟨rfl, rfl, rfl, by show w.heap.size ≤ (w.heap ++ os).size; simp, fun k hk => by show (w.heap ++ os)[k]? = _; exact Array.getElem?_append_left hk⟩
def dgS (i : Nat) : ByteArray := ⟨(Lib.decDigits i).toArray⟩
theorem dgS_size {i : Nat} (h : i ≤ 1099511627776) : (dgS i).size ≤ 13 := by
  have := digits_13 h
  simpa [dgS, ByteArray.size] using this
theorem itoa_gr (i : Nat) (h : i ≤ 1099511627776) (w : World) (hp : Pw w) : Calls Tryz.prog 53 #[.int .i64 i] w fun e w' => e = .returned (.string (dgS i)) ∧ ∃ q os', w' = grow (w.drewN q) os' := by
  refine (Tryz.strconv_Itoa i (by omega) (by omega) w hp).mono ?_
  rintro e w' ⟨rfl, k, os, rfl⟩
  rw [Lib.itoa_nonneg]
  exact ⟨rfl, k, os, rfl⟩
/-- the name of a block's file -/
def blkS (a b c : Nat) : ByteArray := ⟨#[98, 108, 107, 45]⟩ ++ dgS a ++ ⟨#[45]⟩ ++ dgS b ++ ⟨#[45]⟩ ++ dgS c
structure Blk where
  a : Nat
  b : Nat
  c : Nat
deriving DecidableEq
def okB (x : Blk) : Prop := x.a ≤ 1099511627776 ∧ x.b ≤ 1099511627776 ∧ x.c ≤ 1099511627776
abbrev Blk.nm (x : Blk) : ByteArray := blkS x.a x.b x.c
abbrev Blk.v (x : Blk) : Value := .agg #[.int .i64 x.a, .int .i64 x.b, .int .i64 x.c]
theorem blk_size {x : Blk} (h : okB x) : x.nm.size ≤ 45 := by
  have h1 := dgS_size h.1
  have h2 := dgS_size h.2.1
  have h3 := dgS_size h.2.2
  unfold Blk.nm blkS
  simp only [ByteArray.size_append]
  have e1 : (⟨#[98, 108, 107, 45]⟩ : ByteArray).size = 4 := rfl
  have e2 : (⟨#[45]⟩ : ByteArray).size = 1 := rfl
  omega
set_option maxRecDepth 100000 in
set_option maxHeartbeats 4000000 in
theorem file_name (x : Blk) (hx : okB x) (w : World) (hp : Pw w) :
    Calls Tryz.prog 30 #[x.v] w fun e w' => e = .returned (.string x.nm) ∧ Below w.heap.size w w' := by
  obtain ⟨a, b, c⟩ := x
  obtain ⟨ha, hb, hc⟩ := hx
  simp only at ha hb hc
  show Calls Tryz.prog 30 #[.agg #[.int .i64 a, .int .i64 b, .int .i64 c]] w fun e w' => e = .returned (.string (blkS a b c)) ∧ Below w.heap.size w w'
  have mixed : Tryz.prog.follows Departure.mixedOrders = true := by kernel_rfl
  have eg : ∀ args w, (callFunc 53 args).run Tryz.prog w = .ok (.enter 53 args) w := enters_of Tryz.func53 (by kernel_rfl) rfl
  obtain ⟨wa, hwa⟩ : ∃ wa, wa = w.alloc (.cells #[.int .i64 a, .int .i64 b, .int .i64 c] 23) := ⟨_, rfl⟩
  have hB : Below w.heap.size w wa := by rw [hwa]; exact (Below.refl _ _).alloc (Nat.le_refl _) _
  obtain ⟨q, hq⟩ : ∃ q, q = w.heap.size := ⟨_, rfl⟩
  have hx : wa.heap[q]? = some (.cells #[.int .i64 a, .int .i64 b, .int .i64 c] 23 (0, 0)) := by rw [hwa, hq]; exact heap_alloc_new w _
  have hlt := (Array.getElem?_eq_some_iff.1 hx).1
  have l0 := cell_grown (a := ⟨q, 0, none⟩) hlt (show wa.cell? ⟨q, 0, none⟩ = some (.int .i64 a) by simp [World.cell?, hx])
  have l1 := cell_grown (a := ⟨q, 1, none⟩) hlt (show wa.cell? ⟨q, 1, none⟩ = some (.int .i64 b) by simp [World.cell?, hx])
  have l2 := cell_grown (a := ⟨q, 2, none⟩) hlt (show wa.cell? ⟨q, 2, none⟩ = some (.int .i64 c) by simp [World.cell?, hx])
  have hpw : ∀ m os, Pw (grow (wa.drewN m) os) := fun m os => hp.below (hB.trans ((bel_grow wa m os).mono hB.size))
  have ca := fun m os => itoa_gr a ha _ (hpw m os)
  have cb := fun m os => itoa_gr b hb _ (hpw m os)
  have cc := fun m os => itoa_gr c hc _ (hpw m os)
  have h1 := dgS_size ha
  have h2 := dgS_size hb
  have h3 := dgS_size hc
  have e1 : (⟨#[98, 108, 107, 45]⟩ : ByteArray).size = 4 := rfl
  have e2 : (⟨#[45]⟩ : ByteArray).size = 1 := rfl
  obtain ⟨A, hA⟩ : ∃ A, A = dgS a := ⟨_, rfl⟩
  obtain ⟨B, hBB⟩ : ∃ B, B = dgS b := ⟨_, rfl⟩
  obtain ⟨C, hCC⟩ : ∃ C, C = dgS c := ⟨_, rfl⟩
  have HN : Hid (blkS a b c = ⟨#[98, 108, 107, 45]⟩ ++ A ++ ⟨#[45]⟩ ++ B ++ ⟨#[45]⟩ ++ C) := Lib.hid (by rw [hA, hBB, hCC]; rfl)
  rw [← hA] at ca h1
  rw [← hBB] at cb h2
  rw [← hCC] at cc h3
  have n1 : ¬ 9223372036854775807 < 4 + A.size := by omega
  have n2 : ¬ 9223372036854775807 < 4 + A.size + 1 := by omega
  have n3 : ¬ 9223372036854775807 < 4 + A.size + 1 + B.size := by omega
  have n4 : ¬ 9223372036854775807 < 4 + A.size + 1 + B.size + 1 := by omega
  have n5 : ¬ 9223372036854775807 < 4 + A.size + 1 + B.size + 1 + C.size := by omega
  have HB := Lib.hid hB
  clear hA hBB hCC ha hb hc hx hlt hp hpw h1 h2 h3 e1 e2 hB
  go_enter Tryz.func30, Tryz.ntmps30
  go_wp2_with (fail)
  rw [← hwa, ← hq]
  clear hwa hq
  go_quiet_grown (first
    | (go_at_fn 53; with_reducible refine Calls.grown_of (ca _ _))
    | (go_at_fn 53; with_reducible refine Calls.grown_of (cb _ _))
    | (go_at_fn 53; with_reducible refine Calls.grown_of (cc _ _)))
  clear ca cb cc l0 l1 l2
  go_wp2
  go_ret
  exact ⟨by rw [HN.out]; rfl, HB.out.trans ((bel_grow wa _ _).mono HB.out.size)⟩
/-- a number that may stand in a block's name -/
def nmb (n : Int) : Bool := decide (0 ≤ n ∧ n ≤ 1099511627776)
set_option maxHeartbeats 1000000 in
theorem is_number (n : Int) (w : World) : Calls Tryz.prog 47 #[.int .i64 n] w fun e w' => e = .returned (.bool (nmb n)) ∧ ∃ q os', w' = grow (w.drewN q) os' := by
  by_cases h0 : 0 ≤ n
  · have h0' : decide (0 ≤ n) = true := decide_eq_true h0
    by_cases h1 : n ≤ 1099511627776
    · have h2 : nmb n = true := decide_eq_true ⟨h0, h1⟩
      rw [h2]
      go_enter Tryz.func47, Tryz.ntmps47
      go_wp2
      go_ret
      exact ⟨rfl, 0, #[], by rw [grow_empty]; rfl⟩
    · have h2 : nmb n = false := decide_eq_false (fun h => h1 h.2)
      have h3 : ¬ n ≤ 1099511627776 := h1
      rw [h2]
      go_enter Tryz.func47, Tryz.ntmps47
      go_wp2
      go_ret
      exact ⟨rfl, 0, #[], by rw [grow_empty]; rfl⟩
  · have h0' : decide (0 ≤ n) = false := decide_eq_false h0
    have h2 : nmb n = false := decide_eq_false (fun h => h0 h.1)
    rw [h2]
    go_enter Tryz.func47, Tryz.ntmps47
    go_wp2
    go_ret
    exact ⟨rfl, 0, #[], by rw [grow_empty]; rfl⟩
theorem grown_bel {w w' : World} (h : ∃ q os', w' = grow (w.drewN q) os') : Below w.heap.size w w' := by
  obtain ⟨q, os, rfl⟩ := h
  exact bel_grow w q os
set_option maxRecDepth 100000 in
set_option maxHeartbeats 4000000 in
theorem is_name (a b c : Int) (w : World) :
    Calls Tryz.prog 25 #[.agg #[.int .i64 a, .int .i64 b, .int .i64 c]] w fun e w' => e = .returned (.bool (nmb a && nmb b && nmb c)) ∧ Below w.heap.size w w' := by
  obtain ⟨wa, hwa⟩ : ∃ wa, wa = w.alloc (.cells #[.int .i64 a, .int .i64 b, .int .i64 c] 23) := ⟨_, rfl⟩
  obtain ⟨q, hq⟩ : ∃ q, q = w.heap.size := ⟨_, rfl⟩
  have hB : Below w.heap.size w wa := by rw [hwa]; exact (Below.refl _ _).alloc (Nat.le_refl _) _
  have hx : wa.heap[q]? = some (.cells #[.int .i64 a, .int .i64 b, .int .i64 c] 23 (0, 0)) := by rw [hwa, hq]; exact heap_alloc_new w _
  have hlt := (Array.getElem?_eq_some_iff.1 hx).1
  have l0 : wa.cell? ⟨q, 0, none⟩ = some (.int .i64 a) := by simp [World.cell?, hx]
  have l1 : wa.cell? ⟨q, 1, none⟩ = some (.int .i64 b) := by simp [World.cell?, hx]
  have l2 : wa.cell? ⟨q, 2, none⟩ = some (.int .i64 c) := by simp [World.cell?, hx]
  have HL := Lib.hid (And.intro hB (And.intro (fun (w' : World) (hb : Below wa.heap.size wa w') => (hb.cell (p := ⟨q, 1, none⟩) hlt).trans l1) (fun (w' : World) (hb : Below wa.heap.size wa w') => (hb.cell (p := ⟨q, 2, none⟩) hlt).trans l2)))
  clear hx hlt l1 l2 hB
  go_enter Tryz.func25, Tryz.ntmps25
  go_wp2_with (fail)
  rw [← hwa, ← hq]
  clear hwa hq l0
  refine (is_number a wa).mono ?_
  rintro e w1 ⟨rfl, h1⟩
  have HB1 := Lib.hid (grown_bel h1)
  clear h1
  cases hA : nmb a with
  | false =>
    have HA := Lib.hid hA
    clear hA
    go_wp2
    go_ret
    exact ⟨by rw [HA.out]; rfl, HL.out.1.trans (HB1.out.mono HL.out.1.size)⟩
  | true =>
    have l1 := HL.out.2.1 _ HB1.out
    have HA := Lib.hid hA
    clear hA
    go_wp2_with (fail)
    refine (is_number b w1).mono ?_
    rintro e w2 ⟨rfl, h2⟩
    have HB2 := Lib.hid (HB1.out.trans ((grown_bel h2).mono HB1.out.size))
    clear h2 l1
    cases hB : nmb b with
    | false =>
      have HB := Lib.hid hB
      clear hB
      go_wp2
      go_ret
      exact ⟨by rw [HA.out, HB.out]; rfl, HL.out.1.trans (HB2.out.mono HL.out.1.size)⟩
    | true =>
      have l2 := HL.out.2.2 _ HB2.out
      have HB := Lib.hid hB
      clear hB
      go_wp2_with (fail)
      refine (is_number c w2).mono ?_
      rintro e w3 ⟨rfl, h3⟩
      have HB3 := Lib.hid (HB2.out.trans ((grown_bel h3).mono HB2.out.size))
      clear h3 l2
      go_wp2
      go_ret
      exact ⟨by rw [HA.out, HB.out]; rfl, HL.out.1.trans (HB3.out.mono HL.out.1.size)⟩
theorem nmb_ok {n : Nat} (h : n ≤ 1099511627776) : nmb (n : Int) = true := decide_eq_true ⟨by omega, by omega⟩
/-- what stands behind the head of a name -/
def tlS (a b c : Nat) : ByteArray := ⟨(Lib.decDigits a ++ 45 :: (Lib.decDigits b ++ 45 :: Lib.decDigits c)).toArray⟩
def blkP : ByteArray := ⟨#[98, 108, 107, 45]⟩
theorem blk_list (a b c : Nat) : (blkS a b c).data.toList = blkP.data.toList ++ (Lib.decDigits a ++ 45 :: (Lib.decDigits b ++ 45 :: Lib.decDigits c)) := by
  unfold blkS dgS blkP
  simp only [ByteArray.data_append, Array.toList_append, List.append_assoc]
  rfl
theorem prefix_app (p l : List UInt8) : Lib.hasPrefix (p ++ l) p = true := by
  unfold Lib.hasPrefix
  rw [List.isPrefixOf_iff_prefix]
  exact List.prefix_append p l
theorem trim_app (p l : List UInt8) : Lib.trimPrefix (p ++ l) p = l := by
  unfold Lib.trimPrefix
  rw [if_pos (prefix_app p l)]
  simp
theorem tl_count (a b c : Nat) : Lib.count (tlS a b c).data.toList [45] = 2 := by
  unfold tlS
  rw [List.toList_toArray, Lib.count_one]
  simp [List.count_append, List.count_cons, count_no _ (no_dash a), count_no _ (no_dash b), count_no _ (no_dash c)]
theorem splitK_dash (k : Nat) (l r : List UInt8) (h : ∀ x ∈ l, x ≠ 45) : Lib.splitK [45] 0 (k + 1) (l ++ 45 :: r) = l :: Lib.splitK [45] 0 k r := by
  have hi : Lib.index (l ++ 45 :: r) [45] = (l.length : Int) := by rw [Lib.index_one, index_dash l r h]
  have hn : ¬ (((l.length : Nat) : Int) == -1) = true := by simp
  have e1 : ((l.length : Nat) : Int).toNat = l.length := by omega
  have e2 : ([45] : List UInt8).length = 1 := rfl
  rw [Lib.splitK, hi, if_neg hn, e1, e2, Nat.add_zero, List.take_left, List.drop_append, List.drop_of_length_le (by omega), show l.length + 1 - l.length = 1 by omega]
  rfl
theorem tl_split (a b c : Nat) : Lib.splitK [45] 0 2 (tlS a b c).data.toList = [Lib.decDigits a, Lib.decDigits b, Lib.decDigits c] := by
  unfold tlS
  rw [List.toList_toArray, splitK_dash 1 _ _ (no_dash a), splitK_dash 0 _ _ (no_dash b)]
  rfl
theorem tl_size {a b c : Nat} (ha : a ≤ 1099511627776) (hb : b ≤ 1099511627776) (hc : c ≤ 1099511627776) : (tlS a b c).size ≤ 41 := by
  have h1 := digits_13 ha
  have h2 := digits_13 hb
  have h3 := digits_13 hc
  show (Lib.decDigits a ++ 45 :: (Lib.decDigits b ++ 45 :: Lib.decDigits c)).toArray.size ≤ 41
  simp only [List.size_toArray, List.length_append, List.length_cons]
  omega
theorem infoStrS : (Tryz.prog.info? 9).map (fun i => (i.zero, i.size, i.bytes)) = some (some (.string ByteArray.empty), 1, 16) := by kernel_rfl
theorem splitB_dg (a b c : Nat) : Lib.splitB ⟨#[45]⟩ 0 2 (tlS a b c) = [dgS a, dgS b, dgS c] := by
  have h := Lib.splitB_data ⟨#[45]⟩ 0 2 (tlS a b c)
  have e2 : (ByteArray.mk #[45]).data.toList = [45] := rfl
  rw [e2, tl_split] at h
  have hl := congrArg List.length h
  rw [List.length_map] at hl
  match hs : Lib.splitB ⟨#[45]⟩ 0 2 (tlS a b c), hl with
  | [x, y, z], _ =>
    rw [hs] at h
    simp only [List.map_cons, List.map_nil, List.cons.injEq, and_true] at h
    have ex : ∀ (u : ByteArray) (v : Nat), u.data.toList = Lib.decDigits v → u = dgS v := fun u v e => by
      apply ByteArray.ext
      apply Array.toList_inj.1
      rw [e]
      simp [dgS]
    rw [ex x a h.1, ex y b h.2.1, ex z c h.2.2]
set_option maxHeartbeats 1000000 in
theorem split_dg {a b c : Nat} (ha : a ≤ 1099511627776) (hb : b ≤ 1099511627776) (hc : c ≤ 1099511627776) (w : World) :
    Calls Tryz.prog 41 #[.string (tlS a b c), .string ⟨#[45]⟩] w fun e w' => e = .returned (.slice (some ⟨w.heap.size, 0, none⟩) 3 3) ∧ w.alloc (.cells #[.string (dgS a), .string (dgS b), .string (dgS c)] 9) = w' := by
  have hsz := tl_size ha hb hc
  have hcn : Lib.countB (tlS a b c) ⟨#[45]⟩ = 2 := tl_count a b c
  have hle := Lib.countB_le ⟨#[45]⟩ (by decide) (tlS a b c).size (tlS a b c) (Nat.le_refl _)
  have cc := Any.strings_genSplit_core Tryz.lays221 infoStrS (tlS a b c) ⟨#[45]⟩ 0 (-1) (Lib.countB (tlS a b c) ⟨#[45]⟩ + 1) w (by omega) (by decide) (by decide)
    (fun x c _ => by
      have := Tryz.strings_Index_one x 45 (w.alloc (.cells c 9))
      rw [← Lib.index_one] at this
      exact this)
    (by
      have := Tryz.strings_Count_one (tlS a b c) 45 w
      have e : Lib.countByte (tlS a b c).data.toList 45 = (Lib.countB (tlS a b c) ⟨#[45]⟩ : Int) := by
        show (((tlS a b c).data.toList.count 45 : Nat) : Int) = ((Lib.count (tlS a b c).data.toList [45] : Nat) : Int)
        rw [Lib.count_one]
      rw [e] at this
      exact this)
    (by decide) (by decide) (by rw [if_pos (by decide)]; omega)
  rw [hcn, Nat.add_sub_cancel, splitB_dg] at cc
  have c' : Calls Tryz.prog 63 #[.string (tlS a b c), .string ⟨#[45]⟩, .int .i64 0, .int .i64 (-1)] w fun e w' =>
      e = .returned (.slice (some ⟨w.heap.size, 0, none⟩) 3 3) ∧ w' = w.alloc (.cells #[.string (dgS a), .string (dgS b), .string (dgS c)] 9) := cc
  clear hle hsz hcn cc
  go_enter Tryz.func41, Tryz.ntmps41
  go_wp2_with (fail)
  refine c'.mono ?_
  rintro e w' ⟨rfl, rfl⟩
  go_wp2
  go_ret
  exact ⟨rfl, rfl⟩
set_option maxHeartbeats 1000000 in
theorem number_of (i : Nat) (hi : i ≤ 1099511627776) (w : World) :
    Calls Tryz.prog 42 #[.string (dgS i)] w fun e w' => e = .returned (.int .i64 i) ∧ Below w.heap.size w w' := by
  have ha : Lib.atoi (dgS i).data.toList = some (i : Int) := atoi_digits i
  have hat := Tryz.strconv_Atoi (dgS i) i (by have := dgS_size hi; omega) ha w
  clear ha hi
  go_enter Tryz.func42, Tryz.ntmps42
  go_wp2_with (fail)
  refine hat.mono ?_
  rintro e w1 ⟨rfl, t, rfl⟩
  clear hat
  have HB := Lib.hid (Lib.bytesWorld_below w 5 t)
  go_wp2_with (fail)
  go_ret
  exact ⟨rfl, HB.out⟩
end Go.Proofs.YtmlikkjahkdilaaGreatDoor

namespace Go.Proofs.YtmlikkjahkdilaaGreatDoor
open Go.RowKit Go.Sort Go.Shelf
theorem set_back {w : World} {a : Addr} {v : Value} (h : w.cell? a = some v) : w.setCell a v = w := by
  have hh : (w.setCell a v).heap = w.heap := by
    apply Array.ext_getElem?
    intro k
    simp only [World.setCell, Array.getElem?_modify]
    by_cases hk : a.block = k
    · subst hk
      rw [if_pos rfl]
      unfold World.cell? at h
      split at h
      · next c e fr hg =>
        rw [hg]
        split at h
        · cases h
        · next hs =>
          simp only [Option.map_some, if_neg hs]
          have : c.setIfInBounds a.off v = c := by
            apply Array.ext_getElem?
            intro j
            rw [Array.getElem?_setIfInBounds]
            split
            · next e => subst e; rw [h]; have := (Array.getElem?_eq_some_iff.1 h).1; simp [this]
            · rfl
          rw [this]
      · cases h
    · rw [if_neg hk]
  cases w
  simp only [World.setCell, World.mk.injEq] at hh ⊢
  exact ⟨hh, trivial, trivial, trivial, trivial⟩
abbrev SB (wc : World) (P0 P1 P2 : Value) (g : Nat) (w' : World) : Prop := Hid (Below wc.heap.size wc w') ∧ w'.cell? ⟨g, 0, none⟩ = some P0 ∧ w'.cell? ⟨g, 1, none⟩ = some P1 ∧ w'.cell? ⟨g, 2, none⟩ = some P2
theorem sb_of {wc w w' : World} {P0 P1 P2 : Value} {g : Nat} (hg : g < wc.heap.size) (h : SB wc P0 P1 P2 g w) (hb : Below w.heap.size w w') : SB wc P0 P1 P2 g w' := by
  obtain ⟨h1, h2, h3, h4⟩ := h
  have hl : g < w.heap.size := Nat.lt_of_lt_of_le hg h1.out.size
  exact ⟨Lib.hid (h1.out.trans (hb.mono h1.out.size)), (hb.cell (p := ⟨g, 0, none⟩) hl).trans h2, (hb.cell (p := ⟨g, 1, none⟩) hl).trans h3, (hb.cell (p := ⟨g, 2, none⟩) hl).trans h4⟩
/-- an empty block of three numbers -/
abbrev BX (w : World) (n : Nat) : Prop := w.cell? ⟨n, 0, none⟩ = some (.int .i64 0) ∧ w.cell? ⟨n, 1, none⟩ = some (.int .i64 0) ∧ w.cell? ⟨n, 2, none⟩ = some (.int .i64 0) ∧ w.frozen? ⟨n, 0, none⟩ = false ∧ w.frozen? ⟨n, 1, none⟩ = false ∧ w.frozen? ⟨n, 2, none⟩ = false
theorem bx_again {w w' : World} {n : Nat} (h : Hid (BX w n)) (hb : Below w.heap.size w w') : BX w' n ∧ Hid (BX w' n) := by
  obtain ⟨h0, h1, h2, h3, h4, h5⟩ := h.out
  have hl : n < w.heap.size := by
    rcases Nat.lt_or_ge n w.heap.size with hl | hl
    · exact hl
    · simp [World.cell?, Array.getElem?_eq_none hl] at h0
  have hx : BX w' n := ⟨(hb.cell (p := ⟨n, 0, none⟩) hl).trans h0, (hb.cell (p := ⟨n, 1, none⟩) hl).trans h1, (hb.cell (p := ⟨n, 2, none⟩) hl).trans h2, (hb.frozen (p := ⟨n, 0, none⟩) hl).trans h3, (hb.frozen (p := ⟨n, 1, none⟩) hl).trans h4, (hb.frozen (p := ⟨n, 2, none⟩) hl).trans h5⟩
  exact ⟨hx, Lib.hid hx⟩
theorem bx_new {w w' : World} (hb : Below (w.alloc (.cells #[.int .i64 0, .int .i64 0, .int .i64 0] 23)).heap.size (w.alloc (.cells #[.int .i64 0, .int .i64 0, .int .i64 0] 23)) w') : BX w' w.heap.size ∧ Hid (BX w' w.heap.size) :=
  bx_again (Lib.hid ⟨by simp, by simp, by simp, by simp [World.frozen?_alloc_at], by simp [World.frozen?_alloc_at], by simp [World.frozen?_alloc_at]⟩) hb
theorem bx_newd {w w' : World} (hb : Below ((w.alloc (.cells #[.int .i64 0, .int .i64 0, .int .i64 0] 23)).drew).heap.size ((w.alloc (.cells #[.int .i64 0, .int .i64 0, .int .i64 0] 23)).drew) w') : BX w' w.heap.size ∧ Hid (BX w' w.heap.size) := bx_new (w := w) (w' := w') ⟨hb.os, hb.tape, hb.output, hb.size, hb.block⟩
theorem sb_set {wc w w5 : World} {P0 P1 P2 : Value} {g : Nat} (hg : g < wc.heap.size) (h : SB wc P0 P1 P2 g w) (h5 : SB wc P0 P1 P2 g w5) (u v x : Value) : SB wc P0 P1 P2 g (((w.setCell ⟨w5.heap.size, 0, none⟩ u).setCell ⟨w5.heap.size, 1, none⟩ v).setCell ⟨w5.heap.size, 2, none⟩ x) := by
  obtain ⟨h1, h2, h3, h4⟩ := h
  have hl := h5.1.out.size
  have hne : ¬ w5.heap.size = g := by omega
  have hne2 : ¬ g = w5.heap.size := by omega
  refine ⟨Lib.hid (((h1.out.setCell (p := ⟨w5.heap.size, 0, none⟩) hl u).setCell (p := ⟨w5.heap.size, 1, none⟩) hl v).setCell (p := ⟨w5.heap.size, 2, none⟩) hl x), ?_, ?_, ?_⟩
  · rw [World.cell?_setCell_other _ _ _ _ (by simp [hne, hne2]), World.cell?_setCell_other _ _ _ _ (by simp [hne, hne2]), World.cell?_setCell_other _ _ _ _ (by simp [hne, hne2])]; exact h2
  · rw [World.cell?_setCell_other _ _ _ _ (by simp [hne, hne2]), World.cell?_setCell_other _ _ _ _ (by simp [hne, hne2]), World.cell?_setCell_other _ _ _ _ (by simp [hne, hne2])]; exact h3
  · rw [World.cell?_setCell_other _ _ _ _ (by simp [hne, hne2]), World.cell?_setCell_other _ _ _ _ (by simp [hne, hne2]), World.cell?_setCell_other _ _ _ _ (by simp [hne, hne2])]; exact h4
theorem cell_of_three {w : World} {n : Nat} {u0 u1 u2 : Value} (h0 : w.cell? ⟨n, 0, none⟩ = some u0) (h1 : w.cell? ⟨n, 1, none⟩ = some u1) (h2 : w.cell? ⟨n, 2, none⟩ = some u2) (a b c : Value) : (((w.setCell ⟨n, 0, none⟩ a).setCell ⟨n, 1, none⟩ b).setCell ⟨n, 2, none⟩ c).cell? ⟨n, 0, none⟩ = some a ∧ (((w.setCell ⟨n, 0, none⟩ a).setCell ⟨n, 1, none⟩ b).setCell ⟨n, 2, none⟩ c).cell? ⟨n, 1, none⟩ = some b ∧ (((w.setCell ⟨n, 0, none⟩ a).setCell ⟨n, 1, none⟩ b).setCell ⟨n, 2, none⟩ c).cell? ⟨n, 2, none⟩ = some c := by
  have s1 : (w.setCell ⟨n, 0, none⟩ a).cell? ⟨n, 1, none⟩ = some u1 := by rw [World.cell?_setCell_other _ _ _ _ (by simp)]; exact h1
  have s2 : ((w.setCell ⟨n, 0, none⟩ a).setCell ⟨n, 1, none⟩ b).cell? ⟨n, 2, none⟩ = some u2 := by rw [World.cell?_setCell_other _ _ _ _ (by simp), World.cell?_setCell_other _ _ _ _ (by simp)]; exact h2
  refine ⟨?_, ?_, ?_⟩
  · rw [World.cell?_setCell_other _ _ _ _ (by simp), World.cell?_setCell_other _ _ _ _ (by simp)]
    exact World.cell?_setCell_same _ _ a h0
  · rw [World.cell?_setCell_other _ _ _ _ (by simp)]
    exact World.cell?_setCell_same _ _ b s1
  · exact World.cell?_setCell_same _ _ c s2
/-- a block of three numbers, new since w2 -/
def BV (w2 wx : World) (a b c : Value) (n : Nat) : Prop := Below w2.heap.size w2 wx ∧ w2.heap.size ≤ n ∧ n < wx.heap.size ∧ wx.cell? ⟨n, 0, none⟩ = some a ∧ wx.cell? ⟨n, 1, none⟩ = some b ∧ wx.cell? ⟨n, 2, none⟩ = some c
theorem bv_new {w2 w : World} {P0 P1 P2 : Value} {g : Nat} (h : SB w2 P0 P1 P2 g w) (a b c : Value) : BV w2 (w.alloc (.cells #[a, b, c] 23)) a b c w.heap.size :=
  ⟨h.1.out.alloc h.1.out.size _, h.1.out.size, by simp, by simp, by simp, by simp⟩
theorem bv_set {w2 w w5 : World} {P0 P1 P2 : Value} {g : Nat} (h : SB w2 P0 P1 P2 g w) (h5 : SB w2 P0 P1 P2 g w5) (hb : Hid (BX w w5.heap.size)) (a b c : Value) : BV w2 (((w.setCell ⟨w5.heap.size, 0, none⟩ a).setCell ⟨w5.heap.size, 1, none⟩ b).setCell ⟨w5.heap.size, 2, none⟩ c) a b c w5.heap.size := by
  have hl := h5.1.out.size
  obtain ⟨h0, h1, h2, _⟩ := hb.out
  obtain ⟨n, hn⟩ : ∃ n, n = w5.heap.size := ⟨_, rfl⟩
  rw [← hn] at hl h0 h1 h2 ⊢
  have hlt : n < w.heap.size := by
    rcases Nat.lt_or_ge n w.heap.size with hl | hl
    · exact hl
    · simp [World.cell?, Array.getElem?_eq_none hl] at h0
  have s1 : (w.setCell ⟨n, 0, none⟩ a).cell? ⟨n, 1, none⟩ = some (.int .i64 0) := by rw [World.cell?_setCell_other _ _ _ _ (by simp)]; exact h1
  have s2 : ((w.setCell ⟨n, 0, none⟩ a).setCell ⟨n, 1, none⟩ b).cell? ⟨n, 2, none⟩ = some (.int .i64 0) := by rw [World.cell?_setCell_other _ _ _ _ (by simp), World.cell?_setCell_other _ _ _ _ (by simp)]; exact h2
  refine ⟨((h.1.out.setCell (p := ⟨n, 0, none⟩) hl a).setCell (p := ⟨n, 1, none⟩) hl b).setCell (p := ⟨n, 2, none⟩) hl c, hl, by simpa [World.setCell] using hlt, ?_, ?_, ?_⟩
  · rw [World.cell?_setCell_other _ _ _ _ (by simp), World.cell?_setCell_other _ _ _ _ (by simp)]
    exact World.cell?_setCell_same _ _ a h0
  · rw [World.cell?_setCell_other _ _ _ _ (by simp)]
    exact World.cell?_setCell_same _ _ b s1
  · exact World.cell?_setCell_same _ _ c s2
set_option maxRecDepth 100000 in
set_option maxHeartbeats 4000000 in
theorem block_new (w : World) :
    Calls Tryz.prog 18 #[.string ⟨#[110, 101, 119]⟩] w fun e w' => e = .returned (.tuple #[.agg #[.int .i64 0, .int .i64 0, .int .i64 0], .bool false]) ∧ Below w.heap.size w w' := by
  have hc := fun w => Tryz.strings_CutPrefix ⟨#[110, 101, 119]⟩ blkP w
  rw [show Lib.hasPrefix (⟨#[110, 101, 119]⟩ : ByteArray).data.toList blkP.data.toList = false by rfl] at hc
  generalize (⟨(Lib.trimPrefix (⟨#[110, 101, 119]⟩ : ByteArray).data.toList blkP.data.toList).toArray⟩ : ByteArray) = zz at hc
  have HC := Lib.hid hc
  clear hc
  obtain ⟨wa, hwa⟩ : ∃ wa, wa = w.alloc (.cells #[.int .i64 0, .int .i64 0, .int .i64 0] 23) := ⟨_, rfl⟩
  obtain ⟨q, hq⟩ : ∃ q, q = w.heap.size := ⟨_, rfl⟩
  have hB : Below w.heap.size w wa := by rw [hwa]; exact (Below.refl _ _).alloc (Nat.le_refl _) _
  have hx : wa.heap[q]? = some (.cells #[.int .i64 0, .int .i64 0, .int .i64 0] 23 (0, 0)) := by rw [hwa, hq]; exact heap_alloc_new w _
  have l0 : wa.cell? ⟨q, 0, none⟩ = some (.int .i64 0) := by simp [World.cell?, hx]
  have l1 : wa.cell? ⟨q, 1, none⟩ = some (.int .i64 0) := by simp [World.cell?, hx]
  have l2 : wa.cell? ⟨q, 2, none⟩ = some (.int .i64 0) := by simp [World.cell?, hx]
  have g0 : wa.frozen? ⟨q, 0, none⟩ = false := by simp [World.frozen?, hx]
  have g1 : wa.frozen? ⟨q, 1, none⟩ = false := by simp [World.frozen?, hx]
  have g2 : wa.frozen? ⟨q, 2, none⟩ = false := by simp [World.frozen?, hx]
  have HL := Lib.hid (And.intro l0 (And.intro l1 l2))
  have HB := Lib.hid hB
  clear hx l0 l1 l2 hB
  go_enter Tryz.func18, Tryz.ntmps18
  go_wp2_with (fail)
  rw [← hwa, ← hq]
  clear hwa hq
  refine (HC.out _).mono ?_
  rintro e w1 ⟨rfl, rfl⟩
  obtain ⟨l0, l1, l2⟩ := HL.out
  go_wp2_with (fail)
  have e9 : ((w1.setCell ⟨q, 0, none⟩ (.int .i64 0)).setCell ⟨q, 1, none⟩ (.int .i64 0)).setCell ⟨q, 2, none⟩ (.int .i64 0) = w1 := by rw [set_back l0, set_back l1, set_back l2]
  rw [e9]
  refine bodyPost_ret (v := .tuple #[.agg #[.int .i64 0, .int .i64 0, .int .i64 0], .bool false]) ?_ rfl ⟨rfl, HB.out⟩
  simp [results, Tryz.results18, go_sem, l0, l1, l2]
set_option maxRecDepth 100000 in
set_option maxHeartbeats 4000000 in
theorem block_of (x : Blk) (hx : okB x) (w : World) (hp : Pw w) :
    Calls Tryz.prog 18 #[.string x.nm] w fun e w' => e = .returned (.tuple #[x.v, .bool true]) ∧ Below w.heap.size w w' := by
  obtain ⟨a, b, c⟩ := x
  have hx2 := hx
  obtain ⟨ha, hb, hc⟩ := hx2
  simp only at ha hb hc
  show Calls Tryz.prog 18 #[.string (blkS a b c)] w fun e w' => e = .returned (.tuple #[.agg #[.int .i64 a, .int .i64 b, .int .i64 c], .bool true]) ∧ Below w.heap.size w w'
  have hcp := fun w => Tryz.strings_CutPrefix (blkS a b c) blkP w
  rw [blk_list, prefix_app, trim_app, show (⟨(Lib.decDigits a ++ 45 :: (Lib.decDigits b ++ 45 :: Lib.decDigits c)).toArray⟩ : ByteArray) = tlS a b c from rfl] at hcp
  have HC := Lib.hid hcp
  clear hcp
  obtain ⟨wa, hwa⟩ : ∃ wa, wa = w.alloc (.cells #[.int .i64 0, .int .i64 0, .int .i64 0] 23) := ⟨_, rfl⟩
  obtain ⟨q, hq⟩ : ∃ q, q = w.heap.size := ⟨_, rfl⟩
  have hB : Below w.heap.size w wa := by rw [hwa]; exact (Below.refl _ _).alloc (Nat.le_refl _) _
  have hq0 : wa.heap[q]? = some (.cells #[.int .i64 0, .int .i64 0, .int .i64 0] 23 (0, 0)) := by rw [hwa, hq]; exact heap_alloc_new w _
  have HB := Lib.hid (And.intro hB hq0)
  have HQ := Lib.hid hq
  have HP := Lib.hid hp
  have HO := Lib.hid (And.intro hx (And.intro ha (And.intro hb hc)))
  clear hq0 hB hp hx ha hb hc
  go_enter Tryz.func18, Tryz.ntmps18
  go_wp2_with (fail)
  rw [← hwa, ← hq]
  clear hwa hq
  refine (HC.out _).mono ?_
  rintro e w1 ⟨rfl, rfl⟩
  clear HC
  go_wp2_with (fail)
  refine (split_dg HO.out.2.1 HO.out.2.2.1 HO.out.2.2.2 _).mono ?_
  rintro e w2 ⟨rfl, hw2⟩
  obtain ⟨g, hg⟩ : ∃ g, g = w1.heap.size := ⟨_, rfl⟩
  rw [← hg]
  have hg2 : w2.heap[g]? = some (.cells #[.string (dgS a), .string (dgS b), .string (dgS c)] 9 (0, 0)) := by rw [← hw2, hg]; exact heap_alloc_new w1 _
  have hgl := (Array.getElem?_eq_some_iff.1 hg2).1
  have hB2 : Below w1.heap.size w1 w2 := by rw [← hw2]; exact (Below.refl _ _).alloc (Nat.le_refl _) _
  have c0 : w2.cell? ⟨g, 0, none⟩ = some (.string (dgS a)) := by simp [World.cell?, hg2]
  have c1 : w2.cell? ⟨g, 1, none⟩ = some (.string (dgS b)) := by simp [World.cell?, hg2]
  have c2 : w2.cell? ⟨g, 2, none⟩ = some (.string (dgS c)) := by simp [World.cell?, hg2]
  have hS0 : SB w2 (.string (dgS a)) (.string (dgS b)) (.string (dgS c)) g w2.drew := ⟨Lib.hid (Below.refl _ _).drew, c0, c1, c2⟩
  have hS00 : SB w2 (.string (dgS a)) (.string (dgS b)) (.string (dgS c)) g w2 := ⟨Lib.hid (Below.refl _ _), c0, c1, c2⟩
  clear c0 c1 c2
  have hq2 := (hB2.block q (Array.getElem?_eq_some_iff.1 HB.out.2).1).trans HB.out.2
  have H2 := Lib.hid (And.intro hgl (And.intro hq2 (HB.out.1.trans (hB2.mono HB.out.1.size))))
  clear hg2 hw2 hB2 hq2 HB hg
  go_wp2_with (fail)
  obtain ⟨A, hA⟩ : ∃ A, A = dgS a := ⟨_, rfl⟩
  obtain ⟨B, hBB⟩ : ∃ B, B = dgS b := ⟨_, rfl⟩
  obtain ⟨C, hCC⟩ : ∃ C, C = dgS c := ⟨_, rfl⟩
  have na := fun w => number_of a HO.out.2.1 w
  have nb := fun w => number_of b HO.out.2.2.1 w
  have nc := fun w => number_of c HO.out.2.2.2 w
  rw [← hA] at na hS0 hS00
  rw [← hBB] at nb hS0 hS00
  rw [← hCC] at nc hS0 hS00
  clear hA hBB hCC
  have NA := Lib.hid na
  have NB := Lib.hid nb
  have NC := Lib.hid nc
  have hgl := H2.out.1
  clear na nb nc
  have z0 : ∀ w : World, (w.alloc (.cells #[.int .i64 0, .int .i64 0, .int .i64 0] 23)).cell? ⟨w.heap.size, 0, none⟩ = some (.int .i64 0) := fun w => by simp
  have z1 : ∀ w : World, (w.alloc (.cells #[.int .i64 0, .int .i64 0, .int .i64 0] 23)).cell? ⟨w.heap.size, 1, none⟩ = some (.int .i64 0) := fun w => by simp
  have z2 : ∀ w : World, (w.alloc (.cells #[.int .i64 0, .int .i64 0, .int .i64 0] 23)).cell? ⟨w.heap.size, 2, none⟩ = some (.int .i64 0) := fun w => by simp
  have f0 : ∀ w : World, (w.alloc (.cells #[.int .i64 0, .int .i64 0, .int .i64 0] 23)).frozen? ⟨w.heap.size, 0, none⟩ = false := fun w => by simp [World.frozen?_alloc_at]
  have f1 : ∀ w : World, (w.alloc (.cells #[.int .i64 0, .int .i64 0, .int .i64 0] 23)).frozen? ⟨w.heap.size, 1, none⟩ = false := fun w => by simp [World.frozen?_alloc_at]
  have f2 : ∀ w : World, (w.alloc (.cells #[.int .i64 0, .int .i64 0, .int .i64 0] 23)).frozen? ⟨w.heap.size, 2, none⟩ = false := fun w => by simp [World.frozen?_alloc_at]
  go_cut [7] (fun s7 wx => ∃ n : Nat, s7 = .pointer (some ⟨n, 0, none⟩) ∧ Hid (BV w2 wx (.int .i64 a) (.int .i64 b) (.int .i64 c) n))
  case first =>
   go_region_held3 (fun w' => SB w2 (.string A) (.string B) (.string C) g w') (first | assumption | exact sb_of hgl (by assumption) ((Below.refl _ _).alloc (Nat.le_refl _) _) | exact sb_set hgl (by assumption) (by assumption) _ _ _)
      (first
        | (go_at_call 42; with_reducible refine (NA.out _).mono ?_; rintro e w6 ⟨rfl, hb6⟩; have hS6 := sb_of hgl (by assumption) hb6; (first | (have hbz := bx_newd hb6; obtain ⟨⟨y0, y1, y2, y3, y4, y5⟩, hbx⟩ := hbz) | (have hbz := bx_new hb6; obtain ⟨⟨y0, y1, y2, y3, y4, y5⟩, hbx⟩ := hbz) | (have hbz := bx_again hbx hb6; obtain ⟨⟨y0, y1, y2, y3, y4, y5⟩, hbx⟩ := hbz) | skip); clear hb6)
        | (go_at_call 42; with_reducible refine (NB.out _).mono ?_; rintro e w6 ⟨rfl, hb6⟩; have hS6 := sb_of hgl (by assumption) hb6; (first | (have hbz := bx_newd hb6; obtain ⟨⟨y0, y1, y2, y3, y4, y5⟩, hbx⟩ := hbz) | (have hbz := bx_new hb6; obtain ⟨⟨y0, y1, y2, y3, y4, y5⟩, hbx⟩ := hbz) | (have hbz := bx_again hbx hb6; obtain ⟨⟨y0, y1, y2, y3, y4, y5⟩, hbx⟩ := hbz) | skip); clear hb6)
        | (go_at_call 42; with_reducible refine (NC.out _).mono ?_; rintro e w6 ⟨rfl, hb6⟩; have hS6 := sb_of hgl (by assumption) hb6; (first | (have hbz := bx_newd hb6; obtain ⟨⟨y0, y1, y2, y3, y4, y5⟩, hbx⟩ := hbz) | (have hbz := bx_new hb6; obtain ⟨⟨y0, y1, y2, y3, y4, y5⟩, hbx⟩ := hbz) | (have hbz := bx_again hbx hb6; obtain ⟨⟨y0, y1, y2, y3, y4, y5⟩, hbx⟩ := hbz) | skip); clear hb6))
   all_goals first
     | (go_wp2; go_meet; exact ⟨_, rfl, Lib.hid (bv_new (by assumption) _ _ _)⟩)
     | (go_wp2; go_meet; exact ⟨_, rfl, Lib.hid (bv_set (by assumption) (by assumption) (by assumption) _ _ _)⟩)
  case rest =>
    obtain ⟨n, rfl, HN⟩ := hcut
    clear hS0 hS00 z0 z1 z2 f0 f1 f2 NA NB NC
    have hin := is_name (a : Int) b c wc
    rw [nmb_ok HO.out.2.1, nmb_ok HO.out.2.2.1, nmb_ok HO.out.2.2.2] at hin
    obtain ⟨hbw, hn1, hn2, l0, l1, l2⟩ := HN.out
    have HIN := Lib.hid hin
    clear hin hn1 hn2 hbw
    go_wp2_with (fail)
    refine HIN.out.mono ?_
    rintro e w4 ⟨rfl, hb4⟩
    have HB4 := Lib.hid hb4
    clear HIN hb4 l0 l1 l2
    obtain ⟨hbw, hn1, hn2, l0, l1, l2⟩ := HN.out
    have m0 := (HB4.out.cell (p := ⟨n, 0, none⟩) hn2).trans l0
    have m1 := (HB4.out.cell (p := ⟨n, 1, none⟩) hn2).trans l1
    have m2 := (HB4.out.cell (p := ⟨n, 2, none⟩) hn2).trans l2
    have hW4 : Below w.heap.size w w4 := H2.out.2.2.trans ((hbw.trans (HB4.out.mono hbw.size)).mono H2.out.2.2.size)
    have hfn := file_name ⟨a, b, c⟩ HO.out.1 w4 (HP.out.below hW4)
    have hfn2 : Calls Tryz.prog 30 #[.agg #[.int .i64 a, .int .i64 b, .int .i64 c]] w4 fun e w' => e = .returned (.string (blkS a b c)) ∧ Below w4.heap.size w4 w' := hfn
    have HFN := Lib.hid hfn2
    have H4 := Lib.hid (And.intro hW4 (And.intro hbw hn2))
    clear l0 l1 l2 hfn hfn2 hW4 hbw hn1 hn2
    go_wp2_with (fail)
    refine HFN.out.mono ?_
    rintro e w5 ⟨rfl, hb5⟩
    have hn4 : n < w4.heap.size := Nat.lt_of_lt_of_le H4.out.2.2 HB4.out.size
    have k0 := (hb5.cell (p := ⟨n, 0, none⟩) hn4).trans m0
    have k1 := (hb5.cell (p := ⟨n, 1, none⟩) hn4).trans m1
    have k2 := (hb5.cell (p := ⟨n, 2, none⟩) hn4).trans m2
    have hW5 : Below w.heap.size w w5 := H4.out.1.trans (hb5.mono H4.out.1.size)
    have hq5 : w5.heap[q]? = some (.cells #[.int .i64 0, .int .i64 0, .int .i64 0] 23 (0, 0)) := by
      have hq2 := H2.out.2.1
      have hql := (Array.getElem?_eq_some_iff.1 hq2).1
      have hqc := (H4.out.2.1.block q hql).trans hq2
      have hqcl := (Array.getElem?_eq_some_iff.1 hqc).1
      have hq4 := (HB4.out.block q hqcl).trans hqc
      exact (hb5.block q (Array.getElem?_eq_some_iff.1 hq4).1).trans hq4
    have x0 : w5.cell? ⟨q, 0, none⟩ = some (.int .i64 0) := by simp [World.cell?, hq5]
    have x1 : w5.cell? ⟨q, 1, none⟩ = some (.int .i64 0) := by simp [World.cell?, hq5]
    have x2 : w5.cell? ⟨q, 2, none⟩ = some (.int .i64 0) := by simp [World.cell?, hq5]
    have g0 : w5.frozen? ⟨q, 0, none⟩ = false := by simp [World.frozen?, hq5]
    have g1 : w5.frozen? ⟨q, 1, none⟩ = false := by simp [World.frozen?, hq5]
    have g2 : w5.frozen? ⟨q, 2, none⟩ = false := by simp [World.frozen?, hq5]
    have HW5 := Lib.hid hW5
    clear hb5 m0 m1 m2 hn4 hW5 hq5
    go_wp2_with (fail)
    have HV : Hid (BX w5 q) := Lib.hid ⟨x0, x1, x2, g0, g1, g2⟩
    have hqw := HQ.out
    have t0 := cell_of_three HV.out.1 HV.out.2.1 HV.out.2.2.1 (.int .i64 (a : Int)) (.int .i64 (b : Int)) (.int .i64 (c : Int))
    have hend : Below w.heap.size w (((w5.setCell ⟨q, 0, none⟩ (.int .i64 (a : Int))).setCell ⟨q, 1, none⟩ (.int .i64 (b : Int))).setCell ⟨q, 2, none⟩ (.int .i64 (c : Int))) := ((HW5.out.setCell (p := ⟨q, 0, none⟩) (by show w.heap.size ≤ q; omega) _).setCell (p := ⟨q, 1, none⟩) (by show w.heap.size ≤ q; omega) _).setCell (p := ⟨q, 2, none⟩) (by show w.heap.size ≤ q; omega) _
    refine bodyPost_ret (v := .tuple #[.agg #[.int .i64 a, .int .i64 b, .int .i64 c], .bool true]) ?_ rfl ⟨rfl, hend⟩
    obtain ⟨t0, t1, t2⟩ := t0
    clear x0 x1 x2 g0 g1 g2 k0 k1 k2 HV hend
    generalize ((w5.setCell ⟨q, 0, none⟩ (.int .i64 (a : Int))).setCell ⟨q, 1, none⟩ (.int .i64 (b : Int))).setCell ⟨q, 2, none⟩ (.int .i64 (c : Int)) = wz at t0 t1 t2 ⊢
    simp [results, Tryz.results18, go_sem, t0, t1, t2]
end Go.Proofs.YtmlikkjahkdilaaGreatDoor

