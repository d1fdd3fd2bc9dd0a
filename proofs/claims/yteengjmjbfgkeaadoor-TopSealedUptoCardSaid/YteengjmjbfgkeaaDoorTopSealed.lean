/- TopSealed is true for every list of texts whose values and letters are together at most 1048576, every place and every change: no change of up to four bytes in a row, anywhere in a stream of frames, lets a body be read that wasn't written there. No conditions beyond the card's own and that bound. -/
import Derived.Test.YteengjmjbfgkeaaDoorTexts
import Derived.Deep.DeepCutAuto

import Derived.Test.YteengjmjbfgkeaaDoorLawEnd

import Derived.Test.YteengjmjbfgkeaaDoorCrcLaid

namespace Go.Proofs.YteengjmjbfgkeaaDoor.fnTopSealed
open Go.ChangeShapes Go.WideShapes Go.ChangeAt Go.RowKit Go.WideMaps Go.WideElems
open Go.ChangeMaps (open_string)

theorem strV_q (l : List UInt8) : strV l = .string ⟨l.toArray⟩ := rfl
def Acc (bs : List (List UInt8)) (k : Nat) (S : ByteArray) : Prop := S.data.toList = stream (bs.take k)
theorem acc_size {bs : List (List UInt8)} {k : Nat} {S : ByteArray} (h : Acc bs k S) (ht : tot bs ≤ 1048576) : S.size ≤ 12582912 := by
  have h1 : S.data.toList.length = S.size := by simp
  rw [h] at h1
  have := stream_len (bs.take k)
  have := tot_take bs k
  omega
theorem acc_step {bs : List (List UInt8)} {k : Nat} {S q : ByteArray} (h : Acc bs k S) (hk : k < bs.length) (hq : q.data.toList = bs[k]) : Acc bs (k + 1) (S ++ ⟨(frameL q.data.toList).toArray⟩) := by
  unfold Acc at h ⊢
  rw [ByteArray.data_append, Array.toList_append, h, hq, List.take_succ_eq_append_getElem hk, stream_append]
  simp [stream]
theorem acc_done {bs : List (List UInt8)} {S : ByteArray} (h : Acc bs bs.length S) : S.data.toList = stream bs := by
  rw [h, List.take_length]
/-- a row of the call's own that holds texts -/
def TextRow (w : World) (B : Nat) (ao : Option Addr) (bs : List (List UInt8)) : Prop :=
  ∀ i, (h : i < bs.length) → ∃ g, ao = some ⟨g, 0, none⟩ ∧ B ≤ g ∧ g < w.heap.size ∧ w.cell? ⟨g, i, none⟩ = some (strV bs[i])
theorem text_drewN {w : World} {B : Nat} {ao : Option Addr} {bs : List (List UInt8)} (h : TextRow w B ao bs) (n : Nat) : TextRow (w.drewN n) B ao bs := fun i hi => by
  obtain ⟨g, e, b1, b2, c⟩ := h i hi
  exact ⟨g, e, b1, b2, c⟩
theorem all_post {w w' : World} {l : List UInt8} {bs : List (List UInt8)} {n m : Nat} {er : Int} {e : Ending} (hal : allL l = (bs, n, er)) (hm : bs.length = m) (h : AllPost w l e w') :
    ∃ ao cp, e = .returned (.tuple #[.slice ao m cp, .int .i64 n, .int .i64 er]) ∧ TextRow w' w.heap.size ao bs ∧ Below w.heap.size w w' := by
  obtain ⟨v, he, ho, hb⟩ := h
  rw [hal] at he ho
  simp only at he ho
  rw [hm] at ho
  obtain ⟨hl, ho⟩ := ho
  rcases ho with ⟨rfl, h0⟩ | ⟨g, cap, cur, rfl, h2, h3, h4, h5, h6, h7⟩
  · subst h0
    exact ⟨none, 0, he, fun i hi => absurd hi (by omega), hb⟩
  · refine ⟨_, _, he, fun i hi => ⟨g, rfl, h2, ?_, ?_⟩, hb⟩
    · rcases Nat.lt_or_ge g w'.heap.size with hl | hl
      · exact hl
      · rw [Array.getElem?_eq_none hl] at h3; cases h3
    · have hi2 : i < cur.size := by omega
      have e1 : cur.toList[i]? = some (strV bs[i]) := by
        have : (cur.toList.take (m * 1))[i]? = some (strV bs[i]) := by rw [h7, List.getElem?_map, List.getElem?_eq_getElem hi]; rfl
        rw [List.getElem?_take] at this
        split at this
        · exact this
        · cases this
      simp only [World.cell?, h3]
      simpa using e1
theorem byte_of (c : BitVec 32) (d : Int) : ∃ x : UInt8, U c / d % 256 = (x.toNat : Int) :=
  ⟨UInt8.ofNat (U c / d % 256).toNat, by
    rw [UInt8.toNat_ofNat']
    have h0 := Int.emod_nonneg (U c / d) (by decide : (256 : Int) ≠ 0)
    have h1 := Int.emod_lt_of_pos (U c / d) (by decide : (0 : Int) < 256)
    omega⟩
theorem u8_xor_of (a b : UInt8) : bits BinOp.xor IntKind.u8 (a.toNat : Int) (b.toNat : Int) = ((a ^^^ b).toNat : Int) := by
  rw [u8_xor_nat _ _ a.toNat_lt b.toNat_lt, UInt8.toNat_xor]
/-- the first k of four places from a on may have turned; sb: one has -/
def SInv (l0 : List UInt8) (a k : Nat) (l : List UInt8) (sb : Bool) : Prop :=
  (l.length = l0.length ∧ ∀ i, i < a ∨ a + k ≤ i → l[i]? = l0[i]?) ∧ (sb = true ↔ l ≠ l0)
theorem sinv_start (l0 : List UInt8) (a : Nat) : Hid (SInv l0 a 0 l0 false) := ⟨⟨rfl, fun _ _ => rfl⟩, by simp⟩
theorem xor_ne {x y : UInt8} (hx : x ≠ 0) : y ^^^ x ≠ y := by
  intro e
  apply hx
  have := congrArg (y ^^^ ·) e
  simpa [← UInt8.xor_assoc] using this
theorem sinv_step {l0 l : List UInt8} {a k : Nat} {sb : Bool} (h : SInv l0 a k l sb) (hk : a + k < l.length) (x : UInt8) : SInv l0 a (k + 1) (l.set (a + k) (l[a + k] ^^^ x)) (sb || x != 0) := by
  obtain ⟨⟨hl, h1⟩, h2⟩ := h
  have hle : l[a + k]? = l0[a + k]? := h1 _ (.inr (Nat.le_refl _))
  refine ⟨⟨by simpa using hl, fun i hi => ?_⟩, ?_⟩
  · rw [List.getElem?_set_ne (by omega)]
    exact h1 i (by omega)
  · by_cases hx : x = 0
    · subst hx
      have e : l.set (a + k) (l[a + k] ^^^ 0) = l := by simp
      rw [e]
      simpa using h2
    · have hb : (x != 0) = true := by simpa using hx
      rw [hb, Bool.or_true]
      refine ⟨fun _ e => ?_, fun _ => rfl⟩
      have h3 := congrArg (fun m => m[a + k]?) e
      simp only [List.getElem?_set_self hk] at h3
      rw [← hle, List.getElem?_eq_getElem hk] at h3
      injection h3 with h3
      exact xor_ne hx h3
theorem sinv_end {l0 l : List UInt8} {a k : Nat} {sb : Bool} (h : SInv l0 a k l sb) (hk4 : k ≤ 4) (hk : k = 4 ∨ l0.length ≤ a + k) : Near4 l l0 a ∧ (sb = true ↔ l ≠ l0) := by
  obtain ⟨⟨hl, h1⟩, h2⟩ := h
  refine ⟨⟨hl, fun i hi => ?_⟩, h2⟩
  rcases hk with rfl | hk
  · exact h1 i hi
  · by_cases hi2 : i < a ∨ a + k ≤ i
    · exact h1 i hi2
    · rcases hi with hi | hi
      · exact absurd (.inl hi) hi2
      · by_cases hz : i < l0.length
        · omega
        · rw [List.getElem?_eq_none (by omega), List.getElem?_eq_none (by omega)]
/-- what is read of a stream that may have turned within four bytes -/
theorem read_turned {bs : List (List UInt8)} {l : List UInt8} {a : Nat} {sb : Bool} (hb : Small bs) (hn : Near4 l (stream bs) a) (hs : sb = true ↔ l ≠ stream bs) :
    ∃ m n er, allL l = (bs.take m, n, er) ∧ m ≤ bs.length ∧ ((sb = true ∧ m < bs.length ∧ er = 24) ∨ (sb = false ∧ m = bs.length ∧ er = 0)) := by
  cases sb
  · have : l = stream bs := by
      by_cases h : l = stream bs
      · exact h
      · exact absurd (hs.2 h) (by decide)
    subst this
    exact ⟨bs.length, _, 0, by rw [all_whole bs hb, List.take_length], Nat.le_refl _, .inr ⟨rfl, rfl, rfl⟩⟩
  · obtain ⟨k, hk, hal⟩ := all_changed bs hb l a hn (hs.1 rfl)
    exact ⟨k, _, 24, hal, by omega, .inl ⟨rfl, hk, rfl⟩⟩
set_option maxRecDepth 100000 in
set_option maxHeartbeats 4000000 in
theorem walk (A : Option Addr) (len cap : Nat) (bs : List (List UInt8)) (n : Int) (c : BitVec 32) (w : World) (hh : Half w) (hbl : bs.length = len) (hlc : len ≤ cap) (hT : Texts w w.heap.size A bs) (ht : tot bs ≤ 1048576)
    (hn : -9223372036854775808 ≤ n ∧ n ≤ 9223372036854775807) :
    Calls Tryd.prog 8 #[.slice A len cap, .int .i64 n, .int .u32 (U c)] w fun e w' => e = .returned (.bool true) ∧ Below w.heap.size w w' := by
  have hlen : len ≤ 1048576 := by have := len_le_tot bs; omega
  have HH := Lib.hid hh
  have HT := Lib.hid hT
  have HL := Lib.hid hbl
  have TT := Lib.hid ht
  clear hh hT hbl ht
  go_enter Tryd.func8, Tryd.ntmps8
  go_wp2
  go_loopw [7, 8] (fun sv i wr => ∃ (k : Nat) (S : ByteArray), k ≤ len ∧ i = .int .i64 k ∧ sv = .string S ∧ Hid (Acc bs k S) ∧ Hid (Below w.heap.size w wr)) (fun _ i _ => len - (intOf i).toNat)
  case atStart => exact ⟨0, _, Nat.zero_le _, rfl, rfl, rfl, Lib.hid (Below.refl _ _)⟩
  case round =>
    obtain ⟨k, S, hk, rfl, rfl, HS, HB⟩ := hrel
    have hSz := acc_size HS.out TT.out
    by_cases hlt : k < len
    · have hkb : k < bs.length := by rw [HL.out]; exact hlt
      obtain ⟨b, off, rfl, hB, hc⟩ := (HT.out.below HB.out) k hkb
      obtain ⟨q, hq⟩ : ∃ q : ByteArray, q = ⟨bs[k].toArray⟩ := ⟨_, rfl⟩
      have hql : q.data.toList = bs[k] := by rw [hq]
      rw [strV_q, ← hq] at hc
      have hqz : q.size ≤ 1048576 := by
        have h1 : q.data.toList.length = q.size := by simp
        rw [hql] at h1
        have := mem_le_tot (List.getElem_mem hkb)
        have := TT.out
        omega
      have HQ := Lib.hid hql
      have HKB := Lib.hid hkb
      clear hq hql
      by_cases hbig : (65536 : Int) < (q.size : Int)
      · go_wp2
        go_ret
        exact ⟨rfl, HB.out⟩
      · have hHw := Lib.hid (HH.out.below HB.out HH.out.lt)
        have hF := Lib.hid (frame_any q wr hHw.out hqz)
        go_wp2_with (fail)
        refine hF.out.mono ?_
        rintro e w1 ⟨rfl, hb⟩
        have HB1 := Lib.hid (HB.out.trans (hb.mono HB.out.size))
        obtain ⟨F, hF'⟩ : ∃ F : ByteArray, F = ⟨(frameL q.data.toList).toArray⟩ := ⟨_, rfl⟩
        rw [← hF']
        have hst := acc_step HS.out HKB.out HQ.out
        rw [← hF'] at hst
        have HST := Lib.hid hst
        have hz1 : (S ++ F).size ≤ 12582912 := acc_size hst TT.out
        have hz2 : S.size + F.size ≤ 12582912 := by rw [← ByteArray.size_append]; exact hz1
        clear hb hF' hst hF
        go_wp2
        go_roundw
        case rel => exact ⟨k + 1, S ++ F, by omega, by go_num, rfl, HST, HB1⟩
        case measure => simp [intOf]; omega
    · obtain rfl : k = len := by omega
      have hSs : S.data.toList = stream bs := by have := HS.out; rw [← HL.out] at this; exact acc_done this
      have hlS : (stream bs).length = S.size := by rw [← hSs]; simp
      have hal := all_whole bs (small_of TT.out)
      rw [hlS] at hal
      have hHw := HH.out.below HB.out HH.out.lt
      have hA := all_any S wr (by omega) hHw
      rw [hSs] at hA
      have HA := Lib.hid hA
      have HAL := Lib.hid hal
      have HSS := Lib.hid hSs
      have HHw := Lib.hid hHw
      clear hSs hlS hal hHw hA hlt hk
      go_wp2_with (fail)
      refine HA.out.mono ?_
      rintro e w1 hp
      obtain ⟨ao, cp, rfl, hrow, hb⟩ := all_post HAL.out HL.out hp
      have HB1 := Lib.hid (HB.out.trans (hb.mono HB.out.size))
      have hHw1 := Lib.hid (HH.out.below HB1.out HH.out.lt)
      clear hp hrow hb HA HB
      have tk : ((k : Int) != (k : Int)) = false := by simp
      have ts : ((S.size : Int) != (S.size : Int)) = false := by simp
      have hF := Lib.hid (frame_any ⟨#[97]⟩ w1 hHw1.out (by decide))
      obtain ⟨F, hF'⟩ : ∃ F : ByteArray, F = ⟨(frameL (⟨#[97]⟩ : ByteArray).data.toList).toArray⟩ := ⟨_, rfl⟩
      rw [← hF'] at hF
      have t1 : F.toList.isEmpty = false := by
        rw [ByteArray.toList_eq, hF']
        have h := frameL_length (⟨#[97]⟩ : ByteArray).data.toList
        cases hc : frameL (⟨#[97]⟩ : ByteArray).data.toList with
        | nil => rw [hc] at h; simp at h
        | cons x r => rfl
      clear hF'
      go_wp2_with (fail)
      refine hF.out.mono ?_
      rintro e w3 ⟨rfl, hb⟩
      have HB3 := Lib.hid (HB1.out.trans (hb.mono HB1.out.size))
      have hHw3 := Lib.hid (HH.out.below HB3.out HH.out.lt)
      clear hb hF HB1 hHw1 HHw
      by_cases h0 : n < 0
      · go_wp2
        go_ret
        exact ⟨rfl, HB3.out⟩
      by_cases h1 : (S.size : Int) ≤ n
      · go_wp2
        go_ret
        exact ⟨rfl, HB3.out⟩
      obtain ⟨a, rfl⟩ : ∃ a : Nat, n = a := ⟨n.toNat, by omega⟩
      have ha : a < S.size := by omega
      have hcv := fun (w : World) => run_bytes_of_string (P := Tryd.prog) w 9 33 5 S Tryd.underlying9 Tryd.underlying33 Tryd.underlying5
      have R0 := Lib.hid (Row8.of_string w3 S 5 (grownCap w3 S.size 0 5)).drew
      have B0 : Hid (Below w3.heap.size w3 (w3.alloc (.cells (bytesRow S (grownCap w3 S.size 0 5)) 5 ((bytesRow S (grownCap w3 S.size 0 5)).size, (bytesRow S (grownCap w3 S.size 0 5)).size + 1))).drew) := Lib.hid ((Below.refl _ _).alloc (Nat.le_refl _) _).drew
      go_wp2
      go_loopw [13, 14] (fun sn i wr => ∃ (j : Nat) (sb : Bool) (l : List UInt8), j ≤ 4 ∧ i = .int .i64 j ∧ sn = .bool sb ∧ Hid (SInv S.data.toList a j l sb) ∧ Hid (Row8 wr w3.heap.size l) ∧ Hid (Below w3.heap.size w3 wr)) (fun _ i _ => 4 - (intOf i).toNat)
      case atStart => exact ⟨0, false, S.data.toList, by omega, rfl, rfl, sinv_start _ _, R0, B0⟩
      case round =>
        obtain ⟨j, sb, l, hj, rfl, rfl, HI, HR, HBel⟩ := hrel
        clear R0 B0
        by_cases hin : j < 4 ∧ a + j < S.size
        · obtain ⟨hj4, hin⟩ := hin
          obtain rfl | rfl | rfl | rfl : j = 0 ∨ j = 1 ∨ j = 2 ∨ j = 3 := by omega
          · -- j = 0
            obtain ⟨x, hx⟩ := byte_of c 1
            rw [Int.ediv_one] at hx
            have hl : a + 0 < l.length := by rw [HI.out.1.1]; simpa using hin
            have hin2 : (0 : Int) < (S.size : Int) - (a : Int) := by omega
            have hc1 := HR.out.cell hl
            have hf1 := HR.out.frozen hl
            have hxo := u8_xor_of l[a + 0] x
            simp only [Nat.add_zero] at hc1 hf1 hxo
            have HN := Lib.hid (sinv_step HI.out hl x)
            have HR2 := Lib.hid (HR.out.set (a + 0) (l[a + 0] ^^^ x))
            have HB2 := Lib.hid (HBel.out.setCell (B := w3.heap.size) (p := ⟨w3.heap.size, a + 0, none⟩) (Nat.le_refl _) (.int .u8 ((l[a + 0] ^^^ x).toNat : Int)))
            cases sb
            · by_cases hx0 : x = 0
              · have t1 : ((x.toNat : Int) != 0) = false := by rw [hx0]; rfl
                have HS0 : Hid (SInv S.data.toList a 1 (l.set (a + 0) (l[a + 0] ^^^ x)) false) := by
                  have := HN.out; rw [hx0] at this ⊢; exact this
                clear hx0
                go_wp2
                go_roundw
                case rel => exact ⟨1, false, _, by omega, rfl, rfl, HS0, HR2, HB2⟩
                case measure => simp [intOf]
              · have t1 : ((x.toNat : Int) != 0) = true := by
                  have : ¬ (x.toNat : Int) = 0 := fun h => hx0 (UInt8.toNat_inj.1 (by simpa using h))
                  simpa using this
                have HS0 : Hid (SInv S.data.toList a 1 (l.set (a + 0) (l[a + 0] ^^^ x)) true) := by
                  have h1 := HN.out
                  have h2 : (x != 0) = true := by simpa using hx0
                  rw [h2] at h1
                  exact h1
                clear hx0
                go_wp2
                go_roundw
                case rel => exact ⟨1, true, _, by omega, rfl, rfl, HS0, HR2, HB2⟩
                case measure => simp [intOf]
            · go_wp2
              go_roundw
              case rel => exact ⟨1, true, _, by omega, rfl, rfl, HN, HR2, HB2⟩
              case measure => simp [intOf]
          · -- j = 1
            obtain ⟨x, hx⟩ := byte_of c 256
            have hl : a + 1 < l.length := by rw [HI.out.1.1]; simpa using hin
            have hin2 : (1 : Int) < (S.size : Int) - (a : Int) := by omega
            have hc1 := HR.out.cell hl
            have hf1 := HR.out.frozen hl
            have hxo := u8_xor_of l[a + 1] x
            have HN := Lib.hid (sinv_step HI.out hl x)
            have HR2 := Lib.hid (HR.out.set (a + 1) (l[a + 1] ^^^ x))
            have HB2 := Lib.hid (HBel.out.setCell (B := w3.heap.size) (p := ⟨w3.heap.size, a + 1, none⟩) (Nat.le_refl _) (.int .u8 ((l[a + 1] ^^^ x).toNat : Int)))
            cases sb
            · by_cases hx0 : x = 0
              · have t1 : ((x.toNat : Int) != 0) = false := by rw [hx0]; rfl
                have HS0 : Hid (SInv S.data.toList a 2 (l.set (a + 1) (l[a + 1] ^^^ x)) false) := by
                  have := HN.out; rw [hx0] at this ⊢; exact this
                clear hx0
                go_wp2
                go_roundw
                case rel => exact ⟨2, false, _, by omega, rfl, rfl, HS0, HR2, HB2⟩
                case measure => simp [intOf]
              · have t1 : ((x.toNat : Int) != 0) = true := by
                  have : ¬ (x.toNat : Int) = 0 := fun h => hx0 (UInt8.toNat_inj.1 (by simpa using h))
                  simpa using this
                have HS0 : Hid (SInv S.data.toList a 2 (l.set (a + 1) (l[a + 1] ^^^ x)) true) := by
                  have h1 := HN.out
                  have h2 : (x != 0) = true := by simpa using hx0
                  rw [h2] at h1
                  exact h1
                clear hx0
                go_wp2
                go_roundw
                case rel => exact ⟨2, true, _, by omega, rfl, rfl, HS0, HR2, HB2⟩
                case measure => simp [intOf]
            · go_wp2
              go_roundw
              case rel => exact ⟨2, true, _, by omega, rfl, rfl, HN, HR2, HB2⟩
              case measure => simp [intOf]
          · -- j = 2
            obtain ⟨x, hx⟩ := byte_of c 65536
            have hl : a + 2 < l.length := by rw [HI.out.1.1]; simpa using hin
            have hin2 : (2 : Int) < (S.size : Int) - (a : Int) := by omega
            have hc1 := HR.out.cell hl
            have hf1 := HR.out.frozen hl
            have hxo := u8_xor_of l[a + 2] x
            have HN := Lib.hid (sinv_step HI.out hl x)
            have HR2 := Lib.hid (HR.out.set (a + 2) (l[a + 2] ^^^ x))
            have HB2 := Lib.hid (HBel.out.setCell (B := w3.heap.size) (p := ⟨w3.heap.size, a + 2, none⟩) (Nat.le_refl _) (.int .u8 ((l[a + 2] ^^^ x).toNat : Int)))
            cases sb
            · by_cases hx0 : x = 0
              · have t1 : ((x.toNat : Int) != 0) = false := by rw [hx0]; rfl
                have HS0 : Hid (SInv S.data.toList a 3 (l.set (a + 2) (l[a + 2] ^^^ x)) false) := by
                  have := HN.out; rw [hx0] at this ⊢; exact this
                clear hx0
                go_wp2
                go_roundw
                case rel => exact ⟨3, false, _, by omega, rfl, rfl, HS0, HR2, HB2⟩
                case measure => simp [intOf]
              · have t1 : ((x.toNat : Int) != 0) = true := by
                  have : ¬ (x.toNat : Int) = 0 := fun h => hx0 (UInt8.toNat_inj.1 (by simpa using h))
                  simpa using this
                have HS0 : Hid (SInv S.data.toList a 3 (l.set (a + 2) (l[a + 2] ^^^ x)) true) := by
                  have h1 := HN.out
                  have h2 : (x != 0) = true := by simpa using hx0
                  rw [h2] at h1
                  exact h1
                clear hx0
                go_wp2
                go_roundw
                case rel => exact ⟨3, true, _, by omega, rfl, rfl, HS0, HR2, HB2⟩
                case measure => simp [intOf]
            · go_wp2
              go_roundw
              case rel => exact ⟨3, true, _, by omega, rfl, rfl, HN, HR2, HB2⟩
              case measure => simp [intOf]
          · -- j = 3
            obtain ⟨x, hx⟩ := byte_of c 16777216
            have hl : a + 3 < l.length := by rw [HI.out.1.1]; simpa using hin
            have hin2 : (3 : Int) < (S.size : Int) - (a : Int) := by omega
            have hc1 := HR.out.cell hl
            have hf1 := HR.out.frozen hl
            have hxo := u8_xor_of l[a + 3] x
            have HN := Lib.hid (sinv_step HI.out hl x)
            have HR2 := Lib.hid (HR.out.set (a + 3) (l[a + 3] ^^^ x))
            have HB2 := Lib.hid (HBel.out.setCell (B := w3.heap.size) (p := ⟨w3.heap.size, a + 3, none⟩) (Nat.le_refl _) (.int .u8 ((l[a + 3] ^^^ x).toNat : Int)))
            cases sb
            · by_cases hx0 : x = 0
              · have t1 : ((x.toNat : Int) != 0) = false := by rw [hx0]; rfl
                have HS0 : Hid (SInv S.data.toList a 4 (l.set (a + 3) (l[a + 3] ^^^ x)) false) := by
                  have := HN.out; rw [hx0] at this ⊢; exact this
                clear hx0
                go_wp2
                go_roundw
                case rel => exact ⟨4, false, _, by omega, rfl, rfl, HS0, HR2, HB2⟩
                case measure => simp [intOf]
              · have t1 : ((x.toNat : Int) != 0) = true := by
                  have : ¬ (x.toNat : Int) = 0 := fun h => hx0 (UInt8.toNat_inj.1 (by simpa using h))
                  simpa using this
                have HS0 : Hid (SInv S.data.toList a 4 (l.set (a + 3) (l[a + 3] ^^^ x)) true) := by
                  have h1 := HN.out
                  have h2 : (x != 0) = true := by simpa using hx0
                  rw [h2] at h1
                  exact h1
                clear hx0
                go_wp2
                go_roundw
                case rel => exact ⟨4, true, _, by omega, rfl, rfl, HS0, HR2, HB2⟩
                case measure => simp [intOf]
            · go_wp2
              go_roundw
              case rel => exact ⟨4, true, _, by omega, rfl, rfl, HN, HR2, HB2⟩
              case measure => simp [intOf]
        · have hN := sinv_end HI.out hj (by rcases Nat.lt_or_ge j 4 with h | h; exact .inr (by simp; omega); exact .inl (by omega))
          obtain ⟨hnear, hiff⟩ := hN
          rw [HSS.out] at hnear hiff
          obtain ⟨m, nn, er, hal, hm, hcs⟩ := read_turned (small_of TT.out) hnear hiff
          rw [HL.out] at hm hcs
          have hmt : (bs.take m).length = m := by rw [List.length_take, HL.out]; omega
          have hlen2 : S.size = l.length := by rw [HI.out.1.1]; simp
          have hbk := HR.out.back (P := Tryd.prog) 33 9 5 (grownCap w3 S.size 0 5) Tryd.underlying33 Tryd.underlying5 Tryd.underlying9
          rw [← hlen2] at hbk
          have hBr := HB3.out.trans (HBel.out.mono HB3.out.size)
          have hw := HH.out.below hBr HH.out.lt
          have hA := all_any ⟨l.toArray⟩ wr (by show l.toArray.size ≤ _; simp; omega) hw
          have hlt : (⟨l.toArray⟩ : ByteArray).data.toList = l := by simp
          rw [hlt] at hA
          obtain ⟨t, htt⟩ : ∃ t : ByteArray, t = ⟨l.toArray⟩ := ⟨_, rfl⟩
          rw [← htt] at hA hbk
          have hin' : j < 4 → ((S.size : Int) - (a : Int)) ≤ (j : Int) := fun h => by omega
          have HA := Lib.hid hA
          have HAL2 := Lib.hid hal
          have HMT := Lib.hid hmt
          have HBr := Lib.hid hBr
          have HC := Lib.hid hcs
          clear hnear hiff hal hmt hlen2 hBr hw hA hlt htt hcs hin
          have hjj : j = 4 ∨ (j < 4 ∧ (S.size : Int) - (a : Int) ≤ (j : Int)) := by rcases Nat.lt_or_ge j 4 with h | h; exact .inr ⟨h, hin' h⟩; exact .inl (by omega)
          clear hin'
          rcases hjj with rfl | ⟨hj4, hjs⟩
          all_goals
            go_wp2_with (fail)
            refine HA.out.mono ?_
            rintro e w4 hp
            obtain ⟨ao2, cp2, rfl, hrow2, hb⟩ := all_post HAL2.out HMT.out hp
            have HBf := Lib.hid (HBr.out.trans (hb.mono HBr.out.size))
            have HR4 := Lib.hid hrow2
            clear hp hrow2 hb HA HBr
            go_wp2
            go_loopw [16] (fun i wq => ∃ p : Nat, p ≤ m ∧ i = .int .i64 p ∧ Hid (Below w.heap.size w wq ∧ TextRow wq wr.heap.size ao2 (bs.take m))) (fun i _ => m - (intOf i).toNat)
            case atStart => exact ⟨0, Nat.zero_le _, rfl, Lib.hid ⟨HBf.out, HR4.out⟩⟩
            case round =>
              obtain ⟨p, hp, rfl, HI3⟩ := hrel
              by_cases hlt3 : p < m
              · have hpk : p < k := by omega
                have hpb : p < bs.length := by rw [HL.out]; exact hpk
                obtain ⟨g, rfl, _, _, g1⟩ := HI3.out.2 p (by rw [HMT.out]; exact hlt3)
                obtain ⟨b, off, rfl, _, g2⟩ := (HT.out.below HI3.out.1) p hpb
                rw [List.getElem_take, strV_q] at g1
                rw [strV_q] at g2
                obtain ⟨q, hq⟩ : ∃ q : ByteArray, q = ⟨bs[p].toArray⟩ := ⟨_, rfl⟩
                rw [← hq] at g1 g2
                clear hq hpb
                have d1 : decide ((k : Int) ≤ (p : Int)) = false := by simp; omega
                go_wp2_with (fail)
                go_quiet (fail)
                go_wp2
                go_roundw
                case rel => exact ⟨p + 1, by omega, by go_num, Lib.hid ⟨below_drewN HI3.out.1 _, text_drewN HI3.out.2 _⟩⟩
                case measure => simp [intOf]; omega
              · obtain rfl : p = m := by omega
                rcases HC.out with ⟨rfl, h, rfl⟩ | ⟨rfl, h, rfl⟩
                · have tm : (p : Int) < (k : Int) := by omega
                  go_wp2
                  go_ret
                  exact ⟨rfl, HI3.out.1⟩
                · subst h
                  go_wp2
                  go_ret
                  exact ⟨rfl, HI3.out.1⟩

theorem contractUpto (H : Type) (enc : TypeId × Value → H) (W : World) (base : Nat) (args : Array Value) (ds gs : List (DataW H)) (before : List MemPlace)
    (hval : ∀ (j : Nat) t v, Tryd.f8.params[j]? = some t → args[j]? = some v → Value.okWide Tryd.prog W .any base t v)
    (hW : DataW.Whole enc Tryd.prog Tryd.f8.params.toList Rows.topSealedSpec.vars false W args.toList ds gs before) (hL : laidMetH Tryd.prog Rows.topSealedRow.laid W)
    (hz : (DataW.weightsEach Tryd.prog (Tryd.f8.params.toList ++ []) (ds ++ gs)).all (· ≤ reachBytes) = true) (hk : Rows.uptoSmall H (ds ++ gs) = true) :
    Calls Tryd.prog 8 args W fun e W' => ∃ v, e = .returned v ∧ Rows.topSealedSpec.post enc Tryd.prog Tryd.f8 false true false false W args v W' := by
  have hW' := hW
  obtain ⟨p, q, hA0, hV, rfl, hfz, hnd⟩ := hW
  have hA : DataW.TrodAll enc Tryd.prog W 0 (fun _ => true) true Tryd.f8.params.toList args.toList ds p := hA0
  rw [Tryd.params8] at hA hval hz
  obtain ⟨v0, vs0, d0, ds0, p0, q0, hargs, rfl, rfl, h0, r0⟩ := trodAll_cons hA
  obtain ⟨v1, vs1, d1, ds1, p1, q1, rfl, rfl, rfl, h1, r1⟩ := trodAll_cons r0
  obtain ⟨v2, vs2, d2, ds2, p2, q2, rfl, rfl, rfl, h2, r2⟩ := trodAll_cons r1
  obtain ⟨rfl, rfl, rfl⟩ := trodAll_nil r2
  obtain rfl : args = #[v0, v1, v2] := by cases args; simp_all
  obtain ⟨rfl, rfl⟩ := trodVars_none hV
  have hk0 : Rows.uptoBulk d0 ≤ 1048576 := by have h := of_decide_eq_true hk; simp only [List.append_nil, List.cons_append, List.nil_append, Rows.uptoBulkAll] at h; omega
  obtain ⟨A, len, cap, bs, rfl, hbl, hlc, hT, htot⟩ := open_texts (hval 0 41 v0 rfl rfl) h0 hk0
  obtain ⟨x1, rfl, rfl, rfl, w1⟩ := open_int Tryd.underlying3 (hval 1 3 v1 rfl rfl) h1
  have b1 := i64_of_wf w1
  obtain ⟨y2, rfl, rfl, rfl, w2⟩ := open_int Tryd.underlying22 (hval 2 22 v2 rfl rfl) h2
  obtain ⟨x2, rfl⟩ := U_of_wf w2
  clear hA0
  refine (walk A len cap bs x1 x2 W (half_of hL) hbl hlc hT htot b1).mono fun e W' ⟨he, hb⟩ => ?_
  subst he
  exact ⟨_, rfl, law_end hW' rfl rfl hb laidOut (by kernel_rfl) (by kernel_rfl) Tryd.underlying4⟩

theorem reads (os : Os) {H : Type} (enc : TypeId × Value → H) : ∃ places, DataW.whole enc Tryd.prog ((laidWorld os).forCall (fun _ _ => 0) ⟨#[], #[.slice none 0 0, .int .i64 0, .int .u32 0], []⟩).memory Tryd.f8.params.toList Rows.topSealedSpec.vars false [Value.slice none 0 0, Value.int .i64 0, Value.int .u32 0] 8 = some ([.nil, .lit (.int .i64 0), .lit (.int .u32 0)], [], places) :=
  ⟨[], by kernel_rfl⟩

set_option maxRecDepth 100000 in
theorem lifted (os : Os) (started : os.Started) (H : Type) (enc : TypeId × Value → H) (F : Stop.Interp) :
    ReturnsInHanded {} Tryd.checked os 8 .any ((Rows.OpenSpec.upto Rows.topSealedSpec).preRow enc Tryd.prog Tryd.f8 Rows.topSealedUptoRow.domain false Rows.topSealedUptoRow.laid) (((Rows.OpenSpec.upto Rows.topSealedSpec).at F).post enc Tryd.prog Tryd.f8 false true false false) := by
  obtain ⟨places, hx⟩ := reads os enc
  have laid_met : laidMet Tryd.prog Rows.topSealedUptoRow.laid ((laidWorld os).forCall (fun _ _ => 0) ⟨#[], #[.slice none 0 0, .int .i64 0, .int .u32 0], []⟩).memory := (laidMet_of_run' 8 (by kernel_rfl) (by kernel_rfl))
  refine returnsInHanded_of_row (C := Tryd.checked) (s := Rows.OpenSpec.upto Rows.topSealedSpec) own started (by kernel_rfl) Tryd.func8
    (witness_row_at (enc := enc) (C := Tryd.checked) false (laidWorld os) #[.slice none 0 0, .int .i64 0, .int .u32 0] rfl (by kernel_rfl) (by kernel_rfl) (by kernel_rfl)
      (OpenSpec.preRow_of_cond 8 hx (by kernel_rfl) (fun k hk => by cases hk; kernel_rfl) (by kernel_rfl) laid_met)) ?_
  intro W base args ds gs before hval hW _ hcond hz hL _ _
  exact contractUpto H enc W base args ds gs before hval hW hL hz (hcond _ rfl)

theorem said : Rows.TopSealedUptoSaid :=
  OpenClaim.holds_of_cond 8 Tryd.f8 rfl rfl rfl rfl rfl rfl rfl ⟨rfl, rfl, rfl, rfl, rfl⟩ rfl rfl rfl rfl rfl (by kernel_rfl) Tryd.func8 (by kernel_rfl)
    (of_decide_eq_true (by kernel_rfl)) (by unfold Func.isWrapper; first | (rw [if_pos (by decide +kernel)]; kernel_rfl) | (rw [if_neg (by decide +kernel)]; exact ⟨rfl, rfl⟩))
    (fun os started H enc _ F => by rw [OpenClaim.pre_eq_preRow]; exact lifted os started H enc F)

theorem plain (f : FuncId) (fn : Func) (hf : Tryd.pinned.checked.prog.funcNamed "mahout/mahouttop.TopSealed" = some f) (hfn : Tryd.pinned.checked.prog.funcs[f]? = some fn) :
    ∀ (j : Nat) t, fn.params[j]? = some t → Tryd.pinned.checked.prog.wantsStandIn t = false := by
  obtain rfl : f = 8 := Option.some.inj ((show Tryd.prog.funcNamed "mahout/mahouttop.TopSealed" = some 8 by kernel_rfl).symm.trans hf) |>.symm
  obtain rfl : fn = Tryd.f8 := (Option.some.inj (Tryd.func8.symm.trans hfn)).symm
  exact fun j t ht => by
    rw [Tryd.params8] at ht
    have hm : t ∈ [41, 3, 22] := by simpa using Array.mem_of_getElem? ht
    have hall : ([41, 3, 22].all fun u => !Tryd.prog.wantsStandIn u) = true := by kernel_rfl
    exact (show Tryd.prog.wantsStandIn t = false by simpa using List.all_eq_true.1 hall t hm)
/-- THE CARD -/
theorem card : Rows.TopSealedUptoCardSaid :=
  Claim7.holds_tied_plain_at .later [] _ _ _ _ said (fun _ h => by cases h) (by kernel_rfl) (fun _ h => by cases h) topSealedUpto_row_tie rfl ⟨rfl, rfl⟩ (by kernel_rfl) rfl (fun f fn hf hfn => ⟨by kernel_rfl, plain f fn hf hfn⟩) (by kernel_rfl)

end Go.Proofs.YteengjmjbfgkeaaDoor.fnTopSealed
