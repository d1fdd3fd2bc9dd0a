/- CrcFinds, where what it reads is bounded: the one changed byte is found in just its chunk. -/
import Derived.Test.YteengjmjbfgkeaaDoorChunkSums
import Derived.Deep.DeepCutAuto
import Derived.Deep.RegionHeld3
import Derived.StillTailTactics
import Derived.IntWalk
import Derived.OpenShut

import Derived.Test.YteengjmjbfgkeaaDoorLawEnd

import Derived.Test.YteengjmjbfgkeaaDoorCrcLaid

namespace Go.Proofs.YteengjmjbfgkeaaDoor.fnCrcFinds
open Go.ChangeShapes Go.WideShapes Go.ChangeAt Go.RowKit Go.WideMaps Go.WideElems
open Go.ChangeMaps (open_string)

theorem and255 (n : Int) : bits .and .i64 n 255 = n % 256 := by
  have h3 : (BitVec.ofInt 64 255).toNat = 2 ^ 8 - 1 := by decide
  have key : (BitVec.ofInt 64 n &&& BitVec.ofInt 64 255).toNat = (n % ((2 ^ 64 : Nat) : Int)).toNat % 2 ^ 8 := by
    rw [BitVec.toNat_and, BitVec.toNat_ofInt, h3, Nat.and_two_pow_sub_one_eq_mod]
  show IntKind.i64.wrap ((BitVec.ofInt 64 n &&& BitVec.ofInt 64 255).toNat : Nat) = n % 256
  rw [key, IntKind.wrap_i64]
  omega
theorem byte_of (n : Int) : ∃ x : UInt8, n % 256 = (x.toNat : Int) :=
  ⟨UInt8.ofNat (n % 256).toNat, by
    rw [UInt8.toNat_ofNat']
    have h0 := Int.emod_nonneg n (by decide : (256 : Int) ≠ 0)
    have h1 := Int.emod_lt_of_pos n (by decide : (0 : Int) < 256)
    omega⟩
theorem u8_xor_of (a b : UInt8) : bits BinOp.xor IntKind.u8 (a.toNat : Int) (b.toNat : Int) = ((a ^^^ b).toNat : Int) := by
  rw [u8_xor_nat _ _ a.toNat_lt b.toNat_lt, UInt8.toNat_xor]
theorem open_pair {H : Type} {enc : TypeId × Value → H} {W : World} {base : Nat} {v : Value} {d : DataW H} {p : List MemPlace}
    (hv : Value.okWide Tryd.prog W .any base 32 v) (h : DataW.Trod enc Tryd.prog W 0 (fun _ => true) true 32 v d p) :
    ∃ x : Int × Int, v = .agg #[.int .i64 x.1, .int .i64 x.2] ∧ (-9223372036854775808 ≤ x.1 ∧ x.1 ≤ 9223372036854775807) := by
  have hu : Tryd.prog.underlying 32 = some (.array 2 3) := Tryd.underlying32
  simp only [Value.okWide, hu] at hv
  obtain ⟨cs, rfl, hsz, _⟩ := hv
  obtain ⟨fuel, hf⟩ := h
  obtain ⟨ys, m, _, _, hlen, hyl, hg⟩ := DataW.trod_array hu hf
  have c3 : Tryd.prog.cellsOf 3 = 1 := by kernel_rfl
  have c32 : Tryd.prog.cellsOf 32 = 2 := by kernel_rfl
  rw [c32] at hlen hsz
  have hlen' : cs.toList.length = 2 := by simpa [Value.cells] using hlen
  obtain ⟨v0, v1, hcs⟩ : ∃ v0 v1, cs = #[v0, v1] := by
    match hc : cs.toList, hlen' with
    | [v0, v1], _ => exact ⟨v0, v1, by apply Array.ext'; exact hc⟩
  subst hcs
  match ys, hyl with
  | [y0, y1], _ =>
    have g0 : DataW.trod enc Tryd.prog W 0 (fun _ => true) true m 3 [v0] = some y0 := by have := hg 0 (by omega); simpa [c3, Value.cells] using this
    have g1 : DataW.trod enc Tryd.prog W 0 (fun _ => true) true m 3 [v1] = some y1 := by have := hg 1 (by omega); simpa [c3, Value.cells] using this
    obtain ⟨k, e0, _, wk⟩ := DataW.trod_int Tryd.underlying3 g0
    obtain ⟨i, e1, _, wi⟩ := DataW.trod_int Tryd.underlying3 g1
    simp only [List.cons.injEq, and_true] at e0 e1
    subst e0 e1
    exact ⟨(k, i), rfl, i64_of_wf wk⟩
def InZ (b : Bool) (z : Int) (m : Nat) : Prop := b = false → 1 ≤ z ∧ z ≤ (m : Int) + 9
def InK (b : Bool) (z : Int) (m : Nat) : Prop := b = false → 0 ≤ z ∧ z < (m : Int)
theorem quo_in (k K : Nat) (hk : k ≤ 1048576) : wrap64 ((k : Int) / (K : Int)) = (k : Int) / (K : Int) := by
  have h1 : k / K ≤ k := Nat.div_le_self k K
  have h2 : (k : Int) / (K : Int) = ((k / K : Nat) : Int) := by simp
  rw [h2]
  generalize k / K = q at h1 ⊢
  exact IntWalk.wrap64_in _ ⟨by omega, by omega⟩
theorem quo_in' (k K : Nat) (hk : k ≤ 1048576) : IntKind.i64.wrap ((k : Int) / (K : Int)) = (k : Int) / (K : Int) := (IntWalk.i64_left _).trans (quo_in k K hk)
theorem end_cf {w w2 wc w' : World} {p : Prop} (h2 : Hid (Below w.heap.size w w2)) (h3 : Hid (Below w2.heap.size w2 wc)) (k : Hid (Below wc.heap.size wc w') ∧ p) : Below w.heap.size w w' :=
  h2.out.trans ((h3.out.trans (k.1.out.mono h3.out.size)).mono h2.out.size)
theorem drew_cf {wc w : World} {v : Value} {b : ByteArray} (h : Hid (∀ w', Below wc.heap.size wc w' → (convert 33 9 v).run Tryd.prog w' = .ok (.string b) w'))
    (k : Hid (Below wc.heap.size wc w) ∧ (convert 33 9 v).run Tryd.prog w = .ok (.string b) w) : Hid (Below wc.heap.size wc w.drew) ∧ (convert 33 9 v).run Tryd.prog w.drew = .ok (.string b) w.drew :=
  ⟨Lib.hid k.1.out.drew, h.out _ k.1.out.drew⟩
set_option maxRecDepth 100000 in
set_option maxHeartbeats 1000000 in
theorem walk_main (s : ByteArray) (z a0 a1 : Int) (w : World) (hh : Half w) (hs : s.size ≤ 1048576) (hz : -9223372036854775808 ≤ z ∧ z ≤ 9223372036854775807) (ha0 : -9223372036854775808 ≤ a0 ∧ a0 ≤ 9223372036854775807)
    (h0 : ((s.size : Int) == 0) = false) (hp : 0 < s.size) (x : UInt8) (hx : a1 % 256 = (x.toNat : Int)) (hx0 : x ≠ 0) :
    Calls Tryd.prog 5 #[.string s, .int .i64 z, .agg #[.int .i64 a0, .int .i64 a1]] w fun e w' => e = .returned (.bool true) ∧ Below w.heap.size w w' := by
  have hm : s.size ≤ maxLen := by unfold maxLen; omega
  have hcv := fun (w : World) => run_bytes_of_string (P := Tryd.prog) w 9 33 5 s Tryd.underlying9 Tryd.underlying33 Tryd.underlying5
  have t2 := and255 a1
  rw [hx] at t2
  have t3 : ((x.toNat : Int) == 0) = false := by
    have : ¬ (x.toNat : Int) = 0 := fun h => hx0 (UInt8.toNat_inj.1 (by simpa using h))
    simpa using this
  have HX0 := Lib.hid hx0
  have hbA : Below w.heap.size w (w.alloc (.cells #[.int .i64 a0, .int .i64 a1] 32)) := (Below.refl _ w).alloc (Nat.le_refl _) _
  have hhA := hh.below hbA hh.lt
  clear hx0
  go_enter Tryd.func5, Tryd.ntmps5
  go_upto_region 5 with ((go_at_call 10; refine (speaks1_any _ hhA).mono ?_; rintro e w' ⟨rfl, rfl⟩))
  go_cut [29] (fun s29 wx => (∃ b : Bool, s29 = .bool b ∧ InZ b z s.size) ∧ w.alloc (.cells #[.int .i64 a0, .int .i64 a1] 32) = wx)
  case first =>
    by_cases h1 : z < 1
    · go_wp2
      go_meet
      exact ⟨⟨true, rfl, fun h => by cases h⟩, rfl⟩
    · by_cases h2 : (s.size : Int) + 9 < z
      · go_wp2
        go_meet
        exact ⟨⟨true, rfl, fun h => by cases h⟩, rfl⟩
      · go_wp2
        go_meet
        exact ⟨⟨false, rfl, fun _ => ⟨by omega, by omega⟩⟩, rfl⟩
  case rest =>
    obtain ⟨⟨b, rfl, hb⟩, rfl⟩ := hcut
    have HB : Hid (InZ b z s.size) := Lib.hid hb
    clear hb
    go_upto_if 29 with (fail)
    go_cut [1] (fun s1 wx => (∃ K : Nat, 1 ≤ K ∧ K ≤ 1048585 ∧ s1 = .int .i64 K) ∧ w.alloc (.cells #[.int .i64 a0, .int .i64 a1] 32) = wx)
    case first =>
      cases b
      · go_wp2
        go_meet
        obtain ⟨h1, h2⟩ := HB.out rfl
        exact ⟨⟨z.toNat, by omega, by omega, by rw [Int.toNat_of_nonneg (by omega)]⟩, rfl⟩
      · go_wp2
        go_meet
        exact ⟨⟨3, by omega, by omega, rfl⟩, rfl⟩
    case rest =>
      obtain ⟨⟨K, hK1, hK2, rfl⟩, rfl⟩ := hcut
      clear HB hz
      go_upto_region 8 with (fail)
      go_cut [39] (fun s39 wx => (∃ b : Bool, s39 = .bool b ∧ InK b a0 s.size) ∧ w.alloc (.cells #[.int .i64 a0, .int .i64 a1] 32) = wx)
      case first =>
        by_cases h1 : a0 < 0
        · go_wp2
          go_meet
          exact ⟨⟨true, rfl, fun h => by cases h⟩, rfl⟩
        · by_cases h2 : (s.size : Int) ≤ a0
          · go_wp2
            go_meet
            exact ⟨⟨true, rfl, fun h => by cases h⟩, rfl⟩
          · go_wp2
            go_meet
            exact ⟨⟨false, rfl, fun _ => ⟨by omega, by omega⟩⟩, rfl⟩
      case rest =>
        obtain ⟨⟨b, rfl, hb⟩, rfl⟩ := hcut
        have HB : Hid (InK b a0 s.size) := Lib.hid hb
        clear hb
        go_upto_if 39 with (fail)
        go_cut [7] (fun s7 wx => (∃ k : Nat, k < s.size ∧ s7 = .int .i64 k) ∧ w.alloc (.cells #[.int .i64 a0, .int .i64 a1] 32) = wx)
        case first =>
          cases b
          · go_wp2
            go_meet
            obtain ⟨h1, h2⟩ := HB.out rfl
            exact ⟨⟨a0.toNat, by omega, by rw [Int.toNat_of_nonneg h1]⟩, rfl⟩
          · go_wp2
            go_meet
            exact ⟨⟨s.size - 1, by omega, by rw [show ((s.size - 1 : Nat) : Int) = (s.size : Int) - 1 by omega]⟩, rfl⟩
        case rest =>
          obtain ⟨⟨k, hk, rfl⟩, rfl⟩ := hcut
          clear HB ha0
          obtain ⟨S, hS⟩ : ∃ S : Txt, S.1 = s := ⟨⟨s, by omega⟩, rfl⟩
          subst hS
          have hSz : S.1.size ≤ 1099511627776 := by omega
          have hch := chunks_sums S (K : Int) K (by simp) (by omega) hSz _ hhA
          have hlen := chA_len K S.1.size S (Nat.le_refl _)
          go_upto_region 11 with (go_at_call 16; refine hch.mono ?_; rintro e w2 ⟨A, cap, rfl, hsum, hA, _, hb2⟩)
          have hhw2 := hhA.below hb2 hhA.lt
          have hac : w2.cell? ⟨w.heap.size, 1, none⟩ = some (.int .i64 a1) := (hb2.cell (p := ⟨w.heap.size, 1, none⟩) (by simp)).trans (by simp)
          have hbw2 : Below w.heap.size w w2 := hbA.trans (hb2.mono (by simp))
          obtain ⟨hw2s, HW2⟩ : ∃ h : w.heap.size < w2.heap.size, Hid (Below w.heap.size w w2) := ⟨by have := hb2.size; simp at this; omega, Lib.hid hbw2⟩
          have HS := Lib.hid hsum
          have HH := Lib.hid hhw2
          have HAC := Lib.hid hac
          clear hsum hA hb2 hhw2 hac hbw2 hch hbA hhA hh
          go_cut [9] (fun s9 wx => (∃ cp, s9 = .slice (some ⟨w2.heap.size, 0, none⟩) S.1.size cp) ∧ Hid (Row8 wx w2.heap.size S.1.data.toList ∧ Below w2.heap.size w2 wx ∧ w2.heap.size < wx.heap.size))
          case first =>
            go_wp2
            go_meet
            refine ⟨⟨_, rfl⟩, Lib.hid ⟨?_, ?_, ?_⟩⟩
            · exact (Row8.of_string w2 S.1 5 _).drew
            · exact ((Below.refl _ w2).alloc (Nat.le_refl _) _).drew
            · show w2.heap.size < (w2.alloc _).heap.size
              rw [World.size_alloc]; omega
          case rest =>
            obtain ⟨⟨cp, rfl⟩, hwx⟩ := hcut
            obtain ⟨R1, hb3, hz3⟩ := hwx.out
            clear hwx
            have e0 : S.1.data.toList.length = S.1.size := by simp
            have hkl : k < S.1.data.toList.length := by omega
            obtain ⟨y, hy⟩ : ∃ y, S.1.data.toList[k]? = some y := ⟨_, List.getElem?_eq_getElem hkl⟩
            have hc1 : wc.cell? ⟨w2.heap.size, k, none⟩ = some (.int .u8 (y.toNat : Int)) := by
              obtain ⟨_, e⟩ := List.getElem?_eq_some_iff.1 hy
              rw [← e]
              exact R1.cell hkl
            have hf1 := R1.frozen hkl
            have hc2 : wc.cell? ⟨w.heap.size, 1, none⟩ = some (.int .i64 a1) := (hb3.cell (p := ⟨w.heap.size, 1, none⟩) hw2s).trans HAC.out
            have hxo := u8_xor_of y x
            have HR1 := Lib.hid R1
            have HB3 := Lib.hid hb3
            have HZ3 := Lib.hid hz3
            have HY := Lib.hid hy
            have HKL := Lib.hid hkl
            have HE0 := Lib.hid e0
            clear R1 hb3 hz3 hy hkl e0
            go_upto_region 12 with (fail)
            go_cut [9] (fun s9 wx => s9 = .slice (some ⟨w2.heap.size, 0, none⟩) S.1.size cp ∧ Hid (Row8 wx w2.heap.size (S.1.data.toList.set k (y ^^^ x)) ∧ Below w2.heap.size w2 wx ∧ w2.heap.size < wx.heap.size))
            case first =>
              go_still_tail 9, (by kernel_rfl)
              change wpList _ _ _ _ _ wc.drew
              go_wp2
              go_meet
              rw [hx, hxo]
              exact ⟨rfl, Lib.hid ⟨(HR1.out.set k (y ^^^ x)).drew, (HB3.out.setCell (p := ⟨w2.heap.size, k, none⟩) (Nat.le_refl _) _).drew, Nat.lt_of_lt_of_le HZ3.out (KeepsOthers.setCell wc _ _).size⟩⟩
            case rest =>
              obtain ⟨rfl, hwx⟩ := hcut
              clear HR1 HB3 HZ3 hc1 hf1 hc2
              obtain ⟨R1, hb3, hz3⟩ := hwx.out
              clear hwx
              obtain ⟨T, hT⟩ : ∃ T : Txt, T.1 = ⟨(S.1.data.toList.set k (y ^^^ x)).toArray⟩ := ⟨⟨⟨(S.1.data.toList.set k (y ^^^ x)).toArray⟩, by show (S.1.data.toList.set k (y ^^^ x)).toArray.size ≤ _; simp; omega⟩, rfl⟩
              have hTl : T.1.data.toList = S.1.data.toList.set k (y ^^^ x) := by rw [hT]
              have hTs : T.1.size = S.1.size := by
                have e1 : T.1.data.toList.length = T.1.size := by simp
                rw [← e1, hTl, List.length_set, HE0.out]
              have hlw : (S.1.data.toList.set k (y ^^^ x)).length = S.1.size := by rw [List.length_set, HE0.out]
              have hbk : ∀ w', Below wc.heap.size wc w' → (convert 33 9 (.slice (some ⟨w2.heap.size, 0, none⟩) S.1.size cp)).run Tryd.prog w' = .ok (.string T.1) w' := fun w' hw' => by
                have := (R1.below hw' hz3).back (P := Tryd.prog) 33 9 5 cp Tryd.underlying33 Tryd.underlying5 Tryd.underlying9
                rw [hlw] at this
                rw [hT]; exact this
              have hh3 := HH.out.below hb3 HH.out.lt
              have hS3 : SumsAt wc wc.heap.size A (chA K S).length (fOf (chA K S)) := fun i hi => by
                obtain ⟨b, off, e, h1, h2⟩ := (HS.out.below hb3) i hi
                exact ⟨b, off, e, by have := hb3.size; omega, h2⟩
              have hne : y ^^^ x ≠ y := fun e => HX0.out (by
                have := congrArg (y ^^^ ·) e
                simpa [← UInt8.xor_assoc] using this)
              have hbad : badG (fOf (chA K S)) (chA K S).length 0 (chA K T) = ((k / K : Nat) : Int) := by
                have := bad_at (K := K) (by omega) (fOf (chA K S)) (chA K S).length (y ^^^ x) y hne _ S T k 0 (Nat.le_refl _) HY.out hTl (fun j => by rw [Nat.zero_add]) (by rw [Nat.zero_add])
                rwa [Nat.zero_add] at this
              have HX : Hid (∀ w', Hid (Below wc.heap.size wc w') ∧ (convert 33 9 (.slice (some ⟨w2.heap.size, 0, none⟩) S.1.size cp)).run Tryd.prog w' = .ok (.string T.1) w' → Calls Tryd.prog 18 #[.string S.1, .int .i64 (K : Int), .slice A (chA K S).length cap] w' fun e w'' => e = .returned (.int .i64 (-1)) ∧ (Hid (Below wc.heap.size wc w'') ∧ (convert 33 9 (.slice (some ⟨w2.heap.size, 0, none⟩) S.1.size cp)).run Tryd.prog w'' = .ok (.string T.1) w'')) := Lib.hid fun w' hw' =>
                (bad_grown hh3 S K hK1 (by omega) hSz A _ cap (by omega) _ hS3 _ (bad_none _) w' hw'.1.out).mono fun e w'' ⟨h1, h2⟩ => ⟨h1, Lib.hid h2, hbk w'' h2⟩
              have HZ : Hid (∀ w', Hid (Below wc.heap.size wc w') ∧ (convert 33 9 (.slice (some ⟨w2.heap.size, 0, none⟩) S.1.size cp)).run Tryd.prog w' = .ok (.string T.1) w' → Calls Tryd.prog 18 #[.string T.1, .int .i64 (K : Int), .slice A (chA K S).length cap] w' fun e w'' => e = .returned (.int .i64 ((k / K : Nat) : Int)) ∧ (Hid (Below wc.heap.size wc w'') ∧ (convert 33 9 (.slice (some ⟨w2.heap.size, 0, none⟩) S.1.size cp)).run Tryd.prog w'' = .ok (.string T.1) w'')) := Lib.hid fun w' hw' =>
                (bad_grown hh3 T K hK1 (by omega) (by omega) A _ cap (by omega) _ hS3 _ hbad w' hw'.1.out).mono fun e w'' ⟨h1, h2⟩ => ⟨h1, Lib.hid h2, hbk w'' h2⟩
              have hK0 : ¬ (K : Int) = 0 := by omega
              have hKn : ¬ K = 0 := by omega
              have hKp : (0 : Int) < (K : Int) := by omega
              have hk0 : (0 : Int) ≤ (k : Int) := by omega
              have hKb : ((K : Int) == 0) = false := beq_eq_false_iff_ne.2 hK0
              have hqw := quo_in k K (by omega)
              have hqi := quo_in' k K (by omega)
              have S0 : Hid (Below wc.heap.size wc wc) ∧ (convert 33 9 (.slice (some ⟨w2.heap.size, 0, none⟩) S.1.size cp)).run Tryd.prog wc = .ok (.string T.1) wc := ⟨Lib.hid (Below.refl _ _), hbk wc (Below.refl _ _)⟩
              have HBK := Lib.hid hbk
              have HB3 := Lib.hid hb3
              clear hbk hb3 hz3 R1 hT hTl hTs hlw hh3 hS3 hne hbad HS HH HAC HY HE0 HX0 hx t2 t3 hxo hlen hSz hs hm hcv hp h0
              go_upto_region 13 with (fail)
              go_region_held3 (fun w' => Hid (Below wc.heap.size wc w') ∧ (convert 33 9 (.slice (some ⟨w2.heap.size, 0, none⟩) S.1.size cp)).run Tryd.prog w' = .ok (.string T.1) w') (first | assumption | exact drew_cf HBK (by assumption))
                (first | (go_at_call 18; first | ((with_reducible refine (HX.out _ (by assumption)).mono ?_); rintro e w' ⟨rfl, hS⟩) | ((with_reducible refine (HZ.out _ (by assumption)).mono ?_); rintro e w' ⟨rfl, hS⟩)))
              all_goals (go_wp2; go_ret; exact ⟨rfl, end_cf HW2 HB3 (by assumption)⟩)
theorem walk (s : ByteArray) (z a0 a1 : Int) (w : World) (hh : Half w) (hs : s.size ≤ 1048576) (hz : -9223372036854775808 ≤ z ∧ z ≤ 9223372036854775807) (ha0 : -9223372036854775808 ≤ a0 ∧ a0 ≤ 9223372036854775807) :
    Calls Tryd.prog 5 #[.string s, .int .i64 z, .agg #[.int .i64 a0, .int .i64 a1]] w fun e w' => e = .returned (.bool true) ∧ Below w.heap.size w w' := by
  have hbA : Below w.heap.size w (w.alloc (.cells #[.int .i64 a0, .int .i64 a1] 32)) := (Below.refl _ w).alloc (Nat.le_refl _) _
  have hhA := hh.below hbA hh.lt
  by_cases h0 : s.size = 0
  · have t0 : ((s.size : Int) == 0) = true := by rw [h0]; rfl
    have h0' : (s.size : Int) = 0 := by omega
    clear h0
    go_enter Tryd.func5, Tryd.ntmps5
    go_wp2_with (go_at_call 10; refine (speaks1_any _ hhA).mono ?_; rintro e w' ⟨rfl, rfl⟩)
    go_ret
    exact ⟨rfl, hbA⟩
  · have t0 : ((s.size : Int) == 0) = false := by simpa using h0
    have hp : 0 < s.size := by omega
    obtain ⟨x, hx⟩ := byte_of a1
    by_cases hx0 : x = 0
    · have t2 := and255 a1
      rw [hx, hx0] at t2
      have t2' : bits .and .i64 a1 255 = 0 := by rw [t2]; rfl
      clear t2 hx hx0 h0
      go_enter Tryd.func5, Tryd.ntmps5
      go_wp2_with (go_at_call 10; refine (speaks1_any _ hhA).mono ?_; rintro e w' ⟨rfl, rfl⟩)
      go_ret
      exact ⟨rfl, hbA⟩
    · exact walk_main s z a0 a1 w hh hs hz ha0 t0 hp x hx hx0

theorem contractUpto (H : Type) (enc : TypeId × Value → H) (W : World) (base : Nat) (args : Array Value) (ds gs : List (DataW H)) (before : List MemPlace)
    (hval : ∀ (j : Nat) t v, Tryd.f5.params[j]? = some t → args[j]? = some v → Value.okWide Tryd.prog W .any base t v)
    (hW : DataW.Whole enc Tryd.prog Tryd.f5.params.toList Rows.crcFindsSpec.vars false W args.toList ds gs before) (hL : laidMetH Tryd.prog Rows.crcFindsRow.laid W)
    (hz : (DataW.weightsEach Tryd.prog (Tryd.f5.params.toList ++ []) (ds ++ gs)).all (· ≤ reachBytes) = true) (hk : Rows.uptoSmall H (ds ++ gs) = true) :
    Calls Tryd.prog 5 args W fun e W' => ∃ v, e = .returned v ∧ Rows.crcFindsSpec.post enc Tryd.prog Tryd.f5 false true false false W args v W' := by
  have hW' := hW
  obtain ⟨p, q, hA0, hV, rfl, hfz, hnd⟩ := hW
  have hA : DataW.TrodAll enc Tryd.prog W 0 (fun _ => true) true Tryd.f5.params.toList args.toList ds p := hA0
  rw [Tryd.params5] at hA hval hz
  obtain ⟨v0, vs0, d0, ds0, p0, q0, hargs, rfl, rfl, h0, r0⟩ := trodAll_cons hA
  obtain ⟨v1, vs1, d1, ds1, p1, q1, rfl, rfl, rfl, h1, r1⟩ := trodAll_cons r0
  obtain ⟨v2, vs2, d2, ds2, p2, q2, rfl, rfl, rfl, h2, r2⟩ := trodAll_cons r1
  obtain ⟨rfl, rfl, rfl⟩ := trodAll_nil r2
  obtain rfl : args = #[v0, v1, v2] := by cases args; simp_all
  obtain ⟨rfl, rfl⟩ := trodVars_none hV
  obtain ⟨x0, rfl, rfl, rfl, w0⟩ := open_string Tryd.underlying9 (hval 0 9 v0 rfl rfl) h0
  have b0 : x0.size ≤ 140737488351232 := by have := sized_string hz (j := 0) (t := 9) rfl rfl; simpa [reachBytes] using this
  obtain ⟨x1, rfl, rfl, rfl, w1⟩ := open_int Tryd.underlying3 (hval 1 3 v1 rfl rfl) h1
  have b1 := i64_of_wf w1
  obtain ⟨x2, rfl, b2⟩ := open_pair (hval 2 32 v2 rfl rfl) h2
  have hbulk : x0.size ≤ 1048576 := by
    have h := of_decide_eq_true hk
    simp only [List.append_nil, Rows.uptoBulkAll, Rows.uptoBulk] at h
    have e0 : x0.data.toList.length = x0.size := by simp
    omega
  clear hA0
  refine (walk x0 x1 x2.1 x2.2 W (half_of hL) hbulk b1 b2).mono fun e W' ⟨he, hb⟩ => ?_
  subst he
  exact ⟨_, rfl, law_end hW' rfl rfl hb laidOut (by kernel_rfl) (by kernel_rfl) Tryd.underlying4⟩

theorem reads (os : Os) {H : Type} (enc : TypeId × Value → H) : ∃ places, DataW.whole enc Tryd.prog ((laidWorld os).forCall (fun _ _ => 0) ⟨#[], #[.string ⟨#[]⟩, .int .i64 0, .agg #[.int .i64 0, .int .i64 0]], []⟩).memory Tryd.f5.params.toList Rows.crcFindsSpec.vars false [Value.string ⟨#[]⟩, Value.int .i64 0, Value.agg #[.int .i64 0, .int .i64 0]] 8 = some ([.lit (.string []), .lit (.int .i64 0), .agg [.lit (.int .i64 0), .lit (.int .i64 0)]], [], places) :=
  ⟨[], by kernel_rfl⟩

set_option maxRecDepth 100000 in
theorem lifted (os : Os) (started : os.Started) (H : Type) (enc : TypeId × Value → H) (F : Stop.Interp) :
    ReturnsInHanded {} Tryd.checked os 5 .any ((Rows.OpenSpec.upto Rows.crcFindsSpec).preRow enc Tryd.prog Tryd.f5 Rows.crcFindsUptoRow.domain false Rows.crcFindsUptoRow.laid) (((Rows.OpenSpec.upto Rows.crcFindsSpec).at F).post enc Tryd.prog Tryd.f5 false true false false) := by
  obtain ⟨places, hx⟩ := reads os enc
  have laid_met : laidMet Tryd.prog Rows.crcFindsUptoRow.laid ((laidWorld os).forCall (fun _ _ => 0) ⟨#[], #[.string ⟨#[]⟩, .int .i64 0, .agg #[.int .i64 0, .int .i64 0]], []⟩).memory := (laidMet_of_run' 8 (by kernel_rfl) (by kernel_rfl))
  refine returnsInHanded_of_row (C := Tryd.checked) (s := Rows.OpenSpec.upto Rows.crcFindsSpec) own started (by kernel_rfl) Tryd.func5
    (witness_row_at (enc := enc) (C := Tryd.checked) false (laidWorld os) #[.string ⟨#[]⟩, .int .i64 0, .agg #[.int .i64 0, .int .i64 0]] rfl (by kernel_rfl) (by kernel_rfl) (by kernel_rfl)
      (OpenSpec.preRow_of_cond 8 hx (by kernel_rfl) (fun k hk => by cases hk; kernel_rfl) (by kernel_rfl) laid_met)) ?_
  intro W base args ds gs before hval hW _ hcond hz hL _ _
  exact contractUpto H enc W base args ds gs before hval hW hL hz (hcond _ rfl)

theorem said : Rows.CrcFindsUptoSaid :=
  OpenClaim.holds_of_cond 5 Tryd.f5 rfl rfl rfl rfl rfl rfl rfl ⟨rfl, rfl, rfl, rfl, rfl⟩ rfl rfl rfl rfl rfl (by kernel_rfl) Tryd.func5 (by kernel_rfl)
    (of_decide_eq_true (by kernel_rfl)) (by unfold Func.isWrapper; first | (rw [if_pos (by decide +kernel)]; kernel_rfl) | (rw [if_neg (by decide +kernel)]; exact ⟨rfl, rfl⟩))
    (fun os started H enc _ F => by rw [OpenClaim.pre_eq_preRow]; exact lifted os started H enc F)

theorem plain (f : FuncId) (fn : Func) (hf : Tryd.pinned.checked.prog.funcNamed "mahout/mahoutlaw01.CrcFinds" = some f) (hfn : Tryd.pinned.checked.prog.funcs[f]? = some fn) :
    ∀ (j : Nat) t, fn.params[j]? = some t → Tryd.pinned.checked.prog.wantsStandIn t = false := by
  obtain rfl : f = 5 := Option.some.inj ((show Tryd.prog.funcNamed "mahout/mahoutlaw01.CrcFinds" = some 5 by kernel_rfl).symm.trans hf) |>.symm
  obtain rfl : fn = Tryd.f5 := (Option.some.inj (Tryd.func5.symm.trans hfn)).symm
  exact fun j t ht => by
    rw [Tryd.params5] at ht
    have hm : t ∈ [9, 3, 32] := by simpa using Array.mem_of_getElem? ht
    have hall : ([9, 3, 32].all fun u => !Tryd.prog.wantsStandIn u) = true := by kernel_rfl
    exact (show Tryd.prog.wantsStandIn t = false by simpa using List.all_eq_true.1 hall t hm)
/-- THE CARD -/
theorem card : Rows.CrcFindsUptoCardSaid :=
  Claim7.holds_tied_plain_at .later [] _ _ _ _ said (fun _ h => by cases h) (by kernel_rfl) (fun _ h => by cases h) crcFindsUpto_row_tie rfl ⟨rfl, rfl⟩ (by kernel_rfl) rfl (fun f fn hf hfn => ⟨by kernel_rfl, plain f fn hf hfn⟩) (by kernel_rfl)

end Go.Proofs.YteengjmjbfgkeaaDoor.fnCrcFinds
