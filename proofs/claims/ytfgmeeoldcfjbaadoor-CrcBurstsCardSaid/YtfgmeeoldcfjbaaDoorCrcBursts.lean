/- CrcBursts is true for every text, place and change: no change of up to four bytes in a row goes unseen by crc.Sum. No conditions beyond the card's own. -/
import Derived.Test.YtfgmeeoldcfjbaaDoorCrcFnsB
import Derived.Test.YtfgmeeoldcfjbaaDoorCrcBurst
import Derived.Test.YtfgmeeoldcfjbaaDoorBytes
import Derived.Deep.DeepCutAuto

import Derived.Test.YtfgmeeoldcfjbaaDoorLawEnd

import Derived.Test.YtfgmeeoldcfjbaaDoorCrcLaid

namespace Go.Proofs.YtfgmeeoldcfjbaaDoor.fnCrcBursts
open Go.ChangeShapes Go.WideShapes Go.ChangeAt Go.RowKit Go.WideMaps Go.WideElems
open Go.ChangeMaps (open_string)

theorem byte_of (c : BitVec 32) (d : Int) : ∃ x : UInt8, U c / d % 256 = (x.toNat : Int) :=
  ⟨UInt8.ofNat (U c / d % 256).toNat, by
    rw [UInt8.toNat_ofNat']
    have h0 := Int.emod_nonneg (U c / d) (by decide : (256 : Int) ≠ 0)
    have h1 := Int.emod_lt_of_pos (U c / d) (by decide : (0 : Int) < 256)
    omega⟩
theorem u8_xor_of (a b : UInt8) : bits BinOp.xor IntKind.u8 (a.toNat : Int) (b.toNat : Int) = ((a ^^^ b).toNat : Int) := by
  rw [u8_xor_nat _ _ a.toNat_lt b.toNat_lt, UInt8.toNat_xor]
def InR (b : Bool) (n : Int) (m : Nat) : Prop := b = false → 0 ≤ n ∧ n < m
def Inv (l0 : List UInt8) (a k : Nat) (l : List UInt8) (sb : Bool) : Prop :=
  l.length = l0.length ∧ l.take a = l0.take a ∧ (∀ j, a + k ≤ j → l[j]? = l0[j]?) ∧ (sb = true → ∃ j, j < a + k ∧ l[j]? ≠ l0[j]?)
theorem inv_start (l0 : List UInt8) (a : Nat) : Inv l0 a 0 l0 false := ⟨rfl, rfl, fun _ _ => rfl, fun h => by cases h⟩
theorem inv_skip {l0 l : List UInt8} {a k : Nat} {sb : Bool} (h : Inv l0 a k l sb) : Inv l0 a (k + 1) l sb :=
  ⟨h.1, h.2.1, fun j hj => h.2.2.1 j (by omega), fun hs => by obtain ⟨j, hj, hd⟩ := h.2.2.2 hs; exact ⟨j, by omega, hd⟩⟩
theorem inv_set {l0 l : List UInt8} {a k : Nat} {sb : Bool} (h : Inv l0 a k l sb) (hk : a + k < l.length) {x : UInt8} (hx : x ≠ 0) : Inv l0 a (k + 1) (l.set (a + k) (l[a + k] ^^^ x)) true := by
  refine ⟨by simpa using h.1, ?_, ?_, fun _ => ⟨a + k, by omega, ?_⟩⟩
  · rw [List.take_set_of_le (by omega)]; exact h.2.1
  · intro j hj
    rw [List.getElem?_set_ne (by omega)]
    exact h.2.2.1 j (by omega)
  · rw [← h.2.2.1 (a + k) (Nat.le_refl _), List.getElem?_set_self hk, List.getElem?_eq_getElem hk]
    intro e
    injection e with e
    apply hx
    have := congrArg (l[a + k] ^^^ ·) e
    simpa [← UInt8.xor_assoc] using this
theorem inv_end {l0 l : List UInt8} {a : Nat} {sb : Bool} (h : Inv l0 a 4 l sb) (hs : sb = true) : Crc.sum l ≠ Crc.sum l0 := by
  obtain ⟨h1, h2, h3, h4⟩ := h
  obtain ⟨j, _, hd⟩ := h4 hs
  refine Crc.burst h1 a h2 ?_ (fun e => hd (by rw [e]))
  apply List.ext_getElem?
  intro i
  rw [List.getElem?_drop, List.getElem?_drop]
  exact h3 _ (by omega)

set_option maxHeartbeats 1000000 in
theorem walk_main (s : ByteArray) (n : Int) (c : BitVec 32) (w : World) (hh : Half w) (hs : s.size ≤ 140737488351232) (hn : -9223372036854775808 ≤ n ∧ n ≤ 9223372036854775807)
    (h0 : ((s.size : Int) == 0) = false) (hc0 : (U c == 0) = false) :
    Calls Tryd.prog 6 #[.string s, .int .i64 n, .int .u32 (U c)] w fun e w' => e = .returned (.bool true) ∧ Below w.heap.size w w' := by
  have hm : s.size ≤ maxLen := by unfold maxLen; omega
  have hcv := fun (w : World) => run_bytes_of_string (P := Tryd.prog) w 9 31 5 s Tryd.underlying9 Tryd.underlying31 Tryd.underlying5
  have hp : 0 < s.size := by
    rcases Nat.eq_zero_or_pos s.size with h | h
    · rw [h] at h0; simp at h0
    · exact h
  go_enter Tryd.func6, Tryd.ntmps6
  go_upto_region 5 with ((go_at_call 12; refine (speaks1_any _ hh).mono ?_; rintro e w' ⟨rfl, rfl⟩))
  go_cut [27] (fun s27 wx => (∃ b : Bool, s27 = .bool b ∧ InR b n s.size) ∧ w = wx)
  case first =>
    by_cases h1 : n < 0
    · go_wp2
      go_meet
      exact ⟨⟨true, rfl, fun h => by cases h⟩, rfl⟩
    · by_cases h2 : (s.size : Int) ≤ n
      · go_wp2
        go_meet
        exact ⟨⟨true, rfl, fun h => by cases h⟩, rfl⟩
      · go_wp2
        go_meet
        exact ⟨⟨false, rfl, fun _ => ⟨by omega, by omega⟩⟩, rfl⟩
  case rest =>
    obtain ⟨⟨b, rfl, hb⟩, rfl⟩ := hcut
    have HB : InR b n s.size := hb
    clear hb
    go_upto_if 27 with (fail)
    go_cut [1] (fun s1 wx => (∃ a : Nat, a < s.size ∧ s1 = .int .i64 a) ∧ w = wx)
    case first =>
      cases b
      · go_wp2
        go_meet
        obtain ⟨h1, h2⟩ := HB rfl
        exact ⟨⟨n.toNat, by omega, by rw [Int.toNat_of_nonneg h1]⟩, rfl⟩
      · go_wp2
        go_meet
        exact ⟨⟨0, hp, rfl⟩, rfl⟩
    case rest =>
      obtain ⟨⟨a, ha, rfl⟩, rfl⟩ := hcut
      clear HB h0 hc0 hn
      have hrow := (Row8.of_string w s 5 (grownCap w s.size 0 5)).drew
      have hbel : Below w.heap.size w (w.alloc (.cells (bytesRow s (grownCap w s.size 0 5)) 5 ((bytesRow s (grownCap w s.size 0 5)).size, (bytesRow s (grownCap w s.size 0 5)).size + 1))).drew := ((Below.refl _ _).alloc (Nat.le_refl _) _).drew
      have R0 := Lib.hid hrow
      have B0 := Lib.hid hbel
      clear hrow hbel
      go_wp2
      go_loopw [8, 9] (fun sn i wr => ∃ (k : Nat) (sb : Bool) (l : List UInt8), k ≤ 4 ∧ i = .int .i64 k ∧ sn = .bool sb ∧ Hid (Inv s.data.toList a k l sb) ∧ Hid (Row8 wr w.heap.size l) ∧ Hid (Below w.heap.size w wr)) (fun _ i _ => 4 - (intOf i).toNat)
      case atStart => exact ⟨0, false, s.data.toList, by omega, rfl, rfl, inv_start _ _, R0, B0⟩
      case round =>
        obtain ⟨k, sb, l, hk, rfl, rfl, HI, HR, HBel⟩ := hrel
        clear R0 B0
        by_cases hlt : k < 4
        · obtain rfl | rfl | rfl | rfl : k = 0 ∨ k = 1 ∨ k = 2 ∨ k = 3 := by omega
          · -- k = 0
            obtain ⟨x, hx⟩ := byte_of c 1
            rw [Int.ediv_one] at hx
            by_cases hx0 : x = 0
            · have t1 : ((x.toNat : Int) != 0) = false := by rw [hx0]; rfl
              have t2 : (x.toNat : Int) = 0 := by rw [hx0]; rfl
              clear hx0
              go_wp2
              go_roundw
              case rel => exact ⟨1, sb, l, by omega, rfl, rfl, inv_skip HI.out, HR, HBel⟩
              case measure => simp [intOf]
            · have t0 : ¬ (x.toNat : Int) = 0 := fun h => hx0 (UInt8.toNat_inj.1 (by simpa using h))
              have t1 : ((x.toNat : Int) != 0) = true := by simpa using t0
              have HX := Lib.hid hx0
              clear hx0
              by_cases hin : a + 0 < s.size
              · have hl : a + 0 < l.length := by rw [HI.out.1]; simpa using hin
                have hc1 := HR.out.cell hl
                have hf1 := HR.out.frozen hl
                have hxo := u8_xor_of l[a + 0] x
                simp only [Nat.add_zero] at hc1 hf1 hxo
                go_wp2
                go_roundw
                case rel => exact ⟨1, true, l.set (a + 0) (l[a + 0] ^^^ x), by omega, rfl, rfl, inv_set HI.out hl HX.out, HR.out.set _ _, HBel.out.setCell (Nat.le_refl _) _⟩
                case measure => simp [intOf]
              · omega
          · -- k = 1
            obtain ⟨x, hx⟩ := byte_of c 256
            skip
            by_cases hx0 : x = 0
            · have t1 : ((x.toNat : Int) != 0) = false := by rw [hx0]; rfl
              have t2 : (x.toNat : Int) = 0 := by rw [hx0]; rfl
              clear hx0
              go_wp2
              go_roundw
              case rel => exact ⟨2, sb, l, by omega, rfl, rfl, inv_skip HI.out, HR, HBel⟩
              case measure => simp [intOf]
            · have t0 : ¬ (x.toNat : Int) = 0 := fun h => hx0 (UInt8.toNat_inj.1 (by simpa using h))
              have t1 : ((x.toNat : Int) != 0) = true := by simpa using t0
              have HX := Lib.hid hx0
              clear hx0
              by_cases hin : a + 1 < s.size
              · have hl : a + 1 < l.length := by rw [HI.out.1]; simpa using hin
                have hc1 := HR.out.cell hl
                have hf1 := HR.out.frozen hl
                have hxo := u8_xor_of l[a + 1] x
                skip
                go_wp2
                go_roundw
                case rel => exact ⟨2, true, l.set (a + 1) (l[a + 1] ^^^ x), by omega, rfl, rfl, inv_set HI.out hl HX.out, HR.out.set _ _, HBel.out.setCell (Nat.le_refl _) _⟩
                case measure => simp [intOf]
              · have hin' : (s.size : Int) - 1 - 1 < a := by omega
                go_wp2
                go_roundw
                case rel => exact ⟨2, sb, l, by omega, rfl, rfl, inv_skip HI.out, HR, HBel⟩
                case measure => simp [intOf]
          · -- k = 2
            obtain ⟨x, hx⟩ := byte_of c 65536
            skip
            by_cases hx0 : x = 0
            · have t1 : ((x.toNat : Int) != 0) = false := by rw [hx0]; rfl
              have t2 : (x.toNat : Int) = 0 := by rw [hx0]; rfl
              clear hx0
              go_wp2
              go_roundw
              case rel => exact ⟨3, sb, l, by omega, rfl, rfl, inv_skip HI.out, HR, HBel⟩
              case measure => simp [intOf]
            · have t0 : ¬ (x.toNat : Int) = 0 := fun h => hx0 (UInt8.toNat_inj.1 (by simpa using h))
              have t1 : ((x.toNat : Int) != 0) = true := by simpa using t0
              have HX := Lib.hid hx0
              clear hx0
              by_cases hin : a + 2 < s.size
              · have hl : a + 2 < l.length := by rw [HI.out.1]; simpa using hin
                have hc1 := HR.out.cell hl
                have hf1 := HR.out.frozen hl
                have hxo := u8_xor_of l[a + 2] x
                skip
                go_wp2
                go_roundw
                case rel => exact ⟨3, true, l.set (a + 2) (l[a + 2] ^^^ x), by omega, rfl, rfl, inv_set HI.out hl HX.out, HR.out.set _ _, HBel.out.setCell (Nat.le_refl _) _⟩
                case measure => simp [intOf]
              · have hin' : (s.size : Int) - 1 - 2 < a := by omega
                go_wp2
                go_roundw
                case rel => exact ⟨3, sb, l, by omega, rfl, rfl, inv_skip HI.out, HR, HBel⟩
                case measure => simp [intOf]
          · -- k = 3
            obtain ⟨x, hx⟩ := byte_of c 16777216
            skip
            by_cases hx0 : x = 0
            · have t1 : ((x.toNat : Int) != 0) = false := by rw [hx0]; rfl
              have t2 : (x.toNat : Int) = 0 := by rw [hx0]; rfl
              clear hx0
              go_wp2
              go_roundw
              case rel => exact ⟨4, sb, l, by omega, rfl, rfl, inv_skip HI.out, HR, HBel⟩
              case measure => simp [intOf]
            · have t0 : ¬ (x.toNat : Int) = 0 := fun h => hx0 (UInt8.toNat_inj.1 (by simpa using h))
              have t1 : ((x.toNat : Int) != 0) = true := by simpa using t0
              have HX := Lib.hid hx0
              clear hx0
              by_cases hin : a + 3 < s.size
              · have hl : a + 3 < l.length := by rw [HI.out.1]; simpa using hin
                have hc1 := HR.out.cell hl
                have hf1 := HR.out.frozen hl
                have hxo := u8_xor_of l[a + 3] x
                skip
                go_wp2
                go_roundw
                case rel => exact ⟨4, true, l.set (a + 3) (l[a + 3] ^^^ x), by omega, rfl, rfl, inv_set HI.out hl HX.out, HR.out.set _ _, HBel.out.setCell (Nat.le_refl _) _⟩
                case measure => simp [intOf]
              · have hin' : (s.size : Int) - 1 - 3 < a := by omega
                go_wp2
                go_roundw
                case rel => exact ⟨4, sb, l, by omega, rfl, rfl, inv_skip HI.out, HR, HBel⟩
                case measure => simp [intOf]
        · obtain rfl : k = 4 := by omega
          have hlen : s.size = l.length := by rw [HI.out.1]; simp
          have hbk := HR.out.back (P := Tryd.prog) 31 9 5 (grownCap w s.size 0 5) Tryd.underlying31 Tryd.underlying5 Tryd.underlying9
          rw [← hlen] at hbk
          have hlm : (⟨l.toArray⟩ : ByteArray).size ≤ maxLen := by show l.toArray.size ≤ _; simp; omega
          have hw := hh.below HBel.out hh.lt
          have HL := Lib.hid hlen
          clear hlen
          cases sb
          · go_wp2
            go_ret
            exact ⟨rfl, HBel.out⟩
          · have ht : (U (Crc.sum (⟨l.toArray⟩ : ByteArray).data.toList) != U (Crc.sum s.data.toList)) = true := by
              have := inv_end HI.out rfl
              simpa using fun h => this (U_inj h)
            go_wp2_with (go_at_call 13; first | (refine (sum_any ⟨l.toArray⟩ _ hw hlm).mono ?_; rintro e w' ⟨rfl, rfl⟩) | (refine (sum_any s _ hw hm).mono ?_; rintro e w' ⟨rfl, rfl⟩))
            go_ret
            exact ⟨rfl, HBel.out⟩
theorem walk (s : ByteArray) (n : Int) (c : BitVec 32) (w : World) (hh : Half w) (hs : s.size ≤ 140737488351232) (hn : -9223372036854775808 ≤ n ∧ n ≤ 9223372036854775807) :
    Calls Tryd.prog 6 #[.string s, .int .i64 n, .int .u32 (U c)] w fun e w' => e = .returned (.bool true) ∧ Below w.heap.size w w' := by
  by_cases h0 : s.size = 0
  · have t0 : ((s.size : Int) == 0) = true := by rw [h0]; rfl
    have h0' : (s.size : Int) = 0 := by omega
    clear h0
    go_enter Tryd.func6, Tryd.ntmps6
    go_wp2_with (go_at_call 12; refine (speaks1_any _ hh).mono ?_; rintro e w' ⟨rfl, rfl⟩)
    go_ret
    exact ⟨rfl, Below.refl _ _⟩
  · have t0 : ((s.size : Int) == 0) = false := by simpa using h0
    clear h0
    by_cases hc : c = 0#32
    · have t1 : (U c == 0) = true := by rw [hc]; rfl
      clear hc
      go_enter Tryd.func6, Tryd.ntmps6
      go_wp2_with (go_at_call 12; refine (speaks1_any _ hh).mono ?_; rintro e w' ⟨rfl, rfl⟩)
      go_ret
      exact ⟨rfl, Below.refl _ _⟩
    · have t1 : (U c == 0) = false := by
        have : ¬ U c = 0 := fun h => hc (U_inj h)
        simpa using this
      exact walk_main s n c w hh hs hn t0 t1

theorem contract (H : Type) (enc : TypeId × Value → H) (W : World) (base : Nat) (args : Array Value) (ds gs : List (DataW H)) (before : List MemPlace)
    (hval : ∀ (j : Nat) t v, Tryd.f6.params[j]? = some t → args[j]? = some v → Value.okWide Tryd.prog W .any base t v)
    (hW : DataW.Whole enc Tryd.prog Tryd.f6.params.toList Rows.crcBurstsSpec.vars false W args.toList ds gs before) (hL : laidMetH Tryd.prog Rows.crcBurstsRow.laid W)
    (hz : (DataW.weightsEach Tryd.prog (Tryd.f6.params.toList ++ []) (ds ++ gs)).all (· ≤ reachBytes) = true) :
    Calls Tryd.prog 6 args W fun e W' => ∃ v, e = .returned v ∧ Rows.crcBurstsSpec.post enc Tryd.prog Tryd.f6 false true false false W args v W' := by
  have hW' := hW
  obtain ⟨p, q, hA0, hV, rfl, hfz, hnd⟩ := hW
  have hA : DataW.TrodAll enc Tryd.prog W 0 (fun _ => true) true Tryd.f6.params.toList args.toList ds p := hA0
  rw [Tryd.params6] at hA hval hz
  obtain ⟨v0, vs0, d0, ds0, p0, q0, hargs, rfl, rfl, h0, r0⟩ := trodAll_cons hA
  obtain ⟨v1, vs1, d1, ds1, p1, q1, rfl, rfl, rfl, h1, r1⟩ := trodAll_cons r0
  obtain ⟨v2, vs2, d2, ds2, p2, q2, rfl, rfl, rfl, h2, r2⟩ := trodAll_cons r1
  obtain ⟨rfl, rfl, rfl⟩ := trodAll_nil r2
  obtain rfl : args = #[v0, v1, v2] := by cases args; simp_all
  obtain ⟨rfl, rfl⟩ := trodVars_none hV
  obtain ⟨x0, rfl, rfl, rfl, w0⟩ := open_string Tryd.underlying9 (hval 0 9 v0 rfl rfl) h0
  have b0 : x0.size ≤ 140737488351232 := by have := sized_string hz (j := 0) (t := 9) rfl rfl; simpa [reachBytes] using this
  obtain ⟨x1, rfl, rfl, rfl, w1⟩ := open_int Tryd.underlying3 (hval 1 3 v1 rfl rfl) h1
  have b1 := i64_of_wf w1
  obtain ⟨y2, rfl, rfl, rfl, w2⟩ := open_int Tryd.underlying22 (hval 2 22 v2 rfl rfl) h2
  obtain ⟨x2, rfl⟩ := U_of_wf w2
  clear hA0
  refine (walk x0 x1 x2 W (half_of hL) b0 b1).mono fun e W' ⟨he, hb⟩ => ?_
  subst he
  exact ⟨_, rfl, law_end hW' rfl rfl hb laidOut (by kernel_rfl) (by kernel_rfl) Tryd.underlying4⟩

theorem reads (os : Os) {H : Type} (enc : TypeId × Value → H) : ∃ places, DataW.whole enc Tryd.prog ((laidWorld os).forCall (fun _ _ => 0) ⟨#[], #[.string ⟨#[]⟩, .int .i64 0, .int .u32 0], []⟩).memory Tryd.f6.params.toList Rows.crcBurstsSpec.vars false [Value.string ⟨#[]⟩, Value.int .i64 0, Value.int .u32 0] 8 = some ([.lit (.string []), .lit (.int .i64 0), .lit (.int .u32 0)], [], places) :=
  ⟨[], by kernel_rfl⟩

set_option maxRecDepth 100000 in
theorem lifted (os : Os) (started : os.Started) (H : Type) (enc : TypeId × Value → H) (F : Stop.Interp) :
    ReturnsInHanded {} Tryd.checked os 6 .any ((OpenSpec.ofChange Rows.crcBurstsSpec).preRow enc Tryd.prog Tryd.f6 Rows.crcBurstsRow.domain false Rows.crcBurstsRow.laid) (((OpenSpec.ofChange Rows.crcBurstsSpec).at F).post enc Tryd.prog Tryd.f6 false true false false) := by
  obtain ⟨places, hx⟩ := reads os enc
  have laid_met : laidMet Tryd.prog Rows.crcBurstsRow.laid ((laidWorld os).forCall (fun _ _ => 0) ⟨#[], #[.string ⟨#[]⟩, .int .i64 0, .int .u32 0], []⟩).memory := (laidMet_of_run' 8 (by kernel_rfl) (by kernel_rfl))
  refine returnsInHanded_of_row (C := Tryd.checked) (s := OpenSpec.ofChange Rows.crcBurstsSpec) own started (by kernel_rfl) Tryd.func6
    (witness_row_at (enc := enc) (C := Tryd.checked) false (laidWorld os) #[.string ⟨#[]⟩, .int .i64 0, .int .u32 0] rfl (by kernel_rfl) (by kernel_rfl) (by kernel_rfl)
      (OpenSpec.preRow_of_cond 8 hx (by kernel_rfl) (fun k hk => by cases hk) (by kernel_rfl) laid_met)) ?_
  intro W base args ds gs before hval hW _ _ hz hL _ _
  exact contract H enc W base args ds gs before hval hW hL hz

theorem said : Rows.CrcBurstsSaid :=
  OpenClaim.holds_of_cond 6 Tryd.f6 rfl rfl rfl rfl rfl rfl rfl ⟨rfl, rfl, rfl, rfl, rfl⟩ rfl rfl rfl rfl rfl (by kernel_rfl) Tryd.func6 (by kernel_rfl)
    (of_decide_eq_true (by kernel_rfl)) (by unfold Func.isWrapper; first | (rw [if_pos (by decide +kernel)]; kernel_rfl) | (rw [if_neg (by decide +kernel)]; exact ⟨rfl, rfl⟩))
    (fun os started H enc _ F => by rw [OpenClaim.pre_eq_preRow]; exact lifted os started H enc F)

theorem plain (f : FuncId) (fn : Func) (hf : Tryd.pinned.checked.prog.funcNamed "mahout/mahoutlaw01.CrcBursts" = some f) (hfn : Tryd.pinned.checked.prog.funcs[f]? = some fn) :
    false = Tryd.pinned.checked.prog.looks [] ∧ ∀ (j : Nat) t, fn.params[j]? = some t → Tryd.pinned.checked.prog.wantsStandIn t = false := by
  obtain rfl : f = 6 := Option.some.inj ((show Tryd.prog.funcNamed "mahout/mahoutlaw01.CrcBursts" = some 6 by kernel_rfl).symm.trans hf) |>.symm
  obtain rfl : fn = Tryd.f6 := (Option.some.inj (Tryd.func6.symm.trans hfn)).symm
  exact ⟨by kernel_rfl, fun j t ht => by
    rw [Tryd.params6] at ht
    have hm : t ∈ [9, 3, 22] := by simpa using Array.mem_of_getElem? ht
    have hall : ([9, 3, 22].all fun u => !Tryd.prog.wantsStandIn u) = true := by kernel_rfl
    exact (show Tryd.prog.wantsStandIn t = false by simpa using List.all_eq_true.1 hall t hm)⟩
/-- THE CARD -/
theorem card : Rows.CrcBurstsCardSaid :=
  Claim7.holds_tied_plain_at .later [] _ _ _ _ said (fun _ h => by cases h) (by kernel_rfl) (fun _ h => by cases h) crcBursts_row_tie rfl ⟨rfl, rfl⟩ (by kernel_rfl) rfl plain (by kernel_rfl)

end Go.Proofs.YtfgmeeoldcfjbaaDoor.fnCrcBursts
