/- WireThereAndBack is true for every list of items whose values and letters are together at most 1048576: what was put comes out again, and nothing is left. -/
import Derived.Test.YtfgmeeoldcfjbaaItems
import Derived.Test.YtfgmeeoldcfjbaaWireInv
import Derived.Deep.RegionHeld3

import Derived.Test.YtfgmeeoldcfjbaaLawEnd

import Derived.Test.YtfgmeeoldcfjbaaPlainKit

namespace Go.Proofs.Ytfgmeeoldcfjbaa.fnWireThereAndBack
open Go.ChangeShapes Go.WideShapes Go.ChangeAt Go.RowKit Go.WideMaps Go.WideElems
open Go.ChangeMaps (open_string)

theorem tint_num {n : Int} (hn : -9223372036854775808 ≤ n ∧ n ≤ 9223372036854775807) (t : List UInt8) : Wire.tInt ((numS n).data.toList ++ t) 0 = (n, t, 0) := by
  have e : (numS n).data.toList = Wire.num n := rfl
  unfold Wire.tInt
  rw [if_neg (by simp), e, Wire.num_rd hn t]
  show (Wire.zag (Wire.zig n), (Wire.num n ++ t).drop (Wire.num n).length, (0 : Int)) = _
  rw [Wire.zag_zig, List.drop_left]
theorem ttext_form (s : ByteArray) (hs : s.size ≤ 1048576) (t : List UInt8) : Wire.tText ((numS s.size ++ s).data.toList ++ t) 0 = (s.data.toList, t, 0) := by
  rw [ByteArray.data_append, Array.toList_append, List.append_assoc]
  unfold Wire.tText
  rw [tint_num (by omega)]
  have hl : s.data.toList.length = s.size := size_toList s
  simp only [ne_eq, not_true_eq_false, if_false]
  rw [if_neg (by omega), if_neg (by omega), if_neg (by rw [List.length_append, hl]; omega), Int.toNat_natCast, ← hl, List.take_left, List.drop_left]
theorem tbool_form (b : Bool) (t : List UInt8) : Wire.tBool ((boolS b).data.toList ++ t) 0 = (b, t, 0) := by
  cases b <;> rfl
/-- the forms from i on, n of them -/
def tl (it : Nat → It) : Nat → Nat → List UInt8
  | _, 0 => []
  | i, n + 1 => (formOf (it i)).data.toList ++ tl it (i + 1) n
theorem cat_forms_tl (it : Nat → It) : ∀ (n i : Nat), cat (forms it (i + n)) = cat (forms it i) ++ tl it i n
  | 0, i => by simp [tl]
  | n + 1, i => by
    have h := cat_forms_tl it n (i + 1)
    have e : i + 1 + n = i + (n + 1) := by omega
    rw [e] at h
    rw [h]
    show (cat (forms it i) ++ (formOf (it i)).data.toList) ++ tl it (i + 1) n = cat (forms it i) ++ ((formOf (it i)).data.toList ++ tl it (i + 1) n)
    rw [List.append_assoc]
theorem S_toList (s : ByteArray) : S s.data.toList = s := rfl
/-- the state of what is taken -/
def Taken (W : World) (u : Nat) (s : ByteArray) (l : List UInt8) (er : Int) (w : World) : Prop := UnIs w u s l er ∧ Below W.heap.size W w
theorem Taken.drew {W w : World} {u : Nat} {s : ByteArray} {l : List UInt8} {er : Int} (h : Hid (Taken W u s l er w)) : Hid (Taken W u s l er w.drew) :=
  Lib.hid ⟨h.out.1.drewN 1, below_drewN h.out.2 1⟩
theorem uint_taken {W w : World} {u b o : Nat} {v : Value} {s : ByteArray} {l : List UInt8} {n : Int} (h : Hid (Taken W u s l 0 w)) (hu : W.heap.size ≤ u) (hb : b < W.heap.size) (hs : s.size ≤ 140737488351232) {t : List UInt8} (ht : Hid (Wire.tInt l 0 = (n, t, 0))) (hc : w.cell? ⟨b, o, none⟩ = some v) :
    Calls Try.prog 16 #[.pointer (some ⟨u, 0, none⟩)] w fun e w' => e = .returned (.int .i64 n) ∧ Hid (Taken W u s t 0 w') ∧ w'.cell? ⟨b, o, none⟩ = some v := by
  refine (uint_any u s l 0 w hs h.out.1).mono ?_
  rw [ht.out]
  rintro e w' ⟨rfl, hU, hg⟩
  exact ⟨rfl, Lib.hid ⟨hU, below_grown h.out.2 hg hu h.out.2.size⟩, ((below_grown (Below.refl W.heap.size w |> fun _ => (⟨rfl, rfl, rfl, Nat.le_refl _, fun _ _ => rfl⟩ : Below W.heap.size w w)) hg hu h.out.2.size).cell (p := ⟨b, o, none⟩) hb).trans hc⟩
theorem utext_taken {W w : World} {u b o : Nat} {v : Value} {s x : ByteArray} {l : List UInt8} (h : Hid (Taken W u s l 0 w)) (hu : W.heap.size ≤ u) (hb : b < W.heap.size) (hs : s.size ≤ 140737488351232) {t : List UInt8} (ht : Hid (Wire.tText l 0 = (x.data.toList, t, 0))) (hc : w.cell? ⟨b, o, none⟩ = some v) :
    Calls Try.prog 18 #[.pointer (some ⟨u, 0, none⟩)] w fun e w' => e = .returned (.string x) ∧ Hid (Taken W u s t 0 w') ∧ w'.cell? ⟨b, o, none⟩ = some v := by
  refine (utext_any u s l 0 w hs h.out.1).mono ?_
  rw [ht.out]
  rintro e w' ⟨rfl, hU, hg⟩
  exact ⟨by rw [S_toList], Lib.hid ⟨hU, below_grown h.out.2 hg hu h.out.2.size⟩, ((below_grown (⟨rfl, rfl, rfl, Nat.le_refl _, fun _ _ => rfl⟩ : Below W.heap.size w w) hg hu h.out.2.size).cell (p := ⟨b, o, none⟩) hb).trans hc⟩
theorem ubool_taken {W w : World} {u b o : Nat} {v : Value} {s : ByteArray} {l : List UInt8} {n : Bool} (h : Hid (Taken W u s l 0 w)) (hu : W.heap.size ≤ u) (hb : b < W.heap.size) (hs : s.size ≤ 140737488351232) {t : List UInt8} (ht : Hid (Wire.tBool l 0 = (n, t, 0))) (hc : w.cell? ⟨b, o, none⟩ = some v) :
    Calls Try.prog 20 #[.pointer (some ⟨u, 0, none⟩)] w fun e w' => e = .returned (.bool n) ∧ Hid (Taken W u s t 0 w') ∧ w'.cell? ⟨b, o, none⟩ = some v := by
  refine (ubool_any u s l 0 w hs h.out.1).mono ?_
  rw [ht.out]
  rintro e w' ⟨rfl, hU, hg⟩
  exact ⟨rfl, Lib.hid ⟨hU, below_grown h.out.2 hg hu h.out.2.size⟩, ((below_grown (⟨rfl, rfl, rfl, Nat.le_refl _, fun _ _ => rfl⟩ : Below W.heap.size w w) hg hu h.out.2.size).cell (p := ⟨b, o, none⟩) hb).trans hc⟩

set_option maxRecDepth 100000 in
set_option maxHeartbeats 8000000 in
theorem walk (A : Option Addr) (len cap : Nat) (it : Nat → It) (w : World) (hl : len ≤ 2097152) (hI : Items w w.heap.size A len it) (hL : load it len ≤ 2097152) :
    Calls Try.prog 5 #[.slice A len cap] w fun e w' => e = .returned (.bool true) ∧ Below w.heap.size w w' := by
  have HI := Lib.hid hI
  have HL := Lib.hid hL
  clear hI hL
  go_enter Try.func5, Try.ntmps5
  go_wp2_with (fail)
  refine (speaks2_any _).mono ?_
  rintro e w1 ⟨rfl, hb1⟩
  have B1 := Lib.hid hb1
  clear hb1
  have P0 := Lib.hid (PackIs.new w1 26)
  have hal : Below w1.heap.size w1 (w1.alloc (.cells #[.pointer none] 26)) := (Below.refl _ _).alloc (Nat.le_refl _) _
  have B2 := Lib.hid (B1.out.trans (hal.mono B1.out.size))
  obtain ⟨p, hp⟩ : ∃ p, p = w1.heap.size := ⟨_, rfl⟩
  rw [← hp] at P0
  have HP := Lib.hid hp
  have hwp : w.heap.size ≤ p := by rw [hp]; exact B1.out.size
  clear hp hal
  go_wp2_with (fail)
  rw [← HP.out]
  go_loopg [4] len (fun k s4 wr => ∃ i : Nat, i ≤ len ∧ Hid (k = len - i) ∧ s4 = .int .i64 (i : Int) ∧ Hid (PackIs wr p (p + 1) (forms it i)) ∧ Hid (Below w.heap.size w wr) ∧ Hid (∀ j, j < i → kd (it j).k = 1 → (it j).s.size ≤ 1048576))
  case atStart => exact ⟨0, by omega, rfl, rfl, P0, B2, fun j hj => absurd hj (by omega)⟩
  case round =>
    obtain ⟨i, hi, HK, rfl, P1, BB, HT⟩ := hrel
    clear P0 B2 B1
    by_cases hlt : i < len
    · obtain ⟨b, off, rfl, hb, ⟨g0, g1, g2, g3⟩, hk, hn, hs⟩ := (HI.out.below BB.out) i hlt
      obtain ⟨x, hx⟩ : ∃ x, x = it i := ⟨_, rfl⟩
      rw [← hx] at g0 g1 g2 g3 hk hn hs
      have HX := Lib.hid hx
      have HKK := Lib.hid hk
      have HN := Lib.hid hn
      clear hx hk hn
      go_wp2_with (fail)
      rcases kd_cases x.k with hc | hc | hc
      · refine (kind_is x.k 0 _ HKK.out hc).mono ?_
        rintro e w3 ⟨rfl, rfl⟩
        have HF := Lib.hid (form0 hc)
        have hnb : Hid (∀ j, j < i + 1 → kd (it j).k = 1 → (it j).s.size ≤ 1048576) := fun j hj hjk => by
          rcases Nat.lt_or_ge j i with h | h
          · exact HT.out j h hjk
          · obtain rfl : j = i := by omega
            rw [← HX.out] at hjk; omega
        clear hc
        go_wp2_with (fail)
        refine (int_pack _ _ x.n _ _ P1.out HN.out).mono ?_
        rintro e w3 ⟨rfl, hp3, hg3⟩
        have P3 := Lib.hid hp3
        have BB3 := Lib.hid (below_grown BB.out hg3 (by omega) BB.out.size)
        clear hp3 hg3 P1 BB g0 g1 g2 g3
        go_wp2
        go_roundg (len - (i + 1))
        case measure => have := HK.out; omega
        case rel =>
          have e1 : forms it (i + 1) = numS x.n :: forms it i := by
            show formOf (it i) :: forms it i = _
            rw [← HX.out, HF.out]
          exact ⟨i + 1, by omega, rfl, by go_num, by rw [e1]; exact P3.out, BB3.out, hnb.out⟩
      · refine (kind_is x.k 1 _ HKK.out hc).mono ?_
        rintro e w3 ⟨rfl, rfl⟩
        have HF := Lib.hid (form1 hc)
        by_cases hbig : 1048576 < x.s.size
        · have t1 : (1048576 : Int) < (x.s.size : Int) := by omega
          clear hc
          go_wp2
          go_ret
          exact ⟨rfl, BB.out⟩
        have hnb : Hid (∀ j, j < i + 1 → kd (it j).k = 1 → (it j).s.size ≤ 1048576) := fun j hj hjk => by
          rcases Nat.lt_or_ge j i with h | h
          · exact HT.out j h hjk
          · obtain rfl : j = i := by omega
            rw [← HX.out]; omega
        have t1 : ¬ (1048576 : Int) < (x.s.size : Int) := by omega
        clear hbig
        clear hc
        go_wp2_with (fail)
        refine (text_pack _ _ x.s _ _ P1.out hs).mono ?_
        rintro e w3 ⟨rfl, hp3, hg3⟩
        have P3 := Lib.hid hp3
        have BB3 := Lib.hid (below_grown BB.out hg3 (by omega) BB.out.size)
        clear hp3 hg3 P1 BB g0 g1 g2 g3
        go_wp2
        go_roundg (len - (i + 1))
        case measure => have := HK.out; omega
        case rel =>
          have e1 : forms it (i + 1) = (numS x.s.size ++ x.s) :: forms it i := by
            show formOf (it i) :: forms it i = _
            rw [← HX.out, HF.out]
          exact ⟨i + 1, by omega, rfl, by go_num, by rw [e1]; exact P3.out, BB3.out, hnb.out⟩
      · refine (kind_is x.k 2 _ HKK.out hc).mono ?_
        rintro e w3 ⟨rfl, rfl⟩
        have HF := Lib.hid (form2 hc)
        have hnb : Hid (∀ j, j < i + 1 → kd (it j).k = 1 → (it j).s.size ≤ 1048576) := fun j hj hjk => by
          rcases Nat.lt_or_ge j i with h | h
          · exact HT.out j h hjk
          · obtain rfl : j = i := by omega
            rw [← HX.out] at hjk; omega
        clear hc
        go_wp2_with (fail)
        refine (bool_pack _ _ x.b _ _ P1.out).mono ?_
        rintro e w3 ⟨rfl, hp3, hg3⟩
        have P3 := Lib.hid hp3
        have BB3 := Lib.hid (below_grown BB.out hg3 (by omega) BB.out.size)
        clear hp3 hg3 P1 BB g0 g1 g2 g3
        go_wp2
        go_roundg (len - (i + 1))
        case measure => have := HK.out; omega
        case rel =>
          have e1 : forms it (i + 1) = boolS x.b :: forms it i := by
            show formOf (it i) :: forms it i = _
            rw [← HX.out, HF.out]
          exact ⟨i + 1, by omega, rfl, by go_num, by rw [e1]; exact P3.out, BB3.out, hnb.out⟩
    · obtain rfl : i = len := by omega
      have htot := Nat.le_trans (tot_forms it i) HL.out
      go_wp2_with (fail)
      refine (bytes_pack _ _ _ _ P1.out (by omega)).mono ?_
      rintro e w6 ⟨rfl, hb⟩
      have BB6 := Lib.hid (BB.out.trans (hb.mono BB.out.size))
      clear hb P1 BB
      obtain ⟨T, hT⟩ : ∃ T, T = catS (forms it i) := ⟨_, rfl⟩
      have hSs : T.size ≤ 140737488351232 := by rw [hT, catS_size]; omega
      have hTl : T.data.toList = tl it 0 i := by rw [hT]; have h := cat_forms_tl it i 0; rw [Nat.zero_add] at h; exact h
      rw [← hT]
      have HTL := Lib.hid hTl
      clear hT hTl htot
      go_wp2_with (fail)
      refine (open_any T _).mono ?_
      rintro e w7 ⟨u, rfl, hu, hU, hb⟩
      rw [HTL.out] at hU
      have huw : w.heap.size ≤ u := by rw [hu]; exact BB6.out.size
      have T0 : Hid (Taken w u T (tl it 0 i) 0 w7) := Lib.hid ⟨hU, BB6.out.trans (hb.mono BB6.out.size)⟩
      clear hb hU hu BB6
      have HI2 := HI
      clear HI HK HP hwp
      go_wp2_with (fail)
      go_loopg [6] i (fun k s6 wr => ∃ j m : Nat, j + m = i ∧ Hid (k = i - j) ∧ s6 = .int .i64 (j : Int) ∧ Hid (Taken w u T (tl it j m) 0 wr))
      case atStart => exact ⟨0, i, by omega, rfl, rfl, T0⟩
      case round =>
        obtain ⟨j, m, hjm, HK, rfl, TT⟩ := hrel
        clear T0
        cases m with
        | zero =>
          have t0 : (i : Int) ≤ (j : Int) := by omega
          have hE : Wire.tEnd (tl it j 0) 0 = 0 := rfl
          go_wp2_with (fail)
          refine (uend_any u T (tl it j 0) 0 _ hSs TT.out.1).mono ?_
          rw [hE]
          rintro e w8 ⟨rfl, nq, rfl⟩
          go_wp2
          go_ret
          exact ⟨rfl, below_drewN TT.out.2 nq⟩
        | succ m =>
          have hlt2 : j < i := by omega
          obtain ⟨b, off, rfl, hb, ⟨g0, g1, g2, g3⟩, hk, hn, hs⟩ := (HI2.out.below TT.out.2) j hlt2
          obtain ⟨x, hx⟩ : ∃ x, x = it j := ⟨_, rfl⟩
          rw [← hx] at g0 g1 g2 g3 hk hn hs
          have HX := Lib.hid hx
          have HKK := Lib.hid hk
          have HN := Lib.hid hn
          clear hx hk hn
          go_wp2_with (fail)
          rcases kd_cases x.k with hc | hc | hc
          · refine (kind_is x.k 0 _ HKK.out hc).mono ?_
            rintro e w3 ⟨rfl, rfl⟩
            have ht : Hid (Wire.tInt (tl it j (m + 1)) 0 = (x.n, tl it (j + 1) m, 0)) := by
              show _ = _
              show Wire.tInt ((formOf (it j)).data.toList ++ tl it (j + 1) m) 0 = _
              rw [← HX.out, form0 hc]
              exact tint_num HN.out _
            clear hc
            go_wp2_with (fail)
            have T1 := Taken.drew TT
            go_region_held3 (fun w' => w'.cell? ⟨b, off + j * 4 + 1, none⟩ = some (.int .i64 x.n)) (first | assumption | exact g1)
              (first | (go_at_call 16; refine (uint_taken T1 huw hb hSs ht (by assumption)).mono ?_; rintro e w' ⟨rfl, hT', hS⟩))
            go_wp2
            go_roundg (i - (j + 1))
            case measure => have := HK.out; omega
            case rel => exact ⟨j + 1, m, by omega, rfl, by go_num, by assumption⟩
          · refine (kind_is x.k 1 _ HKK.out hc).mono ?_
            rintro e w3 ⟨rfl, rfl⟩
            have hsz : x.s.size ≤ 1048576 := by rw [HX.out]; exact HT.out j hlt2 (by rw [← HX.out]; exact hc)
            have ht : Hid (Wire.tText (tl it j (m + 1)) 0 = (x.s.data.toList, tl it (j + 1) m, 0)) := by
              show _ = _
              show Wire.tText ((formOf (it j)).data.toList ++ tl it (j + 1) m) 0 = _
              rw [← HX.out, form1 hc]
              exact ttext_form x.s hsz _
            clear hc
            go_wp2_with (fail)
            have T1 := Taken.drew TT
            go_region_held3 (fun w' => w'.cell? ⟨b, off + j * 4 + 2, none⟩ = some (.string x.s)) (first | assumption | exact g2)
              (first | (go_at_call 18; refine (utext_taken T1 huw hb hSs ht (by assumption)).mono ?_; rintro e w' ⟨rfl, hT', hS⟩))
            go_wp2
            go_roundg (i - (j + 1))
            case measure => have := HK.out; omega
            case rel => exact ⟨j + 1, m, by omega, rfl, by go_num, by assumption⟩
          · refine (kind_is x.k 2 _ HKK.out hc).mono ?_
            rintro e w3 ⟨rfl, rfl⟩
            have ht : Hid (Wire.tBool (tl it j (m + 1)) 0 = (x.b, tl it (j + 1) m, 0)) := by
              show _ = _
              show Wire.tBool ((formOf (it j)).data.toList ++ tl it (j + 1) m) 0 = _
              rw [← HX.out, form2 hc]
              exact tbool_form x.b _
            clear hc
            go_wp2_with (fail)
            have T1 := Taken.drew TT
            go_region_held3 (fun w' => w'.cell? ⟨b, off + j * 4 + 3, none⟩ = some (.bool x.b)) (first | assumption | exact g3)
              (first | (go_at_call 20; refine (ubool_taken T1 huw hb hSs ht (by assumption)).mono ?_; rintro e w' ⟨rfl, hT', hS⟩))
            go_wp2
            go_roundg (i - (j + 1))
            case measure => have := HK.out; omega
            case rel => exact ⟨j + 1, m, by omega, rfl, by go_num, by assumption⟩

theorem contractUpto (H : Type) (enc : TypeId × Value → H) (W : World) (base : Nat) (args : Array Value) (ds gs : List (DataW H)) (before : List MemPlace)
    (hval : ∀ (j : Nat) t v, Try.f5.params[j]? = some t → args[j]? = some v → Value.okWide Try.prog W .any base t v)
    (hW : DataW.Whole enc Try.prog Try.f5.params.toList Rows.wireThereAndBackSpec.vars false W args.toList ds gs before)
    (hz : (DataW.weightsEach Try.prog (Try.f5.params.toList ++ []) (ds ++ gs)).all (· ≤ reachBytes) = true) (hk : Rows.uptoSmall H (ds ++ gs) = true) :
    Calls Try.prog 5 args W fun e W' => ∃ v, e = .returned v ∧ Rows.wireThereAndBackSpec.post enc Try.prog Try.f5 false true false false W args v W' := by
  have hW' := hW
  obtain ⟨p, q, hA0, hV, rfl, hfz, hnd⟩ := hW
  have hA : DataW.TrodAll enc Try.prog W 0 (fun _ => true) true Try.f5.params.toList args.toList ds p := hA0
  rw [Try.params5] at hA hval hz
  obtain ⟨v0, vs0, d0, ds0, p0, q0, hargs, rfl, rfl, h0, r0⟩ := trodAll_cons hA
  obtain ⟨rfl, rfl, rfl⟩ := trodAll_nil r0
  obtain rfl : args = #[v0] := by cases args; simp_all
  obtain ⟨rfl, rfl⟩ := trodVars_none hV
  have hk0 : Rows.uptoBulk d0 ≤ 1048576 := by have h := of_decide_eq_true hk; simp only [List.append_nil, List.cons_append, List.nil_append, Rows.uptoBulkAll] at h; omega
  obtain ⟨A, len, cap, it, rfl, hl, hI, hL⟩ := open_items (hval 0 22 v0 rfl rfl) h0 hk0
  clear hA0
  refine (walk A len cap it W hl hI hL).mono fun e W' ⟨he, hb⟩ => ?_
  subst he
  exact ⟨_, rfl, law_end hW' rfl rfl hb laidOut (by kernel_rfl) (by kernel_rfl) Try.underlying4⟩

theorem reads (os : Os) {H : Type} (enc : TypeId × Value → H) : ∃ places, DataW.whole enc Try.prog ((World.holding Try.prog os ⟨#[], #[], []⟩).forCall (fun _ _ => 0) ⟨#[], #[.slice none 0 0], []⟩).memory Try.f5.params.toList Rows.wireThereAndBackSpec.vars false [Value.slice none 0 0] 8 = some ([.nil], [], places) :=
  ⟨[], by kernel_rfl⟩

set_option maxRecDepth 100000 in
theorem lifted (os : Os) (started : os.Started) (H : Type) (enc : TypeId × Value → H) (F : Stop.Interp) :
    ReturnsInHanded {} Try.checked os 5 .any ((Rows.OpenSpec.upto Rows.wireThereAndBackSpec).preRow enc Try.prog Try.f5 Rows.wireThereAndBackUptoRow.domain false Rows.wireThereAndBackUptoRow.laid) (((Rows.OpenSpec.upto Rows.wireThereAndBackSpec).at F).post enc Try.prog Try.f5 false true false false) := by
  obtain ⟨places, hx⟩ := reads os enc
  have laid_met : laidMet Try.prog Rows.wireThereAndBackUptoRow.laid ((World.holding Try.prog os ⟨#[], #[], []⟩).forCall (fun _ _ => 0) ⟨#[], #[.slice none 0 0], []⟩).memory := ⟨[], rfl, List.nodup_nil, fun _ _ h => by cases h⟩
  refine returnsInHanded_of_row (C := Try.checked) (s := Rows.OpenSpec.upto Rows.wireThereAndBackSpec) own started (by kernel_rfl) Try.func5
    (witness_row_at (enc := enc) (C := Try.checked) false (World.holding Try.prog os ⟨#[], #[], []⟩) #[.slice none 0 0] rfl (by kernel_rfl) (by kernel_rfl) (by kernel_rfl)
      (OpenSpec.preRow_of_cond 8 hx (by kernel_rfl) (fun k hk => by cases hk; kernel_rfl) (by kernel_rfl) laid_met)) ?_
  intro W base args ds gs before hval hW _ hcond hz _ _ _
  exact contractUpto H enc W base args ds gs before hval hW hz (hcond _ rfl)

theorem said : Rows.WireThereAndBackUptoSaid :=
  OpenClaim.holds_of_cond 5 Try.f5 rfl rfl rfl rfl rfl rfl rfl ⟨rfl, rfl, rfl, rfl, rfl⟩ rfl rfl rfl rfl rfl (by kernel_rfl) Try.func5 (by kernel_rfl)
    (of_decide_eq_true (by kernel_rfl)) (by unfold Func.isWrapper; first | (rw [if_pos (by decide +kernel)]; kernel_rfl) | (rw [if_neg (by decide +kernel)]; exact ⟨rfl, rfl⟩))
    (fun os started H enc _ F => by rw [OpenClaim.pre_eq_preRow]; exact lifted os started H enc F)

end Go.Proofs.Ytfgmeeoldcfjbaa.fnWireThereAndBack
