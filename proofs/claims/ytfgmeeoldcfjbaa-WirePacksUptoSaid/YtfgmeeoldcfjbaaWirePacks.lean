/- WirePacks is true for every list of items whose values and letters are together at most 1048576: what is put is put in its one form, item by item, and two packs don't touch one another. -/
import Derived.Test.YtfgmeeoldcfjbaaItems
import Derived.Test.YtfgmeeoldcfjbaaRefNum

import Derived.Test.YtfgmeeoldcfjbaaLawEnd

import Derived.Test.YtfgmeeoldcfjbaaPlainKit

namespace Go.Proofs.Ytfgmeeoldcfjbaa.fnWirePacks
open Go.ChangeShapes Go.WideShapes Go.ChangeAt Go.RowKit Go.WideMaps Go.WideElems
open Go.ChangeMaps (open_string)

theorem catS_cons' (it : Nat → It) (i : Nat) : catS (formOf (it i) :: forms it i) = catS (forms it i) ++ formOf (it i) := catS_cons _ _
theorem catS_nil : catS [] = ⟨#[]⟩ := rfl

set_option maxHeartbeats 4000000 in
theorem walk (A : Option Addr) (len cap : Nat) (it : Nat → It) (w : World) (hl : len ≤ 2097152) (hI : Items w w.heap.size A len it) (hL : load it len ≤ 2097152) :
    Calls Try.prog 3 #[.slice A len cap] w fun e w' => e = .returned (.bool true) ∧ Below w.heap.size w w' := by
  have HI := Lib.hid hI
  have HL := Lib.hid hL
  clear hI hL
  go_enter Try.func3, Try.ntmps3
  go_wp2_with (fail)
  refine (speaks2_any _).mono ?_
  rintro e w1 ⟨rfl, hb1⟩
  have B1 := Lib.hid hb1
  clear hb1
  have P0 := Lib.hid (two_first w1 26)
  have Q0 := Lib.hid (two_second w1 26)
  have B2 := Lib.hid (two_below B1.out 26 B1.out.size)
  have hsz := B1.out.size
  obtain ⟨p, hp⟩ : ∃ p, p = w1.heap.size := ⟨_, rfl⟩
  rw [← hp] at P0 Q0
  have HP := Lib.hid hp
  have hwp : w.heap.size ≤ p := by rw [hp]; exact hsz
  clear hp
  go_wp2_with (fail)
  rw [← HP.out]
  go_loopg [6, 7] len (fun k s6 s7 wr => ∃ i : Nat, i ≤ len ∧ Hid (k = len - i) ∧ s7 = .int .i64 (i : Int) ∧ s6 = .string (catS (forms it i)) ∧ Hid (PackIs wr p (p + 2) (forms it i)) ∧ Hid (PackIs wr (p + 1) (p + 2) []) ∧ Hid (Below w.heap.size w wr))
  case atStart => exact ⟨0, by omega, rfl, rfl, rfl, P0, Q0, B2⟩
  case round =>
    obtain ⟨i, hi, HK, rfl, rfl, P1, Q1, BB⟩ := hrel
    clear P0 Q0 B2 B1
    by_cases hlt : i < len
    · obtain ⟨b, off, rfl, hb, ⟨g0, g1, g2, g3⟩, hk, hn, hs⟩ := (HI.out.below BB.out) i hlt
      obtain ⟨x, hx⟩ : ∃ x, x = it i := ⟨_, rfl⟩
      rw [← hx] at g0 g1 g2 g3 hk hn hs
      have HX := Lib.hid hx
      have HKK := Lib.hid hk
      have HN := Lib.hid hn
      clear hx hk hn
      have X0 := Lib.hid (XB.new wr 29 x)
      have hal : Below wr.heap.size wr (wr.alloc (.cells #[.int .i64 x.k, .int .i64 x.n, .string x.s, .bool x.b] 29)) := (Below.refl _ _).alloc (Nat.le_refl _) _
      have P2 := Lib.hid (P1.out.below hal (Nat.le_refl _))
      have Q2 := Lib.hid (Q1.out.below hal (Nat.le_refl _))
      have BB2 := Lib.hid (BB.out.trans (hal.mono BB.out.size))
      clear hal
      obtain ⟨G, hG⟩ : ∃ G, G = wr.heap.size := ⟨_, rfl⟩
      have hpG : p + 2 ≤ G := by rw [hG]; exact P1.out.2.1
      have hwG : w.heap.size ≤ G := by rw [hG]; exact BB.out.size
      have htot := Nat.le_trans (tot_forms it i) (Nat.le_trans (load_mono it (Nat.le_of_lt hlt)) HL.out)
      have htot2 := Nat.le_trans (tot_forms it (i + 1)) (Nat.le_trans (load_mono it hlt) HL.out)
      have hcz : (catS (forms it i)).size ≤ 2097152 := by rw [catS_size]; exact htot
      go_wp2_with (fail)
      have hs2 : G < (wr.alloc (.cells #[.int .i64 x.k, .int .i64 x.n, .string x.s, .bool x.b] 29)).heap.size := by rw [hG]; simp
      have X2 := X0
      clear X0
      rw [← hG] at X2 ⊢
      generalize wr.alloc (.cells #[.int .i64 x.k, .int .i64 x.n, .string x.s, .bool x.b] 29) = W2 at X2 P2 Q2 BB2 hs2 ⊢
      clear g0 g1 g2 g3 hG P1 Q1 BB
      rcases kd_cases x.k with hc | hc | hc
      · -- kind 0
        refine (kind_is x.k 0 _ HKK.out hc).mono ?_
        rintro e w3 ⟨rfl, rfl⟩
        have HF := Lib.hid (form0 hc)
        clear hc
        obtain ⟨c0, c1, c2, c3⟩ := X2.out
        go_wp2_with (fail)
        refine (int_pack _ _ x.n _ _ P2.out HN.out).mono ?_
        rintro e w3 ⟨rfl, hp3, hg3⟩
        have P3 := Lib.hid hp3
        have Q3 := Lib.hid (Q2.out.grown hg3 (by omega) (by omega))
        have X3 := Lib.hid (X2.out.grown hg3 hs2 (by omega))
        have BB3 := Lib.hid (below_grown BB2.out hg3 (by omega) BB2.out.size)
        have hs3 := Nat.lt_of_lt_of_le hs2 hg3.size
        clear hp3 hg3 P2 Q2 X2 BB2 hs2 c0 c1 c2 c3
        obtain ⟨c0, c1, c2, c3⟩ := X3.out
        go_wp2_with (fail)
        refine (int_nil x.n _ HN.out).mono ?_
        rintro e w4 ⟨rfl, hb⟩
        have P4 := Lib.hid (P3.out.below hb (Nat.le_refl _))
        have Q4 := Lib.hid (Q3.out.below hb (Nat.le_refl _))
        have X4 := Lib.hid (X3.out.below hb hs3)
        have BB4 := Lib.hid (BB3.out.trans (hb.mono BB3.out.size))
        have hs4 := Nat.lt_of_lt_of_le hs3 hb.size
        clear hb P3 Q3 X3 BB3 hs3 c0 c1 c2 c3
        obtain ⟨c0, c1, c2, c3⟩ := X4.out
        go_wp2_with (fail)
        refine (rint_any x.n _ HN.out).mono ?_
        rintro e w5 ⟨rfl, hb⟩
        have P5 := Lib.hid (P4.out.below hb (Nat.le_refl _))
        have Q5 := Lib.hid (Q4.out.below hb (Nat.le_refl _))
        have X5 := Lib.hid (X4.out.below hb hs4)
        have BB5 := Lib.hid (BB4.out.trans (hb.mono BB4.out.size))
        have hs5 := Nat.lt_of_lt_of_le hs4 hb.size
        clear hb P4 Q4 X4 BB4 hs4 c0 c1 c2 c3
        obtain ⟨c0, c1, c2, c3⟩ := X5.out
        have hfs : (numS x.n).size ≤ 140737488351300 := by have := numS_size x.n; omega
        have hcc := catS_cons (numS x.n) (forms it i)
        have ht5 : tot (numS x.n :: forms it i) ≤ 281474976710656 := by
          have h1 := htot2
          simp only [forms] at h1
          rw [← HX.out, HF.out] at h1
          omega
        go_wp2_with (fail)
        refine (bytes_pack _ _ _ _ P5.out ht5).mono ?_
        rw [hcc]
        rintro e w6 ⟨rfl, hb⟩
        have HCC := Lib.hid hcc
        clear hcc ht5
        have P6 := Lib.hid (P5.out.below hb (Nat.le_refl _))
        have Q6 := Lib.hid (Q5.out.below hb (Nat.le_refl _))
        have X6 := Lib.hid (X5.out.below hb hs5)
        have BB6 := Lib.hid (BB5.out.trans (hb.mono BB5.out.size))
        have hs6 := Nat.lt_of_lt_of_le hs5 hb.size
        clear hb P5 Q5 X5 BB5 hs5 c0 c1 c2 c3
        obtain ⟨c0, c1, c2, c3⟩ := X6.out
        go_wp2
        go_roundg (len - (i + 1))
        case measure => have := HK.out; omega
        case rel =>
          have e1 : forms it (i + 1) = (numS x.n) :: forms it i := by
            show formOf (it i) :: forms it i = _
            rw [← HX.out, HF.out]
          exact ⟨i + 1, by omega, rfl, by go_num, by rw [e1, HCC.out], by rw [e1]; exact P6.out, Q6.out, BB6.out⟩
      · -- kind 1
        refine (kind_is x.k 1 _ HKK.out hc).mono ?_
        rintro e w3 ⟨rfl, rfl⟩
        have HF := Lib.hid (form1 hc)
        clear hc
        obtain ⟨c0, c1, c2, c3⟩ := X2.out
        go_wp2_with (fail)
        refine (text_pack _ _ x.s _ _ P2.out hs).mono ?_
        rintro e w3 ⟨rfl, hp3, hg3⟩
        have P3 := Lib.hid hp3
        have Q3 := Lib.hid (Q2.out.grown hg3 (by omega) (by omega))
        have X3 := Lib.hid (X2.out.grown hg3 hs2 (by omega))
        have BB3 := Lib.hid (below_grown BB2.out hg3 (by omega) BB2.out.size)
        have hs3 := Nat.lt_of_lt_of_le hs2 hg3.size
        clear hp3 hg3 P2 Q2 X2 BB2 hs2 c0 c1 c2 c3
        obtain ⟨c0, c1, c2, c3⟩ := X3.out
        go_wp2_with (fail)
        refine (text_nil x.s _ hs).mono ?_
        rintro e w4 ⟨rfl, hb⟩
        have P4 := Lib.hid (P3.out.below hb (Nat.le_refl _))
        have Q4 := Lib.hid (Q3.out.below hb (Nat.le_refl _))
        have X4 := Lib.hid (X3.out.below hb hs3)
        have BB4 := Lib.hid (BB3.out.trans (hb.mono BB3.out.size))
        have hs4 := Nat.lt_of_lt_of_le hs3 hb.size
        clear hb P3 Q3 X3 BB3 hs3 c0 c1 c2 c3
        obtain ⟨c0, c1, c2, c3⟩ := X4.out
        go_wp2_with (fail)
        refine (rtext_any x.s _ hs).mono ?_
        rintro e w5 ⟨rfl, hb⟩
        have P5 := Lib.hid (P4.out.below hb (Nat.le_refl _))
        have Q5 := Lib.hid (Q4.out.below hb (Nat.le_refl _))
        have X5 := Lib.hid (X4.out.below hb hs4)
        have BB5 := Lib.hid (BB4.out.trans (hb.mono BB4.out.size))
        have hs5 := Nat.lt_of_lt_of_le hs4 hb.size
        clear hb P4 Q4 X4 BB4 hs4 c0 c1 c2 c3
        obtain ⟨c0, c1, c2, c3⟩ := X5.out
        have hfs : (numS x.s.size ++ x.s).size ≤ 140737488351300 := by rw [ByteArray.size_append]; have := numS_size x.s.size; omega
        have hcc := catS_cons (numS x.s.size ++ x.s) (forms it i)
        have ht5 : tot ((numS x.s.size ++ x.s) :: forms it i) ≤ 281474976710656 := by
          have h1 := htot2
          simp only [forms] at h1
          rw [← HX.out, HF.out] at h1
          omega
        go_wp2_with (fail)
        refine (bytes_pack _ _ _ _ P5.out ht5).mono ?_
        rw [hcc]
        rintro e w6 ⟨rfl, hb⟩
        have HCC := Lib.hid hcc
        clear hcc ht5
        have P6 := Lib.hid (P5.out.below hb (Nat.le_refl _))
        have Q6 := Lib.hid (Q5.out.below hb (Nat.le_refl _))
        have X6 := Lib.hid (X5.out.below hb hs5)
        have BB6 := Lib.hid (BB5.out.trans (hb.mono BB5.out.size))
        have hs6 := Nat.lt_of_lt_of_le hs5 hb.size
        clear hb P5 Q5 X5 BB5 hs5 c0 c1 c2 c3
        obtain ⟨c0, c1, c2, c3⟩ := X6.out
        go_wp2
        go_roundg (len - (i + 1))
        case measure => have := HK.out; omega
        case rel =>
          have e1 : forms it (i + 1) = (numS x.s.size ++ x.s) :: forms it i := by
            show formOf (it i) :: forms it i = _
            rw [← HX.out, HF.out]
          exact ⟨i + 1, by omega, rfl, by go_num, by rw [e1, HCC.out], by rw [e1]; exact P6.out, Q6.out, BB6.out⟩
      · -- kind 2
        refine (kind_is x.k 2 _ HKK.out hc).mono ?_
        rintro e w3 ⟨rfl, rfl⟩
        have HF := Lib.hid (form2 hc)
        clear hc
        obtain ⟨c0, c1, c2, c3⟩ := X2.out
        go_wp2_with (fail)
        refine (bool_pack _ _ x.b _ _ P2.out).mono ?_
        rintro e w3 ⟨rfl, hp3, hg3⟩
        have P3 := Lib.hid hp3
        have Q3 := Lib.hid (Q2.out.grown hg3 (by omega) (by omega))
        have X3 := Lib.hid (X2.out.grown hg3 hs2 (by omega))
        have BB3 := Lib.hid (below_grown BB2.out hg3 (by omega) BB2.out.size)
        have hs3 := Nat.lt_of_lt_of_le hs2 hg3.size
        clear hp3 hg3 P2 Q2 X2 BB2 hs2 c0 c1 c2 c3
        obtain ⟨c0, c1, c2, c3⟩ := X3.out
        go_wp2_with (fail)
        refine (bool_nil x.b _).mono ?_
        rintro e w4 ⟨rfl, rfl⟩
        go_wp2_with (fail)
        refine (rbool_any x.b _).mono ?_
        rintro e w5 ⟨rfl, rfl⟩
        have hfs : (boolS x.b).size ≤ 140737488351300 := by have := boolS_size x.b; omega
        have hcc := catS_cons (boolS x.b) (forms it i)
        have ht5 : tot (boolS x.b :: forms it i) ≤ 281474976710656 := by
          have h1 := htot2
          simp only [forms] at h1
          rw [← HX.out, HF.out] at h1
          omega
        go_wp2_with (fail)
        refine (bytes_pack _ _ _ _ P3.out ht5).mono ?_
        rw [hcc]
        rintro e w6 ⟨rfl, hb⟩
        have HCC := Lib.hid hcc
        clear hcc ht5
        have P6 := Lib.hid (P3.out.below hb (Nat.le_refl _))
        have Q6 := Lib.hid (Q3.out.below hb (Nat.le_refl _))
        have X6 := Lib.hid (X3.out.below hb hs3)
        have BB6 := Lib.hid (BB3.out.trans (hb.mono BB3.out.size))
        have hs6 := Nat.lt_of_lt_of_le hs3 hb.size
        clear hb P3 Q3 X3 BB3 hs3 c0 c1 c2 c3
        obtain ⟨c0, c1, c2, c3⟩ := X6.out
        go_wp2
        go_roundg (len - (i + 1))
        case measure => have := HK.out; omega
        case rel =>
          have e1 : forms it (i + 1) = (boolS x.b) :: forms it i := by
            show formOf (it i) :: forms it i = _
            rw [← HX.out, HF.out]
          exact ⟨i + 1, by omega, rfl, by go_num, by rw [e1, HCC.out], by rw [e1]; exact P6.out, Q6.out, BB6.out⟩
    · obtain rfl : i = len := by omega
      clear HI HL
      go_wp2_with (fail)
      refine (bytes_pack _ _ _ _ Q1.out (by simp [tot])).mono ?_
      rw [catS_nil]
      rintro e w6 ⟨rfl, hb⟩
      have BB6 := Lib.hid (BB.out.trans (hb.mono BB.out.size))
      clear hb P1 Q1 BB
      go_wp2_with (fail)
      refine (bytes_nil _).mono ?_
      rintro e w7 ⟨rfl, rfl⟩
      go_wp2
      go_ret
      exact ⟨rfl, BB6.out⟩

theorem contractUpto (H : Type) (enc : TypeId × Value → H) (W : World) (base : Nat) (args : Array Value) (ds gs : List (DataW H)) (before : List MemPlace)
    (hval : ∀ (j : Nat) t v, Try.f3.params[j]? = some t → args[j]? = some v → Value.okWide Try.prog W .any base t v)
    (hW : DataW.Whole enc Try.prog Try.f3.params.toList Rows.wirePacksSpec.vars false W args.toList ds gs before)
    (hz : (DataW.weightsEach Try.prog (Try.f3.params.toList ++ []) (ds ++ gs)).all (· ≤ reachBytes) = true) (hk : Rows.uptoSmall H (ds ++ gs) = true) :
    Calls Try.prog 3 args W fun e W' => ∃ v, e = .returned v ∧ Rows.wirePacksSpec.post enc Try.prog Try.f3 false true false false W args v W' := by
  have hW' := hW
  obtain ⟨p, q, hA0, hV, rfl, hfz, hnd⟩ := hW
  have hA : DataW.TrodAll enc Try.prog W 0 (fun _ => true) true Try.f3.params.toList args.toList ds p := hA0
  rw [Try.params3] at hA hval hz
  obtain ⟨v0, vs0, d0, ds0, p0, q0, hargs, rfl, rfl, h0, r0⟩ := trodAll_cons hA
  obtain ⟨rfl, rfl, rfl⟩ := trodAll_nil r0
  obtain rfl : args = #[v0] := by cases args; simp_all
  obtain ⟨rfl, rfl⟩ := trodVars_none hV
  have hk0 : Rows.uptoBulk d0 ≤ 1048576 := by have h := of_decide_eq_true hk; simp only [List.append_nil, List.cons_append, List.nil_append, Rows.uptoBulkAll] at h; omega
  obtain ⟨A, len, cap, it, rfl, hl, hI, hL⟩ := open_items (hval 0 22 v0 rfl rfl) h0 hk0
  clear hA0
  refine (walk A len cap it W hl hI hL).mono fun e W' ⟨he, hb⟩ => ?_
  subst he
  exact ⟨_, rfl, law_end hW' rfl rfl hb laidOut (by kernel_rfl) (by kernel_rfl) Try.underlying4⟩

theorem reads (os : Os) {H : Type} (enc : TypeId × Value → H) : ∃ places, DataW.whole enc Try.prog ((World.holding Try.prog os ⟨#[], #[], []⟩).forCall (fun _ _ => 0) ⟨#[], #[.slice none 0 0], []⟩).memory Try.f3.params.toList Rows.wirePacksSpec.vars false [Value.slice none 0 0] 8 = some ([.nil], [], places) :=
  ⟨[], by kernel_rfl⟩

set_option maxRecDepth 100000 in
theorem lifted (os : Os) (started : os.Started) (H : Type) (enc : TypeId × Value → H) (F : Stop.Interp) :
    ReturnsInHanded {} Try.checked os 3 .any ((Rows.OpenSpec.upto Rows.wirePacksSpec).preRow enc Try.prog Try.f3 Rows.wirePacksUptoRow.domain false Rows.wirePacksUptoRow.laid) (((Rows.OpenSpec.upto Rows.wirePacksSpec).at F).post enc Try.prog Try.f3 false true false false) := by
  obtain ⟨places, hx⟩ := reads os enc
  have laid_met : laidMet Try.prog Rows.wirePacksUptoRow.laid ((World.holding Try.prog os ⟨#[], #[], []⟩).forCall (fun _ _ => 0) ⟨#[], #[.slice none 0 0], []⟩).memory := ⟨[], rfl, List.nodup_nil, fun _ _ h => by cases h⟩
  refine returnsInHanded_of_row (C := Try.checked) (s := Rows.OpenSpec.upto Rows.wirePacksSpec) own started (by kernel_rfl) Try.func3
    (witness_row_at (enc := enc) (C := Try.checked) false (World.holding Try.prog os ⟨#[], #[], []⟩) #[.slice none 0 0] rfl (by kernel_rfl) (by kernel_rfl) (by kernel_rfl)
      (OpenSpec.preRow_of_cond 8 hx (by kernel_rfl) (fun k hk => by cases hk; kernel_rfl) (by kernel_rfl) laid_met)) ?_
  intro W base args ds gs before hval hW _ hcond hz _ _ _
  exact contractUpto H enc W base args ds gs before hval hW hz (hcond _ rfl)

theorem said : Rows.WirePacksUptoSaid :=
  OpenClaim.holds_of_cond 3 Try.f3 rfl rfl rfl rfl rfl rfl rfl ⟨rfl, rfl, rfl, rfl, rfl⟩ rfl rfl rfl rfl rfl (by kernel_rfl) Try.func3 (by kernel_rfl)
    (of_decide_eq_true (by kernel_rfl)) (by unfold Func.isWrapper; first | (rw [if_pos (by decide +kernel)]; kernel_rfl) | (rw [if_neg (by decide +kernel)]; exact ⟨rfl, rfl⟩))
    (fun os started H enc _ F => by rw [OpenClaim.pre_eq_preRow]; exact lifted os started H enc F)

end Go.Proofs.Ytfgmeeoldcfjbaa.fnWirePacks
