/- StoreWhole: a crash at any moment leaves every replica that was answered whole. -/
import Derived.Test.YtmlikkjahkdilaaGreatDoorStoGs
import Derived.Test.YtmlikkjahkdilaaGreatDoorStoTx
import Derived.Test.YtmlikkjahkdilaaGreatDoorLawEnd
import Derived.Test.YtmlikkjahkdilaaGreatDoorStkT
namespace Go.Proofs.YtmlikkjahkdilaaGreatDoor.fnStoreWhole
open Go.ChangeShapes Go.WideShapes Go.ChangeAt Go.RowKit Go.WideMaps Go.WideElems
open Go.ChangeMaps (open_string)

open Go.Maps
noncomputable def laidWorld (os : Os) : World := laidWorldS os
/-- the texts that may be blocks, by their places -/
def wg (ss : Nat → ByteArray) (k : Nat) (y : Blk) : Option ByteArray := if y.a = 1 ∧ y.c = 0 ∧ y.b < k ∧ okD (ss y.b) then some (ss y.b) else none
theorem wg_yes (ss : Nat → ByteArray) (k : Nat) (h : okD (ss k)) (y : Blk) : (if y = ⟨1, k, 0⟩ then some (ss k) else wg ss k y) = wg ss (k + 1) y := by
  by_cases e : y = ⟨1, k, 0⟩
  · subst e
    rw [if_pos rfl]
    unfold wg
    rw [if_pos ⟨rfl, rfl, Nat.lt_succ_self k, h⟩]
  · rw [if_neg e]
    unfold wg
    by_cases h2 : y.a = 1 ∧ y.c = 0 ∧ y.b < k ∧ okD (ss y.b)
    · rw [if_pos h2, if_pos ⟨h2.1, h2.2.1, by have := h2.2.2.1; omega, h2.2.2.2⟩]
    · rw [if_neg h2, if_neg]
      rintro ⟨e1, e2, e3, e4⟩
      by_cases h3 : y.b < k
      · exact h2 ⟨e1, e2, h3, e4⟩
      · obtain ⟨a, b, c⟩ := y
        simp only at e1 e2 e3 h3
        exact e (by rw [e1, e2, show b = k by omega])
theorem wg_no (ss : Nat → ByteArray) (k : Nat) (h : ¬ okD (ss k)) (y : Blk) : wg ss k y = wg ss (k + 1) y := by
  unfold wg
  by_cases h2 : y.a = 1 ∧ y.c = 0 ∧ y.b < k ∧ okD (ss y.b)
  · rw [if_pos h2, if_pos ⟨h2.1, h2.2.1, by have := h2.2.2.1; omega, h2.2.2.2⟩]
  · rw [if_neg h2, if_neg]
    rintro ⟨e1, e2, e3, e4⟩
    by_cases h3 : y.b < k
    · exact h2 ⟨e1, e2, h3, e4⟩
    · have : y.b = k := by omega
      exact h (this ▸ e4)
set_option maxRecDepth 100000 in
set_option maxHeartbeats 8000000 in
theorem walk (A : Option Addr) (len cap : Nat) (bs : List (List UInt8)) (keep tear : Int) (w : World) (hh : Half w) (hp : Pw w) (hbl : bs.length = len) (hlc : len ≤ cap) (hT : Texts w w.heap.size A bs) (htot : totL bs ≤ 1048576) :
    Calls Tryz.prog 4 #[.slice A len cap, .int .i64 keep, .int .i64 tear] w fun e w' => e = .returned (.bool true) ∧ Below w.heap.size w w' := by
  have hlen : len ≤ 1048576 := by have := len_le_tot bs; omega
  have HT := Lib.hid (tabs_in hh hp)
  obtain ⟨ss, hss⟩ : ∃ ss : Nat → ByteArray, ss = fun i => ⟨(bs.getD i []).toArray⟩ := ⟨_, rfl⟩
  have htx : ∀ i, i < len → ∃ b off, A = some ⟨b, off, none⟩ ∧ b < w.heap.size ∧ w.cell? ⟨b, off + i, none⟩ = some (.string (ss i)) := fun i hi => by
    obtain ⟨b, off, h1, h2, h3⟩ := hT i (by omega)
    refine ⟨b, off, h1, h2, h3.trans ?_⟩
    rw [hss]
    have e5 : bs[i]'(by omega) = bs.getD i [] := by simp [List.getD, show i < bs.length by omega]
    rw [e5]
    rfl
  have HX := Lib.hid htx
  have hs := speaks14_any w HT.out abc_small
  clear hh hp hbl hT htot hss htx
  go_enter Tryz.func4, Tryz.ntmps4
  go_wp2_with (fail)
  refine hs.mono ?_
  rintro e w1 ⟨rfl, hb1⟩
  have hnew := new_K (w0 := w) 1099511627776 hb1
  rw [show (max 1099511627776 0 : Int) = 1099511627776 from rfl] at hnew
  clear hs
  go_wp2_with (fail)
  refine hnew.mono ?_
  rintro e w2 ⟨rfl, h2⟩
  obtain ⟨p, hp⟩ : ∃ p, p = w1.heap.size := ⟨_, rfl⟩
  obtain ⟨S0, hS0⟩ : ∃ S0 : Nat → Prop, S0 = fun b => b = w1.heap.size := ⟨_, rfl⟩
  have HD2 : Hid (DK w w2 p S0 1099511627776 0 [] []) := Lib.hid (by rw [hp, hS0]; exact h2.out.1)
  rw [← hp]
  clear h2 hnew hp hS0 hb1
  have ho1 := sg_first HD2 HT.out
  go_wp2_with (fail)
  refine ho1.mono ?_
  rintro ex w3 ⟨s, m, S3, rfl, h3⟩
  have H3 := Lib.hid h3.out.1
  clear ho1 h3 HD2
  go_wp2_with (fail)
  go_loopw [10] (fun i wr => ∃ (k : Nat) (S : Nat → Prop) (nk : Nat), k ≤ len ∧ i = .int .i64 (k : Int) ∧ Hid (SG w wr s p m S (5 * nk) nk (50000 * nk) (wg ss k) ∧ nk ≤ k)) (fun i _ => len - (intOf i).toNat)
  case atStart => exact ⟨0, S3, 0, Nat.zero_le _, rfl, Lib.hid ⟨H3.out.congr (fun y => by unfold wg; rw [if_neg (fun h => by have := h.2.2.1; omega)]), Nat.le_refl _⟩⟩
  case round =>
    obtain ⟨k, S, nk, hk, rfl, HM⟩ := hrel
    by_cases hlt : k < len
    · obtain ⟨b, off, rfl, hb, hc⟩ := HX.out k hlt
      obtain ⟨d, hd⟩ : ∃ d, d = ss k := ⟨_, rfl⟩
      rw [← hd] at hc
      obtain ⟨L0, hSS, hGS, _⟩ := HM.out.1
      have hbel := hSS.dk.bel
      have hcr : wr.cell? ⟨b, off + k, none⟩ = some (.string d) := (hbel.cell (p := ⟨b, off + k, none⟩) hb).trans hc
      have hlt' : (k : Int) < (len : Int) := by omega
      have hk0 : (0 : Int) ≤ (k : Int) := by omega
      have HK := Lib.hid hk
      have HDD := Lib.hid hd
      clear hd hSS hGS hbel hc
      by_cases hok : okD d
      · have hx : okB ⟨1, k, 0⟩ := ⟨by show 1 ≤ _; decide, by show k ≤ _; omega, by show 0 ≤ _; decide⟩
        have hw := sg_write ⟨1, k, 0⟩ hx d hok (Lib.hid HM.out.1) HT.out (by unfold wg; rw [if_neg (fun h => by have := h.2.2.1; simp at this)]) ⟨by have := HM.out.2; unfold maxLen; omega, by have := HM.out.2; unfold maxLen; omega⟩ (by have := HM.out.2; omega)
        have hw2 : Calls Tryz.prog 10 #[.pointer (some ⟨s, 0, none⟩), .agg #[.int .i64 1, .int .i64 (k : Int), .int .i64 0], .string d] wr fun e w' => e = .returned (.int .i64 0) ∧ ∃ S', Hid (SG w w' s p m S' (5 * nk + 5) (nk + 1) (50000 * nk + 50000) (fun y => if y = ⟨1, k, 0⟩ then some d else wg ss k y) ∧ Frm wr w' S S' m) := hw
        clear hw hx
        go_wp2_with (fail)
        refine hw2.mono ?_
        rintro e w5 ⟨rfl, S5, h5⟩
        have HE : Hid (SG w w5 s p m S5 (5 * (nk + 1)) (nk + 1) (50000 * (nk + 1)) (wg ss (k + 1)) ∧ nk + 1 ≤ k + 1) := Lib.hid ⟨by
          have h9 := h5.out.1.congr (g' := wg ss (k + 1)) (fun y => by rw [HDD.out]; exact wg_yes ss k (HDD.out ▸ hok) y)
          rw [show 5 * (nk + 1) = 5 * nk + 5 by omega, show 50000 * (nk + 1) = 50000 * nk + 50000 by omega]
          exact h9, by have := HM.out.2; omega⟩
        have hc5 : w5.cell? ⟨b, off + k, none⟩ = some (.string d) := by
          obtain ⟨L5, hSS5, _⟩ := HE.out.1
          obtain ⟨b', off', e1, hb', hc'⟩ := HX.out k hlt
          injection e1 with e1
          injection e1 with e1 e2
          subst e1 e2
          rw [HDD.out]
          exact (hSS5.dk.bel.cell (p := ⟨b, off + k, none⟩) hb').trans hc'
        have o1 : (1 : Int) ≤ (d.size : Int) := by have := hok.1; omega
        have o2 : (d.size : Int) ≤ 4096 := by have := hok.2; omega
        clear hw2 h5 hcr hok HM
        go_wp2_with (fail)
        go_roundw
        case rel => exact ⟨k + 1, S5, nk + 1, by omega, by first | rfl | go_num, HE⟩
        case measure => simp [intOf]; omega
      · have hw := write_bad 1 (k : Int) 0 d s wr (.inr hok)
        have HE0 : Hid (SG w wr s p m S (5 * nk) nk (50000 * nk) (wg ss (k + 1)) ∧ nk ≤ k + 1) := Lib.hid ⟨HM.out.1.congr (fun y => wg_no ss k (HDD.out ▸ hok) y), by have := HM.out.2; omega⟩
        go_wp2_with (fail)
        refine hw.mono ?_
        rintro e w5 ⟨rfl, hb5⟩
        have HE : Hid (SG w w5 s p m S (5 * nk) nk (50000 * nk) (wg ss (k + 1)) ∧ nk ≤ k + 1) := Lib.hid ⟨HE0.out.1.below hb5, HE0.out.2⟩
        have hc5 : w5.cell? ⟨b, off + k, none⟩ = some (.string d) := by
          obtain ⟨L5, hSS5, _⟩ := HE.out.1
          obtain ⟨b', off', e1, hb', hc'⟩ := HX.out k hlt
          injection e1 with e1
          injection e1 with e1 e2
          subst e1 e2
          rw [HDD.out]
          exact (hSS5.dk.bel.cell (p := ⟨b, off + k, none⟩) hb').trans hc'
        have hno := hok
        clear hw hb5 hcr HM HE0
        by_cases h0 : d.size = 0
        · have o1 : ¬ (1 : Int) ≤ (d.size : Int) := by omega
          clear hno hok
          go_wp2_with (fail)
          go_roundw
          case rel => exact ⟨k + 1, S, nk, by omega, by first | rfl | go_num, HE⟩
          case measure => simp [intOf]; omega
        · have o1 : (1 : Int) ≤ (d.size : Int) := by omega
          have o2 : ¬ (d.size : Int) ≤ 4096 := fun h => hno ⟨by omega, by omega⟩
          clear hno hok h0
          go_wp2_with (fail)
          go_roundw
          case rel => exact ⟨k + 1, S, nk, by omega, by first | rfl | go_num, HE⟩
          case measure => simp [intOf]; omega
    · obtain rfl : k = len := by omega
      have hnk := HM.out.2
      have hcr := sg_crash keep tear (Lib.hid HM.out.1) (by unfold maxLen; omega) (by omega) (by omega)
      clear H3
      go_wp2_with (fail)
      refine hcr.mono ?_
      rintro e w4 ⟨rfl, S4, L4, h4⟩
      have hop := sg_open (Lib.hid h4.out.1) h4.out.2.1 HT.out ⟨by omega, by have := h4.out.2.2.2; omega⟩ h4.out.2.2.1 (by omega)
      have HNK := Lib.hid hnk
      clear hcr HM h4 hnk
      go_wp2_with (fail)
      refine hop.mono ?_
      rintro e w5 ⟨s5, m5, S5, nk5, rfl, h5⟩
      have H5 : Hid (∃ n tot, tot ≤ 1099511627776 ∧ SG w w5 s5 p m5 S5 n nk5 tot (wg ss k)) := Lib.hid ⟨_, _, by have := HNK.out; omega, h5.out.1⟩
      clear hop h5
      go_wp2_with (fail)
      go_loopw [14] (fun i wr => ∃ j : Nat, j ≤ k ∧ i = .int .i64 (j : Int) ∧ Hid (∃ n tot, tot ≤ 1099511627776 ∧ SG w wr s5 p m5 S5 n nk5 tot (wg ss k))) (fun i _ => k - (intOf i).toNat)
      case atStart => exact ⟨0, Nat.zero_le _, rfl, H5⟩
      case round =>
        obtain ⟨j, hj, rfl, HM⟩ := hrel
        clear H5
        by_cases hjt : j < k
        · obtain ⟨b, off, rfl, hb, hc⟩ := HX.out j hjt
          obtain ⟨d, hd⟩ : ∃ d, d = ss j := ⟨_, rfl⟩
          rw [← hd] at hc
          have hc2 : ∀ w', Below w.heap.size w w' → w'.cell? ⟨b, off + j, none⟩ = some (.string d) := fun w' hb2 => (hb2.cell (p := ⟨b, off + j, none⟩) hb).trans hc
          have HC := Lib.hid hc2
          have hlt' : (j : Int) < (k : Int) := by omega
          have hj0 : (0 : Int) ≤ (j : Int) := by omega
          have hx : okB ⟨1, j, 0⟩ := ⟨by show 1 ≤ _; decide, by show j ≤ _; omega, by show 0 ≤ _; decide⟩
          obtain ⟨n, tot, ht, hSG⟩ := HM.out
          have HS := Lib.hid (And.intro ht hSG)
          have HDD := Lib.hid hd
          clear hc hc2 hSG ht HM hd hlt
          by_cases hok : okD d
          · have hr := sg_read ⟨1, j, 0⟩ d (Lib.hid HS.out.2) HT.out (by
              unfold wg
              rw [if_pos ⟨rfl, rfl, hjt, by rw [← HDD.out]; exact hok⟩, ← HDD.out]) HS.out.1
            have hr2 : Calls Tryz.prog 9 #[.pointer (some ⟨s5, 0, none⟩), .agg #[.int .i64 1, .int .i64 (j : Int), .int .i64 0]] wr fun e w' => e = .returned (.tuple #[.string d, .int .i64 0]) ∧ Below wr.heap.size wr w' := hr
            clear hr hx
            go_wp2_with (fail)
            refine hr2.mono ?_
            rintro e w6 ⟨rfl, hb6⟩
            have HE : Hid (∃ n tot, tot ≤ 1099511627776 ∧ SG w w6 s5 p m5 S5 n nk5 tot (wg ss k)) := Lib.hid ⟨_, _, HS.out.1, HS.out.2.below hb6⟩
            have c6 : w6.cell? ⟨b, off + j, none⟩ = some (.string d) := by
              obtain ⟨_, _, _, L6, hSS6, _⟩ := HE.out
              exact HC.out _ hSS6.dk.bel
            have o1 : (1 : Int) ≤ (d.size : Int) := by have := hok.1; omega
            have o2 : (d.size : Int) ≤ 4096 := by have := hok.2; omega
            clear hr2 hb6 hok HS
            go_wp2_with (fail)
            go_roundw
            case rel => exact ⟨j + 1, by omega, by first | rfl | go_num, HE⟩
            case measure => simp [intOf]; omega
          · have hr := sg_none ⟨1, j, 0⟩ hx (Lib.hid HS.out.2) (by
              unfold wg
              rw [if_neg (fun h => hok (by rw [HDD.out]; exact h.2.2.2))])
            have hr2 : Calls Tryz.prog 9 #[.pointer (some ⟨s5, 0, none⟩), .agg #[.int .i64 1, .int .i64 (j : Int), .int .i64 0]] wr fun e w' => e = .returned (.tuple #[.string ⟨#[]⟩, .int .i64 140]) ∧ Below wr.heap.size wr w' := hr
            clear hr hx
            go_wp2_with (fail)
            refine hr2.mono ?_
            rintro e w6 ⟨rfl, hb6⟩
            have HE : Hid (∃ n tot, tot ≤ 1099511627776 ∧ SG w w6 s5 p m5 S5 n nk5 tot (wg ss k)) := Lib.hid ⟨_, _, HS.out.1, HS.out.2.below hb6⟩
            have c6 : w6.cell? ⟨b, off + j, none⟩ = some (.string d) := by
              obtain ⟨_, _, _, L6, hSS6, _⟩ := HE.out
              exact HC.out _ hSS6.dk.bel
            have HNO := Lib.hid hok
            clear hr2 hb6 hok HS
            by_cases h0 : d.size = 0
            · have o1 : ¬ (1 : Int) ≤ (d.size : Int) := by omega
              go_wp2_with (fail)
              go_roundw
              case rel => exact ⟨j + 1, by omega, by first | rfl | go_num, HE⟩
              case measure => simp [intOf]; omega
            · have o1 : (1 : Int) ≤ (d.size : Int) := by omega
              have o2 : ¬ (d.size : Int) ≤ 4096 := fun h => HNO.out ⟨by omega, by omega⟩
              clear h0
              go_wp2_with (fail)
              go_roundw
              case rel => exact ⟨j + 1, by omega, by first | rfl | go_num, HE⟩
              case measure => simp [intOf]; omega
        · obtain rfl : j = k := by omega
          obtain ⟨_, _, _, L6, hSS6, _⟩ := HM.out
          have HBL := Lib.hid hSS6.dk.bel
          clear hSS6
          go_wp2_with (fail)
          go_ret
          exact ⟨rfl, HBL.out⟩

set_option maxRecDepth 100000 in
theorem contractUpto (H : Type) (enc : TypeId × Value → H) (W : World) (base : Nat) (args : Array Value) (ds gs : List (DataW H)) (before : List MemPlace)
    (hval : ∀ (j : Nat) t v, Tryz.f4.params[j]? = some t → args[j]? = some v → Value.okWide Tryz.prog W .any base t v)
    (hW : DataW.Whole enc Tryz.prog Tryz.f4.params.toList Rows.storeWholeSpec.vars false W args.toList ds gs before) (hL : laidMetH Tryz.prog Rows.storeWholeRow.laid W)
    (hz : (DataW.weightsEach Tryz.prog (Tryz.f4.params.toList ++ []) (ds ++ gs)).all (· ≤ reachBytes) = true) (hk : Rows.uptoSmall H (ds ++ gs) = true) :
    Calls Tryz.prog 4 args W fun e W' => ∃ v, e = .returned v ∧ Rows.storeWholeSpec.post enc Tryz.prog Tryz.f4 false true false false W args v W' := by
  have hW' := hW
  obtain ⟨p, q, hA0, hV, rfl, hfz, hnd⟩ := hW
  have hA : DataW.TrodAll enc Tryz.prog W 0 (fun _ => true) true Tryz.f4.params.toList args.toList ds p := hA0
  rw [Tryz.params4] at hA hval hz
  obtain ⟨v0, vs0, d0, ds0, p0, q0, hargs, rfl, rfl, h0, r0⟩ := trodAll_cons hA
  obtain ⟨v1, vs1, d1, ds1, p1, q1, rfl, rfl, rfl, h1, r1⟩ := trodAll_cons r0
  obtain ⟨v2, vs2, d2, ds2, p2, q2, rfl, rfl, rfl, h2, r2⟩ := trodAll_cons r1
  obtain ⟨rfl, rfl, rfl⟩ := trodAll_nil r2
  obtain rfl : args = #[v0, v1, v2] := by cases args; simp_all
  obtain ⟨rfl, rfl⟩ := trodVars_none hV
  have hk0 : Rows.uptoBulk d0 ≤ 1048576 := by have h := of_decide_eq_true hk; simp only [List.append_nil, List.cons_append, List.nil_append, Rows.uptoBulkAll] at h; omega
  obtain ⟨A, len, cap, bs, rfl, hbl, hlc, hT, htot⟩ := open_texts (hval 0 36 v0 rfl rfl) h0 hk0
  obtain ⟨x1, rfl, rfl, rfl, w1⟩ := open_int Tryz.underlying3 (hval 1 3 v1 rfl rfl) h1
  have b1 := i64_of_wf w1
  obtain ⟨x2, rfl, rfl, rfl, w2⟩ := open_int Tryz.underlying3 (hval 2 3 v2 rfl rfl) h2
  have b2 := i64_of_wf w2
  clear hA0
  refine (walk A len cap bs x1 x2 W (half_in hL) (pow_in hL) hbl hlc hT htot).mono fun e W' ⟨he, hb⟩ => ?_
  subst he
  exact ⟨_, rfl, law_end hW' rfl rfl hb laidOut (by kernel_rfl) (by kernel_rfl) Tryz.underlying4⟩

theorem reads (os : Os) {H : Type} (enc : TypeId × Value → H) : ∃ places, DataW.whole enc Tryz.prog ((laidWorld os).forCall (fun _ _ => 0) ⟨#[], #[.slice none 0 0, .int .i64 0, .int .i64 0], []⟩).memory Tryz.f4.params.toList Rows.storeWholeSpec.vars false [Value.slice none 0 0, Value.int .i64 0, Value.int .i64 0] 8 = some ([.nil, .lit (.int .i64 0), .lit (.int .i64 0)], [], places) :=
  ⟨[], by kernel_rfl⟩

set_option maxRecDepth 100000 in
theorem lifted (os : Os) (started : os.Started) (H : Type) (enc : TypeId × Value → H) (F : Stop.Interp) :
    ReturnsInHanded {} Tryz.checked os 4 .any ((Rows.OpenSpec.upto Rows.storeWholeSpec).preRow enc Tryz.prog Tryz.f4 Rows.storeWholeUptoRow.domain false Rows.storeWholeUptoRow.laid) (((Rows.OpenSpec.upto Rows.storeWholeSpec).at F).post enc Tryz.prog Tryz.f4 false true false false) := by
  obtain ⟨places, hx⟩ := reads os enc
  have laid_met : laidMet Tryz.prog Rows.storeWholeUptoRow.laid ((laidWorld os).forCall (fun _ _ => 0) ⟨#[], #[.slice none 0 0, .int .i64 0, .int .i64 0], []⟩).memory := (laidMet_of_run' 8 (by kernel_rfl) (by kernel_rfl))
  refine returnsInHanded_of_row (C := Tryz.checked) (s := Rows.OpenSpec.upto Rows.storeWholeSpec) own started (by kernel_rfl) Tryz.func4
    (witness_row_at (enc := enc) (C := Tryz.checked) false (laidWorld os) #[.slice none 0 0, .int .i64 0, .int .i64 0] rfl (by kernel_rfl) (by kernel_rfl) (by kernel_rfl)
      (OpenSpec.preRow_of_cond 8 hx (by kernel_rfl) (fun k hk => by cases hk; kernel_rfl) (by kernel_rfl) laid_met)) ?_
  intro W base args ds gs before hval hW _ hcond hz hL _ _
  exact contractUpto H enc W base args ds gs before hval hW hL hz (hcond _ rfl)

theorem said : Rows.StoreWholeUptoSaid :=
  OpenClaim.holds_of_cond 4 Tryz.f4 rfl rfl rfl rfl rfl rfl rfl ⟨rfl, rfl, rfl, rfl, rfl⟩ rfl rfl rfl rfl rfl (by kernel_rfl) Tryz.func4 (by kernel_rfl)
    (of_decide_eq_true (by kernel_rfl)) (by unfold Func.isWrapper; first | (rw [if_pos (by decide +kernel)]; kernel_rfl) | (rw [if_neg (by decide +kernel)]; exact ⟨rfl, rfl⟩))
    (fun os started H enc _ F => by rw [OpenClaim.pre_eq_preRow]; exact lifted os started H enc F)

theorem plain (f : FuncId) (fn : Func) (hf : Tryz.pinned.checked.prog.funcNamed "mahout/mahoutlaw14.StoreWhole" = some f) (hfn : Tryz.pinned.checked.prog.funcs[f]? = some fn) :
    ∀ (j : Nat) t, fn.params[j]? = some t → Tryz.pinned.checked.prog.wantsStandIn t = false := by
  obtain rfl : f = 4 := Option.some.inj ((show Tryz.prog.funcNamed "mahout/mahoutlaw14.StoreWhole" = some 4 by kernel_rfl).symm.trans hf) |>.symm
  obtain rfl : fn = Tryz.f4 := (Option.some.inj (Tryz.func4.symm.trans hfn)).symm
  exact fun j t ht => by
    rw [Tryz.params4] at ht
    have hm : t ∈ [36, 3, 3] := by simpa using Array.mem_of_getElem? ht
    have hall : ([36, 3, 3].all fun u => !Tryz.prog.wantsStandIn u) = true := by kernel_rfl
    exact (show Tryz.prog.wantsStandIn t = false by simpa using List.all_eq_true.1 hall t hm)
/-- THE CARD -/
theorem card : Rows.StoreWholeUptoCardSaid :=
  Claim7.holds_tied_plain_at .later [] _ _ _ _ said (fun _ h => by cases h) (by kernel_rfl) (fun _ h => by cases h) storeWholeUpto_row_tie rfl ⟨rfl, rfl⟩ (by kernel_rfl) rfl (fun f fn hf hfn => ⟨by kernel_rfl, plain f fn hf hfn⟩) (by kernel_rfl)

end Go.Proofs.YtmlikkjahkdilaaGreatDoor.fnStoreWhole
