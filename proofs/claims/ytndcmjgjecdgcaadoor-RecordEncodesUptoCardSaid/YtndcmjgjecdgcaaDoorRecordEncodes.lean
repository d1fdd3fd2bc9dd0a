/- RecordEncodes is true of every message whose reading is of bulk at most 1048576: is it valid, and its bytes; it stays, and is read back as it was. -/
import Derived.Test.YtndcmjgjecdgcaaDoorRecDecU
import Derived.Test.YtndcmjgjecdgcaaDoorRecRefE
import Derived.Deep.DeepCutAuto

import Derived.Test.YtndcmjgjecdgcaaDoorLawEnd

import Derived.Test.YtndcmjgjecdgcaaDoorRecLaid

namespace Go.Proofs.YtndcmjgjecdgcaaDoor.fnRecordEncodes
open Go.ChangeShapes Go.WideShapes Go.ChangeAt Go.RowKit Go.WideMaps Go.WideElems
open Go.ChangeMaps (open_string)

/-- the boxes of the letter and of its message, in any world behind wb -/
abbrev EB (wb : World) (q r : Nat) (k c i : Int) (A : Option Addr) (n cn : Nat) (C : Option Addr) (t ct : Nat) (A' : Option Addr) (cn' : Nat) (C' : Option Addr) (ct' : Nat) (w : World) : Prop :=
  Hid (Below wb.heap.size wb w) ∧ (w.cell? ⟨q, 0, none⟩ = some (.int .i64 k) ∧ w.cell? ⟨q, 1, none⟩ = some (.int .i64 c) ∧ w.cell? ⟨q, 2, none⟩ = some (.int .i64 i) ∧ w.cell? ⟨q, 3, none⟩ = some (.slice A n cn) ∧ w.cell? ⟨q, 4, none⟩ = some (.slice C t ct)) ∧ (w.cell? ⟨r, 0, none⟩ = some (.int .i64 k) ∧ w.cell? ⟨r, 1, none⟩ = some (.int .i64 c) ∧ w.cell? ⟨r, 2, none⟩ = some (.int .i64 i) ∧ w.cell? ⟨r, 3, none⟩ = some (.slice A' n cn') ∧ w.cell? ⟨r, 4, none⟩ = some (.slice C' t ct'))
section
variable {wb w w' : World} {q r : Nat} {k c i : Int} {A : Option Addr} {n cn : Nat} {C : Option Addr} {t ct : Nat} {A' : Option Addr} {cn' : Nat} {C' : Option Addr} {ct' : Nat}
theorem eb_below (h : EB wb q r k c i A n cn C t ct A' cn' C' ct' w) (hb : Below w.heap.size w w') : EB wb q r k c i A n cn C t ct A' cn' C' ct' w' := by
  obtain ⟨h0, ⟨h1, h2, h3, h4, h5⟩, ⟨g1, g2, g3, g4, g5⟩⟩ := h
  exact ⟨Lib.hid (h0.out.trans (hb.mono h0.out.size)), ⟨below_cell h1 hb, below_cell h2 hb, below_cell h3 hb, below_cell h4 hb, below_cell h5 hb⟩, ⟨below_cell g1 hb, below_cell g2 hb, below_cell g3 hb, below_cell g4 hb, below_cell g5 hb⟩⟩
theorem eb_drew (h : EB wb q r k c i A n cn C t ct A' cn' C' ct' w) : EB wb q r k c i A n cn C t ct A' cn' C' ct' w.drew := eb_below h ⟨rfl, rfl, rfl, Nat.le_refl _, fun _ _ => rfl⟩
theorem eb_out (h : EB wb q r k c i A n cn C t ct A' cn' C' ct' w) : Below wb.heap.size wb w := h.1.out
theorem val_E {V : Bool} {ns : List Int} {ts : List ByteArray} (hs : Hid (Shp wb)) (hV : Hid (validB k n t = V)) (hb : Hid (n ≤ 140737488351232 ∧ t ≤ 140737488351232)) (h : EB wb q r k c i A n cn C t ct A' cn' C' ct' w) :
    Calls Tryd.prog 10 #[.agg #[.int .i64 k, .int .i64 c, .int .i64 i, .slice A' n cn', .slice C' t ct']] w fun e w' => e = .returned (.bool V) ∧ EB wb q r k c i A n cn C t ct A' cn' C' ct' w' := by
  refine (valid_any k c i A' C' n t cn' ct' w (hs.out.below (eb_out h) (Nat.le_refl _)) hb.out.1 hb.out.2).mono ?_
  rw [hV.out]
  rintro e w' ⟨rfl, hb'⟩
  exact ⟨rfl, eb_below h hb'⟩
theorem rval_E {V : Bool} (hV : Hid (validB k n t = V)) (hb : Hid (n ≤ 140737488351232 ∧ t ≤ 140737488351232)) (h : EB wb q r k c i A n cn C t ct A' cn' C' ct' w) :
    Calls Tryd.prog 11 #[.int .i64 k, .int .i64 n, .int .i64 t] w fun e w' => e = .returned (.bool V) ∧ EB wb q r k c i A n cn C t ct A' cn' C' ct' w' := by
  have hn := hb.out.1
  have ht := hb.out.2
  refine (rvalid_any k n t w (by omega) (by omega)).mono ?_
  rw [Int.toNat_natCast, Int.toNat_natCast, hV.out]
  rintro e w' ⟨rfl, rfl⟩
  exact ⟨rfl, h⟩
theorem doc_E (h : EB wb q r k c i A n cn C t ct A' cn' C' ct' w) :
    Calls Tryd.prog 13 #[.agg #[.int .i64 k, .int .i64 c, .int .i64 i, .slice A n cn, .slice C t ct]] w fun e w' => e = .returned (.agg #[.int .i64 k, .int .i64 c, .int .i64 i, .slice A n cn, .slice C t ct]) ∧ EB wb q r k c i A n cn C t ct A' cn' C' ct' w' := by
  refine (doc_any k c i A C n cn t ct w).mono ?_
  rintro e w' ⟨rfl, hb'⟩
  exact ⟨rfl, eb_below h hb'⟩
end
section
variable {wb w w' : World} {q r : Nat} {k c i : Int} {A : Option Addr} {cn : Nat} {C : Option Addr} {ct : Nat} {A' : Option Addr} {cn' : Nat} {C' : Option Addr} {ct' : Nat} {ns : List Int} {ts : List ByteArray}
theorem renc_E {X : ByteArray} (hX : Hid (encR k c i ns ts = X)) (hk : Hid (i64 k ∧ i64 c ∧ i64 i)) (hz : Hid ((encL k c i ns ts).length ≤ 16777216)) (hM : Hid (MsgAt wb wb.heap.size A C ns ts)) (h : EB wb q r k c i A ns.length cn C ts.length ct A' cn' C' ct' w) :
    Calls Tryd.prog 12 #[.agg #[.int .i64 k, .int .i64 c, .int .i64 i, .slice A ns.length cn, .slice C ts.length ct]] w fun e w' => e = .returned (.string X) ∧ EB wb q r k c i A ns.length cn C ts.length ct A' cn' C' ct' w' := by
  have hb := eb_out h
  refine (rencode_any k c i A C cn ct ns ts w ((hM.out.below hb).up hb.size) hk.out.1 hk.out.2.1 hk.out.2.2 (by have := hz.out; omega)).mono ?_
  rw [hX.out]
  rintro e w' ⟨rfl, hb'⟩
  exact ⟨rfl, eb_below h hb'⟩
theorem same_E (hM : Hid (MsgAt wb wb.heap.size A C ns ts)) (hM' : Hid (MsgAt wb wb.heap.size A' C' ns ts)) (h : EB wb q r k c i A ns.length cn C ts.length ct A' cn' C' ct' w) :
    Calls Tryd.prog 14 #[.agg #[.int .i64 k, .int .i64 c, .int .i64 i, .slice A' ns.length cn', .slice C' ts.length ct'], .agg #[.int .i64 k, .int .i64 c, .int .i64 i, .slice A ns.length cn, .slice C ts.length ct]] w fun e w' => e = .returned (.bool true) ∧ EB wb q r k c i A ns.length cn C ts.length ct A' cn' C' ct' w' := by
  have hb := eb_out h
  refine (same_any k c i A' C' cn' ct' ns ts k c i A C cn ct ns ts w ((hM'.out.below hb).up hb.size) ((hM.out.below hb).up hb.size)).mono ?_
  rw [same_self]
  rintro e w' ⟨rfl, hb'⟩
  exact ⟨rfl, eb_below h hb'⟩
end
theorem totB_le {s : ByteArray} : ∀ {ts : List ByteArray}, s ∈ ts → s.size ≤ totB ts
  | x :: ts, h => by
    simp only [totB, List.map_cons, List.sum_cons]
    rcases List.mem_cons.1 h with rfl | h
    · omega
    · have := totB_le h
      simp only [totB] at this
      omega
set_option maxRecDepth 100000 in
set_option maxHeartbeats 4000000 in
theorem walk (k c i : Int) (A C : Option Addr) (cn ct : Nat) (ns : List Int) (ts : List ByteArray) (w : World) (hS : Shp w)
    (hk : i64 k) (hc : i64 c) (hi : i64 i) (hM : MsgAt w w.heap.size A C ns ts) (hb : ns.length + ts.length + totB ts ≤ 1048576) :
    Calls Tryd.prog 3 #[.agg #[.int .i64 k, .int .i64 c, .int .i64 i, .slice A ns.length cn, .slice C ts.length ct]] w fun e w' => e = .returned (.bool true) ∧ Below w.heap.size w w' := by
  have HS := Lib.hid hS
  have HM := Lib.hid hM
  have HZ : Hid ((encL k c i ns ts).length ≤ 16777216) := Lib.hid (by have := enc_len k c i ns ts; omega)
  have HB := Lib.hid hb
  have HK := Lib.hid (And.intro hk (And.intro hc hi))
  have HNT := Lib.hid (show ns.length ≤ 140737488351232 ∧ ts.length ≤ 140737488351232 by omega)
  obtain ⟨X, hX⟩ : ∃ X, encR k c i ns ts = X := ⟨_, rfl⟩
  have HX := Lib.hid hX
  obtain ⟨V, hV⟩ : ∃ V, validB k ns.length ts.length = V := ⟨_, rfl⟩
  have HV := Lib.hid hV
  clear hS hM hb hk hc hi hX hV
  go_enter Tryd.func3, Tryd.ntmps3
  go_wp2_with (fail)
  refine (speaks9_any _ (HS.out.alloc _)).mono ?_
  rintro e w1 ⟨rfl, hb1⟩
  have M1 := Lib.hid ((M5.new w k c i A ns.length cn C ts.length ct 25).below hb1 (by simp))
  have B1 := Lib.hid ((below_alloc w (.cells #[.int .i64 k, .int .i64 c, .int .i64 i, .slice A ns.length cn, .slice C ts.length ct] 25)).trans (hb1.mono (by simp)))
  obtain ⟨q, hq⟩ : ∃ q, q = w.heap.size := ⟨_, rfl⟩
  rw [← hq] at M1 ⊢
  have HQ := Lib.hid hq
  clear hb1 hq
  have a0 := M1.out.c0
  have a1 := M1.out.c1
  have a2 := M1.out.c2
  have a3 := M1.out.c3
  have a4 := M1.out.c4
  go_wp2_with (fail)
  refine (message_any k c i A C cn ct ns ts w1 ((HM.out.below B1.out).up B1.out.size)).mono ?_
  rintro e w2 ⟨A', cn', C', ct', rfl, hb2, hm2⟩
  have B2 := Lib.hid (B1.out.trans (hb2.mono B1.out.size))
  have M2 := Lib.hid (M1.out.below hb2 M1.out.lt)
  have HA2 := Lib.hid hm2
  have N2 := Lib.hid (M5.new w2 k c i A' ns.length cn' C' ts.length ct' 27)
  clear hb2 hm2 M1 B1 a0 a1 a2 a3 a4
  go_wp2_with (fail)
  refine (encode_any k c i A' C' cn' ct' ns ts _ ((HS.out.below B2.out (Nat.le_refl _)).alloc _) ((HA2.out.below (below_alloc w2 _)).up (by simp)) HK.out.1 HK.out.2.1 HK.out.2.2 (by have := HZ.out; omega)).mono ?_
  rw [HX.out]
  rintro e w3 ⟨rfl, hb3⟩
  have hb23 := (below_alloc w2 (.cells #[.int .i64 k, .int .i64 c, .int .i64 i, .slice A' ns.length cn', .slice C' ts.length ct'] 27)).trans (hb3.mono (by simp))
  have B3 := Lib.hid (B2.out.trans (hb23.mono B2.out.size))
  have M3 := Lib.hid (M2.out.below hb23 M2.out.lt)
  have N3 := Lib.hid (N2.out.below hb3 (by simp))
  have HA3 := Lib.hid ((HA2.out.below hb23).up hb23.size)
  have HA := Lib.hid ((HM.out.below B3.out).up B3.out.size)
  have HS3 := Lib.hid (HS.out.below B3.out (Nat.le_refl _))
  obtain ⟨r, hr⟩ : ∃ r, r = w2.heap.size := ⟨_, rfl⟩
  rw [← hr] at N3 ⊢
  have SS : EB w3 q r k c i A ns.length cn C ts.length ct A' cn' C' ct' w3 := ⟨Lib.hid (Below.refl _ _), ⟨M3.out.c0, M3.out.c1, M3.out.c2, M3.out.c3, M3.out.c4⟩, ⟨N3.out.c0, N3.out.c1, N3.out.c2, N3.out.c3, N3.out.c4⟩⟩
  clear hb23 hb3 hr M2 N2 HA2 B2 HM HS
  have HRN := Lib.hid (show r < w3.heap.size from N3.out.lt)
  clear M3
  go_upto_region 5 with (fail)
  go_cut [39] (fun s39 wx => s39 = .bool false ∧ EB w3 q r k c i A ns.length cn C ts.length ct A' cn' C' ct' wx)
  case first =>
    go_region_held3 (fun w' => EB w3 q r k c i A ns.length cn C ts.length ct A' cn' C' ct' w') (first | with_reducible assumption | with_reducible exact eb_drew (by with_reducible assumption))
      (first
        | (go_at_call 10; with_reducible refine (val_E (ns := ns) (ts := ts) HS3 HV HNT (by with_reducible assumption)).mono ?_; rintro e wa ⟨rfl, hSa⟩)
        | (go_at_call 11; with_reducible refine (rval_E HV HNT (by with_reducible assumption)).mono ?_; rintro e wb ⟨rfl, hSb⟩)
        | (go_at_call 13; with_reducible refine (doc_E (by with_reducible assumption)).mono ?_; rintro e wc ⟨rfl, hSc⟩)
        | (go_at_call 12; with_reducible refine (renc_E HX HK HZ HA (by with_reducible assumption)).mono ?_; rintro e wd ⟨rfl, hSd⟩)
        | (go_at_call 14; with_reducible refine (same_E HA HA3 (by with_reducible assumption)).mono ?_; rintro e we ⟨rfl, hSe⟩))
    all_goals
      go_wp2_with (fail)
      go_meet
      exact ⟨rfl, by with_reducible assumption⟩
  case rest =>
    obtain ⟨rfl, hS⟩ := hcut
    cases V with
    | false =>
      have hx : X = ⟨#[]⟩ := by rw [← HX.out]; exact encR_no HV.out
      subst hx
      clear SS
      go_wp2_with (fail)
      refine (val_E (ns := ns) (ts := ts) HS3 HV HNT hS).mono ?_
      rintro e wa ⟨rfl, hSa⟩
      have BF := Lib.hid (B3.out.trans ((eb_out hSa).mono B3.out.size))
      clear hSa hS
      go_wp2
      go_ret
      exact ⟨rfl, BF.out⟩
    | true =>
      have hxd : X.data.toList = encL k c i ns ts := by rw [← HX.out, encR_yes HV.out]; rfl
      have hne : ¬ X.toList = [] := by rw [← HX.out, encR_yes HV.out]; exact encS_ne _ _ _ _ _
      have hx2 : (X.toList == []) = false := by simpa using hne
      have hx3 : X.toList.isEmpty = false := by simpa using hne
      have hxs : X.size = (encL k c i ns ts).length := by rw [← hxd]; rfl
      have hbb := HB.out
      have htx : ∀ s ∈ ts, s.size ≤ 1048576 := fun s hs => by
        have : s.size ≤ totB ts := totB_le hs
        omega
      have hdec : dec X.size X.data.toList = .ok (k, c, i, ns, ts) := by
        rw [hxs, hxd]
        exact dec_enc HV.out HK.out.1 HK.out.2.1 HK.out.2.2 HA.out.nb htx (by unfold i64; omega) (by unfold i64; omega)
      have HD := Lib.hid hdec
      have HXS : Hid (X.size ≤ 16777216) := Lib.hid (by rw [hxs]; exact HZ.out)
      have HTX := Lib.hid htx
      have BC := Lib.hid (eb_out hS)
      have SC := Lib.hid hS
      have HAc := Lib.hid ((HA.out.below BC.out).up BC.out.size)
      obtain ⟨T, hT⟩ : ∃ T, T = ts.length := ⟨_, rfl⟩
      have HT := Lib.hid hT
      have a4 := hS.2.1.2.2.2.2
      rw [← hT] at a4 ⊢
      have hTb : T ≤ 1048576 := by omega
      clear SS hne hxd hxs hbb htx hdec hT hS
      go_wp2_with (fail)
      go_loopg [5] T (fun m s5 wr => ∃ l : Nat, l ≤ T ∧ Hid (m = T - l) ∧ s5 = .int .i64 (l : Int) ∧ wc = wr)
      case atStart => exact ⟨0, by omega, rfl, rfl, rfl⟩
      case round =>
        obtain ⟨l, hl, HL, rfl, rfl⟩ := hrel
        by_cases hlt : l < T
        · have hln : l < ts.length := by rw [← HT.out]; exact hlt
          obtain ⟨b, off, rfl, hb, hcell'⟩ := HAc.out.t l hln
          obtain ⟨x, hx⟩ : ∃ x, x = ts.getD l ⟨#[]⟩ := ⟨_, rfl⟩
          have hcell := hcell'
          change _ = some (Value.string (ts.getD l ⟨#[]⟩)) at hcell
          rw [← hx] at hcell
          have hxs : x.size ≤ 1048576 := by
            have e : x = ts[l] := by rw [hx]; simp [List.getD, hln]
            rw [e]; exact HTX.out _ (List.getElem_mem hln)
          have hx9 : ¬ 1048576 < (x.size : Int) := by omega
          clear hcell' hx hln hb hxs
          go_wp2
          go_roundg (T - (l + 1))
          case measure => have := HL.out; omega
          case rel => exact ⟨l + 1, by omega, rfl, by go_num, rfl⟩
        · obtain rfl : l = T := by omega
          go_wp2_with (fail)
          refine (decode_msg X wc (HS3.out.below BC.out (Nat.le_refl _)) HXS.out).mono ?_
          rw [HD.out]
          rintro e w5 ⟨A5, n5, C5, t5, rfl, hb5, hm5, _, _⟩
          simp only [decM] at hm5 ⊢
          have S5 := eb_below SC.out hb5
          have HM5 := Lib.hid hm5
          have N5 := Lib.hid (M5.new w5 k c i A5 ns.length n5 C5 ts.length t5 27)
          have hal := below_alloc w5 (.cells #[.int .i64 k, .int .i64 c, .int .i64 i, .slice A5 ns.length n5, .slice C5 ts.length t5] 27)
          have S6 := eb_below S5 hal
          have HA6 := Lib.hid (((HAc.out.below hb5).up hb5.size).below hal |>.up hal.size)
          have HM6 := Lib.hid ((HM5.out.below hal).up hal.size)
          have B6 := Lib.hid ((BC.out.trans (hb5.mono BC.out.size)).trans (hal.mono (by have := BC.out.size; have := hb5.size; omega)))
          have SX : EB (w5.alloc (.cells #[.int .i64 k, .int .i64 c, .int .i64 i, .slice A5 ns.length n5, .slice C5 ts.length t5] 27)) q w5.heap.size k c i A ns.length cn C ts.length ct A5 n5 C5 t5 (w5.alloc (.cells #[.int .i64 k, .int .i64 c, .int .i64 i, .slice A5 ns.length n5, .slice C5 ts.length t5] 27)) := ⟨Lib.hid (Below.refl _ _), S6.2.1, ⟨N5.out.c0, N5.out.c1, N5.out.c2, N5.out.c3, N5.out.c4⟩⟩
          have SXH := Lib.hid SX
          clear hb5 hm5 SC S5 a4 S6 N5 HM5 hal SX
          go_wp2_with (fail)
          rw [HT.out]
          have SX := SXH.out
          obtain ⟨w6, hw6⟩ : ∃ w6, w6 = w5.alloc (.cells #[.int .i64 k, .int .i64 c, .int .i64 i, .slice A5 ns.length n5, .slice C5 ts.length t5] 27) := ⟨_, rfl⟩
          obtain ⟨p, hp⟩ : ∃ p, p = w5.heap.size := ⟨_, rfl⟩
          rw [← hw6, ← hp] at SX ⊢
          rw [← hw6] at HA6 HM6 B6
          clear SXH hw6 hp
          go_region_held3 (fun w' => EB w6 q p k c i A ns.length cn C ts.length ct A5 n5 C5 t5 w') (first | with_reducible assumption | with_reducible exact eb_drew (by with_reducible assumption))
            (first
              | (go_at_call 13; with_reducible refine (doc_E (by with_reducible assumption)).mono ?_; rintro e wg ⟨rfl, hSg⟩)
              | (go_at_call 14; with_reducible refine (same_E HA6 HM6 (by with_reducible assumption)).mono ?_; rintro e wh ⟨rfl, hSh⟩))
          all_goals
            have BF := Lib.hid (B3.out.trans ((B6.out.trans ((eb_out hSh).mono B6.out.size)).mono B3.out.size))
            clear hSg hSh SX
            go_wp2
            go_ret
            exact ⟨rfl, BF.out⟩

set_option maxRecDepth 100000 in
theorem contractUpto (H : Type) (enc : TypeId × Value → H) (W : World) (base : Nat) (args : Array Value) (ds gs : List (DataW H)) (before : List MemPlace)
    (hval : ∀ (j : Nat) t v, Tryd.f3.params[j]? = some t → args[j]? = some v → Value.okWide Tryd.prog W .any base t v)
    (hW : DataW.Whole enc Tryd.prog Tryd.f3.params.toList Rows.recordEncodesSpec.vars false W args.toList ds gs before) (hL : laidMetH Tryd.prog Rows.recordEncodesRow.laid W)
    (hz : (DataW.weightsEach Tryd.prog (Tryd.f3.params.toList ++ []) (ds ++ gs)).all (· ≤ reachBytes) = true) (hk : Rows.uptoSmall H (ds ++ gs) = true) :
    Calls Tryd.prog 3 args W fun e W' => ∃ v, e = .returned v ∧ Rows.recordEncodesSpec.post enc Tryd.prog Tryd.f3 false true false false W args v W' := by
  have hW' := hW
  obtain ⟨p, q, hA0, hV, rfl, hfz, hnd⟩ := hW
  have hA : DataW.TrodAll enc Tryd.prog W 0 (fun _ => true) true Tryd.f3.params.toList args.toList ds p := hA0
  rw [Tryd.params3] at hA hval hz
  obtain ⟨v0, vs0, d0, ds0, p0, q0, hargs, rfl, rfl, h0, r0⟩ := trodAll_cons hA
  obtain ⟨rfl, rfl, rfl⟩ := trodAll_nil r0
  obtain rfl : args = #[v0] := by cases args; simp_all
  obtain ⟨rfl, rfl⟩ := trodVars_none hV
  have hw0 : ∀ m ∈ d0.weights Tryd.prog 25, m ≤ reachBytes := fun m hm => by
    have hall := List.all_eq_true.1 hz m (DataW.weights_mem_each (j := 0) (t := 25) rfl rfl m hm)
    simpa using hall
  obtain ⟨k0, c0, i0, A0, cn0, C0, ct0, ns0, ts0, rfl, gk0, gc0, gi0, M0, hb0⟩ := open_letter (hval 0 25 v0 rfl rfl) h0 hw0
  have bb0 : ns0.length + ts0.length + totB ts0 ≤ 1048576 := by
    have hall := of_decide_eq_true hk
    simp only [List.append_nil, List.cons_append, List.nil_append, Rows.uptoBulkAll] at hall
    omega
  clear hA0
  refine (walk k0 c0 i0 A0 C0 cn0 ct0 ns0 ts0 W (shp_of hL) gk0 gc0 gi0 M0 bb0).mono fun e W' ⟨he, hb⟩ => ?_
  subst he
  exact ⟨_, rfl, law_end hW' rfl rfl hb laidOut (by kernel_rfl) (by kernel_rfl) Tryd.underlying4⟩

theorem reads (os : Os) {H : Type} (enc : TypeId × Value → H) : ∃ places, DataW.whole enc Tryd.prog ((laidWorld os).forCall (fun _ _ => 0) ⟨#[], #[.agg #[.int .i64 0, .int .i64 0, .int .i64 0, .slice none 0 0, .slice none 0 0]], []⟩).memory Tryd.f3.params.toList Rows.recordEncodesSpec.vars false [Value.agg #[.int .i64 0, .int .i64 0, .int .i64 0, .slice none 0 0, .slice none 0 0]] 8 = some ([.agg [.lit (.int .i64 0), .lit (.int .i64 0), .lit (.int .i64 0), .nil, .nil]], [], places) :=
  ⟨[], by kernel_rfl⟩

set_option maxRecDepth 100000 in
theorem lifted (os : Os) (started : os.Started) (H : Type) (enc : TypeId × Value → H) (F : Stop.Interp) :
    ReturnsInHanded {} Tryd.checked os 3 .any ((Rows.OpenSpec.upto Rows.recordEncodesSpec).preRow enc Tryd.prog Tryd.f3 Rows.recordEncodesUptoRow.domain false Rows.recordEncodesUptoRow.laid) (((Rows.OpenSpec.upto Rows.recordEncodesSpec).at F).post enc Tryd.prog Tryd.f3 false true false false) := by
  obtain ⟨places, hx⟩ := reads os enc
  have laid_met : laidMet Tryd.prog Rows.recordEncodesUptoRow.laid ((laidWorld os).forCall (fun _ _ => 0) ⟨#[], #[.agg #[.int .i64 0, .int .i64 0, .int .i64 0, .slice none 0 0, .slice none 0 0]], []⟩).memory := (laidMet_of_run' 8 (by kernel_rfl) (by kernel_rfl))
  refine returnsInHanded_of_row (C := Tryd.checked) (s := Rows.OpenSpec.upto Rows.recordEncodesSpec) own started (by kernel_rfl) Tryd.func3
    (witness_row_at (enc := enc) (C := Tryd.checked) false (laidWorld os) #[.agg #[.int .i64 0, .int .i64 0, .int .i64 0, .slice none 0 0, .slice none 0 0]] rfl (by kernel_rfl) (by kernel_rfl) (by kernel_rfl)
      (OpenSpec.preRow_of_cond 8 hx (by kernel_rfl) (fun k hk => by cases hk; kernel_rfl) (by kernel_rfl) laid_met)) ?_
  intro W base args ds gs before hval hW _ hcond hz hL _ _
  exact contractUpto H enc W base args ds gs before hval hW hL hz (hcond _ rfl)

theorem said : Rows.RecordEncodesUptoSaid :=
  OpenClaim.holds_of_cond 3 Tryd.f3 rfl rfl rfl rfl rfl rfl rfl ⟨rfl, rfl, rfl, rfl, rfl⟩ rfl rfl rfl rfl rfl (by kernel_rfl) Tryd.func3 (by kernel_rfl)
    (of_decide_eq_true (by kernel_rfl)) (by unfold Func.isWrapper; first | (rw [if_pos (by decide +kernel)]; kernel_rfl) | (rw [if_neg (by decide +kernel)]; exact ⟨rfl, rfl⟩))
    (fun os started H enc _ F => by rw [OpenClaim.pre_eq_preRow]; exact lifted os started H enc F)

theorem plain (f : FuncId) (fn : Func) (hf : Tryd.pinned.checked.prog.funcNamed "mahout/mahoutlaw09.RecordEncodes" = some f) (hfn : Tryd.pinned.checked.prog.funcs[f]? = some fn) :
    ∀ (j : Nat) t, fn.params[j]? = some t → Tryd.pinned.checked.prog.wantsStandIn t = false := by
  obtain rfl : f = 3 := Option.some.inj ((show Tryd.prog.funcNamed "mahout/mahoutlaw09.RecordEncodes" = some 3 by kernel_rfl).symm.trans hf) |>.symm
  obtain rfl : fn = Tryd.f3 := (Option.some.inj (Tryd.func3.symm.trans hfn)).symm
  exact fun j t ht => by
    rw [Tryd.params3] at ht
    have hm : t ∈ [25] := by simpa using Array.mem_of_getElem? ht
    have hall : ([25].all fun u => !Tryd.prog.wantsStandIn u) = true := by kernel_rfl
    exact (show Tryd.prog.wantsStandIn t = false by simpa using List.all_eq_true.1 hall t hm)
/-- THE CARD -/
theorem card : Rows.RecordEncodesUptoCardSaid :=
  Claim7.holds_tied_plain_at .later [] _ _ _ _ said (fun _ h => by cases h) (by kernel_rfl) (fun _ h => by cases h) recordEncodesUpto_row_tie rfl ⟨rfl, rfl⟩ (by kernel_rfl) rfl (fun f fn hf hfn => ⟨by kernel_rfl, plain f fn hf hfn⟩) (by kernel_rfl)

end Go.Proofs.YtndcmjgjecdgcaaDoor.fnRecordEncodes
