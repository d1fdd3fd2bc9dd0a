/- RecordApart is true of every two messages whose reading is of bulk at most 1048576: two messages that aren't the same have other bytes. -/
import Derived.Test.YtndcmjgjecdgcaaDoorRecLaw

import Derived.Test.YtndcmjgjecdgcaaDoorLawEnd

import Derived.Test.YtndcmjgjecdgcaaDoorRecLaid

namespace Go.Proofs.YtndcmjgjecdgcaaDoor.fnRecordApart
open Go.ChangeShapes Go.WideShapes Go.ChangeAt Go.RowKit Go.WideMaps Go.WideElems
open Go.ChangeMaps (open_string)

/-- the boxes of two letters, in any world behind wb -/
abbrev AB (wb : World) (q : Nat) (k c i : Int) (A : Option Addr) (n cn : Nat) (C : Option Addr) (t ct : Nat) (k' c' i' : Int) (A' : Option Addr) (n' cn' : Nat) (C' : Option Addr) (t' ct' : Nat) (w : World) : Prop :=
  Hid (Below wb.heap.size wb w ∧ q + 1 < wb.heap.size) ∧ (w.cell? ⟨q, 0, none⟩ = some (.int .i64 k) ∧ w.cell? ⟨q, 1, none⟩ = some (.int .i64 c) ∧ w.cell? ⟨q, 2, none⟩ = some (.int .i64 i) ∧ w.cell? ⟨q, 3, none⟩ = some (.slice A n cn) ∧ w.cell? ⟨q, 4, none⟩ = some (.slice C t ct)) ∧
    (w.cell? ⟨q + 1, 0, none⟩ = some (.int .i64 k') ∧ w.cell? ⟨q + 1, 1, none⟩ = some (.int .i64 c') ∧ w.cell? ⟨q + 1, 2, none⟩ = some (.int .i64 i') ∧ w.cell? ⟨q + 1, 3, none⟩ = some (.slice A' n' cn') ∧ w.cell? ⟨q + 1, 4, none⟩ = some (.slice C' t' ct'))
section
variable {wb w w' : World} {q : Nat} {k c i : Int} {A : Option Addr} {n cn : Nat} {C : Option Addr} {t ct : Nat} {k' c' i' : Int} {A' : Option Addr} {n' cn' : Nat} {C' : Option Addr} {t' ct' : Nat}
theorem ab_below (h : AB wb q k c i A n cn C t ct k' c' i' A' n' cn' C' t' ct' w) (hb : Below w.heap.size w w') : AB wb q k c i A n cn C t ct k' c' i' A' n' cn' C' t' ct' w' := by
  obtain ⟨h0, ⟨h1, h2, h3, h4, h5⟩, ⟨g1, g2, g3, g4, g5⟩⟩ := h
  have hs := h0.out.1.size
  have hq := h0.out.2
  have e : w'.heap[q]? = w.heap[q]? := hb.block q (by omega)
  have e' : w'.heap[q + 1]? = w.heap[q + 1]? := hb.block (q + 1) (by omega)
  exact ⟨Lib.hid ⟨h0.out.1.trans (hb.mono hs), hq⟩, ⟨(World.cell?_of_block (a := ⟨q, _, none⟩) e).trans h1, (World.cell?_of_block (a := ⟨q, _, none⟩) e).trans h2, (World.cell?_of_block (a := ⟨q, _, none⟩) e).trans h3, (World.cell?_of_block (a := ⟨q, _, none⟩) e).trans h4, (World.cell?_of_block (a := ⟨q, _, none⟩) e).trans h5⟩,
    ⟨(World.cell?_of_block (a := ⟨q + 1, _, none⟩) e').trans g1, (World.cell?_of_block (a := ⟨q + 1, _, none⟩) e').trans g2, (World.cell?_of_block (a := ⟨q + 1, _, none⟩) e').trans g3, (World.cell?_of_block (a := ⟨q + 1, _, none⟩) e').trans g4, (World.cell?_of_block (a := ⟨q + 1, _, none⟩) e').trans g5⟩⟩
theorem ab_drew (h : AB wb q k c i A n cn C t ct k' c' i' A' n' cn' C' t' ct' w) : AB wb q k c i A n cn C t ct k' c' i' A' n' cn' C' t' ct' w.drew :=
  ab_below h ⟨rfl, rfl, rfl, Nat.le_refl _, fun _ _ => rfl⟩
theorem ab_out (h : AB wb q k c i A n cn C t ct k' c' i' A' n' cn' C' t' ct' w) : Below wb.heap.size wb w := h.1.out.1
/-- message(l) in such a world -/
theorem msg_S {X Y : Option Addr} {cx cy : Nat} (a b d : Int) (ns : List Int) (ts : List ByteArray) (hM : Hid (MsgAt wb wb.heap.size X Y ns ts)) (h : AB wb q k c i A n cn C t ct k' c' i' A' n' cn' C' t' ct' w) :
    Calls Tryd.prog 8 #[.agg #[.int .i64 a, .int .i64 b, .int .i64 d, .slice X ns.length cx, .slice Y ts.length cy]] w fun e w' => ∃ X' cx' Y' cy', e = .returned (.agg #[.int .i64 a, .int .i64 b, .int .i64 d, .slice X' ns.length cx', .slice Y' ts.length cy']) ∧ AB wb q k c i A n cn C t ct k' c' i' A' n' cn' C' t' ct' w' ∧ Hid (MsgAt w' w'.heap.size X' Y' ns ts) := by
  have hb := ab_out h
  refine (message_any a b d X Y cx cy ns ts w ((hM.out.below hb).up hb.size)).mono ?_
  rintro e w' ⟨X', cx', Y', cy', rfl, hb', hm⟩
  exact ⟨X', cx', Y', cy', rfl, ab_below h hb', Lib.hid hm⟩
theorem msg_drew {X Y : Option Addr} {ns : List Int} {ts : List ByteArray} (h : Hid (MsgAt w w.heap.size X Y ns ts)) : Hid (MsgAt w.drew w.drew.heap.size X Y ns ts) :=
  Lib.hid (h.out.below ⟨rfl, rfl, rfl, Nat.le_refl _, fun _ _ => rfl⟩)
theorem enc_S {X Y : Option Addr} {cx cy : Nat} {a b d : Int} {ns : List Int} {ts : List ByteArray} {R : ByteArray} (hs : Hid (Shp wb)) (hk : Hid (i64 a ∧ i64 b ∧ i64 d)) (hz : Hid ((encL a b d ns ts).length ≤ 281474976710656)) (hR : Hid (encR a b d ns ts = R)) (hM : Hid (MsgAt w w.heap.size X Y ns ts)) (h : AB wb q k c i A n cn C t ct k' c' i' A' n' cn' C' t' ct' w) :
    Calls Tryd.prog 9 #[.agg #[.int .i64 a, .int .i64 b, .int .i64 d, .slice X ns.length cx, .slice Y ts.length cy]] w fun e w' => e = .returned (.string R) ∧ AB wb q k c i A n cn C t ct k' c' i' A' n' cn' C' t' ct' w' := by
  have hb := ab_out h
  refine (encode_any a b d X Y cx cy ns ts w (hs.out.below hb (Nat.le_refl _)) hM.out hk.out.1 hk.out.2.1 hk.out.2.2 hz.out).mono ?_
  rintro e w' ⟨rfl, hb'⟩
  exact ⟨by rw [hR.out], ab_below h hb'⟩
theorem val_S {X Y : Option Addr} {cx cy : Nat} {a b d : Int} {ns : List Int} {ts : List ByteArray} {R : Bool} (hs : Hid (Shp wb)) (hR : Hid (validB a ns.length ts.length = R)) (hM : Hid (MsgAt w w.heap.size X Y ns ts)) (h : AB wb q k c i A n cn C t ct k' c' i' A' n' cn' C' t' ct' w) :
    Calls Tryd.prog 10 #[.agg #[.int .i64 a, .int .i64 b, .int .i64 d, .slice X ns.length cx, .slice Y ts.length cy]] w fun e w' => e = .returned (.bool R) ∧ AB wb q k c i A n cn C t ct k' c' i' A' n' cn' C' t' ct' w' := by
  have hb := ab_out h
  refine (valid_msg a b d X Y cx cy ns ts w (hs.out.below hb (Nat.le_refl _)) hM.out).mono ?_
  rintro e w' ⟨rfl, hb'⟩
  exact ⟨by rw [hR.out], ab_below h hb'⟩
theorem doc_S {X Y : Option Addr} {cx cy : Nat} (a b d : Int) (ns : List Int) (ts : List ByteArray) (h : AB wb q k c i A n cn C t ct k' c' i' A' n' cn' C' t' ct' w) :
    Calls Tryd.prog 13 #[.agg #[.int .i64 a, .int .i64 b, .int .i64 d, .slice X ns.length cx, .slice Y ts.length cy]] w fun e w' => e = .returned (.agg #[.int .i64 a, .int .i64 b, .int .i64 d, .slice X ns.length cx, .slice Y ts.length cy]) ∧ AB wb q k c i A n cn C t ct k' c' i' A' n' cn' C' t' ct' w' ∧ Below w.heap.size w w' := by
  refine (doc_any a b d X Y ns.length cx ts.length cy w).mono ?_
  rintro e w' ⟨rfl, hb'⟩
  exact ⟨rfl, ab_below h hb', hb'⟩
theorem same_S {X Y : Option Addr} {cx cy : Nat} {a b d : Int} {ns : List Int} {ts : List ByteArray} {X' Y' : Option Addr} {cx' cy' : Nat} {a' b' d' : Int} {ns' : List Int} {ts' : List ByteArray} {R : Bool} (hR : Hid (sameB a b d ns ts a' b' d' ns' ts' = R)) (hM : Hid (MsgAt w w.heap.size X Y ns ts)) (hM' : Hid (MsgAt wb wb.heap.size X' Y' ns' ts')) (h : AB wb q k c i A n cn C t ct k' c' i' A' n' cn' C' t' ct' w) :
    Calls Tryd.prog 14 #[.agg #[.int .i64 a, .int .i64 b, .int .i64 d, .slice X ns.length cx, .slice Y ts.length cy], .agg #[.int .i64 a', .int .i64 b', .int .i64 d', .slice X' ns'.length cx', .slice Y' ts'.length cy']] w fun e w' => e = .returned (.bool R) ∧ AB wb q k c i A n cn C t ct k' c' i' A' n' cn' C' t' ct' w' := by
  have hb := ab_out h
  have h2 : MsgAt w w.heap.size X' Y' ns' ts' := (hM'.out.below hb).up hb.size
  have h3 := same_any a b d X Y cx cy ns ts a' b' d' X' Y' cx' cy' ns' ts' w hM.out h2
  refine h3.mono ?_
  rintro e w' ⟨rfl, hb'⟩
  exact ⟨by rw [hR.out], ab_below h hb'⟩
theorem msg_below {B : Nat} {X Y : Option Addr} {ns : List Int} {ts : List ByteArray} (h : Hid (MsgAt w w.heap.size X Y ns ts)) (hb : Below w.heap.size w w') : Hid (MsgAt w' w'.heap.size X Y ns ts) :=
  Lib.hid ((h.out.below hb).up hb.size)
end
set_option maxRecDepth 100000 in
set_option maxHeartbeats 4000000 in
theorem walk (k c i : Int) (A C : Option Addr) (cn ct : Nat) (ns : List Int) (ts : List ByteArray) (k' c' i' : Int) (A' C' : Option Addr) (cn' ct' : Nat) (ns' : List Int) (ts' : List ByteArray) (w : World) (hS : Shp w)
    (hk : i64 k) (hc : i64 c) (hi : i64 i) (hk' : i64 k') (hc' : i64 c') (hi' : i64 i') (hM : MsgAt w w.heap.size A C ns ts) (hM' : MsgAt w w.heap.size A' C' ns' ts')
    (hb : ns.length + ts.length + totB ts ≤ 1048576) (hb' : ns'.length + ts'.length + totB ts' ≤ 1048576) :
    Calls Tryd.prog 6 #[.agg #[.int .i64 k, .int .i64 c, .int .i64 i, .slice A ns.length cn, .slice C ts.length ct], .agg #[.int .i64 k', .int .i64 c', .int .i64 i', .slice A' ns'.length cn', .slice C' ts'.length ct']] w fun e w' => e = .returned (.bool true) ∧ Below w.heap.size w w' := by
  have HS := Lib.hid hS
  have HM := Lib.hid hM
  have HM' := Lib.hid hM'
  have hz : (encL k c i ns ts).length ≤ 281474976710656 := by have := enc_len k c i ns ts; omega
  have hz' : (encL k' c' i' ns' ts').length ≤ 281474976710656 := by have := enc_len k' c' i' ns' ts'; omega
  have HB := Lib.hid hb
  have HB' := Lib.hid hb'
  have HZ := Lib.hid hz
  have HZ' := Lib.hid hz'
  have HK := Lib.hid (And.intro hk (And.intro hc hi))
  have HK' := Lib.hid (And.intro hk' (And.intro hc' hi'))
  clear hS hM hM' hz hz' hb hb' hk hc hi hk' hc' hi'
  obtain ⟨X, hX⟩ : ∃ X, encR k c i ns ts = X := ⟨_, rfl⟩
  obtain ⟨Y, hY⟩ : ∃ Y, encR k' c' i' ns' ts' = Y := ⟨_, rfl⟩
  have HX := Lib.hid hX
  have HY := Lib.hid hY
  clear hX hY
  go_enter Tryd.func6, Tryd.ntmps6
  go_wp2_with (fail)
  refine (speaks9_any _ ((HS.out.alloc _).alloc _)).mono ?_
  rintro e w1 ⟨rfl, hb1⟩
  have M1 := Lib.hid (((M5.new w k c i A ns.length cn C ts.length ct 25).below (below_alloc _ (.cells #[.int .i64 k', .int .i64 c', .int .i64 i', .slice A' ns'.length cn', .slice C' ts'.length ct'] 25)) (by simp)).below hb1 (by simp; omega))
  have M2 := Lib.hid ((M5.new (w.alloc (.cells #[.int .i64 k, .int .i64 c, .int .i64 i, .slice A ns.length cn, .slice C ts.length ct] 25)) k' c' i' A' ns'.length cn' C' ts'.length ct' 25).below hb1 (by simp))
  have BB := Lib.hid (((below_alloc w (.cells #[.int .i64 k, .int .i64 c, .int .i64 i, .slice A ns.length cn, .slice C ts.length ct] 25)).alloc (by simp) (.cells #[.int .i64 k', .int .i64 c', .int .i64 i', .slice A' ns'.length cn', .slice C' ts'.length ct'] 25)).trans (hb1.mono (by simp; omega)))
  simp only [World.size_alloc] at M2 ⊢
  obtain ⟨q, hq⟩ : ∃ q, q = w.heap.size := ⟨_, rfl⟩
  rw [← hq] at M1 M2 ⊢
  have HA := Lib.hid ((HM.out.below BB.out).up BB.out.size)
  have HA' := Lib.hid ((HM'.out.below BB.out).up BB.out.size)
  have HS1 := Lib.hid (HS.out.below BB.out (Nat.le_refl _))
  have SS : AB w1 q k c i A ns.length cn C ts.length ct k' c' i' A' ns'.length cn' C' ts'.length ct' w1 := ⟨Lib.hid ⟨Below.refl _ _, M2.out.lt⟩, ⟨M1.out.c0, M1.out.c1, M1.out.c2, M1.out.c3, M1.out.c4⟩, ⟨M2.out.c0, M2.out.c1, M2.out.c2, M2.out.c3, M2.out.c4⟩⟩
  clear hb1 hq HS HM HM' M1 M2
  go_wp2_with (fail)
  go_region_held3 (fun w' => AB w1 q k c i A ns.length cn C ts.length ct k' c' i' A' ns'.length cn' C' ts'.length ct' w') (first | assumption | with_reducible exact ab_drew (by assumption))
    (first
      | (go_at_call 8; first
          | (with_reducible refine (msg_S k c i ns ts HA (by assumption)).mono ?_; rintro e wa ⟨Xa, xa, Ya, ya, rfl, hSa, hMa⟩)
          | (with_reducible refine (msg_S k' c' i' ns' ts' HA' (by assumption)).mono ?_; rintro e wc ⟨Xc, xc, Yc, yc, rfl, hSc, hMc⟩))
      | (go_at_call 9; first
          | (with_reducible refine (enc_S HS1 HK HZ HX hMa (by assumption)).mono ?_; rintro e wd ⟨rfl, hSd⟩)
          | (with_reducible refine (enc_S HS1 HK' HZ' HY hMc (by assumption)).mono ?_; rintro e we ⟨rfl, hSe⟩)))
  clear SS hSa hSd hSc hMa hMc
  obtain ⟨V, hV⟩ : ∃ V, validB k ns.length ts.length = V := ⟨_, rfl⟩
  obtain ⟨V', hV'⟩ : ∃ V', validB k' ns'.length ts'.length = V' := ⟨_, rfl⟩
  have HV := Lib.hid hV
  have HV' := Lib.hid hV'
  clear hV hV'
  cases V with
  | false =>
    have hv := HV.out
    have hx : X = ⟨#[]⟩ := by rw [← HX.out]; exact encR_no hv
    subst hx
    cases V' with
    | false =>
      have hv' := HV'.out
      have hy : Y = ⟨#[]⟩ := by rw [← HY.out]; exact encR_no hv'
      subst hy
      clear hv hv'
      go_wp2_with (fail)
      refine (msg_S k c i ns ts HA hSe).mono ?_
      rintro e wf ⟨Xf, xf, Yf, yf, rfl, hSf, hMf⟩
      go_wp2_with (fail)
      refine (val_S HS1 HV hMf hSf).mono ?_
      rintro e wg ⟨rfl, hSg⟩
      go_wp2_with (fail)
      refine (msg_S k' c' i' ns' ts' HA' hSg).mono ?_
      rintro e wh ⟨Xh, xh, Yh, yh, rfl, hSh, hMh⟩
      go_wp2_with (fail)
      refine (val_S HS1 HV' hMh hSh).mono ?_
      rintro e wi ⟨rfl, hSi⟩
      go_wp2_with (fail)
      go_ret
      exact ⟨rfl, BB.out.trans ((ab_out hSi).mono BB.out.size)⟩
    | true =>
      have hv' := HV'.out
      have hy : ¬ Y.toList = [] := by rw [← HY.out, encR_yes hv']; exact encS_ne _ _ _ _ _
      have hy2 : (Y.toList == []) = false := by simpa using hy
      have hy3 : Y.toList.isEmpty = false := by simpa using hy
      clear hv hv'
      go_wp2_with (fail)
      refine (msg_S k c i ns ts HA hSe).mono ?_
      rintro e wf ⟨Xf, xf, Yf, yf, rfl, hSf, hMf⟩
      go_wp2_with (fail)
      refine (val_S HS1 HV hMf hSf).mono ?_
      rintro e wg ⟨rfl, hSg⟩
      go_wp2_with (fail)
      refine (msg_S k' c' i' ns' ts' HA' hSg).mono ?_
      rintro e wh ⟨Xh, xh, Yh, yh, rfl, hSh, hMh⟩
      go_wp2_with (fail)
      refine (val_S HS1 HV' hMh hSh).mono ?_
      rintro e wi ⟨rfl, hSi⟩
      go_wp2_with (fail)
      go_ret
      exact ⟨rfl, BB.out.trans ((ab_out hSi).mono BB.out.size)⟩
  | true =>
    have hv := HV.out
    have hx : ¬ X.toList = [] := by rw [← HX.out, encR_yes hv]; exact encS_ne _ _ _ _ _
    have hx2 : (X.toList == []) = false := by simpa using hx
    have hx3 : X.toList.isEmpty = false := by simpa using hx
    cases V' with
    | false =>
      have hv' := HV'.out
      have hy : Y = ⟨#[]⟩ := by rw [← HY.out]; exact encR_no hv'
      subst hy
      clear hv hv'
      go_wp2_with (fail)
      refine (msg_S k c i ns ts HA hSe).mono ?_
      rintro e wf ⟨Xf, xf, Yf, yf, rfl, hSf, hMf⟩
      go_wp2_with (fail)
      refine (val_S HS1 HV hMf hSf).mono ?_
      rintro e wg ⟨rfl, hSg⟩
      go_wp2_with (fail)
      refine (msg_S k' c' i' ns' ts' HA' hSg).mono ?_
      rintro e wh ⟨Xh, xh, Yh, yh, rfl, hSh, hMh⟩
      go_wp2_with (fail)
      refine (val_S HS1 HV' hMh hSh).mono ?_
      rintro e wi ⟨rfl, hSi⟩
      go_wp2_with (fail)
      go_ret
      exact ⟨rfl, BB.out.trans ((ab_out hSi).mono BB.out.size)⟩
    | true =>
      have hv' := HV'.out
      have hy : ¬ Y.toList = [] := by rw [← HY.out, encR_yes hv']; exact encS_ne _ _ _ _ _
      have hy2 : (Y.toList == []) = false := by simpa using hy
      have hy3 : Y.toList.isEmpty = false := by simpa using hy
      have hxs : X = encS k c i ns ts := by rw [← HX.out]; exact encR_yes hv
      have hys : Y = encS k' c' i' ns' ts' := by rw [← HY.out]; exact encR_yes hv'
      have HXS := Lib.hid hxs
      have HYS := Lib.hid hys
      clear hv hv' hxs hys
      obtain ⟨Z, hZ⟩ : ∃ Z, sameB k c i ns ts k' c' i' ns' ts' = Z := ⟨_, rfl⟩
      have e1 : (X.toList == Y.toList) = Z := by
        rw [← hZ, HXS.out, HYS.out, ByteArray.toList_eq, ByteArray.toList_eq]
        show ((encL k c i ns ts == encL k' c' i' ns' ts') = _)
        unfold sameB
        by_cases he : encL k c i ns ts = encL k' c' i' ns' ts'
        · have h1 := HA.out
          have h2 := HA'.out
          have h3 := enc_inj (hk := HK.out.1) (hc := HK.out.2.1) (hi := HK.out.2.2) (hk' := HK'.out.1) (hc' := HK'.out.2.1) (hi' := HK'.out.2.2) (hn := h1.nb) (hn' := h2.nb)
            (ht := fun t ht => by have := h1.tb t ht; constructor <;> omega) (ht' := fun t ht => by have := h2.tb t ht; constructor <;> omega)
            (nl := by have := h1.nl; constructor <;> omega) (nl' := by have := h2.nl; constructor <;> omega) (tl := by have := h1.tl; constructor <;> omega) (tl' := by have := h2.tl; constructor <;> omega) he
          rw [decide_eq_true h3, he]
          simp
        · rw [beq_eq_false_iff_ne.2 he, decide_eq_false]
          rintro ⟨rfl, rfl, rfl, rfl, rfl⟩
          exact he rfl
      have HZZ := Lib.hid hZ
      clear hZ
      have SS := hSe
      cases Z with
      | true =>
        go_wp2_with (fail)
        go_region_held3 (fun w' => AB w1 q k c i A ns.length cn C ts.length ct k' c' i' A' ns'.length cn' C' ts'.length ct' w') (first | assumption | with_reducible exact ab_drew (by assumption))
          (first
            | (go_at_call 8; (with_reducible refine (msg_S k c i ns ts HA (by assumption)).mono ?_); rintro e wf ⟨Xf, xf, Yf, yf, rfl, hSf, hMf⟩)
            | (go_at_call 13; (with_reducible refine (doc_S k' c' i' ns' ts' (by assumption)).mono ?_); rintro e wg ⟨rfl, hSg, hbg⟩; have hMg := msg_below (B := 0) hMf hbg)
            | (go_at_call 14; (with_reducible refine (same_S HZZ hMg HA' (by assumption)).mono ?_); rintro e wi ⟨rfl, hSi⟩))
        all_goals
          go_wp2
          go_ret
          exact ⟨rfl, BB.out.trans ((ab_out hSi).mono BB.out.size)⟩
      | false =>
        go_wp2_with (fail)
        go_region_held3 (fun w' => AB w1 q k c i A ns.length cn C ts.length ct k' c' i' A' ns'.length cn' C' ts'.length ct' w') (first | assumption | with_reducible exact ab_drew (by assumption))
          (first
            | (go_at_call 8; (with_reducible refine (msg_S k c i ns ts HA (by assumption)).mono ?_); rintro e wf ⟨Xf, xf, Yf, yf, rfl, hSf, hMf⟩)
            | (go_at_call 13; (with_reducible refine (doc_S k' c' i' ns' ts' (by assumption)).mono ?_); rintro e wg ⟨rfl, hSg, hbg⟩; have hMg := msg_below (B := 0) hMf hbg)
            | (go_at_call 14; (with_reducible refine (same_S HZZ hMg HA' (by assumption)).mono ?_); rintro e wi ⟨rfl, hSi⟩))
        all_goals
          go_wp2
          go_ret
          exact ⟨rfl, BB.out.trans ((ab_out hSi).mono BB.out.size)⟩

set_option maxRecDepth 100000 in
theorem contractUpto (H : Type) (enc : TypeId × Value → H) (W : World) (base : Nat) (args : Array Value) (ds gs : List (DataW H)) (before : List MemPlace)
    (hval : ∀ (j : Nat) t v, Tryd.f6.params[j]? = some t → args[j]? = some v → Value.okWide Tryd.prog W .any base t v)
    (hW : DataW.Whole enc Tryd.prog Tryd.f6.params.toList Rows.recordApartSpec.vars false W args.toList ds gs before) (hL : laidMetH Tryd.prog Rows.recordApartRow.laid W)
    (hz : (DataW.weightsEach Tryd.prog (Tryd.f6.params.toList ++ []) (ds ++ gs)).all (· ≤ reachBytes) = true) (hk : Rows.uptoSmall H (ds ++ gs) = true) :
    Calls Tryd.prog 6 args W fun e W' => ∃ v, e = .returned v ∧ Rows.recordApartSpec.post enc Tryd.prog Tryd.f6 false true false false W args v W' := by
  have hW' := hW
  obtain ⟨p, q, hA0, hV, rfl, hfz, hnd⟩ := hW
  have hA : DataW.TrodAll enc Tryd.prog W 0 (fun _ => true) true Tryd.f6.params.toList args.toList ds p := hA0
  rw [Tryd.params6] at hA hval hz
  obtain ⟨v0, vs0, d0, ds0, p0, q0, hargs, rfl, rfl, h0, r0⟩ := trodAll_cons hA
  obtain ⟨v1, vs1, d1, ds1, p1, q1, rfl, rfl, rfl, h1, r1⟩ := trodAll_cons r0
  obtain ⟨rfl, rfl, rfl⟩ := trodAll_nil r1
  obtain rfl : args = #[v0, v1] := by cases args; simp_all
  obtain ⟨rfl, rfl⟩ := trodVars_none hV
  have hw0 : ∀ m ∈ d0.weights Tryd.prog 25, m ≤ reachBytes := fun m hm => by
    have hall := List.all_eq_true.1 hz m (DataW.weights_mem_each (j := 0) (t := 25) rfl rfl m hm)
    simpa using hall
  obtain ⟨k0, c0, i0, A0, cn0, C0, ct0, ns0, ts0, rfl, gk0, gc0, gi0, M0, hb0⟩ := open_letter (hval 0 25 v0 rfl rfl) h0 hw0
  have bb0 : ns0.length + ts0.length + totB ts0 ≤ 1048576 := by
    have hall := of_decide_eq_true hk
    simp only [List.append_nil, List.cons_append, List.nil_append, Rows.uptoBulkAll] at hall
    omega
  have hw1 : ∀ m ∈ d1.weights Tryd.prog 25, m ≤ reachBytes := fun m hm => by
    have hall := List.all_eq_true.1 hz m (DataW.weights_mem_each (j := 1) (t := 25) rfl rfl m hm)
    simpa using hall
  obtain ⟨k1, c1, i1, A1, cn1, C1, ct1, ns1, ts1, rfl, gk1, gc1, gi1, M1, hb1⟩ := open_letter (hval 1 25 v1 rfl rfl) h1 hw1
  have bb1 : ns1.length + ts1.length + totB ts1 ≤ 1048576 := by
    have hall := of_decide_eq_true hk
    simp only [List.append_nil, List.cons_append, List.nil_append, Rows.uptoBulkAll] at hall
    omega
  clear hA0
  refine (walk k0 c0 i0 A0 C0 cn0 ct0 ns0 ts0 k1 c1 i1 A1 C1 cn1 ct1 ns1 ts1 W (shp_of hL) gk0 gc0 gi0 gk1 gc1 gi1 M0 M1 bb0 bb1).mono fun e W' ⟨he, hb⟩ => ?_
  subst he
  exact ⟨_, rfl, law_end hW' rfl rfl hb laidOut (by kernel_rfl) (by kernel_rfl) Tryd.underlying4⟩

theorem reads (os : Os) {H : Type} (enc : TypeId × Value → H) : ∃ places, DataW.whole enc Tryd.prog ((laidWorld os).forCall (fun _ _ => 0) ⟨#[], #[.agg #[.int .i64 0, .int .i64 0, .int .i64 0, .slice none 0 0, .slice none 0 0], .agg #[.int .i64 0, .int .i64 0, .int .i64 0, .slice none 0 0, .slice none 0 0]], []⟩).memory Tryd.f6.params.toList Rows.recordApartSpec.vars false [Value.agg #[.int .i64 0, .int .i64 0, .int .i64 0, .slice none 0 0, .slice none 0 0], Value.agg #[.int .i64 0, .int .i64 0, .int .i64 0, .slice none 0 0, .slice none 0 0]] 8 = some ([.agg [.lit (.int .i64 0), .lit (.int .i64 0), .lit (.int .i64 0), .nil, .nil], .agg [.lit (.int .i64 0), .lit (.int .i64 0), .lit (.int .i64 0), .nil, .nil]], [], places) :=
  ⟨[], by kernel_rfl⟩

set_option maxRecDepth 100000 in
theorem lifted (os : Os) (started : os.Started) (H : Type) (enc : TypeId × Value → H) (F : Stop.Interp) :
    ReturnsInHanded {} Tryd.checked os 6 .any ((Rows.OpenSpec.upto Rows.recordApartSpec).preRow enc Tryd.prog Tryd.f6 Rows.recordApartUptoRow.domain false Rows.recordApartUptoRow.laid) (((Rows.OpenSpec.upto Rows.recordApartSpec).at F).post enc Tryd.prog Tryd.f6 false true false false) := by
  obtain ⟨places, hx⟩ := reads os enc
  have laid_met : laidMet Tryd.prog Rows.recordApartUptoRow.laid ((laidWorld os).forCall (fun _ _ => 0) ⟨#[], #[.agg #[.int .i64 0, .int .i64 0, .int .i64 0, .slice none 0 0, .slice none 0 0], .agg #[.int .i64 0, .int .i64 0, .int .i64 0, .slice none 0 0, .slice none 0 0]], []⟩).memory := (laidMet_of_run' 8 (by kernel_rfl) (by kernel_rfl))
  refine returnsInHanded_of_row (C := Tryd.checked) (s := Rows.OpenSpec.upto Rows.recordApartSpec) own started (by kernel_rfl) Tryd.func6
    (witness_row_at (enc := enc) (C := Tryd.checked) false (laidWorld os) #[.agg #[.int .i64 0, .int .i64 0, .int .i64 0, .slice none 0 0, .slice none 0 0], .agg #[.int .i64 0, .int .i64 0, .int .i64 0, .slice none 0 0, .slice none 0 0]] rfl (by kernel_rfl) (by kernel_rfl) (by kernel_rfl)
      (OpenSpec.preRow_of_cond 8 hx (by kernel_rfl) (fun k hk => by cases hk; kernel_rfl) (by kernel_rfl) laid_met)) ?_
  intro W base args ds gs before hval hW _ hcond hz hL _ _
  exact contractUpto H enc W base args ds gs before hval hW hL hz (hcond _ rfl)

theorem said : Rows.RecordApartUptoSaid :=
  OpenClaim.holds_of_cond 6 Tryd.f6 rfl rfl rfl rfl rfl rfl rfl ⟨rfl, rfl, rfl, rfl, rfl⟩ rfl rfl rfl rfl rfl (by kernel_rfl) Tryd.func6 (by kernel_rfl)
    (of_decide_eq_true (by kernel_rfl)) (by unfold Func.isWrapper; first | (rw [if_pos (by decide +kernel)]; kernel_rfl) | (rw [if_neg (by decide +kernel)]; exact ⟨rfl, rfl⟩))
    (fun os started H enc _ F => by rw [OpenClaim.pre_eq_preRow]; exact lifted os started H enc F)

theorem plain (f : FuncId) (fn : Func) (hf : Tryd.pinned.checked.prog.funcNamed "mahout/mahoutlaw09.RecordApart" = some f) (hfn : Tryd.pinned.checked.prog.funcs[f]? = some fn) :
    ∀ (j : Nat) t, fn.params[j]? = some t → Tryd.pinned.checked.prog.wantsStandIn t = false := by
  obtain rfl : f = 6 := Option.some.inj ((show Tryd.prog.funcNamed "mahout/mahoutlaw09.RecordApart" = some 6 by kernel_rfl).symm.trans hf) |>.symm
  obtain rfl : fn = Tryd.f6 := (Option.some.inj (Tryd.func6.symm.trans hfn)).symm
  exact fun j t ht => by
    rw [Tryd.params6] at ht
    have hm : t ∈ [25, 25] := by simpa using Array.mem_of_getElem? ht
    have hall : ([25, 25].all fun u => !Tryd.prog.wantsStandIn u) = true := by kernel_rfl
    exact (show Tryd.prog.wantsStandIn t = false by simpa using List.all_eq_true.1 hall t hm)
/-- THE CARD -/
theorem card : Rows.RecordApartUptoCardSaid :=
  Claim7.holds_tied_plain_at .later [] _ _ _ _ said (fun _ h => by cases h) (by kernel_rfl) (fun _ h => by cases h) recordApartUpto_row_tie rfl ⟨rfl, rfl⟩ (by kernel_rfl) rfl (fun f fn hf hfn => ⟨by kernel_rfl, plain f fn hf hfn⟩) (by kernel_rfl)

end Go.Proofs.YtndcmjgjecdgcaaDoor.fnRecordApart
