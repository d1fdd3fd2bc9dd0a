/- WireOneForm is true for every text and every list of kinds: what can be taken from any bytes is written in just these bytes. No conditions. -/
import Derived.Test.YtfgmeeoldcfjbabUnpackT
import Derived.Test.YtfgmeeoldcfjbabWireInv
import Derived.Test.YtfgmeeoldcfjbabSlices
import Derived.Test.YtfgmeeoldcfjbabWireSpeaks
import Derived.Test.YtfgmeeoldcfjbabKindOf

import Derived.Test.YtfgmeeoldcfjbabLawEnd

import Derived.Test.YtfgmeeoldcfjbabPlainKit

namespace Go.Proofs.Ytfgmeeoldcfjbab.fnWireOneForm
open Go.ChangeShapes Go.WideShapes Go.ChangeAt Go.RowKit Go.WideMaps Go.WideElems
open Go.ChangeMaps (open_string)

theorem one_int {l l1 : List UInt8} {n e1 : Int} (h : Wire.tInt l 0 = (n, l1, e1)) :
    (e1 = 0 ∧ l = (numS n).data.toList ++ l1 ∧ -9223372036854775808 ≤ n ∧ n ≤ 9223372036854775807) ∨ ((e1 = 20 ∨ e1 = 21) ∧ n = 0) := by
  unfold Wire.tInt at h
  rw [if_neg (by simp)] at h
  cases hr : Wire.rd l with
  | short => rw [hr] at h; simp only [Prod.mk.injEq] at h; exact .inr ⟨.inl h.2.2.symm, h.1.symm⟩
  | wrong => rw [hr] at h; simp only [Prod.mk.injEq] at h; exact .inr ⟨.inr h.2.2.symm, h.1.symm⟩
  | ok v m =>
    rw [hr] at h
    simp only [Prod.mk.injEq] at h
    obtain ⟨rfl, rfl, rfl⟩ := h
    refine .inl ⟨rfl, ?_, Wire.zag_bd (Wire.rd_ok hr).1⟩
    show l = Wire.num (Wire.zag v) ++ l.drop m
    rw [← Wire.rd_form hr, List.take_append_drop]
theorem one_text {l l1 t : List UInt8} {e1 : Int} (h : Wire.tText l 0 = (t, l1, e1)) :
    (e1 = 0 ∧ l = (numS (S t).size ++ S t).data.toList ++ l1 ∧ t.length ≤ 1048576) ∨ ((e1 = 20 ∨ e1 = 21 ∨ e1 = 1) ∧ t = []) := by
  obtain ⟨n, l2, e2, hti⟩ : ∃ n l2 e2, Wire.tInt l 0 = (n, l2, e2) := ⟨_, _, _, rfl⟩
  unfold Wire.tText at h
  rw [hti] at h
  rcases one_int hti with ⟨rfl, hl, _, _⟩ | ⟨he, rfl⟩
  · simp only [ne_eq, not_true_eq_false, if_false] at h
    by_cases h1 : n < 0
    · rw [if_pos h1] at h; simp only [Prod.mk.injEq] at h; exact .inr ⟨.inr (.inl h.2.2.symm), h.1.symm⟩
    · rw [if_neg h1] at h
      by_cases h2 : 1048576 < n
      · rw [if_pos h2] at h; simp only [Prod.mk.injEq] at h; exact .inr ⟨.inr (.inr h.2.2.symm), h.1.symm⟩
      · rw [if_neg h2] at h
        by_cases h3 : (l2.length : Int) < n
        · rw [if_pos h3] at h; simp only [Prod.mk.injEq] at h; exact .inr ⟨.inl h.2.2.symm, h.1.symm⟩
        · rw [if_neg h3] at h
          simp only [Prod.mk.injEq] at h
          obtain ⟨rfl, rfl, rfl⟩ := h
          have hlen : (l2.take n.toNat).length = n.toNat := by rw [List.length_take]; omega
          refine .inl ⟨rfl, ?_, by omega⟩
          have hsz : ((S (l2.take n.toNat)).size : Int) = n := by rw [S_size, hlen]; omega
          rw [hsz, ByteArray.data_append, Array.toList_append, S_data, List.append_assoc, List.take_append_drop]
          exact hl
  · rcases he with rfl | rfl <;> simp at h <;> obtain ⟨rfl, rfl, rfl⟩ := h
    · exact .inr ⟨.inl rfl, rfl⟩
    · exact .inr ⟨.inr (.inl rfl), rfl⟩
theorem one_bool {l l1 : List UInt8} {b : Bool} {e1 : Int} (h : Wire.tBool l 0 = (b, l1, e1)) :
    (e1 = 0 ∧ l = (boolS b).data.toList ++ l1) ∨ ((e1 = 20 ∨ e1 = 21) ∧ b = false) := by
  unfold Wire.tBool at h
  rw [if_neg (by simp)] at h
  cases l with
  | nil => simp only [Prod.mk.injEq] at h; exact .inr ⟨.inl h.2.2.symm, h.1.symm⟩
  | cons x r =>
    by_cases hx : 1 < x.toNat
    · simp only [hx, if_true, Prod.mk.injEq] at h; exact .inr ⟨.inr h.2.2.symm, h.1.symm⟩
    · simp only [hx, if_false, Prod.mk.injEq] at h
      obtain ⟨rfl, rfl, rfl⟩ := h
      refine .inl ⟨rfl, ?_⟩
      rcases Nat.lt_or_ge x.toNat 1 with h1 | h1
      · have : x = 0 := UInt8.toNat_inj.1 (by show x.toNat = 0; omega)
        subst this; rfl
      · have : x = 1 := UInt8.toNat_inj.1 (by show x.toNat = 1; omega)
        subst this; rfl
theorem pack_drewN {w : World} {p L : Nat} {parts : List ByteArray} (h : PackIs w p L parts) (n : Nat) : PackIs (w.drewN n) p L parts := h.below (below_drewN (Below.refl w.heap.size w) n) (Nat.le_refl _)
theorem catS_data (parts : List ByteArray) : (catS parts).data.toList = cat parts := rfl
/-- what was put is the beginning of the text -/
theorem prefix_eq {s : ByteArray} {parts : List ByteArray} {l : List UInt8} (h : s.data.toList = cat parts ++ l) : s.extract 0 (catS parts).size = catS parts := by
  apply ByteArray.ext
  apply Array.ext'
  rw [Lib.extract_data, catS_size, h, catS_data, List.drop_zero, Nat.sub_zero, ← cat_length parts, List.take_left]
theorem prefix_size {s : ByteArray} {parts : List ByteArray} {l : List UInt8} (h : s.data.toList = cat parts ++ l) : s.size = tot parts + l.length := by
  have := congrArg List.length h
  rw [size_toList, List.length_append, cat_length] at this
  exact this
theorem uend_is {u : Nat} {s : ByteArray} {l : List UInt8} {er E : Int} {w : World} (hs : s.size ≤ 140737488351232) (hU : UnIs w u s l er) (hE : Wire.tEnd l er = E) :
    Calls Try.prog 9 #[.pointer (some ⟨u, 0, none⟩)] w fun e w' => e = .returned (.int .i64 E) ∧ ∃ n, w' = w.drewN n := by
  rw [← hE]; exact uend_any u s l er w hs hU

set_option maxRecDepth 100000 in
set_option maxHeartbeats 8000000 in
theorem walk (s : ByteArray) (A : Option Addr) (len cap : Nat) (ks : List Int) (w : World) (hs : s.size ≤ 140737488351232) (hl : len ≤ maxLen) (hI : SlOf w w.heap.size A len (fun i => .int .i64 (ks.getD i 0))) (hK : ∀ n ∈ ks, (Lit.int .i64 n).wf = true) (hn : len ≤ ks.length) :
    Calls Try.prog 3 #[.string s, .slice A len cap] w fun e w' => e = .returned (.bool true) ∧ Below w.heap.size w w' := by
  have HI := Lib.hid hI
  have HKS : Hid (∀ i, i < len → -9223372036854775808 ≤ ks.getD i 0 ∧ ks.getD i 0 ≤ 9223372036854775807) := fun i hi => by
    have hil : i < ks.length := by omega
    have : ks.getD i 0 = ks[i] := by simp [List.getD, hil]
    rw [this]
    exact i64_of_wf (hK _ (List.getElem_mem hil))
  unfold maxLen at hl
  clear hI hK hn
  go_enter Try.func3, Try.ntmps3
  go_wp2_with (fail)
  refine (speaks2_any _).mono ?_
  rintro e w1 ⟨rfl, hb1⟩
  have B1 := Lib.hid hb1
  clear hb1
  go_wp2_with (fail)
  refine (open_any s _).mono ?_
  rintro e w2 ⟨u, rfl, hu, hU, hb⟩
  have HU := Lib.hid hU
  have B2 := Lib.hid (B1.out.trans (hb.mono B1.out.size))
  have huw : w.heap.size ≤ u := by rw [hu]; exact B1.out.size
  clear hU hb hu B1
  obtain ⟨p, hp⟩ : ∃ p, p = w2.heap.size := ⟨_, rfl⟩
  have hup : u < p := by rw [hp]; exact HU.out.1
  have P0 := Lib.hid (PackIs.new w2 28)
  have hal : Below w2.heap.size w2 (w2.alloc (.cells #[.pointer none] 28)) := (Below.refl _ _).alloc (Nat.le_refl _) _
  have U0 := Lib.hid (HU.out.below hal (Nat.le_refl _))
  have B3 := Lib.hid (B2.out.trans (hal.mono B2.out.size))
  rw [← hp] at P0
  have HP := Lib.hid hp
  clear hal hp HU B2
  go_wp2_with (fail)
  rw [← HP.out]
  go_loopg [7] len (fun k s7 wr => ∃ (i : Nat) (parts : List ByteArray) (l : List UInt8), i ≤ len ∧ Hid (k = len - i) ∧ s7 = .int .i64 (i : Int) ∧ Hid (s.data.toList = cat parts ++ l) ∧ Hid (PackIs wr p (p + 1) parts) ∧ Hid (UnIs wr u s l 0) ∧ Hid (Below w.heap.size w wr))
  case atStart => exact ⟨0, [], s.data.toList, by omega, rfl, rfl, rfl, P0, U0, B3⟩
  case round =>
    obtain ⟨i, parts, l, hi, HK, rfl, HC, P1, U1, BB⟩ := hrel
    clear P0 U0 B3
    by_cases hlt : i < len
    · obtain ⟨b, off, rfl, hb, hcell'⟩ := (HI.out.below BB.out) i hlt
      have hcell : wr.cell? ⟨b, off + i, none⟩ = some (.int .i64 (ks.getD i 0)) := hcell'
      clear hcell'
      have hkb := Lib.hid (HKS.out i hlt)
      obtain ⟨kk, hkk⟩ : ∃ kk, kk = ks.getD i 0 := ⟨_, rfl⟩
      rw [← hkk] at hcell hkb
      clear hkk
      go_wp2_with (fail)
      rcases kd_cases kk with hc | hc | hc
      · refine (kind_is kk 0 _ hkb.out hc).mono ?_
        rintro e w3 ⟨rfl, rfl⟩
        clear hc
        obtain ⟨x, l1, e1, ht⟩ : ∃ x l1 e1, Wire.tInt l 0 = (x, l1, e1) := ⟨_, _, _, rfl⟩
        go_wp2_with (fail)
        refine (uint_any u s l 0 _ hs U1.out).mono ?_
        rw [ht]
        rintro e w3 ⟨rfl, hU', hg⟩
        have hU : UnIs w3 u s l1 e1 := hU'
        have P2 := Lib.hid (P1.out.grown hg (by omega) (by omega))
        have BB2 := Lib.hid (below_grown BB.out hg huw BB.out.size)
        have U2 := Lib.hid hU
        clear hU hU' hg P1 U1 BB
        rcases one_int ht with ⟨rfl, hl2, hn1, hn2⟩ | ⟨he, rfl⟩
        · have HL := Lib.hid hl2
          have hcat : s.data.toList = cat (numS x :: parts) ++ l1 := by
            rw [HC.out, hl2]; simp only [cat, List.append_assoc]
          have HCAT := Lib.hid hcat
          have hpre := prefix_eq hcat
          have hsz := prefix_size hcat
          have hcs := catS_size (numS x :: parts)
          have htot : tot (numS x :: parts) ≤ 140737488351232 := by omega
          clear hl2 ht hcat HC
          obtain ⟨T, hT⟩ : ∃ T, T = catS (numS x :: parts) := ⟨_, rfl⟩
          rw [← hT] at hpre hcs
          have HT := Lib.hid hT
          clear hT
          obtain ⟨E, hE, t1, t2, t3⟩ : ∃ E, Wire.tEnd l1 0 = E ∧ (E != 0 && E != 22) = false ∧ Hid ((E == 0) = decide (l1 = [])) ∧ (E = 0 ∨ E = 22) := by
            unfold Wire.tEnd
            rw [if_neg (by simp)]
            by_cases h0 : l1 = []
            · exact ⟨0, by rw [if_pos h0], rfl, by rw [h0]; exact Lib.hid rfl, .inl rfl⟩
            · exact ⟨22, by rw [if_neg h0], rfl, Lib.hid (by simp [h0]), .inr rfl⟩
          have HSZ := Lib.hid hsz
          have HE := Lib.hid hE
          have hTle : T.size ≤ s.size := by omega
          have hends : Hid (((T.size : Int) == (s.size : Int)) = decide (l1 = [])) := by
            show _ = _
            rw [Bool.eq_iff_iff]
            simp only [beq_iff_eq, decide_eq_true_eq]
            constructor
            · intro h; exact List.eq_nil_of_length_eq_zero (by omega)
            · intro h; rw [h] at hsz; simp at hsz; omega
          have hpre' := Lib.hid hpre
          have HCS := Lib.hid hcs
          clear hsz hE hcs t1
          rcases t3 with rfl | rfl
          · have d1 : decide (l1 = []) = true := by rw [← t2.out]; rfl
            have d2 : ((T.size : Int) == (s.size : Int)) = true := by rw [hends.out, d1]
            clear d1
            go_wp2_with (fail)
            refine (uend_is hs U2.out HE.out).mono ?_
            rintro e w4 ⟨rfl, nq, rfl⟩
            have P3 := Lib.hid (pack_drewN P2.out nq)
            have U3 := Lib.hid (U2.out.drewN nq)
            have BB3 := Lib.hid (below_drewN BB2.out nq)
            obtain ⟨w4, hw4⟩ : ∃ w4, w4 = w3.drewN nq := ⟨_, rfl⟩
            rw [← hw4] at P3 U3 BB3 ⊢
            clear hw4 P2 U2 BB2
            go_wp2_with (fail)
            refine (int_pack _ _ x _ _ P3.out ⟨hn1, hn2⟩).mono ?_
            rintro e w5 ⟨rfl, hp5, hg5⟩
            have P5 := Lib.hid hp5
            have U5 := Lib.hid (U3.out.grown hg5 (by omega))
            have BB5 := Lib.hid (below_grown BB3.out hg5 (by omega) BB3.out.size)
            clear hp5 hg5 P3 U3 BB3
            go_wp2_with (fail)
            refine (bytes_pack _ _ _ _ P5.out (by omega)).mono ?_
            rw [← HT.out]
            rintro e w6 ⟨rfl, hb6⟩
            have P6 := Lib.hid (P5.out.below hb6 (Nat.le_refl _))
            have U6 := Lib.hid (U5.out.below hb6 (Nat.le_refl _))
            have BB6 := Lib.hid (BB5.out.trans (hb6.mono BB5.out.size))
            clear hb6 P5 U5 BB5
            have hpre := hpre'.out
            go_wp2_with (fail)
            refine (uend_is hs U6.out HE.out).mono ?_
            rintro e w7 ⟨rfl, nr, rfl⟩
            have P7 := Lib.hid (pack_drewN P6.out nr)
            have U7 := Lib.hid (U6.out.drewN nr)
            have BB7 := Lib.hid (below_drewN BB6.out nr)
            clear hpre
            go_wp2
            go_roundg (len - (i + 1))
            case measure => have := HK.out; omega
            case rel => exact ⟨i + 1, _, l1, by omega, rfl, by go_num, HCAT.out, P7.out, U7.out, BB7.out⟩
          · have d1 : decide (l1 = []) = false := by rw [← t2.out]; rfl
            have d2 : ((T.size : Int) == (s.size : Int)) = false := by rw [hends.out, d1]
            clear d1
            go_wp2_with (fail)
            refine (uend_is hs U2.out HE.out).mono ?_
            rintro e w4 ⟨rfl, nq, rfl⟩
            have P3 := Lib.hid (pack_drewN P2.out nq)
            have U3 := Lib.hid (U2.out.drewN nq)
            have BB3 := Lib.hid (below_drewN BB2.out nq)
            obtain ⟨w4, hw4⟩ : ∃ w4, w4 = w3.drewN nq := ⟨_, rfl⟩
            rw [← hw4] at P3 U3 BB3 ⊢
            clear hw4 P2 U2 BB2
            go_wp2_with (fail)
            refine (int_pack _ _ x _ _ P3.out ⟨hn1, hn2⟩).mono ?_
            rintro e w5 ⟨rfl, hp5, hg5⟩
            have P5 := Lib.hid hp5
            have U5 := Lib.hid (U3.out.grown hg5 (by omega))
            have BB5 := Lib.hid (below_grown BB3.out hg5 (by omega) BB3.out.size)
            clear hp5 hg5 P3 U3 BB3
            go_wp2_with (fail)
            refine (bytes_pack _ _ _ _ P5.out (by omega)).mono ?_
            rw [← HT.out]
            rintro e w6 ⟨rfl, hb6⟩
            have P6 := Lib.hid (P5.out.below hb6 (Nat.le_refl _))
            have U6 := Lib.hid (U5.out.below hb6 (Nat.le_refl _))
            have BB6 := Lib.hid (BB5.out.trans (hb6.mono BB5.out.size))
            clear hb6 P5 U5 BB5
            have hpre := hpre'.out
            go_wp2_with (fail)
            refine (uend_is hs U6.out HE.out).mono ?_
            rintro e w7 ⟨rfl, nr, rfl⟩
            have P7 := Lib.hid (pack_drewN P6.out nr)
            have U7 := Lib.hid (U6.out.drewN nr)
            have BB7 := Lib.hid (below_drewN BB6.out nr)
            clear hpre
            go_wp2
            go_roundg (len - (i + 1))
            case measure => have := HK.out; omega
            case rel => exact ⟨i + 1, _, l1, by omega, rfl, by go_num, HCAT.out, P7.out, U7.out, BB7.out⟩
        · have hE : Wire.tEnd l1 e1 = e1 := by unfold Wire.tEnd; rw [if_pos (by omega)]
          have HE := Lib.hid hE
          have t1 : (e1 != 0) = true := by simp; omega
          have t2 : (e1 != 22) = true := by simp; omega
          clear hE he ht
          go_wp2_with (fail)
          refine (uend_is hs U2.out HE.out).mono ?_
          rintro e w4 ⟨rfl, nq, rfl⟩
          go_wp2
          go_ret
          exact ⟨rfl, below_drewN BB2.out nq⟩
      · refine (kind_is kk 1 _ hkb.out hc).mono ?_
        rintro e w3 ⟨rfl, rfl⟩
        clear hc
        obtain ⟨x, l1, e1, ht⟩ : ∃ x l1 e1, Wire.tText l 0 = (x, l1, e1) := ⟨_, _, _, rfl⟩
        go_wp2_with (fail)
        refine (utext_any u s l 0 _ hs U1.out).mono ?_
        rw [ht]
        rintro e w3 ⟨rfl, hU', hg⟩
        have hU : UnIs w3 u s l1 e1 := hU'
        have P2 := Lib.hid (P1.out.grown hg (by omega) (by omega))
        have BB2 := Lib.hid (below_grown BB.out hg huw BB.out.size)
        have U2 := Lib.hid hU
        clear hU hU' hg P1 U1 BB
        rcases one_text ht with ⟨rfl, hl2, hn1⟩ | ⟨he, rfl⟩
        · have HL := Lib.hid hl2
          have hcat : s.data.toList = cat ((numS (S x).size ++ S x) :: parts) ++ l1 := by
            rw [HC.out, hl2]; simp only [cat, List.append_assoc]
          have HCAT := Lib.hid hcat
          have hpre := prefix_eq hcat
          have hsz := prefix_size hcat
          have hcs := catS_size ((numS (S x).size ++ S x) :: parts)
          have htot : tot ((numS (S x).size ++ S x) :: parts) ≤ 140737488351232 := by omega
          clear hl2 ht hcat HC
          obtain ⟨T, hT⟩ : ∃ T, T = catS ((numS (S x).size ++ S x) :: parts) := ⟨_, rfl⟩
          rw [← hT] at hpre hcs
          have HT := Lib.hid hT
          clear hT
          obtain ⟨E, hE, t1, t2, t3⟩ : ∃ E, Wire.tEnd l1 0 = E ∧ (E != 0 && E != 22) = false ∧ Hid ((E == 0) = decide (l1 = [])) ∧ (E = 0 ∨ E = 22) := by
            unfold Wire.tEnd
            rw [if_neg (by simp)]
            by_cases h0 : l1 = []
            · exact ⟨0, by rw [if_pos h0], rfl, by rw [h0]; exact Lib.hid rfl, .inl rfl⟩
            · exact ⟨22, by rw [if_neg h0], rfl, Lib.hid (by simp [h0]), .inr rfl⟩
          have HSZ := Lib.hid hsz
          have HE := Lib.hid hE
          have hTle : T.size ≤ s.size := by omega
          have hends : Hid (((T.size : Int) == (s.size : Int)) = decide (l1 = [])) := by
            show _ = _
            rw [Bool.eq_iff_iff]
            simp only [beq_iff_eq, decide_eq_true_eq]
            constructor
            · intro h; exact List.eq_nil_of_length_eq_zero (by omega)
            · intro h; rw [h] at hsz; simp at hsz; omega
          have hpre' := Lib.hid hpre
          have HCS := Lib.hid hcs
          clear hsz hE hcs t1
          rcases t3 with rfl | rfl
          · have d1 : decide (l1 = []) = true := by rw [← t2.out]; rfl
            have d2 : ((T.size : Int) == (s.size : Int)) = true := by rw [hends.out, d1]
            clear d1
            go_wp2_with (fail)
            refine (uend_is hs U2.out HE.out).mono ?_
            rintro e w4 ⟨rfl, nq, rfl⟩
            have P3 := Lib.hid (pack_drewN P2.out nq)
            have U3 := Lib.hid (U2.out.drewN nq)
            have BB3 := Lib.hid (below_drewN BB2.out nq)
            obtain ⟨w4, hw4⟩ : ∃ w4, w4 = w3.drewN nq := ⟨_, rfl⟩
            rw [← hw4] at P3 U3 BB3 ⊢
            clear hw4 P2 U2 BB2
            go_wp2_with (fail)
            refine (text_pack _ _ (S x) _ _ P3.out (by rw [S_size]; omega)).mono ?_
            rintro e w5 ⟨rfl, hp5, hg5⟩
            have P5 := Lib.hid hp5
            have U5 := Lib.hid (U3.out.grown hg5 (by omega))
            have BB5 := Lib.hid (below_grown BB3.out hg5 (by omega) BB3.out.size)
            clear hp5 hg5 P3 U3 BB3
            go_wp2_with (fail)
            refine (bytes_pack _ _ _ _ P5.out (by omega)).mono ?_
            rw [← HT.out]
            rintro e w6 ⟨rfl, hb6⟩
            have P6 := Lib.hid (P5.out.below hb6 (Nat.le_refl _))
            have U6 := Lib.hid (U5.out.below hb6 (Nat.le_refl _))
            have BB6 := Lib.hid (BB5.out.trans (hb6.mono BB5.out.size))
            clear hb6 P5 U5 BB5
            have hpre := hpre'.out
            go_wp2_with (fail)
            refine (uend_is hs U6.out HE.out).mono ?_
            rintro e w7 ⟨rfl, nr, rfl⟩
            have P7 := Lib.hid (pack_drewN P6.out nr)
            have U7 := Lib.hid (U6.out.drewN nr)
            have BB7 := Lib.hid (below_drewN BB6.out nr)
            clear hpre
            go_wp2
            go_roundg (len - (i + 1))
            case measure => have := HK.out; omega
            case rel => exact ⟨i + 1, _, l1, by omega, rfl, by go_num, HCAT.out, P7.out, U7.out, BB7.out⟩
          · have d1 : decide (l1 = []) = false := by rw [← t2.out]; rfl
            have d2 : ((T.size : Int) == (s.size : Int)) = false := by rw [hends.out, d1]
            clear d1
            go_wp2_with (fail)
            refine (uend_is hs U2.out HE.out).mono ?_
            rintro e w4 ⟨rfl, nq, rfl⟩
            have P3 := Lib.hid (pack_drewN P2.out nq)
            have U3 := Lib.hid (U2.out.drewN nq)
            have BB3 := Lib.hid (below_drewN BB2.out nq)
            obtain ⟨w4, hw4⟩ : ∃ w4, w4 = w3.drewN nq := ⟨_, rfl⟩
            rw [← hw4] at P3 U3 BB3 ⊢
            clear hw4 P2 U2 BB2
            go_wp2_with (fail)
            refine (text_pack _ _ (S x) _ _ P3.out (by rw [S_size]; omega)).mono ?_
            rintro e w5 ⟨rfl, hp5, hg5⟩
            have P5 := Lib.hid hp5
            have U5 := Lib.hid (U3.out.grown hg5 (by omega))
            have BB5 := Lib.hid (below_grown BB3.out hg5 (by omega) BB3.out.size)
            clear hp5 hg5 P3 U3 BB3
            go_wp2_with (fail)
            refine (bytes_pack _ _ _ _ P5.out (by omega)).mono ?_
            rw [← HT.out]
            rintro e w6 ⟨rfl, hb6⟩
            have P6 := Lib.hid (P5.out.below hb6 (Nat.le_refl _))
            have U6 := Lib.hid (U5.out.below hb6 (Nat.le_refl _))
            have BB6 := Lib.hid (BB5.out.trans (hb6.mono BB5.out.size))
            clear hb6 P5 U5 BB5
            have hpre := hpre'.out
            go_wp2_with (fail)
            refine (uend_is hs U6.out HE.out).mono ?_
            rintro e w7 ⟨rfl, nr, rfl⟩
            have P7 := Lib.hid (pack_drewN P6.out nr)
            have U7 := Lib.hid (U6.out.drewN nr)
            have BB7 := Lib.hid (below_drewN BB6.out nr)
            clear hpre
            go_wp2
            go_roundg (len - (i + 1))
            case measure => have := HK.out; omega
            case rel => exact ⟨i + 1, _, l1, by omega, rfl, by go_num, HCAT.out, P7.out, U7.out, BB7.out⟩
        · have hE : Wire.tEnd l1 e1 = e1 := by unfold Wire.tEnd; rw [if_pos (by omega)]
          have HE := Lib.hid hE
          have t1 : (e1 != 0) = true := by simp; omega
          have t2 : (e1 != 22) = true := by simp; omega
          have t3 : (S []).toList.isEmpty = true := by rw [toList_data]; rfl
          clear hE he ht
          go_wp2_with (fail)
          refine (uend_is hs U2.out HE.out).mono ?_
          rintro e w4 ⟨rfl, nq, rfl⟩
          go_wp2
          go_ret
          exact ⟨rfl, below_drewN BB2.out nq⟩
      · refine (kind_is kk 2 _ hkb.out hc).mono ?_
        rintro e w3 ⟨rfl, rfl⟩
        clear hc
        obtain ⟨x, l1, e1, ht⟩ : ∃ x l1 e1, Wire.tBool l 0 = (x, l1, e1) := ⟨_, _, _, rfl⟩
        go_wp2_with (fail)
        refine (ubool_any u s l 0 _ hs U1.out).mono ?_
        rw [ht]
        rintro e w3 ⟨rfl, hU', hg⟩
        have hU : UnIs w3 u s l1 e1 := hU'
        have P2 := Lib.hid (P1.out.grown hg (by omega) (by omega))
        have BB2 := Lib.hid (below_grown BB.out hg huw BB.out.size)
        have U2 := Lib.hid hU
        clear hU hU' hg P1 U1 BB
        rcases one_bool ht with ⟨rfl, hl2⟩ | ⟨he, rfl⟩
        · have HL := Lib.hid hl2
          have hcat : s.data.toList = cat (boolS x :: parts) ++ l1 := by
            rw [HC.out, hl2]; simp only [cat, List.append_assoc]
          have HCAT := Lib.hid hcat
          have hpre := prefix_eq hcat
          have hsz := prefix_size hcat
          have hcs := catS_size (boolS x :: parts)
          have htot : tot (boolS x :: parts) ≤ 140737488351232 := by omega
          clear hl2 ht hcat HC
          obtain ⟨T, hT⟩ : ∃ T, T = catS (boolS x :: parts) := ⟨_, rfl⟩
          rw [← hT] at hpre hcs
          have HT := Lib.hid hT
          clear hT
          obtain ⟨E, hE, t1, t2, t3⟩ : ∃ E, Wire.tEnd l1 0 = E ∧ (E != 0 && E != 22) = false ∧ Hid ((E == 0) = decide (l1 = [])) ∧ (E = 0 ∨ E = 22) := by
            unfold Wire.tEnd
            rw [if_neg (by simp)]
            by_cases h0 : l1 = []
            · exact ⟨0, by rw [if_pos h0], rfl, by rw [h0]; exact Lib.hid rfl, .inl rfl⟩
            · exact ⟨22, by rw [if_neg h0], rfl, Lib.hid (by simp [h0]), .inr rfl⟩
          have HSZ := Lib.hid hsz
          have HE := Lib.hid hE
          have hTle : T.size ≤ s.size := by omega
          have hends : Hid (((T.size : Int) == (s.size : Int)) = decide (l1 = [])) := by
            show _ = _
            rw [Bool.eq_iff_iff]
            simp only [beq_iff_eq, decide_eq_true_eq]
            constructor
            · intro h; exact List.eq_nil_of_length_eq_zero (by omega)
            · intro h; rw [h] at hsz; simp at hsz; omega
          have hpre' := Lib.hid hpre
          have HCS := Lib.hid hcs
          clear hsz hE hcs t1
          rcases t3 with rfl | rfl
          · have d1 : decide (l1 = []) = true := by rw [← t2.out]; rfl
            have d2 : ((T.size : Int) == (s.size : Int)) = true := by rw [hends.out, d1]
            clear d1
            go_wp2_with (fail)
            refine (uend_is hs U2.out HE.out).mono ?_
            rintro e w4 ⟨rfl, nq, rfl⟩
            have P3 := Lib.hid (pack_drewN P2.out nq)
            have U3 := Lib.hid (U2.out.drewN nq)
            have BB3 := Lib.hid (below_drewN BB2.out nq)
            obtain ⟨w4, hw4⟩ : ∃ w4, w4 = w3.drewN nq := ⟨_, rfl⟩
            rw [← hw4] at P3 U3 BB3 ⊢
            clear hw4 P2 U2 BB2
            go_wp2_with (fail)
            refine (bool_pack _ _ x _ _ P3.out).mono ?_
            rintro e w5 ⟨rfl, hp5, hg5⟩
            have P5 := Lib.hid hp5
            have U5 := Lib.hid (U3.out.grown hg5 (by omega))
            have BB5 := Lib.hid (below_grown BB3.out hg5 (by omega) BB3.out.size)
            clear hp5 hg5 P3 U3 BB3
            go_wp2_with (fail)
            refine (bytes_pack _ _ _ _ P5.out (by omega)).mono ?_
            rw [← HT.out]
            rintro e w6 ⟨rfl, hb6⟩
            have P6 := Lib.hid (P5.out.below hb6 (Nat.le_refl _))
            have U6 := Lib.hid (U5.out.below hb6 (Nat.le_refl _))
            have BB6 := Lib.hid (BB5.out.trans (hb6.mono BB5.out.size))
            clear hb6 P5 U5 BB5
            have hpre := hpre'.out
            go_wp2_with (fail)
            refine (uend_is hs U6.out HE.out).mono ?_
            rintro e w7 ⟨rfl, nr, rfl⟩
            have P7 := Lib.hid (pack_drewN P6.out nr)
            have U7 := Lib.hid (U6.out.drewN nr)
            have BB7 := Lib.hid (below_drewN BB6.out nr)
            clear hpre
            go_wp2
            go_roundg (len - (i + 1))
            case measure => have := HK.out; omega
            case rel => exact ⟨i + 1, _, l1, by omega, rfl, by go_num, HCAT.out, P7.out, U7.out, BB7.out⟩
          · have d1 : decide (l1 = []) = false := by rw [← t2.out]; rfl
            have d2 : ((T.size : Int) == (s.size : Int)) = false := by rw [hends.out, d1]
            clear d1
            go_wp2_with (fail)
            refine (uend_is hs U2.out HE.out).mono ?_
            rintro e w4 ⟨rfl, nq, rfl⟩
            have P3 := Lib.hid (pack_drewN P2.out nq)
            have U3 := Lib.hid (U2.out.drewN nq)
            have BB3 := Lib.hid (below_drewN BB2.out nq)
            obtain ⟨w4, hw4⟩ : ∃ w4, w4 = w3.drewN nq := ⟨_, rfl⟩
            rw [← hw4] at P3 U3 BB3 ⊢
            clear hw4 P2 U2 BB2
            go_wp2_with (fail)
            refine (bool_pack _ _ x _ _ P3.out).mono ?_
            rintro e w5 ⟨rfl, hp5, hg5⟩
            have P5 := Lib.hid hp5
            have U5 := Lib.hid (U3.out.grown hg5 (by omega))
            have BB5 := Lib.hid (below_grown BB3.out hg5 (by omega) BB3.out.size)
            clear hp5 hg5 P3 U3 BB3
            go_wp2_with (fail)
            refine (bytes_pack _ _ _ _ P5.out (by omega)).mono ?_
            rw [← HT.out]
            rintro e w6 ⟨rfl, hb6⟩
            have P6 := Lib.hid (P5.out.below hb6 (Nat.le_refl _))
            have U6 := Lib.hid (U5.out.below hb6 (Nat.le_refl _))
            have BB6 := Lib.hid (BB5.out.trans (hb6.mono BB5.out.size))
            clear hb6 P5 U5 BB5
            have hpre := hpre'.out
            go_wp2_with (fail)
            refine (uend_is hs U6.out HE.out).mono ?_
            rintro e w7 ⟨rfl, nr, rfl⟩
            have P7 := Lib.hid (pack_drewN P6.out nr)
            have U7 := Lib.hid (U6.out.drewN nr)
            have BB7 := Lib.hid (below_drewN BB6.out nr)
            clear hpre
            go_wp2
            go_roundg (len - (i + 1))
            case measure => have := HK.out; omega
            case rel => exact ⟨i + 1, _, l1, by omega, rfl, by go_num, HCAT.out, P7.out, U7.out, BB7.out⟩
        · have hE : Wire.tEnd l1 e1 = e1 := by unfold Wire.tEnd; rw [if_pos (by omega)]
          have HE := Lib.hid hE
          have t1 : (e1 != 0) = true := by simp; omega
          have t2 : (e1 != 22) = true := by simp; omega
          clear hE he ht
          go_wp2_with (fail)
          refine (uend_is hs U2.out HE.out).mono ?_
          rintro e w4 ⟨rfl, nq, rfl⟩
          go_wp2
          go_ret
          exact ⟨rfl, below_drewN BB2.out nq⟩
    · obtain rfl : i = len := by omega
      go_wp2
      go_ret
      exact ⟨rfl, BB.out⟩

theorem contract (H : Type) (enc : TypeId × Value → H) (W : World) (base : Nat) (args : Array Value) (ds gs : List (DataW H)) (before : List MemPlace)
    (hval : ∀ (j : Nat) t v, Try.f3.params[j]? = some t → args[j]? = some v → Value.okWide Try.prog W .any base t v)
    (hW : DataW.Whole enc Try.prog Try.f3.params.toList Rows.wireOneFormSpec.vars false W args.toList ds gs before)
    (hz : (DataW.weightsEach Try.prog (Try.f3.params.toList ++ []) (ds ++ gs)).all (· ≤ reachBytes) = true) :
    Calls Try.prog 3 args W fun e W' => ∃ v, e = .returned v ∧ Rows.wireOneFormSpec.post enc Try.prog Try.f3 false true false false W args v W' := by
  have hW' := hW
  obtain ⟨p, q, hA0, hV, rfl, hfz, hnd⟩ := hW
  have hA : DataW.TrodAll enc Try.prog W 0 (fun _ => true) true Try.f3.params.toList args.toList ds p := hA0
  rw [Try.params3] at hA hval hz
  obtain ⟨v0, vs0, d0, ds0, p0, q0, hargs, rfl, rfl, h0, r0⟩ := trodAll_cons hA
  obtain ⟨v1, vs1, d1, ds1, p1, q1, rfl, rfl, rfl, h1, r1⟩ := trodAll_cons r0
  obtain ⟨rfl, rfl, rfl⟩ := trodAll_nil r1
  obtain rfl : args = #[v0, v1] := by cases args; simp_all
  obtain ⟨rfl, rfl⟩ := trodVars_none hV
  obtain ⟨x0, rfl, rfl, rfl, w0⟩ := open_string Try.underlying9 (hval 0 9 v0 rfl rfl) h0
  have b0 : x0.size ≤ 140737488351232 := by have := sized_string hz (j := 0) (t := 9) rfl rfl; simpa [reachBytes] using this
  obtain ⟨A, len, cap, ks, rfl, hl, hn, hI, hK, _⟩ := open_int_arg Try.underlying22 Try.underlying3 (by kernel_rfl) (hval 1 22 v1 rfl rfl) h1
  clear hA0
  refine (walk x0 A len cap ks W b0 hl hI hK hn).mono fun e W' ⟨he, hb⟩ => ?_
  subst he
  exact ⟨_, rfl, law_end hW' rfl rfl hb laidOut (by kernel_rfl) (by kernel_rfl) Try.underlying4⟩

theorem reads (os : Os) {H : Type} (enc : TypeId × Value → H) : ∃ places, DataW.whole enc Try.prog ((World.holding Try.prog os ⟨#[], #[], []⟩).forCall (fun _ _ => 0) ⟨#[], #[.string ⟨#[]⟩, .slice none 0 0], []⟩).memory Try.f3.params.toList Rows.wireOneFormSpec.vars false [Value.string ⟨#[]⟩, Value.slice none 0 0] 8 = some ([.lit (.string []), .nil], [], places) :=
  ⟨[], by kernel_rfl⟩

set_option maxRecDepth 100000 in
theorem lifted (os : Os) (started : os.Started) (H : Type) (enc : TypeId × Value → H) (F : Stop.Interp) :
    ReturnsInHanded {} Try.checked os 3 .any ((OpenSpec.ofChange Rows.wireOneFormSpec).preRow enc Try.prog Try.f3 Rows.wireOneFormRow.domain false Rows.wireOneFormRow.laid) (((OpenSpec.ofChange Rows.wireOneFormSpec).at F).post enc Try.prog Try.f3 false true false false) := by
  obtain ⟨places, hx⟩ := reads os enc
  have laid_met : laidMet Try.prog Rows.wireOneFormRow.laid ((World.holding Try.prog os ⟨#[], #[], []⟩).forCall (fun _ _ => 0) ⟨#[], #[.string ⟨#[]⟩, .slice none 0 0], []⟩).memory := ⟨[], rfl, List.nodup_nil, fun _ _ h => by cases h⟩
  refine returnsInHanded_of_row (C := Try.checked) (s := OpenSpec.ofChange Rows.wireOneFormSpec) own started (by kernel_rfl) Try.func3
    (witness_row_at (enc := enc) (C := Try.checked) false (World.holding Try.prog os ⟨#[], #[], []⟩) #[.string ⟨#[]⟩, .slice none 0 0] rfl (by kernel_rfl) (by kernel_rfl) (by kernel_rfl)
      (OpenSpec.preRow_of_cond 8 hx (by kernel_rfl) (fun k hk => by cases hk) (by kernel_rfl) laid_met)) ?_
  intro W base args ds gs before hval hW _ _ hz _ _ _
  exact contract H enc W base args ds gs before hval hW hz

theorem said : Rows.WireOneFormSaid :=
  OpenClaim.holds_of_cond 3 Try.f3 rfl rfl rfl rfl rfl rfl rfl ⟨rfl, rfl, rfl, rfl, rfl⟩ rfl rfl rfl rfl rfl (by kernel_rfl) Try.func3 (by kernel_rfl)
    (of_decide_eq_true (by kernel_rfl)) (by unfold Func.isWrapper; first | (rw [if_pos (by decide +kernel)]; kernel_rfl) | (rw [if_neg (by decide +kernel)]; exact ⟨rfl, rfl⟩))
    (fun os started H enc _ F => by rw [OpenClaim.pre_eq_preRow]; exact lifted os started H enc F)

end Go.Proofs.Ytfgmeeoldcfjbab.fnWireOneForm
