/- Package disk: what is held is worked out anew: of a map of one file, whatever its bytes. -/
import Derived.Test.YtmlikkjahkdilaaGreatDoorDiskOne
namespace Go.Proofs.YtmlikkjahkdilaaGreatDoor
open Go.RowKit Go.Maps

theorem clone_vrow (B k c : Nat) (a' : Option Addr) (xs : List Value) (w : World) (hrow : w.ownsRow B 5 1 (.slice a' k c) k xs) (hk : k ≤ 1099511627776) (h1 : ∀ u ∈ xs, u.oneCell' = true) :
    Calls Tryz.prog 83 #[.slice a' k c] w fun e w' => ∃ v', e = .returned v' ∧ w'.ownsRow w.heap.size 5 1 v' k xs ∧ Below w.heap.size w w' := by
  rcases hrow.2 with ⟨h, h0⟩ | ⟨g, cap, cur, h, _⟩
  · injection h with e1 e2 e3
    subst e1
    subst e3
    subst h0
    have hxs : xs = [] := List.eq_nil_of_length_eq_zero (by simpa using hrow.1)
    subst hxs
    clear hrow h1
    have hnil : (binOp .eql 76 (.slice none 0 0) (.slice none 0 0)).run Tryz.prog w = .ok (.bool true) w := by simpa using Lib.run_eql_slice_nil w _ _ none 0 0 0 0 Tryz.underlying76
    go_enter Tryz.func83, Tryz.ntmps83
    go_wp2
    go_ret
    exact ⟨_, rfl, row_nil _ _ _, Below.refl _ _⟩
  · injection h with e1 e2 e3
    subst e1
    exact clone_row B g k c xs w hrow hk h1
set_option maxRecDepth 100000 in
set_option maxHeartbeats 2000000 in
theorem copied_any (B m n k c : Nat) (a' : Option Addr) (D : DataW Unit) (name : ByteArray) (xs : List Value) (w : World) (ho : FM w m n D) (hone : ∀ kl, Maps.has D kl = true → kl = sk name) (hhas : Maps.has D (sk name) = true) (hname : name.size ≤ maxLen)
    (hv : hdr (.slice a' k c) = some (D.atKey (sk name) (hd (.slice none 0 0)), [])) (hrow : w.ownsRow B 5 1 (.slice a' k c) k xs) (hk : k ≤ 1099511627776) (h1 : ∀ u ∈ xs, u.oneCell' = true) :
    Calls Tryz.prog 58 #[.map (some m)] w fun e w' => e = .returned (.map (some w.heap.size)) ∧ ∃ v', FM w' w.heap.size 1 (empF.put (sk name) (hd v')) ∧ w'.ownsRow w.heap.size 5 1 v' k xs ∧ Below w.heap.size w w' := by
  have hbl := ho.lt
  have e1 : (w.alloc (.map #[] 0)).heap.size = w.heap.size + 1 := by simp
  have HV := Lib.hid hv
  have HONE := Lib.hid hone
  have HHAS := Lib.hid hhas
  have HROW := Lib.hid hrow
  have HNAME := Lib.hid hname
  have H1 := Lib.hid h1
  have HMK : Hid (∀ w : World, (Instr.makeMap 62 (some (.int .i64 (Maps.size D)))).run Tryz.prog w = .ok (.map (some w.heap.size)) (w.alloc (.map #[] 0))) := Lib.hid (fun w => by simp [Instr.makeMap, run_underlying Tryz.underlying62, asInt, asIntOf])
  have hmk := HMK.out
  have HRK : Hid (∀ w2, Below w.heap.size w w2 → w2.ownsRow B 5 1 (.slice a' k c) k xs) := Lib.hid (fun w2 hb => row_tch hrow (tch_below (fun _ => False) hb) (fun _ _ e => e))
  clear hv hone hhas hrow hname h1
  go_enter Tryz.func58, Tryz.ntmps58
  go_wp2_with (first
    | (at_len; refine wpList_len_own _ rfl _ 62 rfl 9 76 Tryz.underlying62 hdr m n D rfl ho ?_)
    | (at_range; refine wpList_range_own _ rfl _ 62 rfl 9 76 strLaw Tryz.underlying62 hdr m n _ rfl (ho.alloc _) ?_; intro w0 hrg0 hg0 hs0)
    | go_in)
  go_frame
  rw [e1] at hrg0 hs0 ⊢
  go_loopw [4, 5] (fun _ _ wr => ∃ (left : Lit → Bool) (cnt : Nat), wr.ranges Tryz.prog 9 hdr m (w.heap.size + 1) n D left cnt ∧ Hid (Below w.heap.size w wr) ∧ ((Hid (left (sk name) = true ∧ ∀ kl, left kl = true → kl = sk name) ∧ Hid (FM wr w.heap.size 0 empF)) ∨
      (Hid (∀ kl, left kl = false) ∧ ∃ v', Hid (FM wr w.heap.size 1 (empF.put (sk name) (hd v')) ∧ wr.ownsRow w.heap.size 5 1 v' k xs))))
    (fun _ _ wr => wr.rangeLeft m (w.heap.size + 1))
  case atStart =>
    exact ⟨_, _, hrg0, Lib.hid (((Below.refl _ _).alloc (Nat.le_refl _) _).grown hg0 (by simp) (fun j hj => by cases hj)), .inl ⟨Lib.hid ⟨HHAS.out, HONE.out⟩, Lib.hid ((World.ownsMap_made _ _ _ _).kept hg0 (by simp))⟩⟩
  case round =>
    obtain ⟨left, cnt, hrg, HB, hst⟩ := hrel
    rcases hst with ⟨HL, HO⟩ | ⟨HL, v', HO⟩
    · go_wp2_with (first
        | (at_next; refine nextS _ rfl _ rfl hdr m (w.heap.size + 1) n _ _ _ rfl hrg ?_ ?_)
        | go_in)
      · intro hc0 hl0
        exact absurd (hl0 (sk name)) (by rw [HL.out.1]; decide)
      · intro x cv kl y y2 w1 cnt1 hkx hlx hcy hat hrg1 hlt hg1 hs1 hen
        obtain ⟨rfl, rfl⟩ := one_entry (y := (y, y2)) HNAME.out (HL.out.2 kl hlx) hkx hcy hat HV.out
        have hkl := HL.out.2 kl hlx
        have HB1 : Hid (Below w.heap.size w w1) := Lib.hid (HB.out.grown hg1 HB.out.size (fun j hj => by cases hj; omega))
        have HO1 : Hid (FM w1 w.heap.size 0 empF) := Lib.hid (HO.out.kept hg1 (by simp))
        have HL1 : Hid (∀ z, (left z && !z.sameKey kl) = false) := Lib.hid (fun z => by
          cases hz : left z
          · rfl
          · have e := HL.out.2 z hz
            rw [e, hkl, WideAt.sameKey_self (a := sk x) trivial]
            rfl)
        have hcl := clone_vrow B k c a' xs w1 (HRK.out w1 HB1.out) hk H1.out
        have HM : Hid (cnt1 < cnt) := Lib.hid hlt
        have HRL := Lib.hid hrg.left_eq
        have HKX := Lib.hid (Go.WideMaps.keyOf_string_mk Tryz.underlying9 HNAME.out : keyOf Tryz.prog 9 (.string x) = some (sk x))
        clear hkx hlx hcy hat hkl hs1 hrg hlt
        go_wp2_with (fail)
        refine hcl.mono ?_
        rintro e w2 ⟨v2, rfl, hrow2, hb2⟩
        have hout2 : FM w2 w.heap.size 0 empF := fm_tch HO1.out (tch_below (fun _ => False) hb2) (fun e => e)
        have hrg2 := hrg1.kept (row := none) (w' := w2) ⟨hb2.os, hb2.tape, hb2.output, hb2.size, fun i hi _ => hb2.block i hi⟩ (by simp) (by simp)
        have HB2 := Lib.hid (HB1.out.trans (hb2.mono HB1.out.size))
        have HRW2 : Hid (w2.ownsRow w.heap.size 5 1 v2 k xs) := Lib.hid (show w2.ownsRow w.heap.size 5 1 v2 k xs from ⟨hrow2.1, hrow2.2.imp id fun ⟨g, cap, cur, q1, q2, q3⟩ => ⟨g, cap, cur, q1, Nat.le_trans HB1.out.size q2, q3⟩⟩)
        have HVW := Lib.hid (hdr_row hrow2)
        have HBL : Hid (w.heap.size + 1 < w1.heap.size) := Lib.hid hrg1.lt
        have HNB : Hid (∀ b, v2.ownBlock = some b → w1.heap.size ≤ b) := Lib.hid (fun b hb => (hrow2.lt b hb).1)
        clear hcl hb2 hrow2 hg1 hrg1
        go_wp2_with (first
          | (at_mapUpdate; refine wpList_mapUpdate_own _ rfl _ _ _ 62 rfl 9 76 strLaw Tryz.underlying62 _ w.heap.size _ _ rfl hout2 (by unfold maxLen; omega) _ _ _ rfl rfl HKX.out _ [] HVW.out ?_; intro w3 hout3 hg3; go_frame)
          | go_in)
        have hrg3 := hrg2.kept hg3 (fun e => by have := Option.some.inj e; omega) (fun e => by have := Option.some.inj e; omega)
        go_roundw
        case rel =>
          refine ⟨_, cnt1, hrg3, Lib.hid (HB2.out.grown hg3 HB2.out.size (fun j hj => by cases hj; exact Nat.le_refl _)), .inr ⟨HL1, v2, Lib.hid ⟨hout3, ?_⟩⟩⟩
          exact World.ownsRow.kept HRW2.out hg3 (.inr (fun e => by have := HNB.out w.heap.size e; have := HBL.out; omega))
        case measure => rw [hrg3.left_eq, HRL.out]; exact HM.out
    · go_wp2_with (first
        | (at_next; refine nextS _ rfl _ rfl hdr m (w.heap.size + 1) n _ _ _ rfl hrg ?_ ?_)
        | go_in)
      · intro hc0 hl0
        go_wp2
        go_ret
        exact ⟨rfl, v', HO.out.1, HO.out.2, HB.out⟩
      · intro x cv kl y y2 w1 cnt1 hkx hlx hcy hat hrg1 hlt hg1 hs1 hen
        exact absurd hlx (by rw [HL.out kl]; decide)
set_option maxRecDepth 100000 in
set_option maxHeartbeats 2000000 in
theorem size_any (m n k c : Nat) (a' : Option Addr) (D : DataW Unit) (name : ByteArray) (w : World) (ho : FM w m n D) (hone : ∀ kl, Maps.has D kl = true → kl = sk name) (hhas : Maps.has D (sk name) = true) (hname : name.size ≤ maxLen)
    (hv : hdr (.slice a' k c) = some (D.atKey (sk name) (hd (.slice none 0 0)), [])) (hk : k ≤ 1099511627776) :
    Calls Tryz.prog 59 #[.map (some m)] w fun e w' => e = .returned (.int .i64 k) ∧ Below w.heap.size w w' := by
  have hbl := ho.lt
  have HV := Lib.hid hv
  have HONE := Lib.hid (And.intro hhas hone)
  have HNAME := Lib.hid hname
  have hki : (k : Int) ≤ 1099511627776 := by omega
  have hkw : wrap64 ((0 : Int) + (k : Int)) = (k : Int) := by rw [Int.zero_add]; exact IntWalk.wrap64_in _ ⟨by omega, by omega⟩
  clear hv hone hhas hname
  go_enter Tryz.func59, Tryz.ntmps59
  go_wp2_with (first
    | (at_range; refine wpList_range_own _ rfl _ 62 rfl 9 76 strLaw Tryz.underlying62 hdr m n _ rfl ho ?_; intro w0 hrg0 hg0 hs0)
    | go_in)
  go_frame
  go_loopw [3, 5] (fun z _ wr => ∃ (left : Lit → Bool) (cnt : Nat), wr.ranges Tryz.prog 9 hdr m w.heap.size n D left cnt ∧ Hid (Below w.heap.size w wr) ∧ ((z = .int .i64 0 ∧ Hid (left (sk name) = true ∧ ∀ kl, left kl = true → kl = sk name)) ∨ (z = .int .i64 k ∧ Hid (∀ kl, left kl = false))))
    (fun _ _ wr => wr.rangeLeft m w.heap.size)
  case atStart =>
    exact ⟨_, _, hrg0, Lib.hid ((Below.refl _ w).grown hg0 (Nat.le_refl _) (fun j hj => by cases hj)), .inl ⟨rfl, Lib.hid HONE.out⟩⟩
  case round =>
    obtain ⟨left, cnt, hrg, HB, hst⟩ := hrel
    rcases hst with ⟨rfl, HL⟩ | ⟨rfl, HL⟩
    · go_wp2_with (first
        | (at_next; refine nextS _ rfl _ rfl hdr m w.heap.size n _ _ _ rfl hrg ?_ ?_)
        | go_in)
      · intro hc0 hl0
        exact absurd (hl0 (sk name)) (by rw [HL.out.1]; decide)
      · intro x cv kl y y2 w1 cnt1 hkx hlx hcy hat hrg1 hlt hg1 hs1 hen
        obtain ⟨rfl, rfl⟩ := one_entry (y := (y, y2)) HNAME.out (HL.out.2 kl hlx) hkx hcy hat HV.out
        have hkl := HL.out.2 kl hlx
        have HB1 : Hid (Below w.heap.size w w1) := Lib.hid (HB.out.grown hg1 HB.out.size (fun j hj => by cases hj; exact Nat.le_refl _))
        have HL1 : Hid (∀ z, (left z && !z.sameKey kl) = false) := Lib.hid (fun z => by
          cases hz : left z
          · rfl
          · have e := HL.out.2 z hz
            rw [e, hkl, WideAt.sameKey_self (a := sk x) trivial]
            rfl)
        have HM : Hid (cnt1 < cnt) := Lib.hid hlt
        have HRL := Lib.hid hrg.left_eq
        clear hkx hlx hcy hat hkl hs1 hrg hlt hg1
        go_wp2
        go_roundw
        case rel => exact ⟨_, cnt1, hrg1, HB1, .inr ⟨rfl, HL1⟩⟩
        case measure => rw [hrg1.left_eq, HRL.out]; exact HM.out
    · go_wp2_with (first
        | (at_next; refine nextS _ rfl _ rfl hdr m w.heap.size n _ _ _ rfl hrg ?_ ?_)
        | go_in)
      · intro hc0 hl0
        go_wp2
        go_ret
        exact ⟨rfl, HB.out⟩
      · intro x cv kl y y2 w1 cnt1 hkx hlx hcy hat hrg1 hlt hg1 hs1 hen
        exact absurd hlx (by rw [HL.out kl]; decide)
end Go.Proofs.YtmlikkjahkdilaaGreatDoor
