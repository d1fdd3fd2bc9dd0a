/- Package disk: what is held is worked out anew: of a map of one file. -/
import Derived.Test.YtmlikkjahkdilaaGreatDoorDiskCrash
import Derived.Maps.RangeWalk
import Derived.Maps.OwnSet
import Derived.Sort.MapsRangeIn
namespace Go.Proofs.YtmlikkjahkdilaaGreatDoor
open Go.RowKit Go.Maps

set_option maxRecDepth 100000 in
set_option maxHeartbeats 2000000 in
theorem clone_row (B g k c : Nat) (xs : List Value) (w : World) (hrow : w.ownsRow B 5 1 (.slice (some ⟨g, 0, none⟩) k c) k xs) (hk : k ≤ 1099511627776) (h1 : ∀ u ∈ xs, u.oneCell' = true) :
    Calls Tryz.prog 83 #[.slice (some ⟨g, 0, none⟩) k c] w fun e w' => ∃ v', e = .returned v' ∧ w'.ownsRow w.heap.size 5 1 v' k xs ∧ Below w.heap.size w w' := by
  obtain ⟨i0, hi, hz0, hz1, hz2⟩ := info_parts infoByte
  have hxl := hrow.1
  have hown : (w.alloc (.cells #[] 5)).ownsRow w.heap.size 5 1 (.slice (some ⟨w.heap.size, 0, none⟩) 0 0) 0 [] := ⟨rfl, .inr ⟨w.heap.size, 0, #[], rfl, Nat.le_refl _, heap_alloc_new w _, Nat.le_refl _, Nat.zero_le _, rfl, rfl⟩⟩
  have hcell : ∀ j u, xs[j]? = some u → (w.alloc (.cells #[] 5)).cell? ((⟨g, 0, none⟩ : Addr).add j) = some u := fun j u hj => by
    have := World.ownsRow.cells (World.ownsRow.alloc hrow (.cells #[] 5)) (g := g) rfl j u hj
    simpa [Addr.add_lit] using this
  have HC := Lib.hid hcell
  have HO := Lib.hid hown
  have H1 := Lib.hid h1
  have hnil : (binOp .eql 76 (.slice (some ⟨g, 0, none⟩) k c) (.slice none 0 0)).run Tryz.prog w = .ok (.bool false) w := by simpa using Lib.run_eql_slice_nil w _ _ (some ⟨g, 0, none⟩) k c 0 0 Tryz.underlying76
  clear hrow hown hcell h1
  go_enter Tryz.func83, Tryz.ntmps83
  go_wp2_with (at_builtin; refine wpList_append_own _ rfl _ _ 76 rfl w.heap.size 5 i0 (.int .u8 0) 1 1 Tryz.underlying76 hi hz0 hz1 hz2 rfl (by decide) _ _ _ rfl HO.out ⟨g, 0, none⟩ k c xs rfl (by rw [hxl]) HC.out H1.out ?c3 ?c4 ?c5 ?_)
  case c3 => unfold maxLen; omega
  case c4 => omega
  case c5 => simp
  intro v' w2 hown' hgrow' _
  have HF := Lib.hid (show w2.ownsRow w.heap.size 5 1 v' k xs ∧ Below w.heap.size w w2 by
    refine ⟨by simpa using hown', ?_⟩
    have hb : Below w.heap.size w (w.alloc (.cells #[] 5)) := (Below.refl _ w).alloc (Nat.le_refl _) _
    exact hb.grown hgrow' hb.size (fun j hj => by cases hj; exact Nat.le_refl _))
  clear hown' hgrow'
  go_wp2
  go_ret
  exact ⟨_, rfl, HF.out⟩
theorem nextS {H : Type} {ops : Array Oper} {rest : List Oper} {o : Oper} {a : Act} {Q : Exit → Act → World → Prop} (w : World) (hg : o.guard = none) (it : Operand) (hop : o.op = Op.next it false) (R : Value → Option (DataW H × List MemPlace)) (b r n : Nat) (D : DataW H) (left : Lit → Bool) (cnt : Nat)
    (hit : a.eval it = .pointer (some ⟨r, 0, none⟩)) (h : w.ranges Tryz.prog 9 R b r n D left cnt)
    (hDone : cnt = 0 → (∀ kl, left kl = false) → wpList Tryz.prog ops Q rest (a.put o.dst (.tuple #[.bool false])) w)
    (hMore : ∀ (x : ByteArray) (c : Value) (kl : Lit) (y : DataW H × List MemPlace) (w' : World) (cnt' : Nat), keyOf Tryz.prog 9 (.string x) = some kl → left kl = true → R c = some y → (∀ zd, D.atKey kl zd = y.1) → w'.ranges Tryz.prog 9 R b r n D (fun z => left z && !z.sameKey kl) cnt' → cnt' < cnt →
      w.grownBy w' (some r) → w'.heap.size = w.heap.size → (Instr.entry (.pointer (some ⟨r, 0, none⟩))).run Tryz.prog w' = .ok (.tuple #[.string x, c]) w' → wpList Tryz.prog ops Q rest (a.put o.dst (.tuple #[.bool true, .string x, c])) w') :
    wpList Tryz.prog ops Q (o :: rest) a w :=
  wpList_next_ranges w hg it hop 9 strLaw R Value.string id (fun _ _ hk => Maps.keyOf_string_inv Tryz.underlying9 hk) (fun v _ _ => ⟨v, rfl⟩) b r n D left cnt hit h hDone hMore
/-- the one file of a map: the key that comes is its name, the element its header -/
theorem one_entry {D : DataW Unit} {name x : ByteArray} {v c : Value} {kl : Lit} {y : DataW Unit × List MemPlace} {z0 : DataW Unit} (hname : name.size ≤ maxLen) (hkl : kl = sk name) (hk : keyOf Tryz.prog 9 (.string x) = some kl) (hy : hdr c = some y) (hat : ∀ zd, D.atKey kl zd = y.1)
    (hv : hdr v = some (D.atKey (sk name) z0, [])) : x = name ∧ c = v := by
  subst hkl
  have e1 : keyOf Tryz.prog 9 (.string name) = some (sk name) := Go.WideMaps.keyOf_string_mk Tryz.underlying9 hname
  refine ⟨?_, ?_⟩
  · rw [keyOf_string Tryz.underlying9] at hk
    simp [mapKey, Tryz.underlying9, sk] at hk
    exact ByteArray.ext hk.2
  · refine hdr_inj (z := y) hy ?_
    rw [hv, hat]
    have := hdr_ps hy
    rw [← this]
abbrev empF : DataW Unit := .map []
set_option maxRecDepth 100000 in
set_option maxHeartbeats 2000000 in
theorem copied_one (B g m n k c : Nat) (D : DataW Unit) (name : ByteArray) (xs : List Value) (w : World) (ho : FM w m n D) (hone : ∀ kl, Maps.has D kl = true → kl = sk name) (hhas : Maps.has D (sk name) = true) (hname : name.size ≤ maxLen)
    (hv : hdr (.slice (some ⟨g, 0, none⟩) k c) = some (D.atKey (sk name) (hd (.slice none 0 0)), [])) (hrow : w.ownsRow B 5 1 (.slice (some ⟨g, 0, none⟩) k c) k xs) (hk : k ≤ 1099511627776) (h1 : ∀ u ∈ xs, u.oneCell' = true) :
    Calls Tryz.prog 58 #[.map (some m)] w fun e w' => e = .returned (.map (some w.heap.size)) ∧ ∃ v', FM w' w.heap.size 1 (empF.put (sk name) (hd v')) ∧ w'.ownsRow w.heap.size 5 1 v' k xs ∧ Below w.heap.size w w' := by
  have hbl := ho.lt
  have e1 : (w.alloc (.map #[] 0)).heap.size = w.heap.size + 1 := by simp
  have HV := Lib.hid hv
  have HONE := Lib.hid hone
  have HHAS := Lib.hid hhas
  have HROW := Lib.hid hrow
  have HNAME := Lib.hid hname
  have H1 := Lib.hid h1
  have HMK : Hid (∀ w : World, (Instr.makeMap 62 (some (.int .i64 (Maps.size D)))).run Tryz.prog w = .ok (.map (some w.heap.size)) (w.alloc (.map #[] 0))) := Lib.hid (fun w => by simp [Instr.makeMap, run_underlying Tryz.underlying62, asInt, asIntOf])
  have hmk := HMK.out
  have HRK : Hid (∀ w2, Below w.heap.size w w2 → w2.ownsRow B 5 1 (.slice (some ⟨g, 0, none⟩) k c) k xs) := Lib.hid (fun w2 hb => row_tch hrow (tch_below (fun _ => False) hb) (fun _ _ e => e))
  clear hv hone hhas hrow hname h1
  go_enter Tryz.func58, Tryz.ntmps58
  go_wp2_with (first
    | (at_len; refine wpList_len_own _ rfl _ 62 rfl 9 76 Tryz.underlying62 hdr m n D rfl ho ?_)
    | (at_range; refine wpList_range_own _ rfl _ 62 rfl 9 76 strLaw Tryz.underlying62 hdr m n _ rfl (ho.alloc _) ?_; intro w0 hrg0 hg0 hs0)
    | go_in)
  go_frame
  rw [e1] at hrg0 hs0 ⊢
  go_loopw [4, 5] (fun _ _ wr => ∃ (left : Lit → Bool) (cnt : Nat), wr.ranges Tryz.prog 9 hdr m (w.heap.size + 1) n D left cnt ∧ Hid (Below w.heap.size w wr) ∧ ((Hid (left (sk name) = true ∧ ∀ kl, left kl = true → kl = sk name) ∧ Hid (FM wr w.heap.size 0 empF)) ∨
      (Hid (∀ kl, left kl = false) ∧ ∃ v', Hid (FM wr w.heap.size 1 (empF.put (sk name) (hd v')) ∧ wr.ownsRow w.heap.size 5 1 v' k xs))))
    (fun _ _ wr => wr.rangeLeft m (w.heap.size + 1))
  case atStart =>
    exact ⟨_, _, hrg0, Lib.hid (((Below.refl _ _).alloc (Nat.le_refl _) _).grown hg0 (by simp) (fun j hj => by cases hj)), .inl ⟨Lib.hid ⟨HHAS.out, HONE.out⟩, Lib.hid ((World.ownsMap_made _ _ _ _).kept hg0 (by simp))⟩⟩
  case round =>
    obtain ⟨left, cnt, hrg, HB, hst⟩ := hrel
    rcases hst with ⟨HL, HO⟩ | ⟨HL, v', HO⟩
    · go_wp2_with (first
        | (at_next; refine nextS _ rfl _ rfl hdr m (w.heap.size + 1) n _ _ _ rfl hrg ?_ ?_)
        | go_in)
      · intro hc0 hl0
        exact absurd (hl0 (sk name)) (by rw [HL.out.1]; decide)
      · intro x cv kl y y2 w1 cnt1 hkx hlx hcy hat hrg1 hlt hg1 hs1 hen
        obtain ⟨rfl, rfl⟩ := one_entry (y := (y, y2)) HNAME.out (HL.out.2 kl hlx) hkx hcy hat HV.out
        have hkl := HL.out.2 kl hlx
        have HB1 : Hid (Below w.heap.size w w1) := Lib.hid (HB.out.grown hg1 HB.out.size (fun j hj => by cases hj; omega))
        have HO1 : Hid (FM w1 w.heap.size 0 empF) := Lib.hid (HO.out.kept hg1 (by simp))
        have HL1 : Hid (∀ z, (left z && !z.sameKey kl) = false) := Lib.hid (fun z => by
          cases hz : left z
          · rfl
          · have e := HL.out.2 z hz
            rw [e, hkl, WideAt.sameKey_self (a := sk x) trivial]
            rfl)
        have hcl := clone_row B g k c xs w1 (HRK.out w1 HB1.out) hk H1.out
        have HM : Hid (cnt1 < cnt) := Lib.hid hlt
        have HRL := Lib.hid hrg.left_eq
        have HKX := Lib.hid (Go.WideMaps.keyOf_string_mk Tryz.underlying9 HNAME.out : keyOf Tryz.prog 9 (.string x) = some (sk x))
        clear hkx hlx hcy hat hkl hs1 hrg hlt
        go_wp2_with (fail)
        refine hcl.mono ?_
        rintro e w2 ⟨v2, rfl, hrow2, hb2⟩
        have hout2 : FM w2 w.heap.size 0 empF := fm_tch HO1.out (tch_below (fun _ => False) hb2) (fun e => e)
        have hrg2 := hrg1.kept (row := none) (w' := w2) ⟨hb2.os, hb2.tape, hb2.output, hb2.size, fun i hi _ => hb2.block i hi⟩ (by simp) (by simp)
        have HB2 := Lib.hid (HB1.out.trans (hb2.mono HB1.out.size))
        have HRW2 : Hid (w2.ownsRow w.heap.size 5 1 v2 k xs) := Lib.hid (show w2.ownsRow w.heap.size 5 1 v2 k xs from ⟨hrow2.1, hrow2.2.imp id fun ⟨g, cap, cur, q1, q2, q3⟩ => ⟨g, cap, cur, q1, Nat.le_trans HB1.out.size q2, q3⟩⟩)
        have HVW := Lib.hid (hdr_row hrow2)
        have HBL : Hid (w.heap.size + 1 < w1.heap.size) := Lib.hid hrg1.lt
        have HNB : Hid (∀ b, v2.ownBlock = some b → w1.heap.size ≤ b) := Lib.hid (fun b hb => (hrow2.lt b hb).1)
        clear hcl hb2 hrow2 hg1 hrg1
        go_wp2_with (first
          | (at_mapUpdate; refine wpList_mapUpdate_own _ rfl _ _ _ 62 rfl 9 76 strLaw Tryz.underlying62 _ w.heap.size _ _ rfl hout2 (by unfold maxLen; omega) _ _ _ rfl rfl HKX.out _ [] HVW.out ?_; intro w3 hout3 hg3; go_frame)
          | go_in)
        have hrg3 := hrg2.kept hg3 (fun e => by have := Option.some.inj e; omega) (fun e => by have := Option.some.inj e; omega)
        go_roundw
        case rel =>
          refine ⟨_, cnt1, hrg3, Lib.hid (HB2.out.grown hg3 HB2.out.size (fun j hj => by cases hj; exact Nat.le_refl _)), .inr ⟨HL1, v2, Lib.hid ⟨hout3, ?_⟩⟩⟩
          exact World.ownsRow.kept HRW2.out hg3 (.inr (fun e => by have := HNB.out w.heap.size e; have := HBL.out; omega))
        case measure => rw [hrg3.left_eq, HRL.out]; exact HM.out
    · go_wp2_with (first
        | (at_next; refine nextS _ rfl _ rfl hdr m (w.heap.size + 1) n _ _ _ rfl hrg ?_ ?_)
        | go_in)
      · intro hc0 hl0
        go_wp2
        go_ret
        exact ⟨rfl, v', HO.out.1, HO.out.2, HB.out⟩
      · intro x cv kl y y2 w1 cnt1 hkx hlx hcy hat hrg1 hlt hg1 hs1 hen
        exact absurd hlx (by rw [HL.out kl]; decide)
set_option maxRecDepth 100000 in
set_option maxHeartbeats 2000000 in
theorem size_one (g m n k c : Nat) (D : DataW Unit) (name : ByteArray) (w : World) (ho : FM w m n D) (hone : ∀ kl, Maps.has D kl = true → kl = sk name) (hname : name.size ≤ maxLen)
    (hv : hdr (.slice (some ⟨g, 0, none⟩) k c) = some (D.atKey (sk name) (hd (.slice none 0 0)), [])) (hk : k ≤ 1099511627776) :
    Calls Tryz.prog 59 #[.map (some m)] w fun e w' => (∃ z : Int, e = .returned (.int .i64 z)) ∧ Below w.heap.size w w' := by
  have hbl := ho.lt
  have HV := Lib.hid hv
  have HONE := Lib.hid hone
  have HNAME := Lib.hid hname
  have hki : (k : Int) ≤ 1099511627776 := by omega
  have hkw : wrap64 ((0 : Int) + (k : Int)) = (k : Int) := by rw [Int.zero_add]; exact IntWalk.wrap64_in _ ⟨by omega, by omega⟩
  clear hv hone hname
  go_enter Tryz.func59, Tryz.ntmps59
  go_wp2_with (first
    | (at_range; refine wpList_range_own _ rfl _ 62 rfl 9 76 strLaw Tryz.underlying62 hdr m n _ rfl ho ?_; intro w0 hrg0 hg0 hs0)
    | go_in)
  go_frame
  go_loopw [3, 5] (fun z _ wr => ∃ (left : Lit → Bool) (cnt : Nat), wr.ranges Tryz.prog 9 hdr m w.heap.size n D left cnt ∧ Hid (Below w.heap.size w wr) ∧ ((z = .int .i64 0 ∧ Hid (∀ kl, left kl = true → kl = sk name)) ∨ (z = .int .i64 k ∧ Hid (∀ kl, left kl = false))))
    (fun _ _ wr => wr.rangeLeft m w.heap.size)
  case atStart =>
    exact ⟨_, _, hrg0, Lib.hid ((Below.refl _ w).grown hg0 (Nat.le_refl _) (fun j hj => by cases hj)), .inl ⟨rfl, Lib.hid HONE.out⟩⟩
  case round =>
    obtain ⟨left, cnt, hrg, HB, hst⟩ := hrel
    rcases hst with ⟨rfl, HL⟩ | ⟨rfl, HL⟩
    · go_wp2_with (first
        | (at_next; refine nextS _ rfl _ rfl hdr m w.heap.size n _ _ _ rfl hrg ?_ ?_)
        | go_in)
      · intro hc0 hl0
        go_wp2
        go_ret
        exact ⟨⟨_, rfl⟩, HB.out⟩
      · intro x cv kl y y2 w1 cnt1 hkx hlx hcy hat hrg1 hlt hg1 hs1 hen
        obtain ⟨rfl, rfl⟩ := one_entry (y := (y, y2)) HNAME.out (HL.out kl hlx) hkx hcy hat HV.out
        have hkl := HL.out kl hlx
        have HB1 : Hid (Below w.heap.size w w1) := Lib.hid (HB.out.grown hg1 HB.out.size (fun j hj => by cases hj; exact Nat.le_refl _))
        have HL1 : Hid (∀ z, (left z && !z.sameKey kl) = false) := Lib.hid (fun z => by
          cases hz : left z
          · rfl
          · have e := HL.out z hz
            rw [e, hkl, WideAt.sameKey_self (a := sk x) trivial]
            rfl)
        have HM : Hid (cnt1 < cnt) := Lib.hid hlt
        have HRL := Lib.hid hrg.left_eq
        clear hkx hlx hcy hat hkl hs1 hrg hlt hg1
        go_wp2
        go_roundw
        case rel => exact ⟨_, cnt1, hrg1, HB1, .inr ⟨rfl, HL1⟩⟩
        case measure => rw [hrg1.left_eq, HRL.out]; exact HM.out
    · go_wp2_with (first
        | (at_next; refine nextS _ rfl _ rfl hdr m w.heap.size n _ _ _ rfl hrg ?_ ?_)
        | go_in)
      · intro hc0 hl0
        go_wp2
        go_ret
        exact ⟨⟨_, rfl⟩, HB.out⟩
      · intro x cv kl y y2 w1 cnt1 hkx hlx hcy hat hrg1 hlt hg1 hs1 hen
        exact absurd hlx (by rw [HL.out kl]; decide)
theorem DiskAt.hld {w : World} {p : Nat} {cp : Int} {l c h : Value} {u : Int} (d : DiskAt w p cp l c h u) (h' : Value) : DiskAt (w.setCell ⟨p, 3, none⟩ h') p cp l c h' u :=
  ⟨(World.cell?_setCell_other _ _ _ _ (by simp)).trans d.c0, (World.cell?_setCell_other _ _ _ _ (by simp)).trans d.c1, (World.cell?_setCell_other _ _ _ _ (by simp)).trans d.c2, World.cell?_setCell_same _ _ _ d.c3, (World.cell?_setCell_other _ _ _ _ (by simp)).trans d.c4,
    fun i => by rw [World.frozen?_setCell]; exact d.fr i, ty_set _ d.ty⟩
theorem DiskAt.usd {w : World} {p : Nat} {cp : Int} {l c h : Value} {u : Int} (d : DiskAt w p cp l c h u) (u' : Int) : DiskAt (w.setCell ⟨p, 4, none⟩ (.int .i64 u')) p cp l c h u' :=
  ⟨(World.cell?_setCell_other _ _ _ _ (by simp)).trans d.c0, (World.cell?_setCell_other _ _ _ _ (by simp)).trans d.c1, (World.cell?_setCell_other _ _ _ _ (by simp)).trans d.c2, (World.cell?_setCell_other _ _ _ _ (by simp)).trans d.c3, World.cell?_setCell_same _ _ _ d.c4,
    fun i => by rw [World.frozen?_setCell]; exact d.fr i, ty_set _ d.ty⟩
/-- a disk that holds one file, as what lasts does -/
def Held1 (w0 w : World) (p : Nat) (name : ByteArray) (k : Nat) (xs : List Value) : Prop :=
  Below w0.heap.size w0 w ∧ ∃ (m : Nat) (cp used : Int) (last chg v : Value), DiskAt w p cp last chg (.map (some m)) used ∧ FM w m 1 (empF.put (sk name) (hd v)) ∧ w.ownsRow w0.heap.size 5 1 v k xs
theorem sk_key (s : ByteArray) : WideAt.IsKeyLit (sk s) := trivial
theorem put_one (name : ByteArray) (d : DataW Unit) : ∀ kl, Maps.has (empF.put (sk name) d) kl = true → kl = sk name := fun kl hkl => by
  by_cases e : kl = sk name
  · exact e
  · rw [Maps.has_put_other e] at hkl
    cases hkl
theorem put_at (name : ByteArray) (d z : DataW Unit) : (empF.put (sk name) d).atKey (sk name) z = d := Maps.atKey_put_same ⟨[], rfl⟩ (sk_key name) _ _
set_option maxRecDepth 100000 in
set_option maxHeartbeats 2000000 in
theorem anew_one (w0 : World) (p L B g n k c : Nat) (cp used : Int) (held : Value) (D : DataW Unit) (name : ByteArray) (xs : List Value) (w : World) (hb0 : Below w0.heap.size w0 w) (hp0 : w0.heap.size ≤ p) (hd0 : DiskAt w p cp (.map (some L)) (.slice none 0 0) held used) (ho : FM w L n D) (hone : ∀ kl, Maps.has D kl = true → kl = sk name) (hhas : Maps.has D (sk name) = true) (hname : name.size ≤ maxLen)
    (hv : hdr (.slice (some ⟨g, 0, none⟩) k c) = some (D.atKey (sk name) (hd (.slice none 0 0)), [])) (hrow : w.ownsRow B 5 1 (.slice (some ⟨g, 0, none⟩) k c) k xs) (hk : k ≤ 1099511627776) (hk0 : 0 < k) (h1 : ∀ u ∈ xs, u.oneCell' = true) :
    Calls Tryz.prog 37 #[.pointer (some ⟨p, 0, none⟩)] w fun e w' => e = .returned (.tuple #[]) ∧ Held1 w0 w' p name k xs := by
  have hcp := copied_one B g L n k c D name xs w ho hone hhas hname hv hrow hk h1
  have c1 := hd0.c1
  have HD := Lib.hid hd0
  have HB0 := Lib.hid hb0
  have HP0 := Lib.hid hp0
  have hpw := hd0.lt
  have HNAME := Lib.hid hname
  clear hd0 ho hone hhas hname hv hrow h1 hb0 hp0
  go_enter Tryz.func37, Tryz.ntmps37
  go_wp2_with (fail)
  refine hcp.mono ?_
  rintro e w1 ⟨rfl, v1, ho1, hrow1, hb1⟩
  obtain ⟨q, hq⟩ : ∃ q, q = w.heap.size := ⟨_, rfl⟩
  have HQ := Lib.hid hq
  rw [← hq] at ho1 ⊢
  have D1 := HD.out.tch (tch_below (fun _ => False) hb1) (fun e => e)
  have d1 := D1.c1
  have d2 := D1.c2
  have d3 := D1.c3
  have f3 := D1.fr 3
  have HD1 := Lib.hid D1
  have HO1 := Lib.hid (And.intro ho1 (And.intro hrow1 hb1))
  clear hcp c1 D1 ho1 hrow1 hb1 hq
  have HW2 : Hid (DiskAt (w1.setCell ⟨p, 3, none⟩ (.map (some q))) p cp (.map (some L)) (.slice none 0 0) (.map (some q)) used ∧ FM (w1.setCell ⟨p, 3, none⟩ (.map (some q))) q 1 (empF.put (sk name) (hd v1)) ∧
      (w1.setCell ⟨p, 3, none⟩ (.map (some q))).ownsRow w0.heap.size 5 1 v1 k xs ∧ Below w0.heap.size w0 (w1.setCell ⟨p, 3, none⟩ (.map (some q)))) := by
    obtain ⟨ho1, hrow1, hb1⟩ := HO1.out
    have ts := tch_set w1 ⟨p, 3, none⟩ (.map (some q))
    have hrow1' : w1.ownsRow w0.heap.size 5 1 v1 k xs := ⟨hrow1.1, hrow1.2.imp id fun ⟨g, cap, cur, q1, q2, q3⟩ => ⟨g, cap, cur, q1, Nat.le_trans HB0.out.size q2, q3⟩⟩
    exact Lib.hid ⟨HD1.out.hld _, fm_tch ho1 ts (fun e => map_apart HD1.out.ty ho1 e.symm), row_tch hrow1' ts (fun b hb => cells_apart (row_at hrow1' hb) HD1.out.ty (by decide)), (HB0.out.trans (hb1.mono HB0.out.size)).setCell HP0.out _⟩
  go_wp2
  generalize w1.setCell ⟨p, 3, none⟩ (.map (some q)) = w2 at *
  go_loopw [17] (fun i wr => i = .int .i64 0 ∧ w2 = wr) (fun _ _ => 0)
  case atStart => exact ⟨rfl, rfl⟩
  case round =>
    obtain ⟨rfl, rfl⟩ := hrel
    obtain ⟨g1, c1, hv1⟩ : ∃ g1 c1, v1 = .slice (some ⟨g1, 0, none⟩) k c1 := by
      rcases HW2.out.2.2.1.2 with ⟨_, h⟩ | ⟨g, cap, cur, h, _⟩
      · omega
      · exact ⟨g, cap, h⟩
    have hs := size_one g1 q 1 k c1 (empF.put (sk name) (hd v1)) name w2 HW2.out.2.1 (put_one name _) HNAME.out (by rw [put_at, ← hv1]; exact hdr_row HW2.out.2.2.1) hk
    have e3 := HW2.out.1.c3
    clear d1 d2 d3 f3
    go_wp2_with (fail)
    refine hs.mono ?_
    rintro e w3 ⟨⟨z, rfl⟩, hb3⟩
    have T3 := tch_below (fun _ => False) hb3
    have K3 := HW2.out.1.tch T3 (fun e => e)
    have d4 := K3.c4
    have f4 := K3.fr 4
    have HFI : Hid (Held1 w0 (w3.setCell ⟨p, 4, none⟩ (.int .i64 z)) p name k xs) := by
      have ts := tch_set w3 ⟨p, 4, none⟩ (.int .i64 z)
      have o3 := fm_tch HW2.out.2.1 T3 (fun e => e)
      have r3 := row_tch HW2.out.2.2.1 T3 (fun _ _ e => e)
      exact Lib.hid ⟨(HW2.out.2.2.2.trans (hb3.mono HW2.out.2.2.2.size)).setCell HP0.out _, q, cp, z, _, _, v1, K3.usd _, fm_tch o3 ts (fun e => map_apart K3.ty o3 e.symm), row_tch r3 ts (fun b hb => cells_apart (row_at r3 hb) K3.ty (by decide))⟩
    clear hs T3 K3 hb3 e3
    go_wp2
    first
      | (go_end0; exact ⟨rfl, HFI.out⟩)
      | (go_ret; exact ⟨rfl, HFI.out⟩)
      | exact bodyPost_ret (v := .tuple #[]) (results_none rfl _ _ _) rfl ⟨rfl, HFI.out⟩
end Go.Proofs.YtmlikkjahkdilaaGreatDoor
