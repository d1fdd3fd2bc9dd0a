/- CrcAffine is true for every three texts: of their common lengths and the text of their bits' sums, the checksums add up to nothing. No conditions beyond the card's own. -/
import Derived.Test.YtfgmeeoldcfjbaaDoorCrcFnsB
import Derived.Test.YtfgmeeoldcfjbaaDoorCrcBurst
import Derived.Test.YtfgmeeoldcfjbaaDoorBytes
import Derived.Test.YtfgmeeoldcfjbaaDoorQuiet
import Derived.Deep.DeepCutAuto
import Derived.RegionTactic
import Derived.ChangeAlike
import Derived.Lib.Strings

import Derived.Test.YtfgmeeoldcfjbaaDoorLawEnd

import Derived.Test.YtfgmeeoldcfjbaaDoorCrcLaid

namespace Go.Proofs.YtfgmeeoldcfjbaaDoor.fnCrcAffine
open Go.ChangeShapes Go.WideShapes Go.ChangeAt Go.RowKit Go.WideMaps Go.WideElems
open Go.ChangeMaps (open_string)

theorem info8 : (Tryd.prog.info? 5).map (fun i => (i.zero, i.size, i.bytes)) = some (some (.int .u8 0), 1, 1) := by kernel_rfl
theorem make8 (n : Nat) (hn : n ≤ 281474976710656) : ∀ w : World, (Instr.makeSlice 31 (.int .i64 (n : Int)) (.int .i64 (n : Int))).run Tryd.prog w =
    .ok (.slice (some ⟨w.heap.size, 0, none⟩) n n) (w.alloc (.cells (madeCells #[.int .u8 0] n) 5)) := by
  intro w
  obtain ⟨i, hi, hz0, hz1, hz2⟩ := info_parts info8
  have := run_make (P := Tryd.prog) w 31 5 i (.int .u8 0) Tryd.underlying31 hi hz0 .i64 .i64 n n (by omega) (by omega) (by rw [hz2]; omega) (by omega)
  simpa [hz1, Value.cells] using this

theorem take_of {s v : ByteArray} {k : Nat} (h : v = s.extract 0 k) (hk : k ≤ s.size) : v.size = k ∧ v.data.toList = s.data.toList.take k := by
  subst h
  constructor
  · rw [ByteArray.size_extract]; omega
  · rw [Lib.extract_data]; simp
theorem aff_step {a b c : ByteArray} {l : List UInt8} {k : Nat} (h : ∀ j, j < k → l[j]?.getD 0 = a.data.toList[j]?.getD 0 ^^^ b.data.toList[j]?.getD 0 ^^^ c.data.toList[j]?.getD 0)
    (hl : k < l.length) (ha : k < a.size) (hb : k < b.size) (hc : k < c.size) :
    ∀ j, j < k + 1 → (l.set k (a[k] ^^^ b[k] ^^^ c[k]))[j]?.getD 0 = a.data.toList[j]?.getD 0 ^^^ b.data.toList[j]?.getD 0 ^^^ c.data.toList[j]?.getD 0 := by
  intro j hj
  by_cases e : j = k
  · subst e
    rw [List.getElem?_set_self hl]
    have e1 : a.data.toList[j]? = some a[j] := by rw [List.getElem?_eq_getElem (by simpa using ha)]; rfl
    have e2 : b.data.toList[j]? = some b[j] := by rw [List.getElem?_eq_getElem (by simpa using hb)]; rfl
    have e3 : c.data.toList[j]? = some c[j] := by rw [List.getElem?_eq_getElem (by simpa using hc)]; rfl
    rw [e1, e2, e3]
    rfl
  · rw [List.getElem?_set_ne (by omega)]
    exact h j (by omega)
theorem u8_xor_of (a b : UInt8) : bits BinOp.xor IntKind.u8 (a.toNat : Int) (b.toNat : Int) = ((a ^^^ b).toNat : Int) := by
  rw [u8_xor_nat _ _ a.toNat_lt b.toNat_lt, UInt8.toNat_xor]
set_option maxHeartbeats 1000000 in
theorem walk (a b c : ByteArray) (w : World) (hh : Half w) (ha : a.size ≤ 140737488351232) (hb : b.size ≤ 140737488351232) (hc : c.size ≤ 140737488351232)  :
    Calls Tryd.prog 9 #[.string a, .string b, .string c] w fun e w' => e = .returned (.bool true) ∧ Below w.heap.size w w' := by
  go_enter Tryd.func9, Tryd.ntmps9
  go_upto_region 1 with (fail)
  go_cut [7] (fun s7 wx => (∃ n : Nat, n ≤ a.size ∧ n ≤ b.size ∧ n ≤ c.size ∧ s7 = .int .i64 n) ∧ w = wx)
  case first =>
    go_wp2
    · go_meet
      exact ⟨⟨c.size, by omega, by omega, by omega, rfl⟩, rfl⟩
    · go_meet
      exact ⟨⟨b.size, by omega, by omega, by omega, rfl⟩, rfl⟩
    · go_meet
      exact ⟨⟨a.size, by omega, by omega, by omega, rfl⟩, rfl⟩
  case rest =>
    obtain ⟨⟨n, hna, hnb, hnc, rfl⟩, rfl⟩ := hcut
    have hmk := make8 n (by omega)
    have R0 := Lib.hid (Row8.made w 5 n)
    have B0 : Hid (Below w.heap.size w (w.alloc (.cells (madeCells #[.int .u8 0] n) 5))) := (Below.refl _ _).alloc (Nat.le_refl _) _
    go_wp2
    go_loopw [9] (fun i wr => ∃ (k : Nat) (l : List UInt8), k ≤ n ∧ i = .int .i64 k ∧ l.length = n ∧ Hid (∀ j, j < k → l[j]?.getD 0 = a.data.toList[j]?.getD 0 ^^^ b.data.toList[j]?.getD 0 ^^^ c.data.toList[j]?.getD 0) ∧ Hid (Row8 wr w.heap.size l) ∧ Hid (Below w.heap.size w wr)) (fun i _ => n - (intOf i).toNat)
    case atStart => exact ⟨0, List.replicate n 0, by omega, rfl, by simp, fun j hj => absurd hj (by omega), R0, B0⟩
    case round =>
      obtain ⟨k, l, hk, rfl, hl, HI, HR, HBel⟩ := hrel
      clear R0 B0 hmk
      by_cases hlt : k < n
      · have hl' : k < l.length := by omega
        have hc1 := HR.out.cell hl'
        have hf1 := HR.out.frozen hl'
        have hka : k < a.size := by omega
        have hkb : k < b.size := by omega
        have hkc : k < c.size := by omega
        obtain ⟨y, hy⟩ : ∃ y, y = a[k] ^^^ b[k] := ⟨_, rfl⟩
        obtain ⟨z, hz⟩ : ∃ z, z = y ^^^ c[k] := ⟨_, rfl⟩
        have hx1 := u8_xor_of a[k] b[k]
        have hx2 := u8_xor_of y c[k]
        have HZ := Lib.hid (show z = a[k] ^^^ b[k] ^^^ c[k] by rw [hz, hy])
        rw [← hy] at hx1
        rw [← hz] at hx2
        clear hy hz
        have HL := Lib.hid hl
        clear hl
        go_wp2
        go_region
        all_goals
          go_wp2
          go_roundw
          case rel =>
            refine ⟨k + 1, l.set k z, by omega, by go_num, by rw [List.length_set]; exact HL.out, ?_, (HR.out.set _ _).drew, (HBel.out.setCell (Nat.le_refl _) _).drew⟩
            rw [HZ.out]
            exact aff_step HI.out hl' hka hkb hkc
          case measure => simp [intOf]; omega
      · obtain rfl : k = n := by omega
        obtain ⟨va, hva⟩ : ∃ va, va = a.extract 0 k := ⟨_, rfl⟩
        obtain ⟨vb, hvb⟩ : ∃ vb, vb = b.extract 0 k := ⟨_, rfl⟩
        obtain ⟨vc, hvc⟩ : ∃ vc, vc = c.extract 0 k := ⟨_, rfl⟩
        have la := take_of hva hna
        have lb := take_of hvb hnb
        have lc := take_of hvc hnc
        have hlm : (⟨l.toArray⟩ : ByteArray).size ≤ maxLen := by show l.toArray.size ≤ _; unfold maxLen; simp; omega
        have hma : va.size ≤ maxLen := by unfold maxLen; omega
        have hmb : vb.size ≤ maxLen := by unfold maxLen; omega
        have hmc : vc.size ≤ maxLen := by unfold maxLen; omega
        have haff : Crc.sum va.data.toList ^^^ Crc.sum vb.data.toList ^^^ Crc.sum vc.data.toList = Crc.sum (⟨l.toArray⟩ : ByteArray).data.toList := by
          refine Crc.affine _ _ _ _ ?_ ?_ ?_ ?_
          · rw [la.2, List.length_take]; simp; omega
          · rw [lb.2, List.length_take]; simp; omega
          · rw [lc.2, List.length_take]; simp; omega
          · intro i hi
            have hi' : i < k := by simp at hi; omega
            rw [la.2, lb.2, lc.2, List.getElem?_take_of_lt hi', List.getElem?_take_of_lt hi', List.getElem?_take_of_lt hi']
            exact HI.out i hi'
        have x1 := U_xor (Crc.sum va.data.toList) (Crc.sum vb.data.toList)
        have x2 := U_xor (Crc.sum va.data.toList ^^^ Crc.sum vb.data.toList) (Crc.sum vc.data.toList)
        rw [haff] at x2
        have hva' := hva.symm
        have hvb' := hvb.symm
        have hvc' := hvc.symm
        have hbk := fun m => (HR.out.drewN m).back (P := Tryd.prog) 31 9 5 k Tryd.underlying31 Tryd.underlying5 Tryd.underlying9
        rw [hl] at hbk
        have hw : Half wr := hh.below HBel.out hh.lt
        have LA := Lib.hid la
        clear haff hva hvb hvc la lb lc hl
        go_wp2
        go_quiet ((first | (go_at_call 12; exact quiet_left (speaks1_any _ hw)) | (go_at_call 13; exact quiet_left (sum_any _ _ hw hma)) | (go_at_call 13; exact quiet_left (sum_any _ _ hw hmb)) | (go_at_call 13; exact quiet_left (sum_any _ _ hw hmc)) | (go_at_call 13; exact quiet_left (sum_any _ _ hw hlm))))
        go_wp2
        go_ret
        exact ⟨rfl, below_drewN HBel.out _⟩

theorem contract (H : Type) (enc : TypeId × Value → H) (W : World) (base : Nat) (args : Array Value) (ds gs : List (DataW H)) (before : List MemPlace)
    (hval : ∀ (j : Nat) t v, Tryd.f9.params[j]? = some t → args[j]? = some v → Value.okWide Tryd.prog W .any base t v)
    (hW : DataW.Whole enc Tryd.prog Tryd.f9.params.toList Rows.crcAffineSpec.vars false W args.toList ds gs before) (hL : laidMetH Tryd.prog Rows.crcAffineRow.laid W)
    (hz : (DataW.weightsEach Tryd.prog (Tryd.f9.params.toList ++ []) (ds ++ gs)).all (· ≤ reachBytes) = true) :
    Calls Tryd.prog 9 args W fun e W' => ∃ v, e = .returned v ∧ Rows.crcAffineSpec.post enc Tryd.prog Tryd.f9 false true false false W args v W' := by
  have hW' := hW
  obtain ⟨p, q, hA0, hV, rfl, hfz, hnd⟩ := hW
  have hA : DataW.TrodAll enc Tryd.prog W 0 (fun _ => true) true Tryd.f9.params.toList args.toList ds p := hA0
  rw [Tryd.params9] at hA hval hz
  obtain ⟨v0, vs0, d0, ds0, p0, q0, hargs, rfl, rfl, h0, r0⟩ := trodAll_cons hA
  obtain ⟨v1, vs1, d1, ds1, p1, q1, rfl, rfl, rfl, h1, r1⟩ := trodAll_cons r0
  obtain ⟨v2, vs2, d2, ds2, p2, q2, rfl, rfl, rfl, h2, r2⟩ := trodAll_cons r1
  obtain ⟨rfl, rfl, rfl⟩ := trodAll_nil r2
  obtain rfl : args = #[v0, v1, v2] := by cases args; simp_all
  obtain ⟨rfl, rfl⟩ := trodVars_none hV
  obtain ⟨x0, rfl, rfl, rfl, w0⟩ := open_string Tryd.underlying9 (hval 0 9 v0 rfl rfl) h0
  have b0 : x0.size ≤ 140737488351232 := by have := sized_string hz (j := 0) (t := 9) rfl rfl; simpa [reachBytes] using this
  obtain ⟨x1, rfl, rfl, rfl, w1⟩ := open_string Tryd.underlying9 (hval 1 9 v1 rfl rfl) h1
  have b1 : x1.size ≤ 140737488351232 := by have := sized_string hz (j := 1) (t := 9) rfl rfl; simpa [reachBytes] using this
  obtain ⟨x2, rfl, rfl, rfl, w2⟩ := open_string Tryd.underlying9 (hval 2 9 v2 rfl rfl) h2
  have b2 : x2.size ≤ 140737488351232 := by have := sized_string hz (j := 2) (t := 9) rfl rfl; simpa [reachBytes] using this
  clear hA0
  refine (walk x0 x1 x2 W (half_of hL) b0 b1 b2).mono fun e W' ⟨he, hb⟩ => ?_
  subst he
  exact ⟨_, rfl, law_end hW' rfl rfl hb laidOut (by kernel_rfl) (by kernel_rfl) Tryd.underlying4⟩

theorem reads (os : Os) {H : Type} (enc : TypeId × Value → H) : ∃ places, DataW.whole enc Tryd.prog ((laidWorld os).forCall (fun _ _ => 0) ⟨#[], #[.string ⟨#[]⟩, .string ⟨#[]⟩, .string ⟨#[]⟩], []⟩).memory Tryd.f9.params.toList Rows.crcAffineSpec.vars false [Value.string ⟨#[]⟩, Value.string ⟨#[]⟩, Value.string ⟨#[]⟩] 8 = some ([.lit (.string []), .lit (.string []), .lit (.string [])], [], places) :=
  ⟨[], by kernel_rfl⟩

set_option maxRecDepth 100000 in
theorem lifted (os : Os) (started : os.Started) (H : Type) (enc : TypeId × Value → H) (F : Stop.Interp) :
    ReturnsInHanded {} Tryd.checked os 9 .any ((OpenSpec.ofChange Rows.crcAffineSpec).preRow enc Tryd.prog Tryd.f9 Rows.crcAffineRow.domain false Rows.crcAffineRow.laid) (((OpenSpec.ofChange Rows.crcAffineSpec).at F).post enc Tryd.prog Tryd.f9 false true false false) := by
  obtain ⟨places, hx⟩ := reads os enc
  have laid_met : laidMet Tryd.prog Rows.crcAffineRow.laid ((laidWorld os).forCall (fun _ _ => 0) ⟨#[], #[.string ⟨#[]⟩, .string ⟨#[]⟩, .string ⟨#[]⟩], []⟩).memory := (laidMet_of_run' 8 (by kernel_rfl) (by kernel_rfl))
  refine returnsInHanded_of_row (C := Tryd.checked) (s := OpenSpec.ofChange Rows.crcAffineSpec) own started (by kernel_rfl) Tryd.func9
    (witness_row_at (enc := enc) (C := Tryd.checked) false (laidWorld os) #[.string ⟨#[]⟩, .string ⟨#[]⟩, .string ⟨#[]⟩] rfl (by kernel_rfl) (by kernel_rfl) (by kernel_rfl)
      (OpenSpec.preRow_of_cond 8 hx (by kernel_rfl) (fun k hk => by cases hk) (by kernel_rfl) laid_met)) ?_
  intro W base args ds gs before hval hW _ _ hz hL _ _
  exact contract H enc W base args ds gs before hval hW hL hz

theorem said : Rows.CrcAffineSaid :=
  OpenClaim.holds_of_cond 9 Tryd.f9 rfl rfl rfl rfl rfl rfl rfl ⟨rfl, rfl, rfl, rfl, rfl⟩ rfl rfl rfl rfl rfl (by kernel_rfl) Tryd.func9 (by kernel_rfl)
    (of_decide_eq_true (by kernel_rfl)) (by unfold Func.isWrapper; first | (rw [if_pos (by decide +kernel)]; kernel_rfl) | (rw [if_neg (by decide +kernel)]; exact ⟨rfl, rfl⟩))
    (fun os started H enc _ F => by rw [OpenClaim.pre_eq_preRow]; exact lifted os started H enc F)

theorem plain (f : FuncId) (fn : Func) (hf : Tryd.pinned.checked.prog.funcNamed "mahout/mahoutlaw01.CrcAffine" = some f) (hfn : Tryd.pinned.checked.prog.funcs[f]? = some fn) :
    false = Tryd.pinned.checked.prog.looks [] ∧ ∀ (j : Nat) t, fn.params[j]? = some t → Tryd.pinned.checked.prog.wantsStandIn t = false := by
  obtain rfl : f = 9 := Option.some.inj ((show Tryd.prog.funcNamed "mahout/mahoutlaw01.CrcAffine" = some 9 by kernel_rfl).symm.trans hf) |>.symm
  obtain rfl : fn = Tryd.f9 := (Option.some.inj (Tryd.func9.symm.trans hfn)).symm
  exact ⟨by kernel_rfl, fun j t ht => by
    rw [Tryd.params9] at ht
    have hm : t ∈ [9, 9, 9] := by simpa using Array.mem_of_getElem? ht
    have hall : ([9, 9, 9].all fun u => !Tryd.prog.wantsStandIn u) = true := by kernel_rfl
    exact (show Tryd.prog.wantsStandIn t = false by simpa using List.all_eq_true.1 hall t hm)⟩
/-- THE CARD -/
theorem card : Rows.CrcAffineCardSaid :=
  Claim7.holds_tied_plain_at .later [] _ _ _ _ said (fun _ h => by cases h) (by kernel_rfl) (fun _ h => by cases h) crcAffine_row_tie rfl ⟨rfl, rfl⟩ (by kernel_rfl) rfl plain (by kernel_rfl)

end Go.Proofs.YtfgmeeoldcfjbaaDoor.fnCrcAffine
