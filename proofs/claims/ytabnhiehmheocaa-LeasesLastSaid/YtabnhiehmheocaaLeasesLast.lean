/- LeasesLast: the last word on a path counts, and what is dropped is held by nobody and never due, whatever the input. -/
import Derived.Test.YtabnhiehmheocaaLeaSpk
import Derived.Test.YtabnhiehmheocaaSlices
import Derived.Deep.DeepCutAuto

import Derived.Test.YtabnhiehmheocaaLawEnd

import Derived.Test.YtabnhiehmheocaaPlainKit

namespace Go.Proofs.Ytabnhiehmheocaa.fnLeasesLast
open Go.ChangeShapes Go.WideShapes Go.ChangeAt Go.RowKit Go.WideMaps Go.WideElems
open Go.ChangeMaps (open_string)

/-- what the table knows behind k rounds -/
def lastL (q : ByteArray) (zs : List Int) : Nat → List Ls
  | 0 => []
  | k + 1 => [⟨q, zs.getD k 0, mom (k + 1)⟩]
theorem grant_last (q : ByteArray) (zs : List Int) (k : Nat) (c h : Int) : grantL (lastL q zs k) q c h = [⟨q, c, h⟩] := by
  cases k with
  | zero => rfl
  | succ k => simp [lastL, grantL, dropL, insL]
theorem renew_last (q : ByteArray) (zs : List Int) (k : Nat) (h : Int) : renewL [⟨q, zs.getD k 0, h⟩] (zs.getD k 0) (mom (k + 1)) = lastL q zs (k + 1) := by simp [renewL, lastL]
theorem len_row0 {w : World} {B n : Nat} {v : Value} {xs : List ByteArray} (hrow : w.ownsRow B 9 1 v n (xs.map Value.string)) (hn : n = xs.length) (h0 : xs.length = 0) : ∃ a c, v = .slice a 0 c := by
  rw [h0] at hn
  subst hn
  rcases hrow.2 with ⟨h0, _⟩ | ⟨g, cap, cur, h1, _⟩
  · exact ⟨_, _, h0⟩
  · exact ⟨_, _, h1⟩
set_option maxRecDepth 100000 in
set_option maxHeartbeats 4000000 in
theorem walk (q : ByteArray) (A : Option Addr) (len cap : Nat) (zs : List Int) (drop : Bool) (W : World) (hq : q.size ≤ 140737488351232) (hl : len ≤ maxLen) (hzl : len ≤ zs.length) (hS : SlOf W W.heap.size A len (fun i => .int .i64 (zs.getD i 0))) (hwz : ∀ n ∈ zs, (Lit.int .i64 n).wf = true) :
    Calls Try.prog 6 #[.string q, .slice A len cap, .bool drop] W fun e w' => e = .returned (.bool true) ∧ Below W.heap.size W w' := by
  have HS := Lib.hid hS
  have hl' : (len : Int) ≤ 9223372036854775807 := by unfold maxLen at hl; omega
  clear hS hwz
  go_enter Try.func6, Try.ntmps6
  go_wp2_with (fail)
  refine (speaks_any _).mono ?_
  rintro e w1 ⟨rfl, hb1⟩
  go_wp2_with (fail)
  refine (newtab_any (w0 := W) 10 _ hb1).mono ?_
  rintro e w2 ⟨rfl, H1⟩
  obtain ⟨p, hp⟩ : ∃ p, p = w1.heap.size := ⟨_, rfl⟩
  rw [← hp] at H1 ⊢
  have HS2 : Hid (TabSt W w2 p 10 0 []) := Lib.hid H1.out.1
  clear H1 hp hb1
  go_wp2
  go_loopw [8] (fun i wr => ∃ (k : Nat), k ≤ len ∧ i = .int .i64 k ∧ Hid (TabSt W wr p 10 k (lastL q zs k))) (fun i _ => len - (intOf i).toNat)
  case atStart => exact ⟨0, by omega, rfl, HS2⟩
  case round =>
    obtain ⟨k, hk, rfl, HR⟩ := hrel
    clear HS2
    by_cases hkn : k < len
    · have hkn' : (k : Int) < len := by omega
      obtain ⟨b, off, rfl, hB, hc⟩ := HS.out k hkn
      have hc1 := (HR.out.bel.cell (p := ⟨b, off + k, none⟩) hB).trans hc
      have hk1 : k < maxLen := by omega
      have HL := Lib.hid hl
      have hc2 : ∀ w', Below W.heap.size W w' → w'.cell? ⟨b, off + k, none⟩ = some (.int .i64 (zs.getD k 0)) := fun w' hb => (hb.cell (p := ⟨b, off + k, none⟩) hB).trans hc
      have HC2 := Lib.hid hc2
      have hw1 : wrap64 ((k : Int) + 1) = (k : Int) + 1 := IntWalk.wrap64_in _ ⟨by omega, by omega⟩
      clear hc hB hl hc2
      go_wp2_with (fail)
      refine (grant_any p k 10 _ q (zs.getD k 0) k _ hk1 hq HR).mono ?_
      rintro e w3 ⟨rfl, H3⟩
      rw [grant_last] at H3
      have H4 : Hid (TabSt W w3 p 10 (k + 1) [⟨q, zs.getD k 0, mom k⟩]) := Lib.hid H3.out.1
      have d1 := HC2.out w3 H4.out.bel
      clear H3 hc1
      go_wp2_with (fail)
      refine (renew_any p (k + 1) 10 _ (zs.getD k 0) ((k : Int) + 1) _ H4).mono ?_
      rintro e w4 ⟨rfl, H5⟩
      rw [renew_last] at H5
      have H6 : Hid (TabSt W w4 p 10 (k + 1) (lastL q zs (k + 1))) := Lib.hid H5.out.1
      clear H4 H5 d1
      go_wp2
      go_roundw
      case rel => exact ⟨k + 1, by omega, by simp, H6⟩
      case measure => simp [intOf]; omega
    · have hkl : k = len := by omega
      subst hkl
      have hHL : (lastL q zs k).length ≤ 8796093021952 := by cases k <;> simp [lastL]
      rcases Nat.eq_zero_or_pos k with h0 | h0
      · subst h0
        have e1 : holdL (lastL q zs 0) q = none := rfl
        go_wp2_with (fail)
        refine (holder_any p 0 10 _ q _ hq HR).mono ?_
        rintro e w3 ⟨rfl, H3⟩
        rw [e1]
        simp only [Option.map_none, Option.getD_none, Option.isSome_none]
        have H4 : Hid (TabSt W w3 p 10 0 (lastL q zs 0)) := Lib.hid H3.out.1
        clear H3 HR e1
        cases drop
        · have HB := Lib.hid H4.out.bel
          go_wp2
          go_ret
          exact ⟨rfl, HB.out⟩
        · go_wp2_with (fail)
          refine (drop_any p 0 10 _ q _ hq H4).mono ?_
          rintro e w4 ⟨rfl, H5⟩
          have H6 : Hid (TabSt W w4 p 10 0 []) := Lib.hid H5.out.1
          clear H5 H4
          go_wp2_with (fail)
          refine (holder_any p 0 10 _ q _ hq H6).mono ?_
          rintro e w5 ⟨rfl, H7⟩
          have e2 : holdL [] q = none := rfl
          rw [e2]
          simp only [Option.map_none, Option.getD_none, Option.isSome_none]
          have H8 : Hid (TabSt W w5 p 10 0 []) := Lib.hid H7.out.1
          clear H7 H6 e2
          go_wp2_with (fail)
          refine (due_any p 0 10 [] 1099511627776 _ (by decide) H8).mono ?_
          rintro e w6 ⟨v, n, rfl, hn, hrow, hb⟩
          have hv := len_row0 hrow hn rfl
          obtain ⟨a, c, rfl⟩ := hv
          have HB := Lib.hid (H8.out.below hb).bel
          clear hrow hn hb H8
          go_wp2
          go_ret
          exact ⟨rfl, HB.out⟩
      · obtain ⟨j, hj⟩ : ∃ j, k = j + 1 := ⟨k - 1, by omega⟩
        obtain ⟨b, off, rfl, hB, hc⟩ := HS.out j (by omega)
        have hc2 : ∀ w', Below W.heap.size W w' → w'.cell? ⟨b, off + j, none⟩ = some (.int .i64 (zs.getD j 0)) := fun w' hb => (hb.cell (p := ⟨b, off + j, none⟩) hB).trans hc
        obtain ⟨z, hz⟩ : ∃ z, z = zs.getD j 0 := ⟨_, rfl⟩
        have hLz : lastL q zs k = [⟨q, z, mom k⟩] := by rw [hz, hj]; rfl
        rw [hLz] at HR
        rw [← hz] at hc2
        have e1 : holdL [(⟨q, z, mom k⟩ : Ls)] q = some ⟨q, z, mom k⟩ := by simp [holdL]
        have hw0 : wrap64 ((k : Int) - 1) = (j : Int) := by rw [show (k : Int) - 1 = j by omega]; exact IntWalk.wrap64_in _ ⟨by omega, by omega⟩
        have hjk : j < k := by omega
        have hkp : (0 : Int) < (k : Int) := by omega
        have HK := Lib.hid (And.intro hj hl')
        clear hc hB hz hLz hkn h0 HS hk hl hzl hl' hj hHL
        go_wp2_with (fail)
        refine (holder_any p k 10 _ q _ hq HR).mono ?_
        rintro e w3 ⟨rfl, H3⟩
        rw [e1]
        simp only [Option.map_some, Option.getD_some, Option.isSome_some]
        have H4 : Hid (TabSt W w3 p 10 k [⟨q, z, mom k⟩]) := Lib.hid H3.out.1
        have d1 := hc2 w3 H4.out.bel
        clear H3 HR e1 hc2
        go_upto_region 13 with (fail)
        clear d1 hw0 hjk
        obtain ⟨L, hL⟩ : ∃ L, L = [(⟨q, z, mom k⟩ : Ls)] := ⟨_, rfl⟩
        rw [← hL] at H4
        have HL1 := Lib.hid hL
        have hLl : L.length ≤ 8796093021952 := by rw [hL]; simp
        clear hL
        go_cut [82] (fun v wx => v = .bool false ∧ Hid (TabSt W wx p 10 k L))
        case first =>
          by_cases hk30 : (k : Int) < 1073741824
          · have hm1 : dueL L (mom ((k : Int) + 9) - lenT 10) = [] := by
              rw [HL1.out, show mom ((k : Int) + 9) - lenT 10 = (k : Int) - 1 by unfold mom lenT; omega, show mom k = (k : Int) by unfold mom; omega]
              simp [dueL]
              omega
            have hm2 : dueL L (mom ((k : Int) + 10) - lenT 10) = [q] := by
              rw [HL1.out, show mom ((k : Int) + 10) - lenT 10 = (k : Int) by unfold mom lenT; omega, show mom k = (k : Int) by unfold mom; omega]
              simp [dueL]
            have hw9 : wrap64 ((k : Int) + 9) = (k : Int) + 9 := IntWalk.wrap64_in _ ⟨by omega, by omega⟩
            have hw10 : wrap64 ((k : Int) + 10) = (k : Int) + 10 := IntWalk.wrap64_in _ ⟨by omega, by omega⟩
            go_wp2_with (fail)
            refine (due_any p k 10 L ((k : Int) + 9) _ hLl H4).mono ?_
            rintro e w4 ⟨v, n, rfl, hn, hrow, hb⟩
            rw [hm1] at hn hrow
            obtain ⟨a, c, rfl⟩ := len_row0 hrow hn rfl
            have H5 : Hid (TabSt W w4 p 10 k L) := Lib.hid (H4.out.below hb)
            clear hn hrow hb H4 hm1
            go_wp2_with (fail)
            refine (due_any p k 10 L ((k : Int) + 10) _ hLl H5).mono ?_
            rintro e w5 ⟨v, n, rfl, hn, hrow, hb⟩
            rw [hm2] at hn hrow
            simp only [List.length_cons, List.length_nil, Nat.zero_add] at hn
            subst hn
            obtain ⟨a, c, rfl⟩ : ∃ a c, v = .slice a 1 c := by
              rcases hrow.2 with ⟨_, h0⟩ | ⟨g, cap, cur, h1, _⟩
              · cases h0
              · exact ⟨_, _, h1⟩
            have H6 : Hid (TabSt W w5 p 10 k L) := Lib.hid (H5.out.below hb)
            clear hrow hb H5 hm2
            go_wp2
            go_meet
            exact ⟨rfl, H6⟩
          · have hk30 : decide ((k : Int) < 1073741824) = false := by simpa using hk30
            go_wp2
            go_meet
            exact ⟨rfl, H4⟩
        case rest =>
          obtain ⟨rfl, H5⟩ := hcut
          clear H4
          cases drop
          · have HB := Lib.hid H5.out.bel
            go_wp2
            go_ret
            exact ⟨rfl, HB.out⟩
          · have e2 : dropL L q = [] := by rw [HL1.out]; simp [dropL]
            go_wp2_with (fail)
            refine (drop_any p k 10 L q _ hq H5).mono ?_
            rintro e w4 ⟨rfl, H6⟩
            rw [e2] at H6
            have H7 : Hid (TabSt W w4 p 10 k []) := Lib.hid H6.out.1
            clear H5 H6 e2
            go_wp2_with (fail)
            refine (holder_any p k 10 [] q _ hq H7).mono ?_
            rintro e w5 ⟨rfl, H8⟩
            have e3 : holdL [] q = none := rfl
            rw [e3]
            simp only [Option.map_none, Option.getD_none, Option.isSome_none]
            have H9 : Hid (TabSt W w5 p 10 k []) := Lib.hid H8.out.1
            clear H7 H8 e3
            go_wp2_with (fail)
            refine (due_any p k 10 [] 1099511627776 _ (by decide) H9).mono ?_
            rintro e w6 ⟨v, n, rfl, hn, hrow, hb⟩
            obtain ⟨a, c, rfl⟩ := len_row0 hrow hn rfl
            have HB := Lib.hid (H9.out.below hb).bel
            clear hrow hn hb H9
            go_wp2
            go_ret
            exact ⟨rfl, HB.out⟩

set_option maxRecDepth 100000 in
theorem contract (H : Type) (enc : TypeId × Value → H) (W : World) (base : Nat) (args : Array Value) (ds gs : List (DataW H)) (before : List MemPlace)
    (hval : ∀ (j : Nat) t v, Try.f6.params[j]? = some t → args[j]? = some v → Value.okWide Try.prog W .any base t v)
    (hW : DataW.Whole enc Try.prog Try.f6.params.toList Rows.leasesLastSpec.vars false W args.toList ds gs before)
    (hz : (DataW.weightsEach Try.prog (Try.f6.params.toList ++ []) (ds ++ gs)).all (· ≤ reachBytes) = true) :
    Calls Try.prog 6 args W fun e W' => ∃ v, e = .returned v ∧ Rows.leasesLastSpec.post enc Try.prog Try.f6 false true false false W args v W' := by
  have hW' := hW
  obtain ⟨p, q, hA0, hV, rfl, hfz, hnd⟩ := hW
  have hA : DataW.TrodAll enc Try.prog W 0 (fun _ => true) true Try.f6.params.toList args.toList ds p := hA0
  rw [Try.params6] at hA hval hz
  obtain ⟨v0, vs0, d0, ds0, p0, q0, hargs, rfl, rfl, h0, r0⟩ := trodAll_cons hA
  obtain ⟨v1, vs1, d1, ds1, p1, q1, rfl, rfl, rfl, h1, r1⟩ := trodAll_cons r0
  obtain ⟨v2, vs2, d2, ds2, p2, q2, rfl, rfl, rfl, h2, r2⟩ := trodAll_cons r1
  obtain ⟨rfl, rfl, rfl⟩ := trodAll_nil r2
  obtain rfl : args = #[v0, v1, v2] := by cases args; simp_all
  obtain ⟨rfl, rfl⟩ := trodVars_none hV
  obtain ⟨x0, rfl, rfl, rfl, w0⟩ := open_string Try.underlying9 (hval 0 9 v0 rfl rfl) h0
  have b0 : x0.size ≤ 140737488351232 := by have := sized_string hz (j := 0) (t := 9) rfl rfl; simpa [reachBytes] using this
  obtain ⟨A, len, cap, zs, rfl, hl, hzl, hS, hwz, _⟩ := open_int_arg Try.underlying50 Try.underlying3 (by kernel_rfl) (hval 1 50 v1 rfl rfl) h1
  obtain ⟨x2, rfl, rfl, rfl⟩ := open_bool Try.underlying4 (hval 2 4 v2 rfl rfl) h2
  clear hA0
  refine (walk x0 A len cap zs x2 W b0 hl hzl hS hwz).mono fun e W' ⟨he, hb⟩ => ?_
  subst he
  exact ⟨_, rfl, law_end hW' rfl rfl hb laidOut (by kernel_rfl) (by kernel_rfl) Try.underlying4⟩

theorem reads (os : Os) {H : Type} (enc : TypeId × Value → H) : ∃ places, DataW.whole enc Try.prog ((World.holding Try.prog os ⟨#[], #[], []⟩).forCall (fun _ _ => 0) ⟨#[], #[.string ⟨#[]⟩, .slice none 0 0, .bool false], []⟩).memory Try.f6.params.toList Rows.leasesLastSpec.vars false [Value.string ⟨#[]⟩, Value.slice none 0 0, Value.bool false] 8 = some ([.lit (.string []), .nil, .lit (.bool false)], [], places) :=
  ⟨[], by kernel_rfl⟩

set_option maxRecDepth 100000 in
theorem lifted (os : Os) (started : os.Started) (H : Type) (enc : TypeId × Value → H) (F : Stop.Interp) :
    ReturnsInHanded {} Try.checked os 6 .any ((OpenSpec.ofChange Rows.leasesLastSpec).preRow enc Try.prog Try.f6 Rows.leasesLastRow.domain false Rows.leasesLastRow.laid) (((OpenSpec.ofChange Rows.leasesLastSpec).at F).post enc Try.prog Try.f6 false true false false) := by
  obtain ⟨places, hx⟩ := reads os enc
  have laid_met : laidMet Try.prog Rows.leasesLastRow.laid ((World.holding Try.prog os ⟨#[], #[], []⟩).forCall (fun _ _ => 0) ⟨#[], #[.string ⟨#[]⟩, .slice none 0 0, .bool false], []⟩).memory := ⟨[], rfl, List.nodup_nil, fun _ _ h => by cases h⟩
  refine returnsInHanded_of_row (C := Try.checked) (s := OpenSpec.ofChange Rows.leasesLastSpec) own started (by kernel_rfl) Try.func6
    (witness_row_at (enc := enc) (C := Try.checked) false (World.holding Try.prog os ⟨#[], #[], []⟩) #[.string ⟨#[]⟩, .slice none 0 0, .bool false] rfl (by kernel_rfl) (by kernel_rfl) (by kernel_rfl)
      (OpenSpec.preRow_of_cond 8 hx (by kernel_rfl) (fun k hk => by cases hk) (by kernel_rfl) laid_met)) ?_
  intro W base args ds gs before hval hW _ _ hz _ _ _
  exact contract H enc W base args ds gs before hval hW hz

theorem said : Rows.LeasesLastSaid :=
  OpenClaim.holds_of_cond 6 Try.f6 rfl rfl rfl rfl rfl rfl rfl ⟨rfl, rfl, rfl, rfl, rfl⟩ rfl rfl rfl rfl rfl (by kernel_rfl) Try.func6 (by kernel_rfl)
    (of_decide_eq_true (by kernel_rfl)) (by unfold Func.isWrapper; first | (rw [if_pos (by decide +kernel)]; kernel_rfl) | (rw [if_neg (by decide +kernel)]; exact ⟨rfl, rfl⟩))
    (fun os started H enc _ F => by rw [OpenClaim.pre_eq_preRow]; exact lifted os started H enc F)

end Go.Proofs.Ytabnhiehmheocaa.fnLeasesLast
