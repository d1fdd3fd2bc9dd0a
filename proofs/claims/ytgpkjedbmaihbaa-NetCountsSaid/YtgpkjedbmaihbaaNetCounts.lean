/- NetCounts: letters neither come from nowhere nor vanish, whatever the input. -/
import Derived.Test.YtgpkjedbmaihbaaNetActs
import Derived.Deep.CutBlock

import Derived.Test.YtgpkjedbmaihbaaLawEnd

import Derived.Test.YtgpkjedbmaihbaaPlainKit

namespace Go.Proofs.Ytgpkjedbmaihbaa.fnNetCounts
open Go.ChangeShapes Go.WideShapes Go.ChangeAt Go.RowKit Go.WideMaps Go.WideElems
open Go.ChangeMaps (open_string)

def r5 (k : Int) : Int := k % 5
theorem r5_is (k : Int) (hk : node4 k) : (wrap64 (k.tmod 5 + 5)).tmod 5 = r5 k := by
  obtain ⟨h1, h2⟩ := hk
  unfold r5
  rw [IntWalk.wrap64_in _ ⟨by have := Int.tmod_lt_of_pos k (by decide : (0:Int) < 5); have := Int.lt_tmod_of_pos k (by decide : (0:Int) < 5); omega, by have := Int.tmod_lt_of_pos k (by decide : (0:Int) < 5); omega⟩]
  rcases Int.le_total 0 k with h | h
  · rw [Int.tmod_eq_emod_of_nonneg h, Int.tmod_eq_emod_of_nonneg (by omega)]; omega
  · have : k.tmod 5 = -((-k) % 5) := by
      rw [← Int.tmod_eq_emod_of_nonneg (by omega : 0 ≤ -k), Int.neg_tmod, Int.neg_neg]
    rw [this, Int.tmod_eq_emod_of_nonneg (by omega)]
    omega
theorem nwt_more {w0 w : World} {p n n' : Nat} {N sent : Int} {S : Int → Int → Bool} {L : List Letr} (h : NWt w0 w p N sent n S L) (hn : n ≤ n') : NWt w0 w p N sent n' S L := by
  obtain ⟨cut, h1, h2⟩ := h
  refine ⟨cut, h1, h2.imp id ?_⟩
  rintro ⟨m, D, q1, q2, ⟨es, clock, q3, q4, q5, q6⟩, q7⟩
  exact ⟨m, D, q1, q2, ⟨es, clock, q3, q4, by omega, q6⟩, q7⟩
/-- what every letter under way is like -/
def Good (L : List Letr) : Prop := L.length ≤ 65536 ∧ ∀ l ∈ L, l.s.size ≤ 1048576 ∧ node4 l.a ∧ node4 l.b
theorem good_snoc {L : List Letr} {l : Letr} (h : Good L) (hL : L.length < 65536) (hl : l.s.size ≤ 1048576 ∧ node4 l.a ∧ node4 l.b) : Good (L ++ [l]) := by
  refine ⟨by simp; omega, fun x hx => ?_⟩
  rcases List.mem_append.1 hx with h1 | h1
  · exact h.2 x h1
  · simp at h1; subst h1; exact hl
theorem good_erase {L : List Letr} (h : Good L) (k : Nat) : Good (L.eraseIdx k) :=
  ⟨Nat.le_trans (List.length_eraseIdx_le L k) h.1, fun x hx => h.2 x (List.mem_of_mem_eraseIdx hx)⟩
set_option maxRecDepth 100000 in
set_option maxHeartbeats 4000000 in
theorem walk (A : Option Addr) (len cap : Nat) (it : Nat → Ac) (W : World) (hl : len ≤ maxLen) (hS : Acts W W.heap.size A len it) :
    Calls Try.prog 5 #[.slice A len cap] W fun e w' => e = .returned (.bool true) ∧ Below W.heap.size W w' := by
  have HS := Lib.hid hS
  have hl' : (len : Int) ≤ 9223372036854775807 := by unfold maxLen at hl; omega
  clear hS
  go_enter Try.func5, Try.ntmps5
  go_wp2_with (fail)
  refine (speaks_any _).mono ?_
  rintro e w1 ⟨rfl, hb1⟩
  have HB1 := Lib.hid hb1
  clear hb1
  go_wp2_with (fail)
  refine (nwt_new (w0 := W) 3 3 (by decide) w1 HB1.out).mono ?_
  rintro e w2 ⟨rfl, h2, _⟩
  have H2 := Lib.hid h2
  clear h2
  obtain ⟨p, hp⟩ : ∃ p, p = w1.heap.size := ⟨_, rfl⟩
  rw [← hp] at H2 ⊢
  clear hp HB1
  go_wp2
  go_loopw [4, 5, 6] (fun u s i wr => ∃ (k : Nat) (sent : Nat) (S : Int → Int → Bool) (L : List Letr), k ≤ len ∧ i = .int .i64 k ∧ u = .int .i64 L.length ∧ s = .int .i64 sent ∧ sent ≤ k ∧ Hid (NWt W wr p 3 sent k S L ∧ Good L)) (fun _ _ i _ => len - (intOf i).toNat)
  case atStart => exact ⟨0, 0, _, [], by omega, rfl, rfl, rfl, by omega, Lib.hid ⟨H2.out, by unfold Good; simp⟩⟩
  case round =>
    obtain ⟨k, sent, S, L, hk, rfl, rfl, rfl, hsk, HR⟩ := hrel
    clear H2
    by_cases hkn : k < len
    · have hkn' : (k : Int) < len := by omega
      obtain ⟨HW, b, off, rfl, hB, hc⟩ := HS.out k hkn
      obtain ⟨x, hx⟩ : ∃ x, x = it k := ⟨_, rfl⟩
      rw [← hx] at HW hc
      clear hx
      obtain ⟨xk, xa, xb, xs, xc⟩ := x
      have HW := Lib.hid HW
      have e0 := (HR.out.1.bel.cell (p := ⟨b, off + k * 5, none⟩) hB).trans (hc 0 _ rfl)
      have e1 := (HR.out.1.bel.cell (p := ⟨b, off + k * 5 + 1, none⟩) hB).trans (hc 1 _ rfl)
      have e2 := (HR.out.1.bel.cell (p := ⟨b, off + k * 5 + 2, none⟩) hB).trans (hc 2 _ rfl)
      have e3 := (HR.out.1.bel.cell (p := ⟨b, off + k * 5 + 3, none⟩) hB).trans (hc 3 _ rfl)
      have e4 := (HR.out.1.bel.cell (p := ⟨b, off + k * 5 + 4, none⟩) hB).trans (hc 4 _ rfl)
      have hr := r5_is xk HW.out.1
      obtain ⟨c, hcq⟩ : ∃ c, c = r5 xk := ⟨_, rfl⟩
      rw [← hcq] at hr
      have hc5 : c = 0 ∨ c = 1 ∨ c = 2 ∨ c = 3 ∨ c = 4 := by rw [hcq]; unfold r5; omega
      have HC5 := Lib.hid hc5
      have HBX := Lib.hid (acb_new wr ⟨xk, xa, xb, xs, xc⟩ 29)
      have HR2 := Lib.hid (And.intro (HR.out.1.below ((Below.refl _ wr).alloc (Nat.le_refl _) (.cells #[.int .i64 xk, .int .i64 xa, .int .i64 xb, .string xs, .bool xc] 29))) HR.out.2)
      clear hc hB hcq hc5
      go_upto_block 2 with (fail)
      clear hr e0 e1 e2 e3 e4
      generalize hg : wr.alloc (.cells #[.int .i64 xk, .int .i64 xa, .int .i64 xb, .string xs, .bool xc] 29) = w4 at *
      generalize wr.heap.size = g at *
      clear hg
      go_cut [4, 5] (fun s4 s5 wx => ∃ (sent' : Nat) (S' : Int → Int → Bool) (L' : List Letr), s4 = .int .i64 L'.length ∧ s5 = .int .i64 sent' ∧ sent' ≤ k + 1 ∧ Hid (NWt W wx p 3 sent' (k + 1) S' L' ∧ Good L'))
      case first =>
        have f1 := HBX.out.c1
        have f2 := HBX.out.c2
        have f3 := HBX.out.c3
        have f4 := HBX.out.c4
        simp only at f1 f2 f3 f4
        have hLb := HR2.out.2.1
        have hLi : (L.length : Int) ≤ 65536 := by omega
        have hLw : wrap64 ((L.length : Int) + 1) = (L.length : Int) + 1 := IntWalk.wrap64_in _ ⟨by omega, by omega⟩
        have hSw : wrap64 ((sent : Int) + 1) = (sent : Int) + 1 := IntWalk.wrap64_in _ ⟨by omega, by omega⟩
        rcases HC5.out with rfl | rfl | rfl | rfl | rfl
        · by_cases hv : (nodeB 3 xa && nodeB 3 xb) = true ∧ xs.size ≤ 1048576 ∧ L.length < 65536
          · obtain ⟨hv1, hv2, hv3⟩ := hv
            simp only [Bool.and_eq_true] at hv1
            have HV := Lib.hid (And.intro hv1 (And.intro hv2 hv3))
            clear hv1 hv2 hv3
            go_wp2_with (fail)
            refine (nwt_send xa xb xs w4 HV.out.2.1 HV.out.2.2 ⟨by omega, by unfold maxLen at hl; omega⟩ HV.out.1.1 HV.out.1.2 (Lib.hid HR2.out.1)).mono ?_
            rintro e w5 ⟨rfl, H5⟩
            clear f1 f2 f3 f4
            go_wp2
            go_meet
            exact ⟨sent + 1, S, L ++ [⟨(sent : Int) + 1, xa, xb, xs⟩], by simp, by simp, by omega, Lib.hid ⟨by simpa using nwt_more H5.out.1 (by omega), good_snoc HR2.out.2 HV.out.2.2 ⟨HV.out.2.1, HW.out.2.1, HW.out.2.2⟩⟩⟩
          · have hno : (nodeB 3 xa && nodeB 3 xb) = false ∨ ¬ xs.size ≤ 1048576 ∨ 65536 ≤ L.length := by
              by_cases q1 : (nodeB 3 xa && nodeB 3 xb) = true
              · by_cases q2 : xs.size ≤ 1048576
                · exact .inr (.inr (Nat.le_of_not_lt (fun q3 => hv ⟨q1, q2, q3⟩)))
                · exact .inr (.inl q2)
              · exact .inl (by simpa using q1)
            have hS := nwt_send_no xa xb xs w4 (Lib.hid HR2.out.1) hno
            obtain ⟨er, her⟩ : ∃ er : Int, er = (if (nodeB 3 xa && nodeB 3 xb) = false then 2 else if ¬ xs.size ≤ 1048576 then 1 else 40) := ⟨_, rfl⟩
            rw [← her] at hS
            have hne : (er == 0) = false := by rw [her]; split <;> (try split) <;> rfl
            clear her hv hno
            go_wp2_with (fail)
            refine hS.mono ?_
            rintro e w5 ⟨rfl, H5⟩
            clear f1 f2 f3 f4 hS
            go_wp2
            go_meet
            exact ⟨sent, S, L, rfl, rfl, by omega, Lib.hid ⟨nwt_more H5.out.1 (by omega), HR2.out.2⟩⟩
        · by_cases hv : 0 ≤ xa ∧ xa < (L.length : Int)
          · obtain ⟨n, rfl⟩ : ∃ n : Nat, xa = (n : Int) := ⟨xa.toNat, by omega⟩
            obtain ⟨l, hl0⟩ : ∃ l, L[n]? = some l := ⟨_, List.getElem?_eq_getElem (by omega)⟩
            have hlg := HR2.out.2.2 l (List.mem_of_getElem? hl0)
            have hS := nwt_deliver n l w4 hlg.1 hl0 HR2.out.2.1 hlg.2.1 hlg.2.2 (Lib.hid HR2.out.1)
            obtain ⟨pt, hpt⟩ : ∃ pt, pt = S l.a l.b := ⟨_, rfl⟩
            rw [← hpt] at hS
            have hel : (L.eraseIdx n).length = L.length - 1 := by rw [List.length_eraseIdx]; simp; omega
            have HEL := Lib.hid (And.intro hel hv)
            have hLm : wrap64 ((L.length : Int) - 1) = (L.length : Int) - 1 := IntWalk.wrap64_in _ ⟨by omega, by omega⟩
            clear hpt hlg hl0 hel hv
            cases pt
            · simp only [Bool.false_eq_true, if_false] at hS
              go_wp2_with (fail)
              refine hS.mono ?_
              rintro e w5 ⟨rfl, H5⟩
              clear f1 f2 f3 f4 hS
              go_wp2
              go_meet
              exact ⟨sent, S, L.eraseIdx n, by rw [HEL.out.1]; congr 1; have := HEL.out.2; omega, rfl, by omega, Lib.hid ⟨nwt_more (H5.out.1.below ((Below.refl _ _).alloc (Nat.le_refl _) _)) (by omega), good_erase HR2.out.2 n⟩⟩
            · simp only [if_true] at hS
              go_wp2_with (fail)
              refine hS.mono ?_
              rintro e w5 ⟨rfl, H5⟩
              clear f1 f2 f3 f4 hS
              go_wp2
              go_meet
              exact ⟨sent, S, L, rfl, rfl, by omega, Lib.hid ⟨nwt_more (H5.out.1.below ((Below.refl _ _).alloc (Nat.le_refl _) _)) (by omega), HR2.out.2⟩⟩
          · have hS := nwt_deliver_arg xa w4 hv (Lib.hid HR2.out.1)
            clear hv
            go_wp2_with (fail)
            refine hS.mono ?_
            rintro e w5 ⟨rfl, H5⟩
            clear f1 f2 f3 f4 hS
            go_wp2
            go_meet
            exact ⟨sent, S, L, rfl, rfl, by omega, Lib.hid ⟨nwt_more (H5.out.1.below ((Below.refl _ _).alloc (Nat.le_refl _) _)) (by omega), HR2.out.2⟩⟩
        · by_cases hv : 0 ≤ xa ∧ xa < (L.length : Int)
          · obtain ⟨n, rfl⟩ : ∃ n : Nat, xa = (n : Int) := ⟨xa.toNat, by omega⟩
            have hS := nwt_drop n w4 (by omega) (Lib.hid HR2.out.1)
            have hel : (L.eraseIdx n).length = L.length - 1 := by rw [List.length_eraseIdx]; simp; omega
            have HEL := Lib.hid (And.intro hel hv)
            have hLm : wrap64 ((L.length : Int) - 1) = (L.length : Int) - 1 := IntWalk.wrap64_in _ ⟨by omega, by omega⟩
            clear hel hv
            go_wp2_with (fail)
            refine hS.mono ?_
            rintro e w5 ⟨rfl, H5⟩
            clear f1 f2 f3 f4 hS
            go_wp2
            go_meet
            exact ⟨sent, S, L.eraseIdx n, by rw [HEL.out.1]; congr 1; have := HEL.out.2; omega, rfl, by omega, Lib.hid ⟨nwt_more H5.out.1 (by omega), good_erase HR2.out.2 n⟩⟩
          · have hS := nwt_drop_arg xa w4 hv (Lib.hid HR2.out.1)
            clear hv
            go_wp2_with (fail)
            refine hS.mono ?_
            rintro e w5 ⟨rfl, rfl⟩
            clear f1 f2 f3 f4 hS
            go_wp2
            go_meet
            exact ⟨sent, S, L, rfl, rfl, by omega, Lib.hid ⟨nwt_more HR2.out.1 (by omega), HR2.out.2⟩⟩
        · by_cases hv : (0 ≤ xa ∧ xa < (L.length : Int)) ∧ L.length < 65536
          · obtain ⟨hv, hv2⟩ := hv
            obtain ⟨n, rfl⟩ : ∃ n : Nat, xa = (n : Int) := ⟨xa.toNat, by omega⟩
            obtain ⟨l, hl0⟩ : ∃ l, L[n]? = some l := ⟨_, List.getElem?_eq_getElem (by omega)⟩
            have HLG := Lib.hid (And.intro (HR2.out.2.2 l (List.mem_of_getElem? hl0)) hv2)
            have hS := nwt_double n l w4 hl0 hv2 (Lib.hid HR2.out.1)
            clear hl0 hv hv2
            go_wp2_with (fail)
            refine hS.mono ?_
            rintro e w5 ⟨rfl, H5⟩
            clear f1 f2 f3 f4 hS
            go_wp2
            go_meet
            exact ⟨sent, S, L ++ [l], by simp, rfl, by omega, Lib.hid ⟨nwt_more H5.out.1 (by omega), good_snoc HR2.out.2 HLG.out.2 HLG.out.1⟩⟩
          · have hno : ¬ (0 ≤ xa ∧ xa < (L.length : Int)) ∨ 65536 ≤ L.length := by
              by_cases q1 : 0 ≤ xa ∧ xa < (L.length : Int)
              · exact .inr (Nat.le_of_not_lt (fun q3 => hv ⟨q1, q3⟩))
              · exact .inl q1
            have hS := nwt_double_no xa w4 hno (Lib.hid HR2.out.1)
            obtain ⟨er, her⟩ : ∃ er : Int, er = (if ¬ (0 ≤ xa ∧ xa < (L.length : Int)) then 2 else 40) := ⟨_, rfl⟩
            rw [← her] at hS
            have hne : (er == 0) = false := by rw [her]; split <;> rfl
            clear her hv hno
            go_wp2_with (fail)
            refine hS.mono ?_
            rintro e w5 ⟨rfl, rfl⟩
            clear f1 f2 f3 f4 hS
            go_wp2
            go_meet
            exact ⟨sent, S, L, rfl, rfl, by omega, Lib.hid ⟨nwt_more HR2.out.1 (by omega), HR2.out.2⟩⟩
        · by_cases hv : (nodeB 3 xa && nodeB 3 xb) = true ∧ ¬ xa = xb
          · obtain ⟨hv1, hv2⟩ := hv
            simp only [Bool.and_eq_true] at hv1
            have hS := nwt_part xa xb xc w4 (by decide) (by omega) hv1.1 hv1.2 hv2 (Lib.hid HR2.out.1)
            clear hv1 hv2
            go_wp2_with (fail)
            refine hS.mono ?_
            rintro e w5 ⟨rfl, H5⟩
            clear f1 f2 f3 f4 hS
            go_wp2
            go_meet
            exact ⟨sent, _, L, rfl, rfl, by omega, Lib.hid ⟨H5.out.1, HR2.out.2⟩⟩
          · have hno : (nodeB 3 xa && nodeB 3 xb) = false ∨ xa = xb := by
              by_cases q1 : (nodeB 3 xa && nodeB 3 xb) = true
              · by_cases q2 : xa = xb
                · exact .inr q2
                · exact absurd ⟨q1, q2⟩ hv
              · exact .inl (by simpa using q1)
            have hS := nwt_part_no xa xb xc w4 hno (Lib.hid HR2.out.1)
            clear hv hno
            go_wp2_with (fail)
            refine hS.mono ?_
            rintro e w5 ⟨rfl, H5⟩
            clear f1 f2 f3 f4 hS
            go_wp2
            go_meet
            exact ⟨sent, S, L, rfl, rfl, by omega, Lib.hid ⟨nwt_more H5.out.1 (by omega), HR2.out.2⟩⟩
      case rest =>
        obtain ⟨sent', S', L', rfl, rfl, hs', HX⟩ := hcut
        have hLb := HX.out.2.1
        have hLi : (L'.length : Int) ≤ 65536 := by omega
        have hk1 : (k : Int) + 1 = ((k + 1 : Nat) : Int) := by omega
        have HK1 := Lib.hid hk1
        have hw2 : IntKind.i64.wrap ((k : Int) + 1) = (k : Int) + 1 := IntWalk.i64_in _ (by omega)
        clear hk1
        go_wp2_with (fail)
        refine (nwt_fly wc HX.out.2.1 (fun l hl => (HX.out.2.2 l hl).1) (Lib.hid HX.out.1)).mono ?_
        rintro e w6 ⟨rfl, H6⟩
        go_wp2
        go_round
        case rel => exact ⟨k + 1, sent', S', L', by omega, by rw [← HK1.out], rfl, rfl, hs', Lib.hid ⟨H6.out.1, HX.out.2⟩⟩
        case measure => simp [intOf]; omega
    · go_wp2
      go_ret
      exact ⟨rfl, HR.out.1.bel⟩

theorem contract (H : Type) (enc : TypeId × Value → H) (W : World) (base : Nat) (args : Array Value) (ds gs : List (DataW H)) (before : List MemPlace)
    (hval : ∀ (j : Nat) t v, Try.f5.params[j]? = some t → args[j]? = some v → Value.okWide Try.prog W .any base t v)
    (hW : DataW.Whole enc Try.prog Try.f5.params.toList Rows.netCountsSpec.vars false W args.toList ds gs before)
    (hz : (DataW.weightsEach Try.prog (Try.f5.params.toList ++ []) (ds ++ gs)).all (· ≤ reachBytes) = true) :
    Calls Try.prog 5 args W fun e W' => ∃ v, e = .returned v ∧ Rows.netCountsSpec.post enc Try.prog Try.f5 false true false false W args v W' := by
  have hW' := hW
  obtain ⟨p, q, hA0, hV, rfl, hfz, hnd⟩ := hW
  have hA : DataW.TrodAll enc Try.prog W 0 (fun _ => true) true Try.f5.params.toList args.toList ds p := hA0
  rw [Try.params5] at hA hval hz
  obtain ⟨v0, vs0, d0, ds0, p0, q0, hargs, rfl, rfl, h0, r0⟩ := trodAll_cons hA
  obtain ⟨rfl, rfl, rfl⟩ := trodAll_nil r0
  obtain rfl : args = #[v0] := by cases args; simp_all
  obtain ⟨rfl, rfl⟩ := trodVars_none hV
  obtain ⟨A, len, cap, it, rfl, hl, hS⟩ := open_acts (hval 0 22 v0 rfl rfl) h0
  clear hA0
  refine (walk A len cap it W hl hS).mono fun e W' ⟨he, hb⟩ => ?_
  subst he
  exact ⟨_, rfl, law_end hW' rfl rfl hb laidOut (by kernel_rfl) (by kernel_rfl) Try.underlying4⟩

theorem reads (os : Os) {H : Type} (enc : TypeId × Value → H) : ∃ places, DataW.whole enc Try.prog ((World.holding Try.prog os ⟨#[], #[], []⟩).forCall (fun _ _ => 0) ⟨#[], #[.slice none 0 0], []⟩).memory Try.f5.params.toList Rows.netCountsSpec.vars false [Value.slice none 0 0] 8 = some ([.nil], [], places) :=
  ⟨[], by kernel_rfl⟩

set_option maxRecDepth 100000 in
theorem lifted (os : Os) (started : os.Started) (H : Type) (enc : TypeId × Value → H) (F : Stop.Interp) :
    ReturnsInHanded {} Try.checked os 5 .any ((OpenSpec.ofChange Rows.netCountsSpec).preRow enc Try.prog Try.f5 Rows.netCountsRow.domain false Rows.netCountsRow.laid) (((OpenSpec.ofChange Rows.netCountsSpec).at F).post enc Try.prog Try.f5 false true false false) := by
  obtain ⟨places, hx⟩ := reads os enc
  have laid_met : laidMet Try.prog Rows.netCountsRow.laid ((World.holding Try.prog os ⟨#[], #[], []⟩).forCall (fun _ _ => 0) ⟨#[], #[.slice none 0 0], []⟩).memory := ⟨[], rfl, List.nodup_nil, fun _ _ h => by cases h⟩
  refine returnsInHanded_of_row (C := Try.checked) (s := OpenSpec.ofChange Rows.netCountsSpec) own started (by kernel_rfl) Try.func5
    (witness_row_at (enc := enc) (C := Try.checked) false (World.holding Try.prog os ⟨#[], #[], []⟩) #[.slice none 0 0] rfl (by kernel_rfl) (by kernel_rfl) (by kernel_rfl)
      (OpenSpec.preRow_of_cond 8 hx (by kernel_rfl) (fun k hk => by cases hk) (by kernel_rfl) laid_met)) ?_
  intro W base args ds gs before hval hW _ _ hz _ _ _
  exact contract H enc W base args ds gs before hval hW hz

theorem said : Rows.NetCountsSaid :=
  OpenClaim.holds_of_cond 5 Try.f5 rfl rfl rfl rfl rfl rfl rfl ⟨rfl, rfl, rfl, rfl, rfl⟩ rfl rfl rfl rfl rfl (by kernel_rfl) Try.func5 (by kernel_rfl)
    (of_decide_eq_true (by kernel_rfl)) (by unfold Func.isWrapper; first | (rw [if_pos (by decide +kernel)]; kernel_rfl) | (rw [if_neg (by decide +kernel)]; exact ⟨rfl, rfl⟩))
    (fun os started H enc _ F => by rw [OpenClaim.pre_eq_preRow]; exact lifted os started H enc F)

end Go.Proofs.Ytgpkjedbmaihbaa.fnNetCounts
