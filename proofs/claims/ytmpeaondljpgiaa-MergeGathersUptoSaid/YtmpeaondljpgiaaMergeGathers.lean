/- MergeGathers is true for all lists: sorted, and gathered by key, as the document's answer; they stay. Its condition: what it reads is of bulk at most 1048576. -/
import Derived.Test.YtmpeaondljpgiaaMrgSpeak
import Derived.Test.YtmpeaondljpgiaaMrgRuns
import Derived.Test.YtmpeaondljpgiaaMrgRSort
import Derived.Test.YtmpeaondljpgiaaMrgUniq
import Derived.Test.YtmpeaondljpgiaaMrgLit
import Derived.Test.YtmpeaondljpgiaaMrgRGrp
import Derived.Test.YtmpeaondljpgiaaMrgRis
import Derived.BigQuiet
import Derived.Deep.RegionHeld3
import Derived.Deep.AppendLies
import Derived.IntWalk
import Derived.Laws.Cover1

import Derived.Test.YtmpeaondljpgiaaLawEnd

import Derived.Test.YtmpeaondljpgiaaPlainKit

namespace Go.Proofs.Ytmpeaondljpgiaa.fnMergeGathers
open Go.ChangeShapes Go.WideShapes Go.ChangeAt Go.RowKit Go.WideMaps Go.WideElems
open Go.ChangeMaps (open_string)

theorem prF_prN {n : Nat} (K V : Nat → ByteArray) (S : List (Fin (n + 1))) : prF K V S = prN (fun j => K (S.getD j 0).val) (fun j => V (S.getD j 0).val) S.length := by
  have e : S = (List.range S.length).map fun j => S.getD j 0 := by
    refine List.ext_getElem (by simp) fun i h1 h2 => ?_
    simp [h1]
  unfold prF prN
  conv => lhs; rw [e]
  rw [List.flatMap_map]
theorem strN_get (V : Nat → ByteArray) (s c j : Nat) (h : j < c) : (strN V s c)[j]? = some (.string (V (s + j))) := by simp [strN, h]
set_option maxRecDepth 100000 in
set_option maxHeartbeats 16000000 in
theorem walk (A : Option Addr) (n cap : Nat) (K V : Nat → ByteArray) (w : World) (hn : n ≤ 1048576) (hsz : ∀ j, (K j).size ≤ 1048576 ∧ (V j).size ≤ 1048576) (hP : PrAt w w.heap.size A n K V) :
    Calls Try.prog 4 #[.slice A n cap] w fun e w' => e = .returned (.bool true) ∧ Below w.heap.size w w' := by
  have HP := Lib.hid hP
  have HSZ := Lib.hid hsz
  clear hP hsz
  go_enter Try.func4, Try.ntmps4
  go_wp2_with (fail)
  refine (speaks19_any _).mono ?_
  rintro e w1 ⟨rfl, hb1⟩
  have HB1 := Lib.hid hb1
  clear hb1
  have hP1 : PrAt w1 w1.heap.size A n K V := fun j hj => by
    obtain ⟨b, o, e, h1, h2⟩ := (HP.out.below HB1.out) j hj
    exact ⟨b, o, e, by have := HB1.out.size; omega, h2⟩
  have hBw1 : w.heap.size ≤ w1.heap.size := HB1.out.size
  go_wp2_with (at_builtin; refine wpList_lit rfl _ _ rfl w1 w.heap.size hBw1 A n cap K V hn _ rfl rfl rfl hP1 ?_)
  intro b2 c2 w2 H2
  have HB2 := Lib.hid (HB1.out.trans (H2.out.2.mono hBw1))
  have hr2 : PrAt w2 w2.heap.size (some ⟨b2, 0, none⟩) n K V := by
    obtain ⟨A9, c9, e9, h9⟩ := prAt_own H2.out.1
    injection e9 with e9 _ _
    rw [e9]
    exact h9
  have HR2 := Lib.hid hr2
  have hsrt := sort_any (some ⟨b2, 0, none⟩) n c2 K V w2 (by omega) (fun j => ⟨by have := (HSZ.out j).1; omega, by have := (HSZ.out j).2; omega⟩) hr2
  have HSRT := Lib.hid hsrt
  clear hP1 hBw1 H2 hsrt hr2
  go_wp2_with (fail)
  refine HSRT.out.mono ?_
  rintro e w3 ⟨rfl, S, hS1, hS2, hS3, hS4, _⟩
  have HB3 := Lib.hid (HB2.out.trans (hS4.mono HB2.out.size))
  have HR3 := Lib.hid (HR2.out.below hS4)
  have HS := Lib.hid (And.intro hS1 hS2)
  have HS3 := Lib.hid hS3
  have h23 : w2.heap.size ≤ w3.heap.size := hS4.size
  clear hS1 hS2 hS3 hS4
  have hP3 : PrAt w3 w3.heap.size A n K V := fun j hj => by
    obtain ⟨b, o, e, h1, h2⟩ := (HP.out.below HB3.out) j hj
    exact ⟨b, o, e, by have := HB3.out.size; omega, h2⟩
  have hrf := refs_any A n cap K V w3 (by omega) hP3
  have HRF := Lib.hid hrf
  clear hrf hP3
  go_wp2_with (fail)
  refine HRF.out.mono ?_
  rintro e w4 ⟨v4, rfl, ho4, hb4⟩
  obtain ⟨A4, c4, rfl, hr4⟩ := prAt_own ho4
  have HR4 := Lib.hid hr4
  have HB4 := Lib.hid (HB3.out.trans (hb4.mono HB3.out.size))
  have HS4 := Lib.hid (HS3.out.below hb4)
  have HR24 := Lib.hid (HR3.out.below (hb4.mono h23))
  have h34 : w3.heap.size ≤ w4.heap.size := hb4.size
  clear ho4 hb4 hr4
  go_wp2_with (fail)
  refine (rsort_any A4 n c4 K V w4 (by omega) HR4.out).mono ?_
  rintro e w5 ⟨v5, T, rfl, hT1, hT2, ho5, hb5⟩
  have hST : T = S := srt_one (hT1.trans HS.out.1.symm) hT2 HS.out.2
  subst hST
  have hTl : T.length = n := by rw [hT1.length_eq, dF_len]
  rw [prF_prN, hTl] at ho5
  obtain ⟨A5, c5, rfl, hr5⟩ := prAt_own ho5
  have HR5 := Lib.hid hr5
  have HB5 := Lib.hid (HB4.out.trans (hb5.mono HB4.out.size))
  have HS5 := Lib.hid (HS4.out.below (hb5.mono h34))
  have HR25 := Lib.hid (HR24.out.below (hb5.mono (by omega)))
  have h45 : w4.heap.size ≤ w5.heap.size := hb5.size
  clear hT1 hT2 ho5 hb5 hr5 hTl
  go_wp2_with (fail)
  refine (same_prs (some ⟨w2.heap.size, 0, none⟩) A5 n n c5 (fun j => K (T.getD j 0).val) (fun j => V (T.getD j 0).val) w5 _ _ (by omega) HS5.out HR5.out).mono ?_
  rintro e w6 ⟨rfl, m6, h6⟩
  have hb56 : Below w5.heap.size w5 w6 := by rw [h6]; exact ⟨rfl, rfl, rfl, Nat.le_refl _, fun _ _ => rfl⟩
  have HB6 := Lib.hid (HB5.out.trans (hb56.mono HB5.out.size))
  have HS6 := Lib.hid (HS5.out.below (hb56.mono (by omega)))
  have HR26 := Lib.hid (HR25.out.below (hb56.mono (by omega)))
  have h56 : w5.heap.size ≤ w6.heap.size := hb56.size
  clear hb56 h6
  have hP6 : PrAt w6 w6.heap.size A n K V := fun j hj => by
    obtain ⟨b, o, e, h1, h2⟩ := (HP.out.below HB6.out) j hj
    exact ⟨b, o, e, by have := HB6.out.size; omega, h2⟩
  have hrf := refs_any A n cap K V w6 (by omega) hP6
  have HRF6 := Lib.hid hrf
  clear hrf hP6
  go_wp2_with (fail)
  refine HRF6.out.mono ?_
  rintro e w7 ⟨v7, rfl, ho7, hb7⟩
  obtain ⟨A7, c7, rfl, hr7⟩ := prAt_own ho7
  have HR7 := Lib.hid hr7
  have HB7 := Lib.hid (HB6.out.trans (hb7.mono HB6.out.size))
  have HS7 := Lib.hid (HS6.out.below (hb7.mono (by omega)))
  have HR27 := Lib.hid (HR26.out.below (hb7.mono (by omega)))
  have h67 : w6.heap.size ≤ w7.heap.size := hb7.size
  clear ho7 hb7 hr7
  go_wp2_with (fail)
  refine (same_prs (some ⟨b2, 0, none⟩) A7 n c2 c7 K V w7 _ _ (by omega) HR27.out HR7.out).mono ?_
  rintro e w8 ⟨rfl, m8, h8⟩
  have hb78 : Below w7.heap.size w7 w8 := by rw [h8]; exact ⟨rfl, rfl, rfl, Nat.le_refl _, fun _ _ => rfl⟩
  have h78 : w7.heap.size ≤ w8.heap.size := hb78.size
  have HB8 := Lib.hid (HB7.out.trans (hb78.mono HB7.out.size))
  have HS8 := Lib.hid (show PrAt w8 w8.heap.size (some ⟨w2.heap.size, 0, none⟩) n (fun j => K (T.getD j 0).val) (fun j => V (T.getD j 0).val) from fun j hj => by
    obtain ⟨b, o, e, h1, h2⟩ := (HS7.out.below (hb78.mono (by omega))) j hj
    exact ⟨b, o, e, by omega, h2⟩)
  have HR8 := Lib.hid (show PrAt w8 w8.heap.size (some ⟨b2, 0, none⟩) n K V from fun j hj => by
    obtain ⟨b, o, e, h1, h2⟩ := (HR27.out.below (hb78.mono (by omega))) j hj
    exact ⟨b, o, e, by omega, h2⟩)
  have hB8 : w.heap.size ≤ w8.heap.size := HB8.out.size
  clear hb78 h8 h78 h67 h56 h45 h34 h23 HR7 HS7 HR27 HB7 HR26 HS6 HB6 HS5 HR5 HB5 HR25 HS4 HR24 HR4 HB4 HR3 HS3 HB3 HR2 HB2 HSRT HRF HRF6 HS HB1
  go_wp2
  go_loopw [4, 5] (fun vs kv wr => ∃ (k : Nat) (As : Option Addr) (cs : Nat) (K' V' : Nat → ByteArray), k ≤ 2 ∧ kv = .int .i64 (k : Int) ∧ vs = .slice As n cs ∧ Hid (PrAt wr wr.heap.size As n K' V' ∧ ∀ j, (K' j).size ≤ 1048576 ∧ (V' j).size ≤ 1048576) ∧ Hid (PrAt wr wr.heap.size (some ⟨b2, 0, none⟩) n K V) ∧ Hid (Below w.heap.size w wr)) (fun _ kv _ => 2 - (intOf kv).toNat)
  case atStart => exact ⟨0, _, _, _, _, by omega, rfl, rfl, Lib.hid ⟨HS8.out, fun j => HSZ.out _⟩, HR8, HB8⟩
  case round =>
    obtain ⟨k, As, cs, K', V', hk, rfl, rfl, HA, HI, HB⟩ := hrel
    by_cases hk2 : k < 2
    · have hg := groups_any As n cs K' V' wr (by omega) (fun j => ⟨by have := (HA.out.2 j).1; omega, by have := (HA.out.2 j).2; omega⟩) HA.out.1
      have HG := Lib.hid hg
      clear hg
      go_wp2_with (fail)
      refine HG.out.mono ?_
      rintro e w9 ⟨vg, hv, rfl, hGA⟩
      have HGA := Lib.hid hGA
      have HA9 := Lib.hid (show PrAt w9 w9.heap.size As n K' V' from fun j hj => by
        obtain ⟨b, o, e, h1, h2⟩ := (HA.out.1.below hGA.bel) j hj
        exact ⟨b, o, e, by have := hGA.bel.size; omega, h2⟩)
      have h9 : wr.heap.size ≤ w9.heap.size := hGA.bel.size
      have hrf := refs_any As n cs K' V' w9 (by omega) HA9.out
      have HRF := Lib.hid hrf
      clear hrf hGA
      go_wp2_with (fail)
      refine HRF.out.mono ?_
      rintro e w10 ⟨v10, rfl, ho10, hb10⟩
      obtain ⟨A10, c10, rfl, hr10⟩ := prAt_own ho10
      have HR10 := Lib.hid hr10
      have HGA10 := Lib.hid (HGA.out.below h9 hb10)
      have h10 : w9.heap.size ≤ w10.heap.size := hb10.size
      clear ho10 hb10 hr10
      go_wp2_with (fail)
      refine (rgroups_any A10 n c10 K' V' w10 (by omega) HR10.out).mono ?_
      rintro e w11 ⟨vr, hr, rfl, hGR⟩
      have HGR := Lib.hid hGR
      have HGA11 := Lib.hid (HGA10.out.below (by omega) hGR.bel)
      have h11 : w10.heap.size ≤ w11.heap.size := hGR.bel.size
      have HB11 := Lib.hid (HB.out.trans (HGA11.out.bel.mono HB.out.size))
      have HI11 := Lib.hid (HI.out.below HGA11.out.bel)
      clear hGR HGA10 HGA HR10 HA9 HRF HG
      obtain ⟨g, hg⟩ : ∃ g, g = grp K' n := ⟨_, rfl⟩
      rw [← hg] at HGA11 HGR
      have HOK : Hid (GrOk K' n g) := Lib.hid (by rw [hg]; exact grp_ok K' n)
      clear hg
      obtain ⟨Ag, cg, rfl⟩ := own_slice3 HGA11.out.row
      obtain ⟨Ar, cr, rfl⟩ := own_slice3 HGR.out.row
      obtain ⟨G, hGn⟩ : ∃ G, G = g.N := ⟨_, rfl⟩
      have HGN := Lib.hid hGn
      have hGle : G ≤ n := by rw [hGn]; exact HOK.out.le
      rw [← hGn]
      clear hGn
      go_wp2
      go_loopw [8] (fun iv wr => ∃ i : Nat, i ≤ G ∧ iv = .int .i64 (i : Int) ∧ Hid (∃ m, wr = w11.drewN m)) (fun iv _ => G - (intOf iv).toNat)
      case atStart => exact ⟨0, Nat.zero_le _, rfl, Lib.hid ⟨0, rfl⟩⟩
      case round =>
        obtain ⟨i, hiG, rfl, HW⟩ := hrel
        obtain ⟨m, rfl⟩ := HW.out
        clear HW
        by_cases hil : i < G
        · have hiN : i < g.N := by have := HGN.out; omega
          obtain ⟨bg, cg', eg, _, _⟩ := HGA11.out.row.form (by omega)
          injection eg with eg _ ecp
          subst eg ecp
          obtain ⟨br, cr', er, _, _⟩ := HGR.out.row.form (by omega)
          injection er with er _ ecr
          subst er ecr
          obtain ⟨Ah, ch, hhd⟩ := own_slice3 (HGA11.out.vals i hiN)
          obtain ⟨Al, cl, hhl⟩ := own_slice3 (HGR.out.vals i hiN)
          have g1 : w11.cell? ⟨bg, i * 2 + 1, none⟩ = some (.slice Ah (g.c i) ch) := by rw [← hhd]; exact (HGA11.out.row.cellAt (i * 2 + 1) (by omega)).trans (prV_get _ _ _ i hiN).2
          have g0 : w11.cell? ⟨bg, i * 2, none⟩ = some (.string (K' (g.s i))) := (HGA11.out.row.cellAt (i * 2) (by omega)).trans (prV_get _ _ _ i hiN).1
          have r1 : w11.cell? ⟨br, i * 2 + 1, none⟩ = some (.slice Al (g.c i) cl) := by rw [← hhl]; exact (HGR.out.row.cellAt (i * 2 + 1) (by omega)).trans (prV_get _ _ _ i hiN).2
          have r0 : w11.cell? ⟨br, i * 2, none⟩ = some (.string (K' (g.s i))) := (HGR.out.row.cellAt (i * 2) (by omega)).trans (prV_get _ _ _ i hiN).1
          have hvr := HGA11.out.vals i hiN
          rw [hhd] at hvr
          have hrr := HGR.out.vals i hiN
          rw [hhl] at hrr
          have hcn : g.c i ≤ n := by have := grp_end HOK.out (g.N - i - 1) i (by omega); omega
          obtain ⟨cc, hcc⟩ : ∃ cc, cc = g.c i := ⟨_, rfl⟩
          obtain ⟨X, hX⟩ : ∃ X, X = K' (g.s i) := ⟨_, rfl⟩
          obtain ⟨ss, hss⟩ : ∃ ss, ss = g.s i := ⟨_, rfl⟩
          rw [← hX] at g0 r0
          rw [← hcc] at g1 r1 hvr hrr hcn
          rw [← hss] at hvr hrr
          have HVR := Lib.hid hvr
          have HRR := Lib.hid hrr
          have hi1 : i + 1 ≤ G := hil
          clear hcc hX hss hvr hrr hhd hhl hiN
          go_wp2_with (fail)
          go_quiet (fail)
          go_wp2
          go_loopw [9] (fun jv wr => ∃ j : Nat, j ≤ cc ∧ jv = .int .i64 (j : Int) ∧ Hid (∃ m, wr = w11.drewN m)) (fun jv _ => cc - (intOf jv).toNat)
          case atStart => exact ⟨0, Nat.zero_le _, rfl, Lib.hid ⟨_, World.drewN_drewN _ _ _⟩⟩
          case round =>
            obtain ⟨j, hjc, rfl, HW⟩ := hrel
            obtain ⟨m3, rfl⟩ := HW.out
            clear HW
            by_cases hjl : j < cc
            · have hv1 := HVR.out
              obtain ⟨bh, ch', eh, _, _⟩ := hv1.form (by omega)
              injection eh with eh _ ech
              subst eh ech
              have hr1 := HRR.out
              obtain ⟨bl, cl', el, _, _⟩ := hr1.form (by omega)
              injection el with el _ ecl
              subst el ecl
              have x0 : w11.cell? ⟨bh, j, none⟩ = some (.string (V' (ss + j))) := (hv1.cellAt j (by omega)).trans (strN_get _ _ _ _ hjl)
              have y0 : w11.cell? ⟨bl, j, none⟩ = some (.string (V' (ss + j))) := (hr1.cellAt j (by omega)).trans (strN_get _ _ _ _ hjl)
              have hj1 : j + 1 ≤ cc := hjl
              clear hv1 hr1
              go_wp2_with (fail)
              go_quiet (fail)
              go_wp2
              go_roundw
              case rel => exact ⟨j + 1, hj1, by first | rfl | go_num, Lib.hid ⟨_, by first | rfl | exact World.drewN_drewN _ _ _⟩⟩
              case measure => simp [intOf]; omega
            · obtain rfl : j = cc := by omega
              go_wp2
              go_roundw
              case rel => exact ⟨i + 1, hi1, by first | rfl | go_num, Lib.hid ⟨_, by first | rfl | exact World.drewN_drewN _ _ _⟩⟩
              case measure => simp [intOf]; omega
        · obtain rfl : i = G := by omega
          have HI12 := Lib.hid (show PrAt (w11.drewN m) (w11.drewN m).heap.size (some ⟨b2, 0, none⟩) n K V from fun j hj => by
            obtain ⟨b, o, e, h1, h2⟩ := HI11.out j hj
            exact ⟨b, o, e, by show b < w11.heap.size; omega, h2⟩)
          have HB12 := Lib.hid (show Below w.heap.size w (w11.drewN m) from ⟨HB11.out.os, HB11.out.tape, HB11.out.output, HB11.out.size, HB11.out.block⟩)
          have HK12 := Lib.hid (And.intro HI12.out HSZ.out)
          have hk3 : k + 1 ≤ 2 := hk2
          go_wp2
          go_roundw
          case rel => exact ⟨k + 1, _, _, _, _, hk3, by first | rfl | go_num, rfl, HK12, HI12, HB12⟩
          case measure => simp [intOf]; omega
    · obtain rfl : k = 2 := by omega
      go_wp2
      go_ret
      exact ⟨rfl, HB.out.os, HB.out.tape, HB.out.output, HB.out.size, HB.out.block⟩

set_option maxRecDepth 100000 in
theorem contractUpto (H : Type) (enc : TypeId × Value → H) (W : World) (base : Nat) (args : Array Value) (ds gs : List (DataW H)) (before : List MemPlace)
    (hval : ∀ (j : Nat) t v, Try.f4.params[j]? = some t → args[j]? = some v → Value.okWide Try.prog W .any base t v)
    (hW : DataW.Whole enc Try.prog Try.f4.params.toList Rows.mergeGathersSpec.vars false W args.toList ds gs before)
    (hz : (DataW.weightsEach Try.prog (Try.f4.params.toList ++ []) (ds ++ gs)).all (· ≤ reachBytes) = true) (hk : Rows.uptoSmall H (ds ++ gs) = true) :
    Calls Try.prog 4 args W fun e W' => ∃ v, e = .returned v ∧ Rows.mergeGathersSpec.post enc Try.prog Try.f4 false true false false W args v W' := by
  have hW' := hW
  obtain ⟨p, q, hA0, hV, rfl, hfz, hnd⟩ := hW
  have hA : DataW.TrodAll enc Try.prog W 0 (fun _ => true) true Try.f4.params.toList args.toList ds p := hA0
  rw [Try.params4] at hA hval hz
  obtain ⟨v0, vs0, d0, ds0, p0, q0, hargs, rfl, rfl, h0, r0⟩ := trodAll_cons hA
  obtain ⟨rfl, rfl, rfl⟩ := trodAll_nil r0
  obtain rfl : args = #[v0] := by cases args; simp_all
  obtain ⟨rfl, rfl⟩ := trodVars_none hV
  have hk0 : Rows.uptoBulk d0 ≤ 1048576 := by have h := of_decide_eq_true hk; simp only [List.append_nil, List.cons_append, List.nil_append, Rows.uptoBulkAll] at h; omega
  obtain ⟨A, len, cap, rfl⟩ := okWide_slice Try.underlying32 (hval 0 32 v0 rfl rfl)
  have hf0 := h0
  obtain ⟨fuel0, hf0⟩ := hf0
  obtain ⟨q, hq, hql, hqs⟩ := open_run hf0 hk0
  have hqv := hq.val
  injection hqv with e1 e2 e3
  subst e1 e2 e3
  have hqn : q.ln ≤ 1048576 := by omega
  have hqp : PrAt W W.heap.size q.a q.ln q.K q.V := fun j hj => ⟨q.bk, q.of, hq.at0 (by omega), (hq.cells j hj).1, (hq.cells j hj).2.1, (hq.cells j hj).2.2⟩
  clear hA0
  refine (walk q.a q.ln q.cp q.K q.V W hqn hqs hqp).mono fun e W' ⟨he, hb⟩ => ?_
  subst he
  exact ⟨_, rfl, law_end hW' rfl rfl hb laidOut (by kernel_rfl) (by kernel_rfl) Try.underlying4⟩

theorem reads (os : Os) {H : Type} (enc : TypeId × Value → H) : ∃ places, DataW.whole enc Try.prog ((World.holding Try.prog os ⟨#[], #[], []⟩).forCall (fun _ _ => 0) ⟨#[], #[.slice none 0 0], []⟩).memory Try.f4.params.toList Rows.mergeGathersSpec.vars false [Value.slice none 0 0] 8 = some ([.nil], [], places) :=
  ⟨[], by kernel_rfl⟩

set_option maxRecDepth 100000 in
theorem lifted (os : Os) (started : os.Started) (H : Type) (enc : TypeId × Value → H) (F : Stop.Interp) :
    ReturnsInHanded {} Try.checked os 4 .any ((Rows.OpenSpec.upto Rows.mergeGathersSpec).preRow enc Try.prog Try.f4 Rows.mergeGathersUptoRow.domain false Rows.mergeGathersUptoRow.laid) (((Rows.OpenSpec.upto Rows.mergeGathersSpec).at F).post enc Try.prog Try.f4 false true false false) := by
  obtain ⟨places, hx⟩ := reads os enc
  have laid_met : laidMet Try.prog Rows.mergeGathersUptoRow.laid ((World.holding Try.prog os ⟨#[], #[], []⟩).forCall (fun _ _ => 0) ⟨#[], #[.slice none 0 0], []⟩).memory := ⟨[], rfl, List.nodup_nil, fun _ _ h => by cases h⟩
  refine returnsInHanded_of_row (C := Try.checked) (s := Rows.OpenSpec.upto Rows.mergeGathersSpec) own started (by kernel_rfl) Try.func4
    (witness_row_at (enc := enc) (C := Try.checked) false (World.holding Try.prog os ⟨#[], #[], []⟩) #[.slice none 0 0] rfl (by kernel_rfl) (by kernel_rfl) (by kernel_rfl)
      (OpenSpec.preRow_of_cond 8 hx (by kernel_rfl) (fun k hk => by cases hk; kernel_rfl) (by kernel_rfl) laid_met)) ?_
  intro W base args ds gs before hval hW _ hcond hz _ _ _
  exact contractUpto H enc W base args ds gs before hval hW hz (hcond _ rfl)

theorem said : Rows.MergeGathersUptoSaid :=
  OpenClaim.holds_of_cond 4 Try.f4 rfl rfl rfl rfl rfl rfl rfl ⟨rfl, rfl, rfl, rfl, rfl⟩ rfl rfl rfl rfl rfl (by kernel_rfl) Try.func4 (by kernel_rfl)
    (of_decide_eq_true (by kernel_rfl)) (by unfold Func.isWrapper; first | (rw [if_pos (by decide +kernel)]; kernel_rfl) | (rw [if_neg (by decide +kernel)]; exact ⟨rfl, rfl⟩))
    (fun os started H enc _ F => by rw [OpenClaim.pre_eq_preRow]; exact lifted os started H enc F)

end Go.Proofs.Ytmpeaondljpgiaa.fnMergeGathers
