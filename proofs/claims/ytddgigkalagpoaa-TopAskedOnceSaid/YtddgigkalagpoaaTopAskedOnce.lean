/- TopAskedOnce: over a bad network each call is done at most once, in order, and the caller is told what was done for that call, whatever the input. -/
import Derived.Test.YtddgigkalagpoaaTopAsk
import Derived.Test.YtddgigkalagpoaaSlices
import Derived.Deep.CutBlock

import Derived.Test.YtddgigkalagpoaaLawEnd

import Derived.Test.YtddgigkalagpoaaPlainKit

namespace Go.Proofs.Ytddgigkalagpoaa.fnTopAskedOnce
open Go.ChangeShapes Go.WideShapes Go.ChangeAt Go.RowKit Go.WideMaps Go.WideElems
open Go.ChangeMaps (open_string)

theorem dec_one : decS 1 = ⟨#[49]⟩ := by
  unfold decS
  rw [decL_small (by decide)]
  rfl
set_option maxRecDepth 100000 in
set_option maxHeartbeats 8000000 in
theorem walk (A : Option Addr) (len cap : Nat) (ks : List Int) (W : World) (hl : len * 8 ≤ 140737488351232) (hn : len ≤ ks.length) (hI : SlOf W W.heap.size A len (fun i => .int .i64 (ks.getD i 0))) (hK : ∀ n ∈ ks, (Lit.int .i64 n).wf = true) :
    Calls Try.prog 3 #[.slice A len cap] W fun e w' => e = .returned (.bool true) ∧ Below W.heap.size W w' := by
  have HI := Lib.hid hI
  have HKW := Lib.hid (fun i (hi : i < len) => i64_of_wf (hK (ks.getD i 0) (by rw [List.getD_eq_getElem?_getD, List.getElem?_eq_getElem (by omega)]; exact List.getElem_mem _)))
  have hl' : (len : Int) ≤ 17592186043904 := by omega
  clear hI hK hn
  go_enter Try.func3, Try.ntmps3
  go_wp2_with (fail)
  refine (nst_new (w0 := W) 2 2 (by decide) W (Below.refl _ _)).mono ?_
  rintro e w1 ⟨rfl, h1, _⟩
  have H1 : Hid (NSt W w1 W.heap.size 2 0 (.map none) []) := Lib.hid h1
  clear h1
  obtain ⟨p, hp⟩ : ∃ p, p = W.heap.size := ⟨_, rfl⟩
  rw [← hp] at H1 ⊢
  have HP := Lib.hid hp
  clear hp
  go_wp2_with (fail)
  refine (clr_new (w0 := W) 2 9 w1 H1.out.1).mono ?_
  rintro e w2 ⟨rfl, h2⟩
  have H2 : Hid (ClrSt W w2 w1.heap.size (clrNew 2 9) ∧ NSt W w2 p 2 0 (.map none) []) := Lib.hid ⟨h2.out.1, H1.out.below h2.out.2⟩
  clear h2
  obtain ⟨q, hq⟩ : ∃ q, q = w1.heap.size := ⟨_, rfl⟩
  rw [← hq] at H2 ⊢
  clear hq H1
  have H3 : Hid (TK W (w2.alloc (.cells #[.map none] 29)) p q w2.heap.size 0 0 [] (clrNew 2 9) (fun _ => none)) := Lib.hid (by
    have hb : Below w2.heap.size w2 (w2.alloc (.cells #[.map none] 29)) := (Below.refl _ w2).alloc (Nat.le_refl _) _
    exact ⟨H2.out.2.below hb, H2.out.1.below hb, desk_new H2.out.1.bel⟩)
  obtain ⟨r, hr⟩ : ∃ r, r = w2.heap.size := ⟨_, rfl⟩
  rw [← hr] at H3
  go_wp2_with (fail)
  rw [← hr]
  obtain ⟨w3, hw3⟩ : ∃ w3, w3 = w2.alloc (.cells #[.map none] 29) := ⟨_, rfl⟩
  rw [← hw3] at H3 ⊢
  clear hw3 hr H2
  refine (tk_start (w0 := W) (p := p) (q := q) (r := r) (M := fun _ => none) 0 ⟨Int.le_refl 0, show (0 : Int) < 9223372036854775807 by decide⟩ H3).mono ?_
  rintro e w4 ⟨rfl, H4⟩
  rw [show (clrNew 2 9).call + 1 = 1 from rfl] at H4 ⊢
  clear H3
  go_wp2_with (fail)
  refine (tk_send (w0 := W) (p := p) (q := q) (r := r) 0 1 ⟨#[49]⟩ (.inl ⟨rfl, rfl⟩) (by decide) (by decide) ⟨by omega, by omega⟩ H4).mono ?_
  rintro e w5 ⟨x5, y5, s5, L5, rfl, g1, g2, g3, g4, H5⟩
  have H6 : Hid (TI W w5 p q r 0 0 0 1 0 s5 L5 ⟨(clrNew 2 9).wait, (clrNew 2 9).most, 1, true, mom 0, mom 0⟩ (fun _ => none)) := Lib.hid
    ⟨H5.out, ⟨lenT_b 2, lenT_b 9, mom_b 0, mom_b 0⟩, rfl, fun l hl => by
      rcases g4 l hl with h | ⟨h1, h2, h3⟩
      · cases h
      · exact .inl ⟨h1, h2, 1, by omega, by omega, h3.trans dec_one.symm⟩, .inl ⟨rfl, rfl⟩, (fun _ _ e => by cases e), g3, by omega, by omega, by omega, by omega, by omega, by omega, by omega⟩
  clear H5 H4 g1 g2 g3 g4
  go_wp2
  go_loopw [6, 7, 8] (fun s6 s7 s8 wr => ∃ (k now last C n : Nat) (sent : Int) (L : List Letr) (c : Clr) (M : Known), k ≤ len ∧ s6 = .int .i64 now ∧ s7 = .int .i64 last ∧ s8 = .int .i64 k ∧ Hid (TI W wr p q r k now last C n sent L c M ∧ c.und = true)) (fun _ _ i _ => len - (intOf i).toNat)
  case atStart => exact ⟨0, 0, 0, 1, 0, s5, L5, _, _, by omega, rfl, rfl, rfl, Lib.hid ⟨H6.out, rfl⟩⟩
  case round =>
    obtain ⟨k, now, last, C, n, sent, L, c, M, hk, rfl, rfl, rfl, HR⟩ := hrel
    clear H6
    by_cases hkn : k < len
    · have hkn' : (k : Int) < len := by omega
      obtain ⟨b, off, rfl, hB, hc⟩ := HI.out k hkn
      have hc1 := (HR.out.1.t.net.1.cell (p := ⟨b, off + k, none⟩) hB).trans hc
      simp only at hc1
      have HXW := Lib.hid (HKW.out k hkn)
      obtain ⟨x, hx⟩ : ∃ x, x = ks.getD k 0 := ⟨_, rfl⟩
      rw [← hx] at hc1 HXW
      clear hc hB hx
      have HT0 := Lib.hid HR.out.1.t
      have HLL := Lib.hid HR.out.1.len
      have HLS := Lib.hid (fun l hl => (HR.out.1.let' l hl).size (by have := HR.out.1.C'; omega) HR.out.1.last')
      go_upto_if 42 with (fail)
      go_cut [9] (fun s9 wy => (∃ K : Nat, s9 = .int .i64 (K : Int) ∧ Hid ((K : Int) ≤ 9223372036854775807)) ∧ Hid (wy = wr))
      case first =>
        have hxw := HXW.out
        by_cases hneg : x < 0
        · have hw1 : wrap64 (x + 1) = x + 1 := IntWalk.wrap64_in _ ⟨by omega, by omega⟩
          have hw2 : wrap64 (-(x + 1)) = -(x + 1) := IntWalk.wrap64_in _ ⟨by omega, by omega⟩
          have HK : Hid (-(x + 1) = (((-(x + 1)).toNat : Nat) : Int) ∧ -(x + 1) ≤ 9223372036854775807) := Lib.hid (by omega)
          go_wp2
          go_meet
          exact ⟨⟨(-(x + 1)).toNat, by rw [← HK.out.1], Lib.hid (by rw [← HK.out.1]; exact HK.out.2)⟩, Lib.hid rfl⟩
        · have HK : Hid (x = ((x.toNat : Nat) : Int) ∧ x ≤ 9223372036854775807) := Lib.hid (by omega)
          go_wp2
          go_meet
          exact ⟨⟨x.toNat, by rw [← HK.out.1], Lib.hid (by rw [← HK.out.1]; exact HK.out.2)⟩, Lib.hid rfl⟩
      case rest =>
      obtain ⟨⟨K, rfl, HK⟩, hwx⟩ := hcut
      rw [hwx.out]
      clear hwx hc1 HXW
      have hK9 := HK.out
      have hK0 : (0 : Int) ≤ (K : Int) := by omega
      go_wp2_with (fail)
      refine (tk_fly (w0 := W) (p := p) (q := q) (r := r) HLL.out HLS.out HT0).mono ?_
      rintro e w6 ⟨rfl, H6⟩
      clear HT0
      obtain ⟨m, hm⟩ : ∃ m, m = L.length := ⟨_, rfl⟩
      have HM := Lib.hid hm
      rw [← hm]
      clear hm
      have hm6 : (m : Int) ≤ 65536 := by have := HLL.out; have := HM.out; omega
      go_upto_if 50 with (fail)
      go_cut [11] (fun s11 wy => (∃ j : Nat, s11 = .int .i64 (j : Int) ∧ Hid (j < m ∨ (m = 0 ∧ j = 0))) ∧ Hid (wy = w6))
      case first =>
        by_cases hm0 : 0 < m
        · have hm1 : (0 : Int) < (m : Int) := by omega
          have hm2 : ¬ ((m : Int) = 0) := by omega
          have HJ : Hid ((K : Int) / 5 % (m : Int) = (((K / 5 % m : Nat)) : Int) ∧ K / 5 % m < m) := Lib.hid ⟨by simp, Nat.mod_lt _ hm0⟩
          go_wp2
          go_meet
          exact ⟨⟨K / 5 % m, by rw [← HJ.out.1], Lib.hid (.inl HJ.out.2)⟩, Lib.hid rfl⟩
        · have hm1 : ¬ (0 : Int) < (m : Int) := by omega
          have HJ := Lib.hid hm0
          go_wp2
          go_meet
          exact ⟨⟨0, rfl, Lib.hid (.inr ⟨by have := HJ.out; omega, rfl⟩)⟩, Lib.hid rfl⟩
      case rest =>
      obtain ⟨⟨j, rfl, HJ⟩, hwx⟩ := hcut
      rw [hwx.out]
      clear hwx
      go_wp2_with (fail)
      refine (tk_call (w0 := W) (p := p) (q := q) (r := r) H6).mono ?_
      rintro e w7 ⟨rfl, H7⟩
      rw [HR.out.2, HR.out.1.call]
      clear H6
      go_upto_block 2 with (fail)
      go_cut [6, 7] (fun s6 s7 wy => ∃ (now' last' n' : Nat) (sent' : Int) (L' : List Letr) (c' : Clr) (M' : Known), s6 = .int .i64 now' ∧ s7 = .int .i64 last' ∧
        Hid (TK W wy p q r sent' n' L' c' M' ∧ ClrOk c' ∧ c'.call = (C : Int) ∧ (∀ l ∈ L', Lett C last' l) ∧ Done M' last' ∧ Small M' ∧ L'.length ≤ 65536 ∧ now' ≤ k + 1 ∧ last' ≤ C ∧ n' ≤ 2 * k + 2 ∧ 0 ≤ sent' ∧ sent' ≤ 2 * (k : Int) + 2))
      case first =>
        have HTI := Lib.hid HR.out.1
        have HUND := Lib.hid HR.out.2
        clear HR
        go_upto_if 73 with (fail)
        go_cut [73] (fun s73 wy => (∃ v : Bool, s73 = .bool v ∧ Hid (v = decide (K % 5 ≤ 1))) ∧ Hid (wy = w7))
        case first =>
          by_cases hz0 : K % 5 = 0
          · have e0 : ((K : Int) % 5 == 0) = true := by simp; omega
            have HV := Lib.hid (decide_eq_true (show K % 5 ≤ 1 by omega)).symm
            clear hz0
            rw [e0]
            go_wp2
            go_meet
            exact ⟨⟨true, rfl, HV⟩, Lib.hid rfl⟩
          · have e0 : ((K : Int) % 5 == 0) = false := by simp; omega
            by_cases hz1 : K % 5 = 1
            · have e1 : ((K : Int) % 5 == 1) = true := by simp; omega
              have HV := Lib.hid (decide_eq_true (show K % 5 ≤ 1 by omega)).symm
              clear hz0 hz1
              go_wp2
              go_meet
              exact ⟨⟨true, rfl, HV⟩, Lib.hid rfl⟩
            · have e1 : ((K : Int) % 5 == 1) = false := by simp; omega
              have HV := Lib.hid (decide_eq_false (show ¬ K % 5 ≤ 1 by omega)).symm
              clear hz0 hz1
              go_wp2
              go_meet
              exact ⟨⟨false, rfl, HV⟩, Lib.hid rfl⟩
        case rest =>
        obtain ⟨⟨vb, rfl, HVB⟩, hwx⟩ := hcut
        rw [hwx.out, HVB.out]
        clear hwx HVB
        have h5 : K % 5 ≤ 1 ∨ K % 5 = 2 ∨ K % 5 = 3 ∨ K % 5 = 4 := by omega
        rcases h5 with h | h | h | h
        · rw [decide_eq_true h]
          clear h
          rcases HJ.out with hj | ⟨hm0, hj0⟩
          · obtain ⟨l, hlj⟩ : ∃ l, L[j]? = some l := ⟨_, List.getElem?_eq_getElem (by have := HM.out; omega)⟩
            have hll := Lib.hid (HTI.out.let' l (List.mem_of_getElem? hlj))
            have hm1 : (0 : Int) < (m : Int) := by omega
            have hm3 : 0 < m := by omega
            have hm4 : decide (0 < m) = true := by simpa using hm3
            have HLJ := Lib.hid hlj
            clear hlj hj
            go_wp2_with (fail)
            refine (tk_deliver (w0 := W) (p := p) (q := q) (r := r) j l (HLS.out l (List.mem_of_getElem? HLJ.out)) HLJ.out HLL.out H7).mono ?_
            rintro e w8 ⟨rfl, H8⟩
            have HB := Lib.hid (H8.out.box l)
            clear H7
            go_upto_region 28 with (fail)
            obtain ⟨g, hg⟩ : ∃ g, g = w8.heap.size := ⟨_, rfl⟩
            obtain ⟨wb, hwb⟩ : ∃ wb, wb = w8.alloc (.cells #[.int .i64 l.id, .int .i64 l.a, .int .i64 l.b, .string l.s] 39) := ⟨_, rfl⟩
            rw [← hwb, ← hg] at HB ⊢
            clear hwb hg H8
            have HNL : Hid (n < maxLen ∧ n + 1 < maxLen) := Lib.hid (by unfold maxLen; have := HTI.out.n'; omega)
            have HE : Hid ((∀ y ∈ L.eraseIdx j, Lett C last y) ∧ (L.eraseIdx j).length ≤ 65536) := Lib.hid ⟨fun y hy => HTI.out.let' y (List.mem_of_mem_eraseIdx hy), Nat.le_trans (List.length_eraseIdx_le L j) HLL.out⟩
            rcases hll.out with ⟨_, lb, X, hX1, hX2, hs⟩ | ⟨_, lb, X, hX1, hX2, hs⟩
            · have x2 := HB.out.c2
              have x3 := HB.out.c3
              rw [lb] at x2
              rw [hs] at x3
              have HX : Hid (1 ≤ X ∧ X ≤ C ∧ X ≤ 1000000000000000000) := Lib.hid ⟨hX1, hX2, by have := HTI.out.C'; omega⟩
              have HLS2 := Lib.hid hs
              have hsz : (decS X).size ≤ 19 := decS_size X HX.out.2.2
              clear lb hs hX1 hX2
              go_wp2_with (fail)
              refine (value_dec X _ HX.out.2.2).mono ?_
              rintro e w9 ⟨rfl, rfl⟩
              go_wp2_with (fail)
              refine (tb_ask (w0 := W) (p := p) (q := q) (r := r) (g := g) (l := l) 1 (X : Int) HNL.out.1 ⟨by omega, by omega⟩ HTI.out.small HB).mono ?_
              rintro e w10 ⟨rfl, H10⟩
              clear x2 x3 HB
              rcases done_ask HTI.out.done HX.out.1 with ⟨hlt, hA, hS⟩ | ⟨heq, hA, hS⟩ | ⟨hlt, hA, hS⟩
              · rw [ask_new hA] at H10
                rw [hA, hS]
                have y3 := H10.out.c3
                rw [HLS2.out] at y3
                have hn1 : ¬ X ≤ last := by omega
                have hn2 : decide (X ≤ last) = false := by simpa using hn1
                have hn3 : ¬ (X : Int) ≤ (last : Int) := by omega
                have HLT := Lib.hid hlt
                clear hA hS hlt
                go_wp2_with (fail)
                refine (tb_reply (w0 := W) (p := p) (q := q) (r := r) (g := g) (l := l) 1 (X : Int) (repS X) HNL.out.2 ⟨by omega, by omega⟩ (by have := repS_size X HX.out.2.2; omega) H10).mono ?_
                rintro e w11 ⟨rfl, H11⟩
                rw [(rep_new M X (repS X)).1]
                rw [(rep_new M X (repS X)).2] at H11
                have H12 := Lib.hid H11.out.t
                clear H10 H11 y3
                go_wp2_with (fail)
                refine (tk_send (w0 := W) (p := p) (q := q) (r := r) 1 0 (repS X) (.inr ⟨rfl, rfl⟩) (by have := repS_size X HX.out.2.2; omega) HE.out.2 (by have := HTI.out.s0; have := HTI.out.s1; omega) H12).mono ?_
                rintro e w12 ⟨xa, ya, s11, L11, rfl, g1, g2, g3, g4, H13⟩
                have HL2 : Hid ((∀ y ∈ L11, Lett C X y) ∧ L11.length ≤ 65536 ∧ 0 ≤ s11 ∧ s11 ≤ 2 * (k : Int) + 2) := Lib.hid (by
                  refine ⟨fun y hy => ?_, g3, by have := HTI.out.s0; omega, by have := HTI.out.s1; omega⟩
                  rcases g4 y hy with h | ⟨h1, h2, h3⟩
                  · exact (HE.out.1 y h).more (Nat.le_refl _) (by have := HLT.out; omega)
                  · exact .inr ⟨h1, h2, X, HX.out.1, Nat.le_refl _, h3⟩)
                clear H12 g1 g2 g3 g4
                go_wp2
                go_meet
                exact ⟨now, X, n + 2, s11, L11, c, upd M 1 ⟨X, true, repS X⟩, rfl, rfl, Lib.hid ⟨H13.out, HTI.out.ok, HTI.out.call, HL2.out.1, .inr ⟨HX.out.1, by simp [upd]⟩, small_upd HTI.out.small (by have := repS_size X HX.out.2.2; simp only; omega), HL2.out.2.1, by have := HTI.out.now'; omega, HX.out.2.1, by have := HTI.out.n'; omega, HL2.out.2.2.1, HL2.out.2.2.2⟩⟩
              · rw [ask_old (by rw [hA]; decide)] at H10
                rw [hA, hS]
                have H12 := Lib.hid H10.out.t
                have HEQ := Lib.hid heq
                clear hA hS heq H10
                go_wp2_with (fail)
                refine (tk_send (w0 := W) (p := p) (q := q) (r := r) 1 0 (repS X) (.inr ⟨rfl, rfl⟩) (by have := repS_size X HX.out.2.2; omega) HE.out.2 (by have := HTI.out.s0; have := HTI.out.s1; omega) H12).mono ?_
                rintro e w12 ⟨xa, ya, s11, L11, rfl, g1, g2, g3, g4, H13⟩
                have HL2 : Hid ((∀ y ∈ L11, Lett C last y) ∧ L11.length ≤ 65536 ∧ 0 ≤ s11 ∧ s11 ≤ 2 * (k : Int) + 2) := Lib.hid (by
                  refine ⟨fun y hy => ?_, g3, by have := HTI.out.s0; omega, by have := HTI.out.s1; omega⟩
                  rcases g4 y hy with h | ⟨h1, h2, h3⟩
                  · exact HE.out.1 y h
                  · exact .inr ⟨h1, h2, X, HX.out.1, by have := HEQ.out; omega, h3⟩)
                clear H12 g1 g2 g3 g4
                go_wp2
                go_meet
                exact ⟨now, last, n + 1, s11, L11, c, M, rfl, rfl, Lib.hid ⟨H13.out, HTI.out.ok, HTI.out.call, HL2.out.1, HTI.out.done, HTI.out.small, HL2.out.2.1, by have := HTI.out.now'; omega, HTI.out.last', by have := HTI.out.n'; omega, HL2.out.2.2.1, HL2.out.2.2.2⟩⟩
              · rw [ask_old (by rw [hA]; decide)] at H10
                rw [hA, hS]
                have H12 := Lib.hid H10.out.t
                clear hA hS hlt H10
                go_wp2
                go_meet
                exact ⟨now, last, n + 1, sent, L.eraseIdx j, c, M, rfl, rfl, Lib.hid ⟨H12.out, HTI.out.ok, HTI.out.call, HE.out.1, HTI.out.done, HTI.out.small, HE.out.2, by have := HTI.out.now'; omega, HTI.out.last', by have := HTI.out.n'; omega, HTI.out.s0, by have := HTI.out.s1; omega⟩⟩
            · have x2 := HB.out.c2
              have x3 := HB.out.c3
              rw [lb] at x2
              have HX : Hid (1 ≤ X ∧ X ≤ last ∧ X ≤ 1000000000000000000) := Lib.hid ⟨hX1, hX2, by have := HTI.out.C'; have := HTI.out.last'; omega⟩
              have hsl : l.s.extract 1 l.s.size = decS X := by rw [hs]; exact rep_slice X
              have hs1 : 1 ≤ l.s.size := by
                rw [hs]; unfold repS; rw [ByteArray.size_append]; show 1 ≤ 1 + _; omega
              have hs2 : (1 : Int) ≤ (l.s.size : Int) := by omega
              have hs3 : (l.s.size : Int) ≤ 20 := by have := repS_size X HX.out.2.2; rw [← hs] at this; omega
              clear lb hs hX1 hX2
              go_wp2_with (fail)
              refine (value_dec X _ HX.out.2.2).mono ?_
              rintro e w9 ⟨rfl, rfl⟩
              go_wp2_with (fail)
              refine (tb_got (w0 := W) (p := p) (q := q) (r := r) (g := g) (l := l) (X : Int) HB).mono ?_
              rintro e w10 ⟨rfl, H10⟩
              have H12 := Lib.hid H10.out.t
              have HOK := Lib.hid (ok_got HTI.out.ok (X : Int))
              have hle : ¬ (last : Int) < (X : Int) := by have := HX.out; omega
              have hle2 : ¬ last < X := by have := HX.out; omega
              have hle3 : decide (last < X) = false := by simpa using hle2
              have hG : gotB c (X : Int) = decide (C = X) := by
                unfold gotB
                rw [HUND.out, HTI.out.call, Bool.true_and]
                by_cases e : C = X
                · subst e; simp
                · rw [decide_eq_false e, decide_eq_false (by omega)]
              clear x2 x3 HB H10 hsl hs1 hs2 hs3
              by_cases hXC : C = X
              · rw [hG, decide_eq_true hXC]
                have q1 : ((X : Int) == (C : Int)) = true := by simp; omega
                have q2 : (X == C) = true := by simp; omega
                clear hXC hG
                go_wp2
                go_meet
                exact ⟨now, last, n, sent, L.eraseIdx j, _, M, rfl, rfl, Lib.hid ⟨H12.out, HOK.out.1, HOK.out.2.trans HTI.out.call, HE.out.1, HTI.out.done, HTI.out.small, HE.out.2, by have := HTI.out.now'; omega, HTI.out.last', by have := HTI.out.n'; omega, HTI.out.s0, by have := HTI.out.s1; omega⟩⟩
              · rw [hG, decide_eq_false hXC]
                have q1 : ((X : Int) == (C : Int)) = false := by simp; omega
                have q2 : (X == C) = false := by simp; omega
                clear hXC hG
                go_wp2
                go_meet
                exact ⟨now, last, n, sent, L.eraseIdx j, _, M, rfl, rfl, Lib.hid ⟨H12.out, HOK.out.1, HOK.out.2.trans HTI.out.call, HE.out.1, HTI.out.done, HTI.out.small, HE.out.2, by have := HTI.out.now'; omega, HTI.out.last', by have := HTI.out.n'; omega, HTI.out.s0, by have := HTI.out.s1; omega⟩⟩
          · have hm1 : ¬ (0 : Int) < (m : Int) := by omega
            have hm2 : (0 : Int) = (m : Int) := by omega
            have HLN : Hid (L = []) := Lib.hid (List.eq_nil_of_length_eq_zero (by have := HM.out; omega))
            have hm3 : ¬ 0 < m := by omega
            have hm4 : decide (0 < m) = false := by simpa using hm3
            clear hm0 hj0 hm2
            go_wp2_with (fail)
            refine (tk_deliver_no (w0 := W) (p := p) (q := q) (r := r) (j : Int) HLN.out H7).mono ?_
            rintro e w8 ⟨rfl, H8⟩
            have HB := Lib.hid (H8.out.below ((Below.refl _ w8).alloc (Nat.le_refl _) (.cells #[.int .i64 0, .int .i64 0, .int .i64 0, .string ⟨#[]⟩] 39)))
            clear H7 H8
            go_wp2
            go_meet
            exact ⟨now, last, n, sent, L, c, M, rfl, rfl, Lib.hid ⟨HB.out, HTI.out.ok, HTI.out.call, HTI.out.let', HTI.out.done, HTI.out.small, HTI.out.len, by have := HTI.out.now'; omega, HTI.out.last', by have := HTI.out.n'; omega, HTI.out.s0, by have := HTI.out.s1; omega⟩⟩
        · rw [decide_eq_false (show ¬ K % 5 ≤ 1 by omega)]
          have e2 : ((K : Int) % 5 == 2) = true := by simp; omega
          clear h
          go_wp2_with (fail)
          refine (tk_drop (w0 := W) (p := p) (q := q) (r := r) j HLL.out H7).mono ?_
          rintro e w8 ⟨xv, L', rfl, g1, g2, H8⟩
          have G := Lib.hid (And.intro g1 g2)
          clear H7 g1 g2
          go_wp2
          go_meet
          exact ⟨now, last, n, sent, L', c, M, rfl, rfl, Lib.hid ⟨H8.out, HTI.out.ok, HTI.out.call, fun l hl => HTI.out.let' l (G.out.2 l hl), HTI.out.done, HTI.out.small, G.out.1, by have := HTI.out.now'; omega, HTI.out.last', by have := HTI.out.n'; omega, HTI.out.s0, by have := HTI.out.s1; omega⟩⟩
        · rw [decide_eq_false (show ¬ K % 5 ≤ 1 by omega)]
          have e2 : ((K : Int) % 5 == 2) = false := by simp; omega
          have e3 : ((K : Int) % 5 == 3) = true := by simp; omega
          clear h
          go_wp2_with (fail)
          refine (tk_double (w0 := W) (p := p) (q := q) (r := r) j HLL.out H7).mono ?_
          rintro e w8 ⟨xv, L', rfl, g1, g2, H8⟩
          have G := Lib.hid (And.intro g1 g2)
          clear H7 g1 g2
          go_wp2
          go_meet
          exact ⟨now, last, n, sent, L', c, M, rfl, rfl, Lib.hid ⟨H8.out, HTI.out.ok, HTI.out.call, fun l hl => HTI.out.let' l (G.out.2 l hl), HTI.out.done, HTI.out.small, G.out.1, by have := HTI.out.now'; omega, HTI.out.last', by have := HTI.out.n'; omega, HTI.out.s0, by have := HTI.out.s1; omega⟩⟩
        · rw [decide_eq_false (show ¬ K % 5 ≤ 1 by omega)]
          have e2 : ((K : Int) % 5 == 2) = false := by simp; omega
          have e3 : ((K : Int) % 5 == 3) = false := by simp; omega
          clear h
          have hnow : wrap64 ((now : Int) + 1) = (now : Int) + 1 := IntWalk.wrap64_in _ ⟨by omega, by have := HTI.out.now'; omega⟩
          have hnow9 : (now : Int) ≤ 17592186043904 := by have := HTI.out.now'; omega
          go_wp2_with (fail)
          refine (tk_tick (w0 := W) (p := p) (q := q) (r := r) ((now : Int) + 1) HTI.out.ok H7).mono ?_
          rintro e w8 ⟨rfl, H8⟩
          have HOK := Lib.hid (ok_tick HTI.out.ok ((now : Int) + 1))
          clear H7
          by_cases ha : tickA c ((now : Int) + 1) = 1
          · rw [ha]
            clear ha
            go_wp2_with (fail)
            refine (decimal_any C _ (by have := HTI.out.C'; omega)).mono ?_
            rintro e w9 ⟨rfl, hb9⟩
            have H9 := Lib.hid (H8.out.below hb9)
            clear H8 hb9
            go_wp2_with (fail)
            refine (tk_send (w0 := W) (p := p) (q := q) (r := r) 0 1 (decS C) (.inl ⟨rfl, rfl⟩) (by have := decS_size C (by have := HTI.out.C'; omega); omega) HLL.out (by have := HTI.out.s0; have := HTI.out.s1; omega) H9).mono ?_
            rintro e w10 ⟨xa, ya, s11, L11, rfl, g1, g2, g3, g4, H11⟩
            have HL2 : Hid ((∀ l ∈ L11, Lett C last l) ∧ L11.length ≤ 65536 ∧ 0 ≤ s11 ∧ s11 ≤ 2 * (k : Int) + 2) := Lib.hid (by
              refine ⟨fun l hl => ?_, g3, by have := HTI.out.s0; omega, by have := HTI.out.s1; omega⟩
              rcases g4 l hl with h | ⟨h1, h2, h3⟩
              · exact HTI.out.let' l h
              · exact .inl ⟨h1, h2, C, HTI.out.C1, Nat.le_refl _, h3⟩)
            clear H9 g1 g2 g3 g4
            go_wp2
            go_meet
            exact ⟨now + 1, last, n, s11, L11, _, M, by simp, rfl, Lib.hid ⟨H11.out, HOK.out.1, HOK.out.2.trans HTI.out.call, HL2.out.1, HTI.out.done, HTI.out.small, HL2.out.2.1, by have := HTI.out.now'; omega, HTI.out.last', by have := HTI.out.n'; omega, HL2.out.2.2.1, HL2.out.2.2.2⟩⟩
          · have ha1 : (tickA c ((now : Int) + 1) == 1) = false := by simpa using ha
            clear ha
            go_wp2
            go_meet
            exact ⟨now + 1, last, n, sent, L, _, M, by simp, rfl, Lib.hid ⟨H8.out, HOK.out.1, HOK.out.2.trans HTI.out.call, HTI.out.let', HTI.out.done, HTI.out.small, HTI.out.len, by have := HTI.out.now'; omega, HTI.out.last', by have := HTI.out.n'; omega, HTI.out.s0, by have := HTI.out.s1; omega⟩⟩
      case rest =>
        obtain ⟨now', last', n', sent', L', c', M', rfl, rfl, HC⟩ := hcut
        clear H7
        have HTI := Lib.hid HR.out.1
        clear HR
        go_wp2_with (fail)
        refine (tk_call (w0 := W) (p := p) (q := q) (r := r) (Lib.hid HC.out.1)).mono ?_
        rintro e w8 ⟨rfl, H8⟩
        cases hu : c'.und
        · have HU := Lib.hid hu
          clear hu
          have hcl := HC.out.2.2.1
          go_wp2_with (fail)
          refine (tk_start (w0 := W) (p := p) (q := q) (r := r) (now' : Int) (by rw [hcl]; have := HTI.out.C'; omega) H8).mono ?_
          rintro e w9 ⟨rfl, H9⟩
          rw [hcl] at H9 ⊢
          rw [show (C : Int) + 1 = ((C + 1 : Nat) : Int) by omega] at H9 ⊢
          clear H8 hcl
          go_wp2_with (fail)
          refine (decimal_any (C + 1) _ (by have := HTI.out.C'; omega)).mono ?_
          rintro e w10 ⟨rfl, hb10⟩
          have H10 := Lib.hid (H9.out.below hb10)
          clear H9 hb10
          go_wp2_with (fail)
          refine (tk_send (w0 := W) (p := p) (q := q) (r := r) 0 1 (decS (C + 1)) (.inl ⟨rfl, rfl⟩) (by have := decS_size (C + 1) (by have := HTI.out.C'; omega); omega) HC.out.2.2.2.2.2.2.1 (by have := HC.out; omega) H10).mono ?_
          rintro e w11 ⟨xa, ya, s11, L11, rfl, g1, g2, g3, g4, H11⟩
          have HF : Hid (TI W w11 p q r (k + 1) now' last' (C + 1) n' s11 L11 ⟨c'.wait, c'.most, ((C + 1 : Nat) : Int), true, mom now', mom now'⟩ M') := Lib.hid (by
            obtain ⟨q1, q2, q3, q4, q5, q6, q7, q8, q9, q10, q11, q12⟩ := HC.out
            refine ⟨H11.out, ⟨q2.w, q2.m, mom_b _, mom_b _⟩, rfl, fun l hl => ?_, q5, q6, g3, q8, by omega, by have := HTI.out.C'; omega, by omega, by omega, by omega, by omega⟩
            rcases g4 l hl with h | ⟨h1, h2, h3⟩
            · exact (q4 l h).more (by omega) (Nat.le_refl _)
            · exact .inl ⟨h1, h2, C + 1, by omega, by omega, h3⟩)
          clear H11 H10 g1 g2 g3 g4
          go_wp2
          go_round
          case rel => exact ⟨k + 1, now', last', C + 1, n', s11, L11, _, M', by omega, rfl, rfl, by simp, Lib.hid ⟨HF.out, rfl⟩⟩
          case measure => simp [intOf]; omega
        · have HF : Hid (TI W w8 p q r (k + 1) now' last' C n' sent' L' c' M' ∧ c'.und = true) := Lib.hid (by
            obtain ⟨q1, q2, q3, q4, q5, q6, q7, q8, q9, q10, q11, q12⟩ := HC.out
            exact ⟨⟨H8.out, q2, q3, q4, q5, q6, q7, q8, by omega, by have := HTI.out.C'; omega, HTI.out.C1, by omega, by omega, by omega⟩, hu⟩)
          clear hu
          go_wp2
          go_round
          case rel => exact ⟨k + 1, now', last', C, n', sent', L', c', M', by omega, rfl, rfl, by simp, HF⟩
          case measure => simp [intOf]; omega
    · have HE := Lib.hid HR.out.1.t.net.1
      clear HR
      go_wp2
      go_ret
      exact ⟨rfl, HE.out⟩

set_option maxRecDepth 100000 in
theorem contract (H : Type) (enc : TypeId × Value → H) (W : World) (base : Nat) (args : Array Value) (ds gs : List (DataW H)) (before : List MemPlace)
    (hval : ∀ (j : Nat) t v, Try.f3.params[j]? = some t → args[j]? = some v → Value.okWide Try.prog W .any base t v)
    (hW : DataW.Whole enc Try.prog Try.f3.params.toList Rows.topAskedOnceSpec.vars false W args.toList ds gs before)
    (hz : (DataW.weightsEach Try.prog (Try.f3.params.toList ++ []) (ds ++ gs)).all (· ≤ reachBytes) = true) :
    Calls Try.prog 3 args W fun e W' => ∃ v, e = .returned v ∧ Rows.topAskedOnceSpec.post enc Try.prog Try.f3 false true false false W args v W' := by
  have hW' := hW
  obtain ⟨p, q, hA0, hV, rfl, hfz, hnd⟩ := hW
  have hA : DataW.TrodAll enc Try.prog W 0 (fun _ => true) true Try.f3.params.toList args.toList ds p := hA0
  rw [Try.params3] at hA hval hz
  obtain ⟨v0, vs0, d0, ds0, p0, q0, hargs, rfl, rfl, h0, r0⟩ := trodAll_cons hA
  obtain ⟨rfl, rfl, rfl⟩ := trodAll_nil r0
  obtain rfl : args = #[v0] := by cases args; simp_all
  obtain ⟨rfl, rfl⟩ := trodVars_none hV
  obtain ⟨A, len, cap, ks, rfl, hl0, hn, hI, hK, hd0⟩ := open_int_arg Try.underlying22 Try.underlying3 (by kernel_rfl) (hval 0 22 v0 rfl rfl) h0
  have hl : len * 8 ≤ 140737488351232 := by
    rcases hd0 with ⟨rfl, rfl, rfl⟩ | rfl
    · omega
    · have hb8 : Try.prog.bytesOf 3 = 8 := by kernel_rfl
      have := sized_slice hz (j := 0) (t := 22) rfl rfl Try.underlying22
      rw [hb8] at this
      simp [lits, reachBytes] at this
      omega
  clear hA0
  refine (walk A len cap ks W hl hn hI hK).mono fun e W' ⟨he, hb⟩ => ?_
  subst he
  exact ⟨_, rfl, law_end hW' rfl rfl hb laidOut (by kernel_rfl) (by kernel_rfl) Try.underlying4⟩

theorem reads (os : Os) {H : Type} (enc : TypeId × Value → H) : ∃ places, DataW.whole enc Try.prog ((World.holding Try.prog os ⟨#[], #[], []⟩).forCall (fun _ _ => 0) ⟨#[], #[.slice none 0 0], []⟩).memory Try.f3.params.toList Rows.topAskedOnceSpec.vars false [Value.slice none 0 0] 8 = some ([.nil], [], places) :=
  ⟨[], by kernel_rfl⟩

set_option maxRecDepth 100000 in
theorem lifted (os : Os) (started : os.Started) (H : Type) (enc : TypeId × Value → H) (F : Stop.Interp) :
    ReturnsInHanded {} Try.checked os 3 .any ((OpenSpec.ofChange Rows.topAskedOnceSpec).preRow enc Try.prog Try.f3 Rows.topAskedOnceRow.domain false Rows.topAskedOnceRow.laid) (((OpenSpec.ofChange Rows.topAskedOnceSpec).at F).post enc Try.prog Try.f3 false true false false) := by
  obtain ⟨places, hx⟩ := reads os enc
  have laid_met : laidMet Try.prog Rows.topAskedOnceRow.laid ((World.holding Try.prog os ⟨#[], #[], []⟩).forCall (fun _ _ => 0) ⟨#[], #[.slice none 0 0], []⟩).memory := ⟨[], rfl, List.nodup_nil, fun _ _ h => by cases h⟩
  refine returnsInHanded_of_row (C := Try.checked) (s := OpenSpec.ofChange Rows.topAskedOnceSpec) own started (by kernel_rfl) Try.func3
    (witness_row_at (enc := enc) (C := Try.checked) false (World.holding Try.prog os ⟨#[], #[], []⟩) #[.slice none 0 0] rfl (by kernel_rfl) (by kernel_rfl) (by kernel_rfl)
      (OpenSpec.preRow_of_cond 8 hx (by kernel_rfl) (fun k hk => by cases hk) (by kernel_rfl) laid_met)) ?_
  intro W base args ds gs before hval hW _ _ hz _ _ _
  exact contract H enc W base args ds gs before hval hW hz

theorem said : Rows.TopAskedOnceSaid :=
  OpenClaim.holds_of_cond 3 Try.f3 rfl rfl rfl rfl rfl rfl rfl ⟨rfl, rfl, rfl, rfl, rfl⟩ rfl rfl rfl rfl rfl (by kernel_rfl) Try.func3 (by kernel_rfl)
    (of_decide_eq_true (by kernel_rfl)) (by unfold Func.isWrapper; first | (rw [if_pos (by decide +kernel)]; kernel_rfl) | (rw [if_neg (by decide +kernel)]; exact ⟨rfl, rfl⟩))
    (fun os started H enc _ F => by rw [OpenClaim.pre_eq_preRow]; exact lifted os started H enc F)

end Go.Proofs.Ytddgigkalagpoaa.fnTopAskedOnce
