/- SplitsRecords, where what it reads is bounded: the records of every split of every text are the lines that begin in it, each with its place. -/
import Derived.Test.YtijefbpgpehmfaaSplSpk
import Derived.Test.YtijefbpgpehmfaaSplRec
import Derived.Test.YtijefbpgpehmfaaSplLines
import Derived.BigQuiet

import Derived.Test.YtijefbpgpehmfaaLawEnd

import Derived.Test.YtijefbpgpehmfaaPlainKit

namespace Go.Proofs.Ytijefbpgpehmfaa.fnSplitsRecords
open Go.ChangeShapes Go.WideShapes Go.ChangeAt Go.RowKit Go.WideMaps Go.WideElems
open Go.ChangeMaps (open_string)

theorem recCells_len (s : ByteArray) (xs : List (Nat × Nat)) : (recCells s xs).length = xs.length * 2 := by
  induction xs with
  | nil => rfl
  | cons x xs ih =>
    show ([_, _] ++ recCells s xs).length = _
    rw [List.length_append, ih]
    simp only [List.length_cons, List.length_nil]
    omega
theorem recCells_at (s : ByteArray) : ∀ (xs : List (Nat × Nat)) (j : Nat) (h : j < xs.length), (recCells s xs)[j * 2]? = some (.int .i64 (xs[j].1 : Int)) ∧ (recCells s xs)[j * 2 + 1]? = some (.string (s.extract xs[j].1 xs[j].2))
  | [], j, h => by simp at h
  | x :: xs, 0, h => ⟨rfl, rfl⟩
  | x :: xs, j + 1, h => by
    have := recCells_at s xs j (by simpa using h)
    rw [show (j + 1) * 2 = j * 2 + 2 by omega]
    exact this
theorem row_cells {w : World} {B : Nat} {e : TypeId} {sz k : Nat} {v : Value} {xs : List Value} (hx : xs.length = k * sz) (ho : w.ownsRow B e sz v k xs) : ∃ (A : Option Addr) (cap : Nat), v = .slice A k cap ∧ ∀ j u, xs[j]? = some u → ∃ g, A = some ⟨g, 0, none⟩ ∧ w.cell? ⟨g, j, none⟩ = some u := by
  obtain ⟨A, cap, h1, _, h3⟩ := planIs_of (w := w) (n := 0) (w' := w) (x := .returned v) hx ⟨v, rfl, ho, Below.refl _ _⟩
  injection h1 with h1
  exact ⟨A, cap, h1, fun j u hj => by obtain ⟨g, e, _, hc⟩ := h3 j u hj; exact ⟨g, e, hc⟩⟩
set_option maxRecDepth 100000 in
set_option maxHeartbeats 4000000 in
theorem walk (s : ByteArray) (c d : Int) (w : World) (hs : s.size ≤ 1048576) (hc0 : -9223372036854775808 ≤ c ∧ c ≤ 9223372036854775807) (hd0 : -9223372036854775808 ≤ d ∧ d ≤ 9223372036854775807) :
    Calls Try.prog 4 #[.string s, .int .i64 c, .int .i64 d] w fun e w' => e = .returned (.bool true) ∧ Below w.heap.size w w' := by
  have hsp := fun w => speaks18_any w
  have hrec := fun w => records_any s (by omega) c d hc0.1 hc0.2 w
  have hlin := fun w => rlines_any s (by omega) w
  obtain ⟨LL, hLL⟩ : ∃ LL, LL = linesFrom s.data.toList 0 := ⟨_, rfl⟩
  obtain ⟨RL, hRL⟩ : ∃ RL, RL = recL s.data.toList c d := ⟨_, rfl⟩
  obtain ⟨b, hb⟩ : ∃ b, b = aheadL s.data.toList c := ⟨_, rfl⟩
  have hle := recL_le s.data.toList c d
  have hM : LL.length ≤ s.size := by
    have := lf_len (l := s.data.toList) (a := 0)
    rw [← hLL, size_list] at this
    omega
  have hat : ∀ i (hi : i < LL.length), ((LL[i].1 : Int) < c ↔ i < b) ∧ (b ≤ i → ((LL[i].1 : Int) < d ↔ i - b < RL.length) ∧ ∀ h : i - b < RL.length, RL[i - b] = LL[i]) := by
    subst hLL hRL hb
    exact fun i hi => recL_at s.data.toList c d i hi
  rw [← hLL] at hlin hle
  rw [← hRL] at hrec hle
  rw [← hb] at hle
  have HAT := Lib.hid hat
  clear hLL hRL hb hat
  go_enter Try.func4, Try.ntmps4
  go_wp2_with (fail)
  refine (hsp _).mono ?_
  rintro e w1 ⟨rfl, hb1⟩
  have HB1 := Lib.hid hb1
  clear hb1 hsp
  go_wp2_with (fail)
  refine (hrec _).mono ?_
  rintro e w2 ⟨v, rfl, ho, hb2⟩
  obtain ⟨A, cap, rfl, hrc⟩ := row_cells (recCells_len s RL) ho
  have HB2 := Lib.hid (HB1.out.trans (hb2.mono HB1.out.size))
  have HRC := Lib.hid hrc
  clear hb2 ho hrc hrec
  go_wp2_with (fail)
  refine (hlin _).mono ?_
  rintro e w3 ⟨v1, v2, rfl, ho1, ho2, hb3⟩
  obtain ⟨A1, cap1, rfl, h1⟩ := row_cells (sz := 1) (by simp) ho1
  obtain ⟨A2, cap2, rfl, h2⟩ := row_cells (sz := 1) (by simp) ho2
  have HB3 := Lib.hid (HB2.out.trans (hb3.mono HB2.out.size))
  have HR3 : Hid (∀ j u, (recCells s RL)[j]? = some u → ∃ g, A = some ⟨g, 0, none⟩ ∧ w3.cell? ⟨g, j, none⟩ = some u) := Lib.hid fun j u hj => by
    obtain ⟨g, e, hc⟩ := HRC.out j u hj
    exact ⟨g, e, (hb3.cell (p := ⟨g, j, none⟩) (cell_lt18 hc)).trans hc⟩
  have H1 := Lib.hid h1
  have H2 := Lib.hid h2
  clear hb3 ho1 ho2 h1 h2 hlin HRC
  go_wp2
  obtain ⟨M, hMe⟩ : ∃ M, M = LL.length := ⟨_, rfl⟩
  obtain ⟨r, hre⟩ : ∃ r, r = RL.length := ⟨_, rfl⟩
  rw [← hMe, ← hre] at hle ⊢
  rw [← hMe] at hM
  have HME := Lib.hid hMe
  have HRE := Lib.hid hre
  clear hMe hre
  go_loopw [10, 11] (fun nv iv wr => ∃ i : Nat, i ≤ M ∧ iv = .int .i64 (i : Int) ∧ nv = .int .i64 ((min (i - b) r : Nat) : Int) ∧ ∃ q, wr = w3.drewN q) (fun _ iv _ => M - (intOf iv).toNat)
  case atStart => exact ⟨0, Nat.zero_le _, rfl, by simp, 0, rfl⟩
  case round =>
    obtain ⟨i, hi, rfl, rfl, q, rfl⟩ := hrel
    by_cases hlt : i < M
    · have hi2 : i < LL.length := by have := HME.out; omega
      obtain ⟨a1, a2⟩ := HAT.out i hi2
      obtain ⟨g1, rfl, e1⟩ := H1.out i (.int .i64 (LL[i].1 : Int)) (by simp [hi2, atV])
      obtain ⟨g2, rfl, e2⟩ := H2.out i (.string (s.extract LL[i].1 LL[i].2)) (by simp [hi2, lineV])
      have HX : Hid (i - b < r → ∃ g, A = some ⟨g, 0, none⟩ ∧ (b ≤ i → w3.cell? ⟨g, (i - b) * 2, none⟩ = some (.int .i64 (LL[i].1 : Int)) ∧ w3.cell? ⟨g, (i - b) * 2 + 1, none⟩ = some (.string (s.extract LL[i].1 LL[i].2)))) := Lib.hid fun h => by
        have h' : i - b < RL.length := by have := HRE.out; omega
        obtain ⟨c1, c2⟩ := recCells_at s RL (i - b) h'
        obtain ⟨g, rfl, k1⟩ := HR3.out _ _ c1
        obtain ⟨g', e, k2⟩ := HR3.out _ _ c2
        injection e with e
        injection e with e
        subst e
        refine ⟨_, rfl, fun hbi => ?_⟩
        have h3 := (a2 hbi).2 h'
        rw [← h3]
        exact ⟨k1, k2⟩
      have HA2 : Hid (b ≤ i → ((LL[i].1 : Int) < d ↔ i - b < r)) := Lib.hid fun h => by rw [HRE.out]; exact (a2 h).1
      clear a2
      obtain ⟨y, hy⟩ : ∃ y : Int, y = (LL[i].1 : Int) := ⟨_, rfl⟩
      obtain ⟨T, hT⟩ : ∃ T, T = s.extract LL[i].1 LL[i].2 := ⟨_, rfl⟩
      rw [← hy] at a1 e1
      rw [← hT] at e2
      rw [← hy, ← hT] at HX
      rw [← hy] at HA2
      clear hy hT hi2
      by_cases hib : i < b
      · have hyc := a1.2 hib
        rw [show min (i - b) r = 0 by omega]
        clear a1
        go_wp2
        go_roundw
        case rel => exact ⟨i + 1, by omega, by go_num, by first | (rw [show min (i + 1 - b) r = 0 by omega]; done) | (rw [show min (i + 1 - b) r = 0 by omega]; rfl), _, rfl⟩
        case measure => simp [intOf]; omega
      · have hyc : ¬ y < c := fun h => hib (a1.1 h)
        have hyd := HA2.out (by omega)
        clear a1
        by_cases hir : i - b < r
        · have hyd2 := hyd.2 hir
          obtain ⟨g, rfl, hh⟩ := HX.out hir
          obtain ⟨k1, k2⟩ := hh (by omega)
          obtain ⟨j, hj⟩ : ∃ j, j = i - b := ⟨_, rfl⟩
          rw [← hj] at k1 k2 hir
          rw [show min (i - b) r = j by omega]
          have HJ := Lib.hid hj
          clear hyd hh hj HX
          go_wp2_with (fail)
          go_quiet (fail)
          go_wp2
          go_roundw
          case rel => exact ⟨i + 1, by omega, by go_num, by have := HJ.out; rw [show min (i + 1 - b) r = j + 1 by omega]; first | rfl | go_num, _, rfl⟩
          case measure => simp [intOf]; omega
        · have hyd2 : ¬ y < d := fun h => hir (hyd.1 h)
          rw [show min (i - b) r = r by omega]
          clear hyd HX
          go_wp2
          go_roundw
          case rel => exact ⟨i + 1, by omega, by go_num, by rw [show min (i + 1 - b) r = r by omega], _, rfl⟩
          case measure => simp [intOf]; omega
    · obtain rfl : i = M := by omega
      rw [show min (i - b) r = r by omega]
      go_wp2
      go_ret
      exact ⟨rfl, below_drewN HB3.out q⟩

set_option maxRecDepth 100000 in
theorem contractUpto (H : Type) (enc : TypeId × Value → H) (W : World) (base : Nat) (args : Array Value) (ds gs : List (DataW H)) (before : List MemPlace)
    (hval : ∀ (j : Nat) t v, Try.f4.params[j]? = some t → args[j]? = some v → Value.okWide Try.prog W .any base t v)
    (hW : DataW.Whole enc Try.prog Try.f4.params.toList Rows.splitsRecordsSpec.vars false W args.toList ds gs before)
    (hz : (DataW.weightsEach Try.prog (Try.f4.params.toList ++ []) (ds ++ gs)).all (· ≤ reachBytes) = true) (hk : Rows.uptoSmall H (ds ++ gs) = true) :
    Calls Try.prog 4 args W fun e W' => ∃ v, e = .returned v ∧ Rows.splitsRecordsSpec.post enc Try.prog Try.f4 false true false false W args v W' := by
  have hW' := hW
  obtain ⟨p, q, hA0, hV, rfl, hfz, hnd⟩ := hW
  have hA : DataW.TrodAll enc Try.prog W 0 (fun _ => true) true Try.f4.params.toList args.toList ds p := hA0
  rw [Try.params4] at hA hval hz
  obtain ⟨v0, vs0, d0, ds0, p0, q0, hargs, rfl, rfl, h0, r0⟩ := trodAll_cons hA
  obtain ⟨v1, vs1, d1, ds1, p1, q1, rfl, rfl, rfl, h1, r1⟩ := trodAll_cons r0
  obtain ⟨v2, vs2, d2, ds2, p2, q2, rfl, rfl, rfl, h2, r2⟩ := trodAll_cons r1
  obtain ⟨rfl, rfl, rfl⟩ := trodAll_nil r2
  obtain rfl : args = #[v0, v1, v2] := by cases args; simp_all
  obtain ⟨rfl, rfl⟩ := trodVars_none hV
  obtain ⟨x0, rfl, rfl, rfl, w0⟩ := open_string Try.underlying9 (hval 0 9 v0 rfl rfl) h0
  have b0 : x0.size ≤ 140737488351232 := by have := sized_string hz (j := 0) (t := 9) rfl rfl; simpa [reachBytes] using this
  obtain ⟨x1, rfl, rfl, rfl, w1⟩ := open_int Try.underlying3 (hval 1 3 v1 rfl rfl) h1
  have b1 := i64_of_wf w1
  obtain ⟨x2, rfl, rfl, rfl, w2⟩ := open_int Try.underlying3 (hval 2 3 v2 rfl rfl) h2
  have b2 := i64_of_wf w2
  have hbs : x0.size ≤ 1048576 := by
    have h := of_decide_eq_true hk
    simp only [List.append_nil, Rows.uptoBulkAll, Rows.uptoBulk] at h
    have e0 : x0.data.toList.length = x0.size := by simp
    omega
  clear hA0
  refine (walk x0 x1 x2 W hbs b1 b2).mono fun e W' ⟨he, hb⟩ => ?_
  subst he
  exact ⟨_, rfl, law_end hW' rfl rfl hb laidOut (by kernel_rfl) (by kernel_rfl) Try.underlying4⟩

theorem reads (os : Os) {H : Type} (enc : TypeId × Value → H) : ∃ places, DataW.whole enc Try.prog ((World.holding Try.prog os ⟨#[], #[], []⟩).forCall (fun _ _ => 0) ⟨#[], #[.string ⟨#[]⟩, .int .i64 0, .int .i64 0], []⟩).memory Try.f4.params.toList Rows.splitsRecordsSpec.vars false [Value.string ⟨#[]⟩, Value.int .i64 0, Value.int .i64 0] 8 = some ([.lit (.string []), .lit (.int .i64 0), .lit (.int .i64 0)], [], places) :=
  ⟨[], by kernel_rfl⟩

set_option maxRecDepth 100000 in
theorem lifted (os : Os) (started : os.Started) (H : Type) (enc : TypeId × Value → H) (F : Stop.Interp) :
    ReturnsInHanded {} Try.checked os 4 .any ((Rows.OpenSpec.upto Rows.splitsRecordsSpec).preRow enc Try.prog Try.f4 Rows.splitsRecordsUptoRow.domain false Rows.splitsRecordsUptoRow.laid) (((Rows.OpenSpec.upto Rows.splitsRecordsSpec).at F).post enc Try.prog Try.f4 false true false false) := by
  obtain ⟨places, hx⟩ := reads os enc
  have laid_met : laidMet Try.prog Rows.splitsRecordsUptoRow.laid ((World.holding Try.prog os ⟨#[], #[], []⟩).forCall (fun _ _ => 0) ⟨#[], #[.string ⟨#[]⟩, .int .i64 0, .int .i64 0], []⟩).memory := ⟨[], rfl, List.nodup_nil, fun _ _ h => by cases h⟩
  refine returnsInHanded_of_row (C := Try.checked) (s := Rows.OpenSpec.upto Rows.splitsRecordsSpec) own started (by kernel_rfl) Try.func4
    (witness_row_at (enc := enc) (C := Try.checked) false (World.holding Try.prog os ⟨#[], #[], []⟩) #[.string ⟨#[]⟩, .int .i64 0, .int .i64 0] rfl (by kernel_rfl) (by kernel_rfl) (by kernel_rfl)
      (OpenSpec.preRow_of_cond 8 hx (by kernel_rfl) (fun k hk => by cases hk; kernel_rfl) (by kernel_rfl) laid_met)) ?_
  intro W base args ds gs before hval hW _ hcond hz _ _ _
  exact contractUpto H enc W base args ds gs before hval hW hz (hcond _ rfl)

theorem said : Rows.SplitsRecordsUptoSaid :=
  OpenClaim.holds_of_cond 4 Try.f4 rfl rfl rfl rfl rfl rfl rfl ⟨rfl, rfl, rfl, rfl, rfl⟩ rfl rfl rfl rfl rfl (by kernel_rfl) Try.func4 (by kernel_rfl)
    (of_decide_eq_true (by kernel_rfl)) (by unfold Func.isWrapper; first | (rw [if_pos (by decide +kernel)]; kernel_rfl) | (rw [if_neg (by decide +kernel)]; exact ⟨rfl, rfl⟩))
    (fun os started H enc _ F => by rw [OpenClaim.pre_eq_preRow]; exact lifted os started H enc F)

end Go.Proofs.Ytijefbpgpehmfaa.fnSplitsRecords
