/- SplitsAll, where what it reads is bounded: the records of all splits are all lines, each once, in order, whatever the splits' size. -/
import Derived.Test.YtijefbpgpehmfaaSplSpk
import Derived.Test.YtijefbpgpehmfaaSplRec
import Derived.Test.YtijefbpgpehmfaaSplAllM
import Derived.Test.YtijefbpgpehmfaaSplOpen
import Derived.BigQuiet

import Derived.Test.YtijefbpgpehmfaaLawEnd

import Derived.Test.YtijefbpgpehmfaaPlainKit

namespace Go.Proofs.Ytijefbpgpehmfaa.fnSplitsAll
open Go.ChangeShapes Go.WideShapes Go.ChangeAt Go.RowKit Go.WideMaps Go.WideElems
open Go.ChangeMaps (open_string)

theorem recCells_len (s : ByteArray) (xs : List (Nat × Nat)) : (recCells s xs).length = xs.length * 2 := by
  induction xs with
  | nil => rfl
  | cons x xs ih =>
    show ([_, _] ++ recCells s xs).length = _
    rw [List.length_append, ih]
    simp only [List.length_cons, List.length_nil]
    omega
theorem recCells_at (s : ByteArray) : ∀ (xs : List (Nat × Nat)) (j : Nat) (h : j < xs.length), (recCells s xs)[j * 2]? = some (.int .i64 (xs[j].1 : Int)) ∧ (recCells s xs)[j * 2 + 1]? = some (.string (s.extract xs[j].1 xs[j].2))
  | [], j, h => by simp at h
  | x :: xs, 0, h => ⟨rfl, rfl⟩
  | x :: xs, j + 1, h => by
    have := recCells_at s xs j (by simpa using h)
    rw [show (j + 1) * 2 = j * 2 + 2 by omega]
    exact this
theorem row_cells {w : World} {B : Nat} {e : TypeId} {sz k : Nat} {v : Value} {xs : List Value} (hx : xs.length = k * sz) (ho : w.ownsRow B e sz v k xs) : ∃ (A : Option Addr) (cap : Nat), v = .slice A k cap ∧ ∀ j u, xs[j]? = some u → ∃ g, A = some ⟨g, 0, none⟩ ∧ w.cell? ⟨g, j, none⟩ = some u := by
  obtain ⟨A, cap, h1, _, h3⟩ := planIs_of (w := w) (n := 0) (w' := w) (x := .returned v) hx ⟨v, rfl, ho, Below.refl _ _⟩
  injection h1 with h1
  exact ⟨A, cap, h1, fun j u hj => by obtain ⟨g, e, _, hc⟩ := h3 j u hj; exact ⟨g, e, hc⟩⟩
theorem isEmpty_no {R : ByteArray} (h : 0 < R.size) : R.toList.isEmpty = false := by
  rw [ByteArray.toList_eq]
  cases hc : R.data.toList with
  | nil =>
    have e1 : R.data.toList.length = 0 := by rw [hc]; rfl
    have e2 : R.data.toList.length = R.size := by simp
    omega
  | cons x r => rfl
theorem isEmpty_yes {R : ByteArray} (h : R.size = 0) : R.toList.isEmpty = true := by
  rw [ByteArray.toList_eq]
  have e2 : R.data.toList.length = R.size := by simp
  rw [List.eq_nil_of_length_eq_zero (by omega : R.data.toList.length = 0)]; rfl
def bs (xs : List ByteArray) : List (List UInt8) := xs.map fun x => x.data.toList
/-- no newline in it -/
def Clean (x : ByteArray) : Prop := (10 : UInt8) ∉ x.data.toList
/-- what the text is behind i lines -/
def DI (xs : List ByteArray) (i : Nat) (D : ByteArray) : Prop :=
  (∀ x ∈ xs.take i, Clean x) ∧ D.size ≤ bulkT (xs.take i) ∧ (D.data.toList = catN (bs (xs.take i)) ∨ (i = xs.length ∧ Joined D.data.toList (bs xs)))
theorem bulk_take (xs : List ByteArray) (i : Nat) (hi : i < xs.length) : bulkT (xs.take (i + 1)) = bulkT (xs.take i) + xs[i].size + 1 := by
  induction xs generalizing i with
  | nil => simp at hi
  | cons x xs ih =>
    cases i with
    | zero => simp [bulkT]
    | succ i =>
      have := ih i (by simpa using hi)
      simp only [List.take_succ_cons, bulkT, List.getElem_cons_succ]
      omega
theorem bulk_le (xs : List ByteArray) : ∀ i, bulkT (xs.take i) ≤ bulkT xs := by
  induction xs with
  | nil => intro i; simp [bulkT]
  | cons x xs ih =>
    intro i
    cases i with
    | zero => simp [bulkT]
    | succ i => simp only [List.take_succ_cons, bulkT]; have := ih i; omega
theorem bulk_len (xs : List ByteArray) : xs.length ≤ bulkT xs := by
  induction xs with
  | nil => simp [bulkT]
  | cons x xs ih => simp only [bulkT, List.length_cons]; omega
theorem bulk_mem (xs : List ByteArray) (i : Nat) (h : i < xs.length) : xs[i].size ≤ bulkT xs := by
  have h1 := bulk_take xs i h
  have h2 := bulk_le xs (i + 1)
  omega
theorem DI.start (xs : List ByteArray) : DI xs 0 ⟨#[]⟩ := ⟨fun x hx => by simp at hx, Nat.zero_le _, .inl rfl⟩
theorem take_snoc (xs : List ByteArray) (i : Nat) (h : i < xs.length) : xs.take (i + 1) = xs.take i ++ [xs[i]] := by rw [List.take_succ_eq_append_getElem h]
theorem DI.clean {xs : List ByteArray} {i : Nat} (h : ∀ x ∈ xs.take i, Clean x) (hi : i < xs.length) (hc : Clean xs[i]) : ∀ x ∈ xs.take (i + 1), Clean x := by
  intro x hx
  rw [take_snoc xs i hi] at hx
  rcases List.mem_append.1 hx with hx | hx
  · exact h x hx
  · rw [List.mem_singleton.1 hx]; exact hc
theorem bs_clean {xs : List ByteArray} (h : ∀ x ∈ xs, Clean x) : ∀ x ∈ bs xs, (10 : UInt8) ∉ x := by
  intro x hx
  obtain ⟨y, hy, rfl⟩ := List.mem_map.1 hx
  exact h y hy
theorem app_list (a b : ByteArray) : (a ++ b).data.toList = a.data.toList ++ b.data.toList := by simp
theorem DI.closed {xs : List ByteArray} {i : Nat} {D : ByteArray} (h : DI xs i D) (hi : i < xs.length) (hc : Clean xs[i]) : DI xs (i + 1) (D ++ xs[i] ++ ⟨#[10]⟩) := by
  obtain ⟨h1, h2, h3⟩ := h
  refine ⟨DI.clean h1 hi hc, ?_, .inl ?_⟩
  · rw [bulk_take xs i hi, ByteArray.size_append, ByteArray.size_append]
    show D.size + xs[i].size + 1 ≤ _
    omega
  · rcases h3 with h3 | ⟨h3, _⟩
    · rw [take_snoc xs i hi, bs, List.map_append, List.map_cons, List.map_nil, catN_snoc, app_list, app_list, h3]
      rfl
    · omega
theorem DI.openly {xs : List ByteArray} {i : Nat} {D : ByteArray} (h : DI xs i D) (hi : i < xs.length) (hc : Clean xs[i]) (hl : i + 1 = xs.length) (h0 : 0 < xs[i].size) : DI xs (i + 1) (D ++ xs[i]) := by
  obtain ⟨h1, h2, h3⟩ := h
  refine ⟨DI.clean h1 hi hc, ?_, .inr ⟨hl, ?_⟩⟩
  · rw [bulk_take xs i hi, ByteArray.size_append]
    omega
  · rcases h3 with h3 | ⟨h3, _⟩
    · have e : bs xs = bs (xs.take i) ++ [xs[i].data.toList] := by
        have h4 := take_snoc xs i hi
        rw [hl, List.take_length] at h4
        conv => lhs; rw [h4]
        rw [bs, List.map_append]
        rfl
      rw [app_list, h3, e]
      refine joined_open _ _ (bs_clean h1) hc (fun e => ?_)
      have : xs[i].data.toList.length = xs[i].size := by simp
      rw [e] at this
      simp at this
      omega
    · omega
theorem DI.fin {xs : List ByteArray} {i : Nat} {D : ByteArray} (h : DI xs i D) (hi : i = xs.length) : Joined D.data.toList (bs xs) ∧ D.size ≤ bulkT xs := by
  subst hi
  obtain ⟨h1, h2, h3⟩ := h
  rw [List.take_length] at h1 h2 h3
  refine ⟨?_, h2⟩
  rcases h3 with h3 | ⟨_, h3⟩
  · rw [h3]; exact joined_closed _ (bs_clean h1)
  · exact h3
/-- where the i-th split begins -/
def cfn (n : Nat) (want : Int) (i : Nat) : Nat := min (i * plW n want) n
theorem plan_cf (n : Nat) (want : Int) : (∀ i, i < plN n want → (plR n want)[2 * i]? = some (.int .i64 (cfn n want i : Int)) ∧ (plR n want)[2 * i + 1]? = some (.int .i64 (cfn n want (i + 1) : Int))) ∧ cfn n want 0 = 0 ∧ cfn n want (plN n want) = n ∧ (∀ i, cfn n want i ≤ cfn n want (i + 1)) ∧ ∀ i, cfn n want i ≤ n := by
  have hle : ∀ i, cfn n want i ≤ n := fun i => by unfold cfn; omega
  have hm : ∀ i, cfn n want i ≤ cfn n want (i + 1) := fun i => by unfold cfn; rw [Nat.add_mul]; omega
  rcases Nat.eq_zero_or_pos n with h | h
  · subst h
    have e : plN ((0 : Nat) : Int) want = 0 := by unfold plN; rw [if_pos (by omega)]
    rw [e]
    exact ⟨fun i hi => absurd hi (Nat.not_lt_zero _), by simp [cfn], by simp [cfn], hm, hle⟩
  · have e1 : plN (n : Int) want = plK n (plW n want) := by unfold plN; rw [if_neg (by omega)]; rfl
    have e2 : plR (n : Int) want = plRow n (plW n want) (plK n (plW n want)) := by unfold plR; rw [if_neg (by omega)]; rfl
    rw [e1, e2]
    have hW := plW_pos n want
    refine ⟨fun i hi => ⟨?_, plRow_odd _ _ _ i hi⟩, by simp [cfn], ?_, hm, hle⟩
    · rw [plRow_even _ _ _ i hi]
      have := (pl_lt n (plW n want) i hW h).1 hi
      unfold cfn
      rw [Nat.min_eq_left (by omega)]
    · have := pl_last n (plW n want) hW h
      unfold cfn
      omega
set_option maxRecDepth 100000 in
set_option maxHeartbeats 8000000 in
theorem walk (A : Option Addr) (cap : Nat) (xs : List ByteArray) (want : Int) (op : Bool) (w : World) (hT : TxIs w w.heap.size A xs) (hbk : bulkT xs ≤ 1048576) (hw : -9223372036854775808 ≤ want ∧ want ≤ 9223372036854775807) :
    Calls Try.prog 5 #[.slice A xs.length cap, .int .i64 want, .bool op] w fun e w' => e = .returned (.bool true) ∧ Below w.heap.size w w' := by
  have hsp := fun w => speaks18_any w
  have HT := Lib.hid hT
  have hN := bulk_len xs
  obtain ⟨N, hNe⟩ : ∃ N, N = xs.length := ⟨_, rfl⟩
  have HN := Lib.hid hNe
  rw [← hNe] at hN ⊢
  clear hT hNe
  go_enter Try.func5, Try.ntmps5
  go_wp2_with (fail)
  refine (hsp _).mono ?_
  rintro e w1 ⟨rfl, hb1⟩
  have HB1 := Lib.hid hb1
  clear hb1 hsp
  go_wp2
  go_loopw [7, 8] (fun dv iv wr => ∃ (i : Nat) (D : ByteArray), i ≤ N ∧ iv = .int .i64 (i : Int) ∧ dv = .string D ∧ Hid (DI xs i D) ∧ w1 = wr) (fun _ iv _ => N - (intOf iv).toNat)
  case atStart => exact ⟨0, _, Nat.zero_le _, rfl, rfl, Lib.hid (DI.start xs), rfl⟩
  case round =>
    obtain ⟨i, D, hi, rfl, rfl, HD, rfl⟩ := hrel
    by_cases hlt : i < N
    · have hix : i < xs.length := by have := HN.out; omega
      obtain ⟨b, off, rfl, hbl, hc0⟩ := (HT.out.below HB1.out) i hix
      obtain ⟨X, hX⟩ : ∃ X, X = xs[i] := ⟨_, rfl⟩
      rw [← hX] at hc0
      have hXs : X.size ≤ 1048576 := by rw [hX]; have := bulk_mem xs i hix; omega
      have hDs : D.size ≤ 1048576 := by have h1 := HD.out.2.1; have h2 := bulk_le xs i; omega
      have HX := Lib.hid hX
      have HBL := Lib.hid hbl
      clear hX hbl
      have es := size_list X
      go_wp2
      go_loopw [9] (fun kv wr => ∃ k : Nat, k ≤ X.size ∧ kv = .int .i64 (k : Int) ∧ Hid (∀ m, m < k → X.data.toList[m]? ≠ some 10) ∧ w1 = wr) (fun kv _ => X.size - (intOf kv).toNat)
      case atStart => exact ⟨0, Nat.zero_le _, rfl, Lib.hid (fun m h => absurd h (Nat.not_lt_zero _)), rfl⟩
      case round =>
        obtain ⟨k, hk, rfl, HK, rfl⟩ := hrel
        by_cases hkl : k < X.size
        · have hsi : X.data.toList[k]? = some X[k] := by
            rw [List.getElem?_eq_getElem (by omega), Array.getElem_toList]
            rfl
          by_cases hb : X[k] = 10
          · have t1 : ((X[k].toNat : Int) == 10) = true := by rw [hb]; rfl
            clear hsi hb
            go_wp2
            go_ret
            exact ⟨rfl, HB1.out⟩
          · have t1 : ((X[k].toNat : Int) == 10) = false := beq_eq_false_iff_ne.2 (fun e => hb (UInt8.toNat_inj.1 (by rw [show (10 : UInt8).toNat = 10 from rfl]; omega)))
            have HK2 : Hid (∀ m, m < k + 1 → X.data.toList[m]? ≠ some 10) := Lib.hid fun m h => by
              rcases Nat.lt_or_ge m k with h1 | h1
              · exact HK.out m h1
              · obtain rfl : m = k := by omega
                rw [hsi]
                intro e
                injection e with e
                exact hb e
            clear hsi hb
            go_wp2
            go_roundw
            case rel => exact ⟨k + 1, by omega, by first | rfl | go_num, HK2, by first | rfl | trivial⟩
            case measure => simp [intOf]; omega
        · have hcl : Clean xs[i] := by
            rw [← HX.out]
            intro hm
            obtain ⟨m, hm1, hm2⟩ := List.mem_iff_getElem.1 hm
            have hkk : k = X.size := by omega
            exact HK.out m (by omega) (by rw [List.getElem?_eq_getElem hm1, hm2])
          have HCL := Lib.hid hcl
          clear hcl
          have cases4 : i + 1 < N ∨ (i + 1 = N ∧ op = false) ∨ (i + 1 = N ∧ op = true ∧ X.size = 0) ∨ (i + 1 = N ∧ op = true ∧ 0 < X.size) := by
            rcases Nat.lt_or_ge (i + 1) N with h | h
            · exact .inl h
            · have h1 : i + 1 = N := by omega
              cases hop : op with
              | false => exact .inr (.inl ⟨h1, rfl⟩)
              | true =>
                rcases Nat.eq_zero_or_pos X.size with h2 | h2
                · exact .inr (.inr (.inl ⟨h1, rfl, h2⟩))
                · exact .inr (.inr (.inr ⟨h1, rfl, h2⟩))
          rcases cases4 with q1 | ⟨q1, rfl⟩ | ⟨q1, rfl, q3⟩ | ⟨q1, rfl, q3⟩
          · have a1 : ¬ (9223372036854775807 < D.size + X.size) := by omega
            have a2 : ¬ (9223372036854775807 < (D ++ X).size + 1) := by rw [ByteArray.size_append]; omega
            have HD2 : Hid (DI xs (i + 1) (D ++ X ++ ⟨#[10]⟩)) := Lib.hid (by rw [HX.out]; exact HD.out.closed hix HCL.out)
            go_wp2
            go_roundw
            case rel => exact ⟨i + 1, _, by omega, by first | rfl | go_num, rfl, HD2, by first | rfl | trivial⟩
            case measure => simp [intOf]; omega
          · have a1 : ¬ (9223372036854775807 < D.size + X.size) := by omega
            have a2 : ¬ (9223372036854775807 < (D ++ X).size + 1) := by rw [ByteArray.size_append]; omega
            have HD2 : Hid (DI xs (i + 1) (D ++ X ++ ⟨#[10]⟩)) := Lib.hid (by rw [HX.out]; exact HD.out.closed hix HCL.out)
            go_wp2
            go_roundw
            case rel => exact ⟨i + 1, _, by omega, by first | rfl | go_num, rfl, HD2, by first | rfl | trivial⟩
            case measure => simp [intOf]; omega
          · have a1 : ¬ (9223372036854775807 < D.size + X.size) := by omega
            have a2 : ¬ (9223372036854775807 < (D ++ X).size + 1) := by rw [ByteArray.size_append]; omega
            have HD2 : Hid (DI xs (i + 1) (D ++ X ++ ⟨#[10]⟩)) := Lib.hid (by rw [HX.out]; exact HD.out.closed hix HCL.out)
            have t9 := isEmpty_yes q3
            go_wp2
            go_roundw
            case rel => exact ⟨i + 1, _, by omega, by first | rfl | go_num, rfl, HD2, by first | rfl | trivial⟩
            case measure => simp [intOf]; omega
          · have a1 : ¬ (9223372036854775807 < D.size + X.size) := by omega
            have a2 : ¬ (9223372036854775807 < (D ++ X).size + 1) := by rw [ByteArray.size_append]; omega
            have HD2 : Hid (DI xs (i + 1) (D ++ X)) := Lib.hid (by rw [HX.out]; exact HD.out.openly hix HCL.out (by rw [← HN.out]; exact q1) (by rw [← HX.out]; exact q3))
            have t9 := isEmpty_no q3
            go_wp2
            go_roundw
            case rel => exact ⟨i + 1, _, by omega, by first | rfl | go_num, rfl, HD2, by first | rfl | trivial⟩
            case measure => simp [intOf]; omega
    · have hiN : i = xs.length := by have := HN.out; omega
      obtain ⟨hj, hsz⟩ := HD.out.fin hiN
      have hDs : D.size ≤ 1048576 := by omega
      have hplan := fun w => plan_int (D.size : Int) want (by omega) hw.2 w
      obtain ⟨K, hK⟩ : ∃ K, K = plN (D.size : Int) want := ⟨_, rfl⟩
      have hK2 : K ≤ 256 := by rw [hK]; exact plN_le _ _
      have hcf := plan_cf D.size want
      obtain ⟨R, hR⟩ : ∃ R, R = plR (D.size : Int) want := ⟨_, rfl⟩
      rw [← hK, ← hR] at hplan hcf
      obtain ⟨F, hF⟩ : ∃ F, F = cfn D.size want := ⟨_, rfl⟩
      rw [← hF] at hcf
      have HCF := Lib.hid hcf
      have HJ := Lib.hid hj
      clear hK hR hF hcf hj
      go_wp2_with (fail)
      refine (hplan _).mono ?_
      rintro e w2 ⟨A2, cap2, rfl, hb2, hc2⟩
      have HB2 := Lib.hid (HB1.out.trans (hb2.mono HB1.out.size))
      have HC2 : Hid (∀ i, i < K → ∃ g, A2 = some ⟨g, 0, none⟩ ∧ g < w2.heap.size ∧ w2.cell? ⟨g, i * 2, none⟩ = some (.int .i64 (F i : Int)) ∧ w2.cell? ⟨g, i * 2 + 1, none⟩ = some (.int .i64 (F (i + 1) : Int))) := Lib.hid fun i hi => by
        obtain ⟨h1, h2⟩ := HCF.out.1 i hi
        obtain ⟨g, rfl, _, k1⟩ := hc2 _ _ h1
        obtain ⟨g', e, _, k2⟩ := hc2 _ _ h2
        injection e with e
        injection e with e
        subst e
        rw [Nat.mul_comm] at k1 k2
        exact ⟨g, rfl, cell_lt18 k1, k1, k2⟩
      clear hb2 hc2 hplan
      go_wp2
      clear hlt hi HD
      obtain ⟨L, hL⟩ : ∃ L, L = D.data.toList := ⟨_, rfl⟩
      have HL := Lib.hid hL
      have hNe : aheadL L (F K : Int) = N := by
        rw [HCF.out.2.2.1, hL, HN.out]
        have h1 := ahead_all D.data.toList
        rw [size_list] at h1
        rw [h1, HJ.out.1]
        simp [bs]
      have HNE := Lib.hid hNe
      have hst : aheadL L (F 0 : Int) = 0 := by rw [HCF.out.2.1]; exact ahead_zero L
      clear hL hNe
      go_loopw [10, 12] (fun nv iv wr => ∃ i : Nat, i ≤ K ∧ iv = .int .i64 (i : Int) ∧ nv = .int .i64 (aheadL L (F i : Int) : Int) ∧ Hid (Below w2.heap.size w2 wr)) (fun _ iv _ => K - (intOf iv).toNat)
      case atStart => exact ⟨0, Nat.zero_le _, rfl, by rw [hst]; rfl, Lib.hid (Below.refl _ _)⟩
      case round =>
        clear hst
        obtain ⟨i, hi, rfl, rfl, HW⟩ := hrel
        by_cases hlt : i < K
        · obtain ⟨g, rfl, hg, c1, c2⟩ := HC2.out i hlt
          have d1 := (HW.out.cell (p := ⟨g, i * 2, none⟩) hg).trans c1
          have d2 := (HW.out.cell (p := ⟨g, i * 2 + 1, none⟩) hg).trans c2
          have hFi := HCF.out.2.2.2.1 i
          have hF1 := HCF.out.2.2.2.2 i
          have hF2 := HCF.out.2.2.2.2 (i + 1)
          have hg2 : Hid (g < wr.heap.size) := Lib.hid (by have := HW.out.size; omega)
          have hrec := fun w => records_any D (by omega) (F i : Int) (F (i + 1) : Int) (by omega) (by omega) w
          have hcnt := rec_count L (F i : Int) (F (i + 1) : Int)
          have hmono := ahead_mono L (c := (F i : Int)) (d := (F (i + 1) : Int)) (by omega)
          have hle := recL_le L (F i : Int) (F (i + 1) : Int)
          have hLLN : (linesFrom L 0).length = N := by rw [HL.out, HJ.out.1, HN.out]; simp [bs]
          have hAN : aheadL L (F i : Int) ≤ N := by rw [← hLLN]; exact (List.takeWhile_sublist _).length_le
          obtain ⟨bb, hbb⟩ : ∃ bb, bb = aheadL L (F i : Int) := ⟨_, rfl⟩
          obtain ⟨b2, hb2e⟩ : ∃ b2, b2 = aheadL L (F (i + 1) : Int) := ⟨_, rfl⟩
          have hat : ∀ j (hj : j < (recL L (F i : Int) (F (i + 1) : Int)).length), bb + j < N ∧ ∃ y : Nat × Nat, (recL L (F i : Int) (F (i + 1) : Int))[j] = y ∧ ¬ (y.1 : Int) < (F i : Int) ∧ (y.1 : Int) < (F (i + 1) : Int) ∧ ∀ (h : bb + j < xs.length), D.extract y.1 y.2 = xs[bb + j] := by
            intro j hj
            have hjN : bb + j < (linesFrom L 0).length := by rw [hbb]; omega
            obtain ⟨k1, k2⟩ := recL_at L (F i : Int) (F (i + 1) : Int) (bb + j) hjN
            obtain ⟨k3, k4⟩ := k2 (by rw [← hbb]; omega)
            have e1 : bb + j - aheadL L (F i : Int) = j := by rw [← hbb]; omega
            have k5 := k4 (by rw [e1]; exact hj)
            simp only [e1] at k3 k5
            refine ⟨by omega, _, k5, fun h => ?_, k3.2 hj, fun h => ?_⟩
            · have := k1.1 h
              rw [← hbb] at this
              omega
            · have k6 := HJ.out.2 (bb + j) (by simpa [bs] using h) (by rw [← HL.out]; exact hjN)
              apply ByteArray.ext
              apply Array.toList_inj.1
              simp only [ByteArray.data_extract, Array.toList_extract, List.extract_eq_take_drop]
              have hLe := HL.out
              subst hLe
              rw [k6]
              simp [bs]
          rw [← HL.out] at hrec
          rw [← hbb] at hcnt hmono hle hAN ⊢
          rw [← hb2e] at hcnt hmono
          generalize recL L (F i : Int) (F (i + 1) : Int) = RL at hrec hcnt hle hat
          have HAT := Lib.hid hat
          have HB2E := Lib.hid hb2e
          clear c1 c2 hat hbb hb2e
          go_wp2_with (fail)
          refine (hrec _).mono ?_
          rintro e w4 ⟨v, rfl, ho, hb4⟩
          obtain ⟨A3, cap3, rfl, h3⟩ := row_cells (recCells_len D RL) ho
          obtain ⟨r, hr⟩ : ∃ r, r = RL.length := ⟨_, rfl⟩
          have HR := Lib.hid hr
          rw [← hr] at hcnt hle ⊢
          have HW4 := Lib.hid (HW.out.trans (hb4.mono HW.out.size))
          have f1 := (hb4.cell (p := ⟨g, i * 2, none⟩) hg2.out).trans d1
          have f2 := (hb4.cell (p := ⟨g, i * 2 + 1, none⟩) hg2.out).trans d2
          have H3 := Lib.hid h3
          have HTW := Lib.hid (HT.out.below (HB2.out.trans (HW4.out.mono HB2.out.size)))
          have HCNT := Lib.hid hcnt
          have hrb : r ≤ 1048576 := by omega
          have hbN : bb + r ≤ N := by omega
          clear d1 d2 hrec ho hb4 h3 hr HC2 hcnt hle
          go_wp2
          go_loopw [10, 14] (fun nv kv wr => ∃ k : Nat, k ≤ r ∧ kv = .int .i64 (k : Int) ∧ nv = .int .i64 ((bb + k : Nat) : Int) ∧ ∃ q, wr = w4.drewN q) (fun _ kv _ => r - (intOf kv).toNat)
          case atStart => exact ⟨0, Nat.zero_le _, rfl, rfl, 0, rfl⟩
          case round =>
            obtain ⟨k, hk, rfl, rfl, q, rfl⟩ := hrel
            by_cases hkr : k < r
            · have hkR : k < RL.length := by have := HR.out; omega
              obtain ⟨hbk2, y, hy, y1, y2, hyt⟩ := HAT.out k hkR
              have hbx : bb + k < xs.length := by have := HN.out; omega
              obtain ⟨m1, m2⟩ := recCells_at D RL k hkR
              obtain ⟨g3, rfl, n1⟩ := H3.out _ _ m1
              obtain ⟨g4, e, n2⟩ := H3.out _ _ m2
              injection e with e
              injection e with e
              subst e
              obtain ⟨bq, off, rfl, _, n3⟩ := HTW.out (bb + k) hbx
              rw [hy] at n1 n2
              rw [hyt hbx] at n2
              obtain ⟨X, hX⟩ : ∃ X, X = xs[bb + k] := ⟨_, rfl⟩
              rw [← hX] at n2 n3
              obtain ⟨yz, hyz⟩ : ∃ yz : Nat, yz = y.1 := ⟨_, rfl⟩
              rw [← hyz] at n1 y1 y2
              obtain ⟨j, hj⟩ : ∃ j, j = bb + k := ⟨_, rfl⟩
              rw [← hj] at n3 hbk2 ⊢
              have HJJ := Lib.hid hj
              have z1 : decide (N ≤ j) = false := decide_eq_false (by omega)
              have z2 : decide (yz < F i) = false := decide_eq_false (by omega)
              have z3 : decide (F (i + 1) ≤ yz) = false := decide_eq_false (by omega)
              have z4 : (decide (N ≤ j) || decide (yz < F i)) = false := by rw [z1, z2]; rfl
              clear hX hyz hy hyt m1 m2 hj hkR hbx
              go_wp2_with (fail)
              go_quiet (fail)
              go_wp2
              go_roundw
              case rel => exact ⟨k + 1, by omega, by go_num, by have := HJJ.out; rw [show bb + (k + 1) = j + 1 by omega]; first | rfl | go_num, _, rfl⟩
              case measure => simp [intOf]; omega
            · obtain rfl : k = r := by omega
              have hend : bb + k = aheadL L (F (i + 1) : Int) := by rw [HCNT.out, ← HB2E.out]; omega
              rw [hend]
              clear hend
              go_wp2
              go_roundw
              case rel => exact ⟨i + 1, by omega, by first | rfl | go_num, rfl, Lib.hid (below_drewN HW4.out q)⟩
              case measure => simp [intOf]; omega
        · obtain rfl : i = K := by omega
          rw [HNE.out]
          go_wp2
          go_ret
          exact ⟨rfl, HB2.out.trans (HW.out.mono HB2.out.size)⟩

set_option maxRecDepth 100000 in
theorem contractUpto (H : Type) (enc : TypeId × Value → H) (W : World) (base : Nat) (args : Array Value) (ds gs : List (DataW H)) (before : List MemPlace)
    (hval : ∀ (j : Nat) t v, Try.f5.params[j]? = some t → args[j]? = some v → Value.okWide Try.prog W .any base t v)
    (hW : DataW.Whole enc Try.prog Try.f5.params.toList Rows.splitsAllSpec.vars false W args.toList ds gs before)
    (hz : (DataW.weightsEach Try.prog (Try.f5.params.toList ++ []) (ds ++ gs)).all (· ≤ reachBytes) = true) (hk : Rows.uptoSmall H (ds ++ gs) = true) :
    Calls Try.prog 5 args W fun e W' => ∃ v, e = .returned v ∧ Rows.splitsAllSpec.post enc Try.prog Try.f5 false true false false W args v W' := by
  have hW' := hW
  obtain ⟨p, q, hA0, hV, rfl, hfz, hnd⟩ := hW
  have hA : DataW.TrodAll enc Try.prog W 0 (fun _ => true) true Try.f5.params.toList args.toList ds p := hA0
  rw [Try.params5] at hA hval hz
  obtain ⟨v0, vs0, d0, ds0, p0, q0, hargs, rfl, rfl, h0, r0⟩ := trodAll_cons hA
  obtain ⟨v1, vs1, d1, ds1, p1, q1, rfl, rfl, rfl, h1, r1⟩ := trodAll_cons r0
  obtain ⟨v2, vs2, d2, ds2, p2, q2, rfl, rfl, rfl, h2, r2⟩ := trodAll_cons r1
  obtain ⟨rfl, rfl, rfl⟩ := trodAll_nil r2
  obtain rfl : args = #[v0, v1, v2] := by cases args; simp_all
  obtain ⟨rfl, rfl⟩ := trodVars_none hV
  have hk0 : Rows.uptoBulk d0 ≤ 1048576 := by have h := of_decide_eq_true hk; simp only [List.append_nil, Rows.uptoBulkAll] at h; omega
  obtain ⟨A, cap, xs, rfl, hT, htot⟩ := open_txs (hval 0 32 v0 rfl rfl) h0 hk0
  obtain ⟨x1, rfl, rfl, rfl, w1⟩ := open_int Try.underlying3 (hval 1 3 v1 rfl rfl) h1
  have b1 := i64_of_wf w1
  obtain ⟨x2, rfl, rfl, rfl⟩ := open_bool Try.underlying4 (hval 2 4 v2 rfl rfl) h2
  clear hA0
  refine (walk A cap xs x1 x2 W hT htot b1).mono fun e W' ⟨he, hb⟩ => ?_
  subst he
  exact ⟨_, rfl, law_end hW' rfl rfl hb laidOut (by kernel_rfl) (by kernel_rfl) Try.underlying4⟩

theorem reads (os : Os) {H : Type} (enc : TypeId × Value → H) : ∃ places, DataW.whole enc Try.prog ((World.holding Try.prog os ⟨#[], #[], []⟩).forCall (fun _ _ => 0) ⟨#[], #[.slice none 0 0, .int .i64 0, .bool false], []⟩).memory Try.f5.params.toList Rows.splitsAllSpec.vars false [Value.slice none 0 0, Value.int .i64 0, Value.bool false] 8 = some ([.nil, .lit (.int .i64 0), .lit (.bool false)], [], places) :=
  ⟨[], by kernel_rfl⟩

set_option maxRecDepth 100000 in
theorem lifted (os : Os) (started : os.Started) (H : Type) (enc : TypeId × Value → H) (F : Stop.Interp) :
    ReturnsInHanded {} Try.checked os 5 .any ((Rows.OpenSpec.upto Rows.splitsAllSpec).preRow enc Try.prog Try.f5 Rows.splitsAllUptoRow.domain false Rows.splitsAllUptoRow.laid) (((Rows.OpenSpec.upto Rows.splitsAllSpec).at F).post enc Try.prog Try.f5 false true false false) := by
  obtain ⟨places, hx⟩ := reads os enc
  have laid_met : laidMet Try.prog Rows.splitsAllUptoRow.laid ((World.holding Try.prog os ⟨#[], #[], []⟩).forCall (fun _ _ => 0) ⟨#[], #[.slice none 0 0, .int .i64 0, .bool false], []⟩).memory := ⟨[], rfl, List.nodup_nil, fun _ _ h => by cases h⟩
  refine returnsInHanded_of_row (C := Try.checked) (s := Rows.OpenSpec.upto Rows.splitsAllSpec) own started (by kernel_rfl) Try.func5
    (witness_row_at (enc := enc) (C := Try.checked) false (World.holding Try.prog os ⟨#[], #[], []⟩) #[.slice none 0 0, .int .i64 0, .bool false] rfl (by kernel_rfl) (by kernel_rfl) (by kernel_rfl)
      (OpenSpec.preRow_of_cond 8 hx (by kernel_rfl) (fun k hk => by cases hk; kernel_rfl) (by kernel_rfl) laid_met)) ?_
  intro W base args ds gs before hval hW _ hcond hz _ _ _
  exact contractUpto H enc W base args ds gs before hval hW hz (hcond _ rfl)

theorem said : Rows.SplitsAllUptoSaid :=
  OpenClaim.holds_of_cond 5 Try.f5 rfl rfl rfl rfl rfl rfl rfl ⟨rfl, rfl, rfl, rfl, rfl⟩ rfl rfl rfl rfl rfl (by kernel_rfl) Try.func5 (by kernel_rfl)
    (of_decide_eq_true (by kernel_rfl)) (by unfold Func.isWrapper; first | (rw [if_pos (by decide +kernel)]; kernel_rfl) | (rw [if_neg (by decide +kernel)]; exact ⟨rfl, rfl⟩))
    (fun os started H enc _ F => by rw [OpenClaim.pre_eq_preRow]; exact lifted os started H enc F)

end Go.Proofs.Ytijefbpgpehmfaa.fnSplitsAll
