/- The reference's Lines: all lines of a text, and where each begins. -/
import Derived.Test.YtijefbpgpehmfaaSplFns
import Derived.Test.YtijefbpgpehmfaaSplPlanR
namespace Go.Proofs.Ytijefbpgpehmfaa
open Go.RowKit

theorem infoStrS : (Try.prog.info? 9).map (fun i => (i.zero, i.size, i.bytes)) = some (some (.string ⟨#[]⟩), 1, 16) := by kernel_rfl
def atV (x : Nat × Nat) : Value := .int .i64 (x.1 : Int)
def lineV (s : ByteArray) (x : Nat × Nat) : Value := .string (s.extract x.1 x.2)
/-- the two rows of the reference -/
def LinesR (w wr : World) (B : Nat) (s : ByteArray) (v1 v2 : Value) (pre : List (Nat × Nat)) : Prop :=
  wr.ownsRow B 3 1 v1 pre.length (pre.map atV) ∧ wr.ownsRow B 9 1 v2 pre.length (pre.map (lineV s)) ∧ Below B w wr
theorem rows_apart {W : World} {b b' sz sz' n n' : Nat} {e e' : TypeId} {v v' : Value} {xs xs' : List Value} (h : W.ownsRow b e sz v n xs) (h' : W.ownsRow b' e' sz' v' n' xs') (hne : e ≠ e') : v'.ownBlock = none ∨ v'.ownBlock ≠ v.ownBlock := by
  rcases h'.2 with ⟨rfl, _⟩ | ⟨g', cap', cur', rfl, _, hg', _⟩
  · exact .inl rfl
  · refine .inr fun e1 => ?_
    rcases h.2 with ⟨rfl, _⟩ | ⟨g, cap, cur, rfl, _, hg, _⟩
    · simp [Value.ownBlock] at e1
    · obtain rfl : g' = g := by simpa [Value.ownBlock] using e1
      have := hg.symm.trans hg'
      simp at this
      exact hne this.2
theorem one_cell (w : World) (u : Value) (t : TypeId) : ∀ j y, [u][j]? = some y → (w.alloc (.cells #[u] t)).cell? ((⟨w.heap.size, 0, none⟩ : Addr).add j) = some y := by
  intro j y hj
  match j, hj with
  | 0, hj => simp at hj; subst hj; simp [Addr.add]
/-- behind the first append -/
def LinesM (w wr : World) (B : Nat) (s : ByteArray) (v1 v2 : Value) (pre : List (Nat × Nat)) (x : Nat × Nat) : Prop :=
  wr.ownsRow B 3 1 v1 (pre.length + 1) ((pre ++ [x]).map atV) ∧ wr.ownsRow B 9 1 v2 pre.length (pre.map (lineV s)) ∧ Below B w wr
theorem LinesR.mid {w wr w2 : World} {B : Nat} {s : ByteArray} {v1 v2 v' : Value} {pre : List (Nat × Nat)} {x : Nat × Nat} {o : Obj} (hB : B = w.heap.size) (h : LinesR w wr B s v1 v2 pre) (hown : w2.ownsRow B 3 1 v' (pre.length + 1) (pre.map atV ++ [.int .i64 (x.1 : Int)])) (hg : (wr.alloc o).grownBy w2 v1.ownBlock) : LinesM w w2 B s v' v2 pre x := by
  refine ⟨by simpa [atV] using hown, (h.2.1.alloc o).kept hg ?_, pl_step h.2.2 (by omega) h.1 hg⟩
  exact rows_apart (h.1.alloc o) (h.2.1.alloc o) (by decide)
theorem LinesM.fin {w wr w2 : World} {B : Nat} {s : ByteArray} {v1 v2 v' : Value} {pre : List (Nat × Nat)} {x : Nat × Nat} {o : Obj} (hB : B = w.heap.size) (h : LinesM w wr B s v1 v2 pre x) (hown : w2.ownsRow B 9 1 v' (pre.length + 1) (pre.map (lineV s) ++ [.string (s.extract x.1 x.2)])) (hg : (wr.alloc o).grownBy w2 v2.ownBlock) : LinesR w w2 B s v1 v' (pre ++ [x]) := by
  refine ⟨?_, by simpa [lineV] using hown, pl_step h.2.2 (by omega) h.2.1 hg⟩
  have := (h.1.alloc o).kept hg (rows_apart (h.2.1.alloc o) (h.1.alloc o) (by decide))
  simpa using this
theorem lf_here {l : List UInt8} {a i : Nat} (ha : a < l.length) (hai : a ≤ i) (hi : i ≤ l.length) (hn : ∀ k, a ≤ k → k < i → l[k]? ≠ some 10) (h : i < l.length → l[i]? = some 10) : linesFrom l a = (a, i) :: linesFrom l (i + 1) := by
  have e : lnLen (l.drop a) = i - a := by
    refine ln_eq _ (by rw [List.length_drop]; omega) (fun k hk => ?_) (fun hk => ?_)
    · rw [List.getElem?_drop]; exact hn _ (by omega) (by omega)
    · rw [List.length_drop] at hk
      rw [List.getElem?_drop, show a + (i - a) = i by omega]
      exact h (by omega)
  rw [lf_cons ha, e, show a + (i - a) = i by omega]
/-- what a round knows -/
def LInv (l : List UInt8) (a i : Nat) (pre : List (Nat × Nat)) : Prop := a ≤ i ∧ i ≤ l.length ∧ linesFrom l 0 = pre ++ linesFrom l a ∧ ∀ k, a ≤ k → k < i → l[k]? ≠ some 10
def LinesPost (w : World) (s : ByteArray) (xs : List (Nat × Nat)) (e : Ending) (w' : World) : Prop := ∃ v1 v2, e = .returned (.tuple #[v1, v2]) ∧ LinesR w w' w.heap.size s v1 v2 xs
set_option maxRecDepth 100000 in
set_option maxHeartbeats 4000000 in
theorem rlines_any (s : ByteArray) (hs : s.size ≤ 1099511627776) (w : World) :
    Calls Try.prog 11 #[.string s] w (LinesPost w s (linesFrom s.data.toList 0)) := by
  obtain ⟨i0, hi, hz0, hz1, hz2⟩ := info_parts infoIntP
  obtain ⟨i1, hi1, hz01, hz11, hz21⟩ := info_parts infoStrS
  have es := size_list s
  obtain ⟨B, hB⟩ : ∃ B, B = w.heap.size := ⟨_, rfl⟩
  have HB := Lib.hid hB
  clear hB
  go_enter Try.func11, Try.ntmps11
  go_wp2
  go_loopw [4, 5, 6, 7] (fun v1 v2 av iv wr => ∃ (a i : Nat) (pre : List (Nat × Nat)), av = .int .i64 (a : Int) ∧ iv = .int .i64 (i : Int) ∧ Hid (LInv s.data.toList a i pre) ∧ Hid (LinesR w wr B s v1 v2 pre)) (fun _ _ _ iv _ => s.size - (intOf iv).toNat)
  case atStart => exact ⟨0, 0, [], rfl, rfl, Lib.hid ⟨Nat.le_refl _, Nat.zero_le _, rfl, fun k h1 h2 => by omega⟩, Lib.hid ⟨World.ownsRow_nil _ _ _ _, World.ownsRow_nil _ _ _ _, Below.refl _ _⟩⟩
  case round =>
    obtain ⟨a, i, pre, rfl, rfl, HI, HR⟩ := hrel
    have hai := HI.out.1
    have hpl : pre.length ≤ s.size := by
      have h1 := lf_len (l := s.data.toList) (a := 0)
      rw [HI.out.2.2.1, List.length_append, es] at h1
      omega
    have k3 : pre.length + 1 ≤ maxLen := by unfold maxLen; omega
    have k4 : (pre.length + 1) * 8 ≤ 140737488355328 := by omega
    have k5 : (pre.length + 1) * 16 ≤ 140737488355328 := by omega
    have hBz : B ≤ wr.heap.size := by have := HR.out.2.2.size; rw [HB.out]; exact Nat.le_trans (Nat.le_of_eq rfl) this
    have hown := HR.out.1
    by_cases hlt : i < s.size
    · have hle1 : i ≤ s.size := by omega
      have hle2 : (a : Int) ≤ (i : Int) := by omega
      have hle3 : (i : Int) ≤ (s.size : Int) := by omega
      have hsi : s.data.toList[i]? = some s[i] := by
        rw [List.getElem?_eq_getElem (by omega), Array.getElem_toList]
        rfl
      by_cases hb : s[i] = 10
      · have t1 : ((s[i].toNat : Int) == 10) = true := by rw [hb]; rfl
        have HI2 : Hid (LInv s.data.toList (i + 1) (i + 1) (pre ++ [(a, i)])) := Lib.hid ⟨Nat.le_refl _, by omega, by
          obtain ⟨h1, h2, h3, h4⟩ := HI.out
          rw [h3, lf_here (by omega) h1 h2 h4 (fun _ => by rw [hsi, hb])]
          simp, fun k h1 h2 => by omega⟩
        clear hsi hb
        go_wp2_with (at_builtin; refine wpList_append_own _ rfl _ _ 25 rfl B 3 i0 _ 1 8 Try.underlying25 hi hz0 hz1 hz2 rfl (by decide) _ _ _ rfl (hown.alloc _) ⟨wr.heap.size, 0, none⟩ 1 1 [.int .i64 (a : Int)] rfl rfl (one_cell _ _ _) (by simp [Value.oneCell']) k3 k4 (by simp; omega) ?_)
        intro v' w2 hown' hgrow' _
        have HM := Lib.hid (LinesR.mid (x := (a, i)) HB.out HR.out hown' hgrow')
        have hBz2 : B ≤ w2.heap.size := by have := HM.out.2.2.size; rw [HB.out]; exact Nat.le_trans (Nat.le_of_eq rfl) this
        clear hown hown' hgrow' HR
        have hown2 := HM.out.2.1
        go_wp2_with (at_builtin; refine wpList_append_own _ rfl _ _ 32 rfl B 9 i1 _ 1 16 Try.underlying32 hi1 hz01 hz11 hz21 rfl (by decide) _ _ _ rfl (hown2.alloc _) ⟨w2.heap.size, 0, none⟩ 1 1 [.string (s.extract a i)] rfl rfl (one_cell _ _ _) (by simp [Value.oneCell']) k3 k5 (by simp; omega) ?_)
        intro v'' w3 hown' hgrow' _
        have HF := Lib.hid (LinesM.fin HB.out HM.out hown' hgrow')
        clear hown2 hown' hgrow' HM
        go_wp2
        go_roundw
        case rel => exact ⟨i + 1, i + 1, _, by first | rfl | go_num, by first | rfl | go_num, HI2, HF⟩
        case measure => simp [intOf]; omega
      · have t1 : ((s[i].toNat : Int) == 10) = false := beq_eq_false_iff_ne.2 (fun e => hb (UInt8.toNat_inj.1 (by rw [show (10 : UInt8).toNat = 10 from rfl]; omega)))
        have HI2 : Hid (LInv s.data.toList a (i + 1) pre) := Lib.hid ⟨by omega, by omega, HI.out.2.2.1, fun k h1 h2 => by
          rcases Nat.lt_or_ge k i with h | h
          · exact HI.out.2.2.2 k h1 h
          · obtain rfl : k = i := by omega
            rw [hsi]
            intro e
            injection e with e
            exact hb e⟩
        clear hsi hb
        go_wp2
        go_roundw
        case rel => exact ⟨a, i + 1, _, rfl, by first | rfl | go_num, HI2, HR⟩
        case measure => simp [intOf]; omega
    · obtain rfl : i = s.size := by have := HI.out.2.1; omega
      by_cases ha : a < s.size
      · have he : linesFrom s.data.toList 0 = pre ++ [(a, s.size)] := by
          obtain ⟨h1, h2, h3, h4⟩ := HI.out
          rw [h3, lf_here (by omega) h1 h2 h4 (fun h => by omega), lf_nil (by omega)]
        have HE := Lib.hid he
        have hle1 : a ≤ s.size := by omega
        have hle2 : (a : Int) ≤ (s.size : Int) := by omega
        clear he
        go_wp2_with (at_builtin; refine wpList_append_own _ rfl _ _ 25 rfl B 3 i0 _ 1 8 Try.underlying25 hi hz0 hz1 hz2 rfl (by decide) _ _ _ rfl (hown.alloc _) ⟨wr.heap.size, 0, none⟩ 1 1 [.int .i64 (a : Int)] rfl rfl (one_cell _ _ _) (by simp [Value.oneCell']) k3 k4 (by simp; omega) ?_)
        intro v' w2 hown' hgrow' _
        have HM := Lib.hid (LinesR.mid (x := (a, s.size)) HB.out HR.out hown' hgrow')
        have hBz2 : B ≤ w2.heap.size := by have := HM.out.2.2.size; rw [HB.out]; exact Nat.le_trans (Nat.le_of_eq rfl) this
        clear hown hown' hgrow' HR
        have hown2 := HM.out.2.1
        go_wp2_with (at_builtin; refine wpList_append_own _ rfl _ _ 32 rfl B 9 i1 _ 1 16 Try.underlying32 hi1 hz01 hz11 hz21 rfl (by decide) _ _ _ rfl (hown2.alloc _) ⟨w2.heap.size, 0, none⟩ 1 1 [.string (s.extract a s.size)] rfl rfl (one_cell _ _ _) (by simp [Value.oneCell']) k3 k5 (by simp; omega) ?_)
        intro v'' w3 hown' hgrow' _
        have HF := Lib.hid (LinesM.fin HB.out HM.out hown' hgrow')
        clear hown2 hown' hgrow' HM
        go_wp2
        go_ret2
        exact ⟨_, _, rfl, by rw [HE.out]; have := HF.out; rw [HB.out] at this; exact this⟩
      · have he : linesFrom s.data.toList 0 = pre := by
          rw [HI.out.2.2.1, lf_nil (by omega), List.append_nil]
        have HE := Lib.hid he
        clear he hown
        go_wp2
        go_ret2
        exact ⟨_, _, rfl, by rw [HE.out]; have := HR.out; rw [HB.out] at this; exact this⟩
end Go.Proofs.Ytijefbpgpehmfaa
