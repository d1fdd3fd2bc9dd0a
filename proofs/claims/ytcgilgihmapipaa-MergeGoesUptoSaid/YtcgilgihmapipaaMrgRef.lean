/- Merging: the reference's Merge gives the very same pairs. -/
import Derived.Test.YtcgilgihmapipaaMrgMerge
import Derived.Laws.MakeOwn
import Derived.Deep.AppendLies
import Derived.Deep.LoopGhost
import Derived.Deep.QuietTactic
namespace Go.Proofs.Ytcgilgihmapipaa
open Go.RowKit

theorem infoPairR : (Try.prog.info? 51).map (fun i => (i.zero, i.size, i.bytes)) = some (some (.agg #[.string ⟨#[]⟩, .string ⟨#[]⟩]), 2, 32) := by kernel_rfl
theorem infoInt : (Try.prog.info? 3).map (fun i => (i.zero, i.size, i.bytes)) = some (some (.int .i64 0), 1, 8) := by kernel_rfl
theorem makeI (n : Nat) (hn : n ≤ 1099511627776) : ∀ w : World, (Instr.makeSlice 50 (.int .i64 (n : Int)) (.int .i64 (n : Int))).run Try.prog w =
    .ok (.slice (some ⟨w.heap.size, 0, none⟩) n n) (w.alloc (.cells (madeCells #[.int .i64 0] n) 3)) := by
  intro w
  obtain ⟨i, hi, hz0, hz1, hz2⟩ := info_parts infoInt
  have := run_make (P := Try.prog) w 50 3 i (.int .i64 0) Try.underlying50 hi hz0 .i64 .i64 n n (by omega) (by omega) (by rw [hz2]; omega) (by omega)
  simpa [hz1, Value.cells] using this
def atL (pos : Nat → Nat) (n : Nat) : List Value := (List.range n).map fun i => .int .i64 (pos i : Int)
theorem atL_get (pos : Nat → Nat) (n i : Nat) (h : i < n) : (atL pos n)[i]? = some (.int .i64 (pos i : Int)) := by simp [atL, h]
theorem atL_set (pos : Nat → Nat) (n i : Nat) : (atL pos n).set i (.int .i64 ((pos i + 1 : Nat) : Int)) = atL (bump pos i) n := by
  apply List.ext_getElem
  · simp [atL]
  · intro j h1 h2
    rw [List.getElem_set]
    simp only [atL, List.getElem_map, List.getElem_range]
    split
    · rename_i h
      subst h
      rw [bump_same]
    · rename_i h
      rw [bump_other pos (fun e => h e.symm)]
/-- the best among the first k runs -/
def BestR (R : Rn) (ord : It → Int) (pos : Nat → Nat) (k : Nat) (b : Int) : Prop :=
  (b = -1 ∧ ∀ j, j < k → ¬ pos j < R.ln j) ∨ ∃ i : Nat, b = (i : Int) ∧ i < k ∧ pos i < R.ln i ∧ ∀ j, j < k → pos j < R.ln j → ord (i, pos i) ≤ ord (j, pos j)
theorem bestR_skip {R : Rn} {ord : It → Int} {pos : Nat → Nat} {k : Nat} {b : Int} (h : BestR R ord pos k b) (hn : ¬ pos k < R.ln k) : BestR R ord pos (k + 1) b := by
  rcases h with ⟨h1, h2⟩ | ⟨i, h1, h2, h3, h4⟩
  · refine .inl ⟨h1, fun j hj => ?_⟩
    rcases Nat.lt_or_ge j k with h | h
    · exact h2 j h
    · rw [show j = k by omega]; exact hn
  · refine .inr ⟨i, h1, by omega, h3, fun j hj hl => ?_⟩
    rcases Nat.lt_or_ge j k with h | h
    · exact h4 j h hl
    · rw [show j = k by omega] at hl; exact absurd hl hn
theorem bestR_first {R : Rn} {ord : It → Int} {pos : Nat → Nat} {k : Nat} (h : ∀ j, j < k → ¬ pos j < R.ln j) (hy : pos k < R.ln k) : BestR R ord pos (k + 1) (k : Int) := by
  refine .inr ⟨k, rfl, by omega, hy, fun j hj hl => ?_⟩
  rcases Nat.lt_or_ge j k with h1 | h1
  · exact absurd hl (h j h1)
  · rw [show j = k by omega]; exact Int.le_refl _
theorem bestR_yes {R : Rn} {ord : It → Int} {pos : Nat → Nat} {k i : Nat} (h4 : ∀ j, j < k → pos j < R.ln j → ord (i, pos i) ≤ ord (j, pos j)) (hy : pos k < R.ln k) (hl : ord (k, pos k) < ord (i, pos i)) : BestR R ord pos (k + 1) (k : Int) := by
  refine .inr ⟨k, rfl, by omega, hy, fun j hj hl2 => ?_⟩
  rcases Nat.lt_or_ge j k with h1 | h1
  · have := h4 j h1 hl2; omega
  · rw [show j = k by omega]; exact Int.le_refl _
theorem bestR_no {R : Rn} {ord : It → Int} {pos : Nat → Nat} {k i : Nat} (h2 : i < k) (h3 : pos i < R.ln i) (h4 : ∀ j, j < k → pos j < R.ln j → ord (i, pos i) ≤ ord (j, pos j)) (hl : ¬ ord (k, pos k) < ord (i, pos i)) : BestR R ord pos (k + 1) (i : Int) := by
  refine .inr ⟨i, rfl, by omega, h3, fun j hj hl2 => ?_⟩
  rcases Nat.lt_or_ge j k with h1 | h1
  · exact h4 j h1 hl2
  · rw [show j = k by omega]; omega
theorem less_ord {R : Rn} {ord : It → Int} (hO : OrdOk R ord) {x y : It} (hx : VIt R x) (hy : VIt R y) (hlt : y.1 < x.1) : Go.Op.bytesLess (R.K x.1 x.2).data.toList (R.K y.1 y.2).data.toList = decide (ord x < ord y) := by
  obtain ⟨o1, o2⟩ := hO x y hx hy
  rw [cmp_bytes] at o1 o2
  rw [less_cmp]
  rcases h : compare (R.K x.1 x.2).data.toList (R.K y.1 y.2).data.toList with _ | _ | _
  · rw [h] at o1
    have := (o1 (by simp)).2 (by simp)
    rw [decide_eq_true this]
    rfl
  · rw [h] at o2
    have := o2 (by simp)
    rw [decide_eq_false (by omega)]
    rfl
  · rw [h] at o1
    have := o1 (by simp)
    rw [decide_eq_false (fun h => by have := this.1 h; simp at this)]
    rfl
/-- the rows of the reference's Merge -/
def RM (w wr : World) (B : Nat) (R : Rn) (pos : Nat → Nat) (xs : List It) (va vo : Value) : Prop :=
  wr.ownsRow B 3 1 va R.n (atL pos R.n) ∧ wr.ownsRow B 51 2 vo xs.length (prC R xs) ∧ Below B w wr
theorem rows_apart2 {W : World} {b b' sz sz' n n' : Nat} {e e' : TypeId} {v v' : Value} {xs xs' : List Value} (h : W.ownsRow b e sz v n xs) (h' : W.ownsRow b' e' sz' v' n' xs') (hne : e ≠ e') : v'.ownBlock = none ∨ v'.ownBlock ≠ v.ownBlock := by
  rcases h'.2 with ⟨rfl, _⟩ | ⟨g', cap', cur', rfl, _, hg', _⟩
  · exact .inl rfl
  · refine .inr fun e1 => ?_
    rcases h.2 with ⟨rfl, _⟩ | ⟨g, cap, cur, rfl, _, hg, _⟩
    · simp [Value.ownBlock] at e1
    · obtain rfl : g' = g := by simpa [Value.ownBlock] using e1
      have := hg.symm.trans hg'
      simp at this
      exact hne this.2
theorem rm_app {w wr w3 : World} {B : Nat} {R : Rn} {pos : Nat → Nat} {xs : List It} {x : It} {va vo v' : Value} {o : Obj} (h : RM w wr B R pos xs va vo) (hB : B ≤ wr.heap.size) (hown' : w3.ownsRow B 51 2 v' (xs.length + 1) (prC R xs ++ [.string (R.K x.1 x.2), .string (R.V x.1 x.2)])) (hgrow' : (wr.alloc o).grownBy w3 vo.ownBlock) : RM w w3 B R pos (xs ++ [x]) va v' := by
  obtain ⟨h1, h2, h3⟩ := h
  refine ⟨(h1.alloc o).kept hgrow' (rows_apart2 (h2.alloc o) (h1.alloc o) (by decide)), ?_, ?_⟩
  · rw [prC_snoc, List.length_append, List.length_singleton]; exact hown'
  · exact (h3.alloc hB o).grown hgrow' (by simp; omega) (fun j ej => ((h2.alloc o).lt j ej).1)
set_option maxRecDepth 100000 in
set_option maxHeartbeats 16000000 in
theorem rmerge_any (R : Rn) (ord : It → Int) (HO : Hid (OrdOk R ord)) (HOI : Hid (OrdInj R ord)) (hln : Hid (∀ i, i < R.n → R.ln i ≤ 4398046511104)) (hrn : R.n ≤ 1099511627776) (htot : tot R (fun _ => 0) ≤ 1099511627776) (A : Option Addr) (cap : Nat) (w : World) (hR : RnAt R w.heap.size w) (hH : HdAt R w.heap.size A w) :
    Calls Try.prog 7 #[.slice A R.n cap] w fun e w' => ∃ v, e = .returned v ∧ w'.ownsRow w.heap.size 51 2 v (mrgL R ord).length (prC R (mrgL R ord)) ∧ Below w.heap.size w w' := by
  have mixed : Try.prog.follows Departure.mixedOrders = true := by kernel_rfl
  obtain ⟨i0, hi, hz0, hz1, hz2⟩ := info_parts infoPairR
  have hmk := makeI R.n hrn
  obtain ⟨B, hB⟩ : ∃ B, B = w.heap.size := ⟨_, rfl⟩
  obtain ⟨N, hN⟩ : ∃ N, N = R.n := ⟨_, rfl⟩
  rw [← hB] at hR hH ⊢
  have HR := Lib.hid (And.intro hR hH)
  have HB := Lib.hid hB
  have HN := Lib.hid hN
  have hT : (w.alloc (.cells (madeCells #[.int .i64 0] N) 3)).ownsRow B 3 1 (.slice (some ⟨B, 0, none⟩) N N) N (atL (fun _ => 0) N) := by
    have h := World.ownsRow_lit (e := 3) (size := 1) (base := B) w (madeCells #[.int .i64 0] N) N (by omega) (by unfold maxLen; omega) (by rw [size_madeCells]; omega)
    rw [toList_madeCells_one, ← hB] at h
    have e : atL (fun _ => 0) N = List.replicate N (.int .i64 0) := by
      unfold atL
      apply List.ext_getElem <;> simp
    rw [e]
    exact h
  rw [← hN] at hrn hmk ⊢
  have HT := Lib.hid hT
  clear hR hH hB hN hT
  go_enter Try.func7, Try.ntmps7
  go_wp2_with fail
  clear hmk
  rw [← HB.out]
  have HI0 : Hid (∃ (xs : List It) (pos : Nat → Nat), mrgL R ord = xs ++ mrg R ord (tot R pos) pos ∧ tot R pos ≤ tot R (fun _ => 0) ∧ RM w (w.alloc (.cells (madeCells #[.int .i64 0] N) 3)) B R pos xs (.slice (some ⟨B, 0, none⟩) N N) (.slice none 0 0)) := Lib.hid ⟨[], fun _ => 0, rfl, Nat.le_refl _, by rw [← HN.out]; exact HT.out, World.ownsRow_nil _ _ _ _, (Below.refl _ _).alloc (by rw [HB.out]; exact Nat.le_refl _) _⟩
  have HTT : Hid ((w.alloc (.cells (madeCells #[.int .i64 0] N) 3)).ownsRow B 3 1 (.slice (some ⟨B, 0, none⟩) N N) R.n (atL (fun _ => 0) R.n)) := Lib.hid (by rw [← HN.out]; exact HT.out)
  have HBL : Hid (Below B w (w.alloc (.cells (madeCells #[.int .i64 0] N) 3))) := Lib.hid ((Below.refl _ _).alloc (by rw [HB.out]; exact Nat.le_refl _) _)
  clear HT
  go_loopg [4] (tot R (fun _ => 0)) (fun gk vo wr => ∃ (xs : List It) (pos : Nat → Nat) (a : Option Addr) (c : Nat), vo = .slice a xs.length c ∧ Hid (mrgL R ord = xs ++ mrg R ord (tot R pos) pos ∧ tot R pos ≤ gk) ∧ Hid (RM w wr B R pos xs (.slice (some ⟨B, 0, none⟩) N N) vo))
  case atStart =>
    obtain ⟨xs, pos, h1, h2, h3⟩ := HI0.out
    exact ⟨[], fun _ => 0, none, 0, rfl, Lib.hid ⟨rfl, Nat.le_refl _⟩, Lib.hid ⟨by
      have h := HI0.out
      exact HTT.out, World.ownsRow_nil _ _ _ _, HBL.out⟩⟩
  case round =>
    clear HI0
    obtain ⟨xs, pos, a, c, rfl, HG, HM⟩ := hrel
    have hcells : ∀ i, i < N → ∃ b off ha, A = some ⟨b, off, none⟩ ∧ wr.cell? ⟨b, off + i, none⟩ = some (.slice ha (R.ln i) (R.cp i)) ∧ (0 < R.ln i → ha = some ⟨R.bk i, R.of i, none⟩) ∧ wr.cell? ⟨B, i, none⟩ = some (.int .i64 (pos i : Int)) := fun i hi => by
      obtain ⟨b, off, ha, e, h1, h2, h3, _⟩ := HR.out.2 i (by have := HN.out; omega)
      refine ⟨b, off, ha, e, (HM.out.2.2.cell (p := ⟨b, off + i, none⟩) h1).trans h2, h3, ?_⟩
      have hr := HM.out.1
      rw [← HN.out] at hr
      rw [hr.cellAt i (by omega)]
      exact atL_get pos N i hi
    have hkeys : ∀ i, i < N → ∀ p, p < R.ln i → wr.cell? ⟨R.bk i, R.of i + p * 2, none⟩ = some (.string (R.K i p)) ∧ wr.cell? ⟨R.bk i, R.of i + p * 2 + 1, none⟩ = some (.string (R.V i p)) := fun i hi p hp => by
      obtain ⟨h1, h2, h3⟩ := HR.out.1 i (by have := HN.out; omega) p hp
      exact ⟨(HM.out.2.2.cell (p := ⟨R.bk i, _, none⟩) h1).trans h2, (HM.out.2.2.cell (p := ⟨R.bk i, _, none⟩) h1).trans h3⟩
    have HC := Lib.hid hcells
    have HK := Lib.hid hkeys
    clear hcells hkeys
    go_wp2
    go_loopw [5, 6] (fun bv iv w3 => ∃ (k : Nat) (b : Int), k ≤ N ∧ iv = .int .i64 (k : Int) ∧ bv = .int .i64 b ∧ Hid (BestR R ord pos k b) ∧ ∃ q, w3 = wr.drewN q) (fun _ iv _ => N - (intOf iv).toNat)
    case atStart => exact ⟨0, -1, Nat.zero_le _, rfl, rfl, Lib.hid (.inl ⟨rfl, fun j h => absurd h (Nat.not_lt_zero _)⟩), 0, rfl⟩
    case round =>
      obtain ⟨k, b, hk, rfl, rfl, HBS, q, rfl⟩ := hrel
      by_cases hlt : k < N
      · obtain ⟨bb, off, ha, rfl, c1, hha, c2⟩ := HC.out k hlt
        by_cases hp : pos k < R.ln k
        · have hae := hha (by omega)
          subst hae
          obtain ⟨c3, c4⟩ := HK.out k hlt (pos k) hp
          have hpi : (pos k : Int) < (R.ln k : Int) := by omega
          have f1 : decide (pos k < R.ln k) = true := decide_eq_true hp
          rcases HBS.out with ⟨rfl, hall⟩ | ⟨i2, rfl, g2, g3, g4⟩
          · have HB2 := Lib.hid (bestR_first (ord := ord) hall hp)
            clear hall
            go_wp2_with (fail)
            go_quiet (fail)
            go_wp2
            go_roundw
            case rel => exact ⟨k + 1, (k : Int), by omega, by first | rfl | go_num, rfl, HB2, _, rfl⟩
            case measure => simp [intOf]; omega
          · obtain ⟨bb', off', ha', e', d1, hha', d2⟩ := HC.out i2 (by omega)
            injection e' with e'
            injection e' with e1 e2
            subst e1 e2
            have hae' := hha' (by omega)
            subst hae'
            obtain ⟨d3, d4⟩ := HK.out i2 (by omega) (pos i2) g3
            have hpi2 : (pos i2 : Int) < (R.ln i2 : Int) := by omega
            have hi2n : (i2 : Int) < (N : Int) := by omega
            have hi20 : ¬ (i2 : Int) < 0 := by omega
            have hls := less_ord HO.out (x := (k, pos k)) (y := (i2, pos i2)) ⟨by have := HN.out; show k < R.n; omega, hp⟩ ⟨by have := HN.out; show i2 < R.n; omega, g3⟩ g2
            simp only [← ByteArray.toList_eq] at hls
            by_cases hy : ord (k, pos k) < ord (i2, pos i2)
            · have HB2 := Lib.hid (bestR_yes g4 hp hy)
              rw [decide_eq_true hy] at hls
              clear g4 hy
              go_wp2_with (fail)
              go_quiet (fail)
              go_wp2
              go_roundw
              case rel => exact ⟨k + 1, (k : Int), by omega, by first | rfl | go_num, rfl, HB2, _, rfl⟩
              case measure => simp [intOf]; omega
            · have HB2 := Lib.hid (bestR_no g2 g3 g4 hy)
              rw [decide_eq_false hy] at hls
              clear g4 hy
              go_wp2_with (fail)
              go_quiet (fail)
              go_wp2
              go_roundw
              case rel => exact ⟨k + 1, (i2 : Int), by omega, by first | rfl | go_num, rfl, HB2, _, rfl⟩
              case measure => simp [intOf]; omega
        · have HB2 := Lib.hid (bestR_skip HBS.out hp)
          have hpi : ¬ (pos k : Int) < (R.ln k : Int) := by omega
          have f1 : decide (pos k < R.ln k) = false := decide_eq_false hp
          go_wp2_with (fail)
          go_quiet (fail)
          go_wp2
          go_roundw
          case rel => exact ⟨k + 1, b, by omega, by first | rfl | go_num, rfl, HB2, _, rfl⟩
          case measure => simp [intOf]; omega
      · obtain rfl : k = N := by omega
        rcases HBS.out with ⟨rfl, hall⟩ | ⟨i2, rfl, g2, g3, g4⟩
        · have hend := mrg_end (ord := ord) (R := R) (pos := pos) (fun i hi => hall i (by have := HN.out; omega)) (tot R pos)
          have HE : Hid (mrgL R ord = xs) := Lib.hid (by have := HG.out.1; rw [hend, List.append_nil] at this; exact this)
          clear hend hall
          go_wp2
          go_ret
          exact ⟨_, rfl, by rw [HE.out]; exact HM.out.2.1, ⟨HM.out.2.2.os, HM.out.2.2.tape, HM.out.2.2.output, HM.out.2.2.size, HM.out.2.2.block⟩⟩
        · obtain ⟨bb, off, ha, rfl, c1, hha, c2⟩ := HC.out i2 g2
          have hae := hha (by omega)
          subst hae
          obtain ⟨c3, c4⟩ := HK.out i2 g2 (pos i2) g3
          have hpi : (pos i2 : Int) < (R.ln i2 : Int) := by omega
          have hi2n : (i2 : Int) < (k : Int) := by omega
          have hi20 : ¬ (i2 : Int) < 0 := by omega
          have hbest : BestI R ord pos i2 := ⟨by have := HN.out; omega, g3, fun j hj hl => g4 j (by have := HN.out; omega) hl⟩
          have HBI := Lib.hid hbest
          clear g4 hbest
          have hxl : xs.length + 1 ≤ tot R (fun _ => 0) := by
            have h1 := mrg_len R ord (tot R fun _ => 0) (fun _ => 0)
            have h2 := congrArg List.length HG.out.1
            rw [mrg_step HOI.out HBI.out] at h2
            simp only [List.length_append, List.length_cons] at h2
            have h3 : (mrgL R ord).length ≤ tot R (fun _ => 0) := h1
            omega
          have k3 : xs.length + 1 ≤ maxLen := by unfold maxLen; omega
          have k4 : (xs.length + 1) * 32 ≤ 140737488355328 := by omega
          have hbz : B ≤ wr.heap.size := by have := HM.out.2.2.size; have := HB.out; omega
          have HI := Lib.hid (And.intro hi (And.intro hz0 (And.intro hz1 hz2)))
          have hrow : (wr.drewN q).drew.ownsRow B 51 2 (.slice a xs.length c) xs.length (prC R xs) := HM.out.2.1
          have HROW := Lib.hid hrow
          have hpl : pos i2 < R.ln i2 ∧ R.ln i2 ≤ 4398046511104 := ⟨g3, hln.out i2 HBI.out.1⟩
          have HPL := Lib.hid hpl
          clear hi hz0 hz1 hz2 hrow hxl hpl
          go_wp2_with (fail)
          go_region_law (first
            | (refine step_app_own2 (by rfl) (.tmp 59) (.tmp 70) 27 (by rfl) B 51 i0 _ 32 Try.underlying27 HI.out.1 HI.out.2.1 HI.out.2.2.1 HI.out.2.2.2 rfl _ xs.length (prC R xs) (by rfl) (HROW.out.alloc _) ⟨(wr.drewN q).drew.heap.size, 0, none⟩ 1 (.string (R.K i2 (pos i2))) (.string (R.V i2 (pos i2))) (by rfl) (item_new _ _ _ _) rfl rfl k3 k4 (by simp; omega) ?_
               intro v' w3 hown' hgrow'
               obtain ⟨g9, c9, rfl, _, _⟩ := hown'.form (by omega)
               have hrm := rm_app (wr := (wr.drewN q).drew) (o := .cells #[.string (R.K i2 (pos i2)), .string (R.V i2 (pos i2))] 51) ⟨HM.out.1, HROW.out, ⟨HM.out.2.2.os, HM.out.2.2.tape, HM.out.2.2.output, HM.out.2.2.size, HM.out.2.2.block⟩⟩ (show B ≤ (wr.drewN q).drew.heap.size from hbz) (x := (i2, pos i2)) hown' hgrow'
               have HRM := Lib.hid hrm
               have hr := hrm.1
               rw [← HN.out] at hr
               have z1 : w3.cell? ⟨B, i2, none⟩ = some (.int .i64 (pos i2 : Int)) := by rw [hr.cellAt i2 (by omega)]; exact atL_get pos k i2 g2
               have z2 : w3.frozen? ⟨B, i2, none⟩ = false := hr.frozenAt i2
               clear hown' hgrow' hrm hr))
          all_goals
            have hw1 : wrap64 ((pos i2 : Int) + 1) = ((pos i2 + 1 : Nat) : Int) := by
              rw [show (pos i2 : Int) + 1 = ((pos i2 + 1 : Nat) : Int) by omega]
              exact IntWalk.wrap64_in _ (by have := HPL.out; omega)
            have hr := HRM.out.1
            rw [← HN.out] at hr
            obtain ⟨s1, s2⟩ := hr.stored i2 (.int .i64 ((pos i2 + 1 : Nat) : Int))
            rw [atL_set] at s1
            have s3 := HRM.out.2.1.kept s2 (rows_apart2 hr HRM.out.2.1 (by decide))
            have s4 := HRM.out.2.2.setCell (p := ⟨B, i2, none⟩) (Nat.le_refl _) (.int .i64 ((pos i2 + 1 : Nat) : Int))
            have hlx : (xs ++ [(i2, pos i2)]).length = xs.length + 1 := by simp
            rw [hlx] at s3
            have HN2 : Hid (RM w (w3.setCell ⟨B, i2, none⟩ (.int .i64 ((pos i2 + 1 : Nat) : Int))) B R (bump pos i2) (xs ++ [(i2, pos i2)]) (.slice (some ⟨B, 0, none⟩) k k) (.slice (some ⟨g9, 0, none⟩) (xs.length + 1) c9)) := Lib.hid ⟨by rw [← HN.out]; exact s1, by rw [hlx]; exact s3, s4⟩
            have HG2 : Hid (mrgL R ord = (xs ++ [(i2, pos i2)]) ++ mrg R ord (tot R (bump pos i2)) (bump pos i2) ∧ tot R (bump pos i2) ≤ tot R pos - 1) := Lib.hid ⟨by rw [HG.out.1, mrg_step HOI.out HBI.out]; simp, by have := tot_bump HBI.out.1 HBI.out.2.1; omega⟩
            have htp : tot R pos - 1 < gk := by
              have := tot_bump HBI.out.1 HBI.out.2.1
              have := HG.out.2
              omega
            clear s1 s2 s3 s4 hr
            go_wp2
            go_roundg (tot R pos - 1)
            case measure => exact htp
            case rel => exact ⟨xs ++ [(i2, pos i2)], bump pos i2, some ⟨g9, 0, none⟩, c9, by rw [hlx], HG2, HN2⟩
end Go.Proofs.Ytcgilgihmapipaa
