/- Package plan: what slices.Delete makes of a row of tasks and of a row of numbers. -/
import Derived.Test.YtahkelgcamcfmaaRowAt
import Derived.Test.YtahkelgcamcfmaaPlnIn
import Derived.Laws.IdiomCopy
import Derived.Deep.RegionLaw
import Derived.Deep.DeepCutAuto
namespace Go.Proofs.Ytahkelgcamcfmaa
open Go.RowKit

theorem infoTask : (Try.prog.info? 30).map (fun i => (i.zero, i.size, i.bytes)) = some (some (.agg #[.int .i64 0, .slice none 0 0]), 2, 32) := by kernel_rfl
theorem infoInt : (Try.prog.info? 3).map (fun i => (i.zero, i.size, i.bytes)) = some (some (.int .i64 0), 1, 8) := by kernel_rfl
/-- a builtin call with two arguments, run already, as one step of a region that draws its order -/
theorem step_copy_run {P : Program} {ops : Array Oper} {o : Oper} {a : Act} {w : World} {K : Act → World → Prop} {Q : Exit → Act → World → Prop} {E : Prop}
    (hg : o.guard = none) (s x : Operand) (t u : TypeId) (hop : o.op = Op.call { callee := Callee.builtin Builtin.copy, args := #[s, x], argTypes := #[t, u] })
    (v d : Value) (hs : a.eval s = v) (hx : a.eval x = d) (v' : Value) (w' : World) (hrun : (Builtin.copy_ #[t, u] o.type #[v, d]).run P w = .ok v' w')
    (hK : K (a.put o.dst v') w') :
    if Region.wanted o (yielded ops a.tmps) = true then Oper.wp P o a w K Q else E := by
  have hw : Region.wanted o (yielded ops a.tmps) = true := by simp [Region.wanted, hg]
  rw [if_pos hw]
  unfold Oper.wp
  simp [execOp, hop, resolve, invoke, builtin, hs, hx, hrun, Result.andThen]
  exact hK
theorem step_app_run {P : Program} {ops : Array Oper} {o : Oper} {a : Act} {w : World} {K : Act → World → Prop} {Q : Exit → Act → World → Prop} {E : Prop}
    (hg : o.guard = none) (s x : Operand) (t u : TypeId) (hop : o.op = Op.call { callee := Callee.builtin Builtin.append, args := #[s, x], argTypes := #[t, u] })
    (v d : Value) (hs : a.eval s = v) (hx : a.eval x = d) (v' : Value) (w' : World) (hrun : (Builtin.append_ #[t, u] o.type #[v, d]).run P w = .ok v' w')
    (hK : K (a.put o.dst v') w') :
    if Region.wanted o (yielded ops a.tmps) = true then Oper.wp P o a w K Q else E := by
  have hw : Region.wanted o (yielded ops a.tmps) = true := by simp [Region.wanted, hg]
  rw [if_pos hw]
  unfold Oper.wp
  simp [execOp, hop, resolve, invoke, builtin, hs, hx, hrun, Result.andThen]
  exact hK
def clT (T : Nat → Tsk) (L : List Nat) : List Value := L.flatMap fun j => tkC (T j)
theorem clT_length (T : Nat → Tsk) : ∀ L : List Nat, (clT T L).length = L.length * 2
  | [] => rfl
  | l :: r => by have := clT_length T r; simp only [clT, List.flatMap_cons, List.length_append, List.length_cons, tkC, List.length_nil] at this ⊢; omega
theorem clT_append (T : Nat → Tsk) (L M : List Nat) : clT T (L ++ M) = clT T L ++ clT T M := by simp [clT]
theorem clT_drop (T : Nat → Tsk) : ∀ (L : List Nat) (k : Nat), (clT T L).drop (k * 2) = clT T (L.drop k)
  | [], k => by simp [clT]
  | l :: r, 0 => by simp
  | l :: r, k + 1 => by
    rw [List.drop_succ_cons, ← clT_drop T r k, show (k + 1) * 2 = k * 2 + 2 by omega]
    simp [clT, tkC]
theorem clT_take (T : Nat → Tsk) : ∀ (L : List Nat) (k : Nat), (clT T L).take (k * 2) = clT T (L.take k)
  | [], k => by simp [clT]
  | l :: r, 0 => by simp [clT]
  | l :: r, k + 1 => by
    have := clT_take T r k
    rw [List.take_succ_cons, show (k + 1) * 2 = k * 2 + 2 by omega]
    simp only [clT, List.flatMap_cons] at this ⊢
    rw [← this]
    simp [tkC]
theorem clT_one (T : Nat → Tsk) (L : List Nat) : ∀ v ∈ clT T L, v.oneCell' = true := by
  intro v h
  simp only [clT, List.mem_flatMap] at h
  obtain ⟨j, _, h⟩ := h
  simp [tkC] at h
  rcases h with rfl | rfl <;> rfl
theorem clT_get (T : Nat → Tsk) (L : List Nat) (k l : Nat) (h : L[k]? = some l) (r : Nat) (hr : r < 2) : (clT T L)[k * 2 + r]? = (tkC (T l))[r]? := by
  have e : L.drop k = l :: L.drop (k + 1) := by
    obtain ⟨hk, rfl⟩ := List.getElem?_eq_some_iff.1 h
    exact List.drop_eq_getElem_cons hk
  rw [← List.getElem?_drop, clT_drop, e]
  exact List.getElem?_append_left hr
set_option maxRecDepth 100000 in
set_option maxHeartbeats 2000000 in
theorem delete_T (g o cap k : Nat) (T : Nat → Tsk) (L : List Nat) (w : World) (hk : k < L.length) (hc : L.length ≤ cap) (hm : cap ≤ maxLen) (h : RowAt w 30 2 g o cap (clT T L)) :
    Calls Try.prog 15 #[.slice (some ⟨g, o, none⟩) L.length cap, .int .i64 k, .int .i64 ((k : Int) + 1)] w fun e w' => e = .returned (.slice (some ⟨g, o, none⟩) (L.length - 1) cap) ∧ RowAt w' 30 2 g o cap (clT T (L.eraseIdx k)) ∧ Sole w w' g := by
  obtain ⟨m, hL⟩ : ∃ m, L.length = m + 1 := ⟨L.length - 1, by omega⟩
  obtain ⟨i0, hi, hz0, hz1, hz2⟩ := info_parts infoTask
  obtain ⟨ad, hadq⟩ : ∃ ad : Addr, ad = if cap = k + 1 then ⟨g, o, none⟩ else ⟨g, o + (k + 1) * 2, none⟩ := ⟨_, rfl⟩
  have hlc : (clT T L).length = (m + 1) * i0.size := by rw [clT_length, hL, hz1]
  have hrow : RowAt w.drew 30 i0.size g o cap (clT T L) := by rw [hz1]; exact h.same rfl
  obtain ⟨w1, hap, hr1, hs1⟩ := run_close_up (P := Try.prog) (k := k) 25 25 i0 Try.underlying25 hi hlc (by omega) (by omega) (clT_one T L) hrow ad (fun hkm => by rw [hadq, if_neg (by omega), hz1]) (cap - (k + 1))
  rw [hz1] at hr1
  rw [show m + 1 - (k + 1) = m - k by omega, show m + 1 - 1 = m by omega] at hap
  have hz : (zeroValue 30).run Try.prog w1 = .ok (.agg #[.int .i64 0, .slice none 0 0]) w1 := Try.zeroValue30 _
  have hr1' : RowAt w1 30 i0.size g o cap ((clT T L).take (k * 2) ++ (clT T L).drop ((k + 1) * 2) ++ (clT T L).drop ((m + 1 - 1) * 2)) := by rw [hz1]; exact hr1
  have hcl := clT_length T L
  obtain ⟨w2, hcr, hr2, hs2⟩ := run_clear_row (P := Try.prog) (m := m) 25 0 i0 (.agg #[.int .i64 0, .slice none 0 0]) Try.underlying25 hz (by rw [hz1]; rfl) (by omega) (by decide)
    (by rw [hz1]; simp only [List.length_append, List.length_take, List.length_drop, hcl, hL]; omega) hr1' (cap - m)
  rw [hz1] at hr2 hcr
  have hrow3 : RowAt w2 30 2 g o cap (clT T (L.eraseIdx k)) := by
    have := hr2.shorten (m * 2)
    rw [List.take_append_of_le_length (by simp only [List.length_append, List.length_take, List.length_drop, hcl, hL]; omega), List.take_append_of_le_length (by simp only [List.length_append, List.length_take, List.length_drop, hcl, hL]; omega),
      List.take_take, Nat.min_self, List.take_append_of_le_length (by simp only [List.length_append, List.length_take, List.length_drop, hcl, hL]; omega), List.take_of_length_le (by simp only [List.length_append, List.length_take, List.length_drop, hcl, hL]; omega),
      clT_take, clT_drop, ← clT_append, ← List.eraseIdx_eq_take_drop_succ] at this
    exact this
  have HFIN := Lib.hid (And.intro hrow3 (show Sole w w2 g from Sole.trans ⟨hs1.os, hs1.tape, hs1.output, hs1.size, hs1.block⟩ hs2))
  rw [hL] at hk hc ⊢
  have hm' : (cap : Int) ≤ 9223372036854775807 := by unfold maxLen at hm; omega
  have k1 : (k : Int) < (m : Int) + 1 := by omega
  have k2 : (m : Int) + 1 ≤ cap := by omega
  have k3 : k ≤ cap := by omega
  have k4 : k + 1 ≤ m + 1 := by omega
  have k6 : (0 : Int) ≤ (k : Int) + 1 := by omega
  have k7 : (k : Int) + 1 ≤ (m : Int) + 1 := by omega
  have k8 : ¬ cap = m := by omega
  have k9 : m ≤ m + 1 := by omega
  have k10 : m + 1 ≤ cap := by omega
  have k11 : ¬ (m + 1 - m = 0) := by omega
  clear hrow hr1 hr1' hr2 hrow3 hs1 hs2 hcl hlc hL h hz hi hz0 hz1 hz2
  have k13 := Lib.hid hm'
  by_cases k5 : cap = k + 1
  · rw [if_pos k5] at hadq
    subst hadq
    have k17 : (cap = k + 1) = True := by simp [k5]
    have k18 : cap - (k + 1) = 0 := by omega
    have k19 : m - k = 0 := by omega
    rw [k18, k19] at hap
    clear k5
    go_enter Try.func15, Try.ntmps15
    go_upto_region 5 with (fail)
    go_region_law (refine step_app_run rfl (.tmp 22) (.tmp 25) 25 25 rfl (.slice (some ⟨g, o, none⟩) k cap) (.slice (some ⟨g, o, none⟩) 0 0) rfl rfl (.slice (some ⟨g, o, none⟩) m cap) w1 hap ?_)
    go_wp2
    go_ret
    exact ⟨rfl, HFIN.out⟩
  · rw [if_neg k5] at hadq
    subst hadq
    go_enter Try.func15, Try.ntmps15
    go_upto_region 5 with (fail)
    go_region_law (refine step_app_run rfl (.tmp 22) (.tmp 25) 25 25 rfl (.slice (some ⟨g, o, none⟩) k cap) (.slice (some ⟨g, o + (k + 1) * 2, none⟩) (m - k) (cap - (k + 1))) rfl rfl (.slice (some ⟨g, o, none⟩) m cap) w1 hap ?_)
    go_wp2
    go_ret
    exact ⟨rfl, HFIN.out⟩
def clI (L : List Nat) : List Value := L.map fun (j : Nat) => Value.int .i64 (j : Int)
theorem clI_length (L : List Nat) : (clI L).length = L.length * 1 := by simp [clI]
theorem clI_append (L M : List Nat) : clI (L ++ M) = clI L ++ clI M := by simp [clI]
theorem clI_drop (L : List Nat) (k : Nat) : (clI L).drop (k * 1) = clI (L.drop k) := by simp [clI, List.map_drop]
theorem clI_take (L : List Nat) (k : Nat) : (clI L).take (k * 1) = clI (L.take k) := by simp [clI, List.map_take]
theorem clI_one (L : List Nat) : ∀ v ∈ clI L, v.oneCell' = true := by
  intro v h
  simp only [clI, List.mem_map] at h
  obtain ⟨j, _, rfl⟩ := h
  rfl
theorem clI_get (L : List Nat) (k l : Nat) (h : L[k]? = some l) : (clI L)[k]? = some (.int .i64 (l : Int)) := by simp [clI, h]
set_option maxRecDepth 100000 in
set_option maxHeartbeats 2000000 in
theorem delete_I (g o cap k : Nat) (L : List Nat) (w : World) (hk : k < L.length) (hc : L.length ≤ cap) (hm : cap ≤ maxLen) (h : RowAt w 3 1 g o cap (clI L)) :
    Calls Try.prog 16 #[.slice (some ⟨g, o, none⟩) L.length cap, .int .i64 k, .int .i64 ((k : Int) + 1)] w fun e w' => e = .returned (.slice (some ⟨g, o, none⟩) (L.length - 1) cap) ∧ RowAt w' 3 1 g o cap (clI (L.eraseIdx k)) ∧ Sole w w' g := by
  obtain ⟨m, hL⟩ : ∃ m, L.length = m + 1 := ⟨L.length - 1, by omega⟩
  obtain ⟨i0, hi, hz0, hz1, hz2⟩ := info_parts infoInt
  obtain ⟨ad, hadq⟩ : ∃ ad : Addr, ad = if cap = k + 1 then ⟨g, o, none⟩ else ⟨g, o + (k + 1), none⟩ := ⟨_, rfl⟩
  have hlc : (clI L).length = (m + 1) * i0.size := by rw [clI_length, hL, hz1]
  have hrow : RowAt w.drew 3 i0.size g o cap (clI L) := by rw [hz1]; exact h.same rfl
  obtain ⟨w1, hap, hr1, hs1⟩ := run_close_up (P := Try.prog) (k := k) 31 31 i0 Try.underlying31 hi hlc (by omega) (by omega) (clI_one L) hrow ad (fun hkm => by rw [hadq, if_neg (by omega), hz1, Nat.mul_one]) (cap - (k + 1))
  rw [hz1] at hr1
  rw [show m + 1 - (k + 1) = m - k by omega, show m + 1 - 1 = m by omega] at hap
  have hz : (zeroValue 3).run Try.prog w1 = .ok (.int .i64 0) w1 := Try.zeroValue3 _
  have hr1' : RowAt w1 3 i0.size g o cap ((clI L).take (k * 1) ++ (clI L).drop ((k + 1) * 1) ++ (clI L).drop ((m + 1 - 1) * 1)) := by rw [hz1]; exact hr1
  have hcl := clI_length L
  obtain ⟨w2, hcr, hr2, hs2⟩ := run_clear_row (P := Try.prog) (m := m) 31 0 i0 (.int .i64 0) Try.underlying31 hz (by rw [hz1]; rfl) (by omega) (by decide)
    (by rw [hz1]; simp only [List.length_append, List.length_take, List.length_drop, hcl, hL]; omega) hr1' (cap - m)
  rw [hz1] at hr2 hcr
  rw [Nat.mul_one] at hcr
  have hrow3 : RowAt w2 3 1 g o cap (clI (L.eraseIdx k)) := by
    have := hr2.shorten (m * 1)
    rw [List.take_append_of_le_length (by simp only [List.length_append, List.length_take, List.length_drop, hcl, hL]; omega), List.take_append_of_le_length (by simp only [List.length_append, List.length_take, List.length_drop, hcl, hL]; omega),
      List.take_take, Nat.min_self, List.take_append_of_le_length (by simp only [List.length_append, List.length_take, List.length_drop, hcl, hL]; omega), List.take_of_length_le (by simp only [List.length_append, List.length_take, List.length_drop, hcl, hL]; omega),
      clI_take, clI_drop, ← clI_append, ← List.eraseIdx_eq_take_drop_succ] at this
    exact this
  have HFIN := Lib.hid (And.intro hrow3 (show Sole w w2 g from Sole.trans ⟨hs1.os, hs1.tape, hs1.output, hs1.size, hs1.block⟩ hs2))
  rw [hL] at hk hc ⊢
  have hm' : (cap : Int) ≤ 9223372036854775807 := by unfold maxLen at hm; omega
  have k1 : (k : Int) < (m : Int) + 1 := by omega
  have k2 : (m : Int) + 1 ≤ cap := by omega
  have k3 : k ≤ cap := by omega
  have k4 : k + 1 ≤ m + 1 := by omega
  have k6 : (0 : Int) ≤ (k : Int) + 1 := by omega
  have k7 : (k : Int) + 1 ≤ (m : Int) + 1 := by omega
  have k8 : ¬ cap = m := by omega
  have k9 : m ≤ m + 1 := by omega
  have k10 : m + 1 ≤ cap := by omega
  have k11 : ¬ (m + 1 - m = 0) := by omega
  clear hrow hr1 hr1' hr2 hrow3 hs1 hs2 hcl hlc hL h hz hi hz0 hz1 hz2
  have k13 := Lib.hid hm'
  by_cases k5 : cap = k + 1
  · rw [if_pos k5] at hadq
    subst hadq
    have k17 : (cap = k + 1) = True := by simp [k5]
    have k18 : cap - (k + 1) = 0 := by omega
    have k19 : m - k = 0 := by omega
    rw [k18, k19] at hap
    clear k5
    go_enter Try.func16, Try.ntmps16
    go_upto_region 5 with (fail)
    go_region_law (refine step_app_run rfl (.tmp 22) (.tmp 25) 31 31 rfl (.slice (some ⟨g, o, none⟩) k cap) (.slice (some ⟨g, o, none⟩) 0 0) rfl rfl (.slice (some ⟨g, o, none⟩) m cap) w1 hap ?_)
    go_wp2
    go_ret
    exact ⟨rfl, HFIN.out⟩
  · rw [if_neg k5] at hadq
    subst hadq
    go_enter Try.func16, Try.ntmps16
    go_upto_region 5 with (fail)
    go_region_law (refine step_app_run rfl (.tmp 22) (.tmp 25) 31 31 rfl (.slice (some ⟨g, o, none⟩) k cap) (.slice (some ⟨g, o + (k + 1), none⟩) (m - k) (cap - (k + 1))) rfl rfl (.slice (some ⟨g, o, none⟩) m cap) w1 hap ?_)
    go_wp2
    go_ret
    exact ⟨rfl, HFIN.out⟩
end Go.Proofs.Ytahkelgcamcfmaa
