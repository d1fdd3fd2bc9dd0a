/- Package where: a list of candidates as cells; what slices.Delete makes of it. -/
import Derived.Test.YtjjmflkdfgneoaaRowAt
import Derived.Test.YtjjmflkdfgneoaaSprCand
import Derived.Laws.IdiomCopy
import Derived.Deep.RegionLaw
namespace Go.Proofs.Ytjjmflkdfgneoaa
open Go.RowKit

abbrev cellsL (l : Cd) : List Value := [.int .i64 (l.num : Int), .complex .f64 l.re l.im, .int .i64 l.least]
def cellsOf : List Cd → List Value
  | [] => []
  | l :: r => cellsL l ++ cellsOf r
theorem cellsOf_length : ∀ L : List Cd, (cellsOf L).length = L.length * 3
  | [] => rfl
  | l :: r => by simp [cellsOf, cellsOf_length r]; omega
theorem cellsOf_append : ∀ L M : List Cd, cellsOf (L ++ M) = cellsOf L ++ cellsOf M
  | [], _ => rfl
  | l :: r, M => by simp [cellsOf, cellsOf_append r M]
theorem cellsOf_drop : ∀ (L : List Cd) (k : Nat), (cellsOf L).drop (k * 3) = cellsOf (L.drop k)
  | [], k => by simp [cellsOf]
  | l :: r, 0 => by simp
  | l :: r, k + 1 => by
    rw [List.drop_succ_cons, ← cellsOf_drop r k, show (k + 1) * 3 = k * 3 + 3 by omega]
    simp [cellsOf]
theorem cellsOf_take : ∀ (L : List Cd) (k : Nat), (cellsOf L).take (k * 3) = cellsOf (L.take k)
  | [], k => by simp [cellsOf]
  | l :: r, 0 => by simp [cellsOf]
  | l :: r, k + 1 => by
    rw [List.take_succ_cons, show (k + 1) * 3 = k * 3 + 3 by omega]
    simp [cellsOf, ← cellsOf_take r k]
theorem cellsOf_one : ∀ (L : List Cd), ∀ v ∈ cellsOf L, v.oneCell' = true
  | [], v, h => by simp [cellsOf] at h
  | l :: r, v, h => by
    simp only [cellsOf, List.mem_append] at h
    rcases h with h | h
    · simp [cellsL] at h
      rcases h with rfl | rfl | rfl <;> rfl
    · exact cellsOf_one r v h
theorem cellsOf_get (L : List Cd) (k : Nat) (l : Cd) (h : L[k]? = some l) (r : Nat) (hr : r < 3) : (cellsOf L)[k * 3 + r]? = (cellsL l)[r]? := by
  have e : L.drop k = l :: L.drop (k + 1) := by
    obtain ⟨hk, rfl⟩ := List.getElem?_eq_some_iff.1 h
    exact List.drop_eq_getElem_cons hk
  rw [← List.getElem?_drop, cellsOf_drop, e]
  exact List.getElem?_append_left hr
/-- a builtin call with two arguments, run already, as one step of a region that draws its order -/
theorem step_copy_run {P : Program} {ops : Array Oper} {o : Oper} {a : Act} {w : World} {K : Act → World → Prop} {Q : Exit → Act → World → Prop} {E : Prop}
    (hg : o.guard = none) (s x : Operand) (t u : TypeId) (hop : o.op = Op.call { callee := Callee.builtin Builtin.copy, args := #[s, x], argTypes := #[t, u] })
    (v d : Value) (hs : a.eval s = v) (hx : a.eval x = d) (v' : Value) (w' : World) (hrun : (Builtin.copy_ #[t, u] o.type #[v, d]).run P w = .ok v' w')
    (hK : K (a.put o.dst v') w') :
    if Region.wanted o (yielded ops a.tmps) = true then Oper.wp P o a w K Q else E := by
  have hw : Region.wanted o (yielded ops a.tmps) = true := by simp [Region.wanted, hg]
  rw [if_pos hw]
  unfold Oper.wp
  simp [execOp, hop, resolve, invoke, builtin, hs, hx, hrun, Result.andThen]
  exact hK
theorem step_app_run {P : Program} {ops : Array Oper} {o : Oper} {a : Act} {w : World} {K : Act → World → Prop} {Q : Exit → Act → World → Prop} {E : Prop}
    (hg : o.guard = none) (s x : Operand) (t u : TypeId) (hop : o.op = Op.call { callee := Callee.builtin Builtin.append, args := #[s, x], argTypes := #[t, u] })
    (v d : Value) (hs : a.eval s = v) (hx : a.eval x = d) (v' : Value) (w' : World) (hrun : (Builtin.append_ #[t, u] o.type #[v, d]).run P w = .ok v' w')
    (hK : K (a.put o.dst v') w') :
    if Region.wanted o (yielded ops a.tmps) = true then Oper.wp P o a w K Q else E := by
  have hw : Region.wanted o (yielded ops a.tmps) = true := by simp [Region.wanted, hg]
  rw [if_pos hw]
  unfold Oper.wp
  simp [execOp, hop, resolve, invoke, builtin, hs, hx, hrun, Result.andThen]
  exact hK
abbrev RowL (w : World) (g o cap : Nat) (L : List Cd) : Prop := RowAt w 47 3 g o cap (cellsOf L)
set_option maxRecDepth 100000 in
set_option maxHeartbeats 2000000 in
theorem delete_row (g o cap k : Nat) (L : List Cd) (w : World) (hk : k < L.length) (hc : L.length ≤ cap) (hm : cap ≤ maxLen) (h : RowL w g o cap L) :
    Calls Try.prog 18 #[.slice (some ⟨g, o, none⟩) L.length cap, .int .i64 k, .int .i64 ((k : Int) + 1)] w fun e w' => e = .returned (.slice (some ⟨g, o, none⟩) (L.length - 1) cap) ∧ RowL w' g o cap (L.eraseIdx k) ∧ Sole w w' g := by
  obtain ⟨m, hL⟩ : ∃ m, L.length = m + 1 := ⟨L.length - 1, by omega⟩
  obtain ⟨i0, hi, hz0, hz1, hz2⟩ := info_parts infoCand
  obtain ⟨ad, hadq⟩ : ∃ ad : Addr, ad = if cap = k + 1 then ⟨g, o, none⟩ else ⟨g, o + (k + 1) * 3, none⟩ := ⟨_, rfl⟩
  have hlc : (cellsOf L).length = (m + 1) * i0.size := by rw [cellsOf_length, hL, hz1]
  have hrow : RowAt w.drew 47 i0.size g o cap (cellsOf L) := by rw [hz1]; exact h.same rfl
  obtain ⟨w1, hap, hr1, hs1⟩ := run_close_up (P := Try.prog) (k := k) 43 43 i0 Try.underlying43 hi hlc (by omega) (by omega) (cellsOf_one L) hrow ad (fun hkm => by rw [hadq, if_neg (by omega), hz1]) (cap - (k + 1))
  rw [hz1] at hr1
  rw [show m + 1 - (k + 1) = m - k by omega, show m + 1 - 1 = m by omega] at hap
  have hz : (zeroValue 47).run Try.prog w1 = .ok (.agg #[.int .i64 0, .complex .f64 0 0, .int .i64 0]) w1 := Try.zeroValue47 _
  have hr1' : RowAt w1 47 i0.size g o cap ((cellsOf L).take (k * 3) ++ (cellsOf L).drop ((k + 1) * 3) ++ (cellsOf L).drop ((m + 1 - 1) * 3)) := by rw [hz1]; exact hr1
  have hcl := cellsOf_length L
  obtain ⟨w2, hcr, hr2, hs2⟩ := run_clear_row (P := Try.prog) (m := m) 43 0 i0 (.agg #[.int .i64 0, .complex .f64 0 0, .int .i64 0]) Try.underlying43 hz (by rw [hz1]; rfl) (by omega) (by decide)
    (by rw [hz1]; simp only [List.length_append, List.length_take, List.length_drop, hcl, hL]; omega) hr1' (cap - m)
  rw [hz1] at hr2 hcr
  have hrow3 : RowL w2 g o cap (L.eraseIdx k) := by
    have := hr2.shorten (m * 3)
    rw [List.take_append_of_le_length (by simp only [List.length_append, List.length_take, List.length_drop, hcl, hL]; omega), List.take_append_of_le_length (by simp only [List.length_append, List.length_take, List.length_drop, hcl, hL]; omega),
      List.take_take, Nat.min_self, List.take_append_of_le_length (by simp only [List.length_append, List.length_take, List.length_drop, hcl, hL]; omega), List.take_of_length_le (by simp only [List.length_append, List.length_take, List.length_drop, hcl, hL]; omega),
      cellsOf_take, cellsOf_drop, ← cellsOf_append, ← List.eraseIdx_eq_take_drop_succ] at this
    exact this
  have HFIN := Lib.hid (And.intro hrow3 (show Sole w w2 g from Sole.trans ⟨hs1.os, hs1.tape, hs1.output, hs1.size, hs1.block⟩ hs2))
  rw [hL] at hk hc ⊢
  have hm' : (cap : Int) ≤ 9223372036854775807 := by unfold maxLen at hm; omega
  have k1 : (k : Int) < (m : Int) + 1 := by omega
  have k2 : (m : Int) + 1 ≤ cap := by omega
  have k3 : k ≤ cap := by omega
  have k4 : k + 1 ≤ m + 1 := by omega
  have k6 : (0 : Int) ≤ (k : Int) + 1 := by omega
  have k7 : (k : Int) + 1 ≤ (m : Int) + 1 := by omega
  have k8 : ¬ cap = m := by omega
  have k9 : m ≤ m + 1 := by omega
  have k10 : m + 1 ≤ cap := by omega
  have k11 : ¬ (m + 1 - m = 0) := by omega
  clear hrow hr1 hr1' hr2 hrow3 hs1 hs2 hcl hlc hL h hz hi hz0 hz1 hz2
  have k13 := Lib.hid hm'
  by_cases k5 : cap = k + 1
  · rw [if_pos k5] at hadq
    subst hadq
    have k17 : (cap = k + 1) = True := by simp [k5]
    have k18 : cap - (k + 1) = 0 := by omega
    have k19 : m - k = 0 := by omega
    rw [k18, k19] at hap
    clear k5
    go_enter Try.func18, Try.ntmps18
    go_upto_region 5 with (fail)
    go_region_law (refine step_app_run rfl (.tmp 22) (.tmp 25) 43 43 rfl (.slice (some ⟨g, o, none⟩) k cap) (.slice (some ⟨g, o, none⟩) 0 0) rfl rfl (.slice (some ⟨g, o, none⟩) m cap) w1 hap ?_)
    go_wp2
    go_ret
    exact ⟨rfl, HFIN.out⟩
  · rw [if_neg k5] at hadq
    subst hadq
    go_enter Try.func18, Try.ntmps18
    go_upto_region 5 with (fail)
    go_region_law (refine step_app_run rfl (.tmp 22) (.tmp 25) 43 43 rfl (.slice (some ⟨g, o, none⟩) k cap) (.slice (some ⟨g, o + (k + 1) * 3, none⟩) (m - k) (cap - (k + 1))) rfl rfl (.slice (some ⟨g, o, none⟩) m cap) w1 hap ?_)
    go_wp2
    go_ret
    exact ⟨rfl, HFIN.out⟩
end Go.Proofs.Ytjjmflkdfgneoaa
