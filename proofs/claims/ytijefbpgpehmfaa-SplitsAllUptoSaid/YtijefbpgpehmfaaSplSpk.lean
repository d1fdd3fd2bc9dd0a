/- speaks of layer 18; both plans at every size. -/
import Derived.Test.YtijefbpgpehmfaaSplPlanR
import Derived.Deep.AppendLies
namespace Go.Proofs.Ytijefbpgpehmfaa
open Go.RowKit

/-- what a plan is, with its cells: k elements, each of sz cells -/
def PlanIs (w : World) (B : Nat) (sz k : Nat) (xs : List Value) (x : Ending) (w' : World) : Prop :=
  ∃ (A : Option Addr) (cap : Nat), x = .returned (.slice A k cap) ∧ Below B w w' ∧ (∀ j u, xs[j]? = some u → ∃ g, A = some ⟨g, 0, none⟩ ∧ B ≤ g ∧ w'.cell? ⟨g, j, none⟩ = some u)
theorem cell_lt18 {w : World} {g j : Nat} {u : Value} (h : w.cell? ⟨g, j, none⟩ = some u) : g < w.heap.size := by
  rcases Nat.lt_or_ge g w.heap.size with hlt | hge
  · exact hlt
  · simp [World.cell?, Array.getElem?_eq_none hge] at h
theorem planIs_of {w w' : World} {B : Nat} {e : TypeId} {sz n k : Nat} {xs : List Value} {x : Ending} (hx : xs.length = k * sz) (h : PlanPost w B e sz n k xs x w') : PlanIs w B sz k xs x w' := by
  obtain ⟨v, rfl, ho, hb⟩ := h
  by_cases hk : 0 < k
  · obtain ⟨k, rfl⟩ : ∃ m, k = m + 1 := ⟨k - 1, by omega⟩
    rcases ho.2 with ⟨rfl, h0⟩ | ⟨g, cap, cur, rfl, hB, h1, h2⟩
    · omega
    · refine ⟨some ⟨g, 0, none⟩, cap, rfl, hb, fun j u hj => ⟨g, rfl, hB, ?_⟩⟩
      have hl := (List.getElem?_eq_some_iff.1 hj).1
      exact (ho.cellAt j (by omega)).trans hj
  · obtain rfl : k = 0 := by omega
    have hnil : xs = [] := by cases xs with | nil => rfl | cons => simp at hx
    subst hnil
    rcases ho.2 with ⟨rfl, h0⟩ | ⟨g, cap, cur, rfl, hB, h1, h2⟩
    · exact ⟨none, 0, rfl, hb, fun j u hj => by simp at hj⟩
    · exact ⟨_, cap, rfl, hb, fun j u hj => by simp at hj⟩
/-- how many splits a file of n bytes has, whatever n -/
def plN (n want : Int) : Nat := if n < 1 then 0 else plK n.toNat (plW n.toNat want)
def plR (n want : Int) : List Value := if n < 1 then [] else plRow n.toNat (plW n.toNat want) (plK n.toNat (plW n.toNat want))
theorem plR_len (n want : Int) : (plR n want).length = plN n want * 2 := by
  unfold plR plN
  split
  · rfl
  · rw [plRow_len]; omega
theorem plN_le (n want : Int) : plN n want ≤ 256 := by
  unfold plN
  split
  · omega
  · exact plK_le _ _ (by omega)
theorem plRow_ints (n W k j : Nat) (h : j < 2 * k) : ∃ x : Int, (plRow n W k)[j]? = some (.int .i64 x) := by
  by_cases e : j % 2 = 0
  · exact ⟨_, by rw [show j = 2 * (j / 2) by omega]; exact plRow_even n W k (j / 2) (by omega)⟩
  · exact ⟨_, by rw [show j = 2 * (j / 2) + 1 by omega]; exact plRow_odd n W k (j / 2) (by omega)⟩
theorem plR_ints (n want : Int) (j : Nat) (h : j < 2 * plN n want) : ∃ x : Int, (plR n want)[j]? = some (.int .i64 x) := by
  unfold plN at h
  unfold plR
  split at h
  · omega
  · rename_i hn
    rw [if_neg hn]
    exact plRow_ints _ _ _ _ h
theorem plan_int (n want : Int) (hn1 : n ≤ 140737488351232) (hw : want ≤ 9223372036854775807) (w : World) :
    Calls Try.prog 8 #[.int .i64 n, .int .i64 want] w (PlanIs w w.heap.size 2 (plN n want) (plR n want)) := by
  by_cases h : n < 1
  · refine (plan_no n want w h).mono ?_
    rintro e w' ⟨rfl, rfl⟩
    unfold plN plR
    rw [if_pos h, if_pos h]
    exact ⟨none, 0, rfl, Below.refl _ _, fun j u hj => by simp at hj⟩
  · obtain ⟨m, rfl⟩ : ∃ m : Nat, n = (m : Int) := ⟨n.toNat, by omega⟩
    refine (plan_any m want (by omega) (by omega) hw w).mono fun e w' hp => ?_
    have e1 : plN (m : Int) want = plK m (plW m want) := by unfold plN; rw [if_neg h]; rfl
    have e2 : plR (m : Int) want = plRow m (plW m want) (plK m (plW m want)) := by unfold plR; rw [if_neg h]; rfl
    rw [e1, e2]
    exact planIs_of (by rw [plRow_len]; omega) hp
theorem rplan_int (n want : Int) (hn1 : n ≤ 140737488351232) (hw : want ≤ 9223372036854775807) (w : World) :
    Calls Try.prog 9 #[.int .i64 n, .int .i64 want] w (PlanIs w w.heap.size 1 (2 * plN n want) (plR n want)) := by
  by_cases h : n < 1
  · refine (rplan_no n want w h).mono ?_
    rintro e w' ⟨rfl, rfl⟩
    unfold plN plR
    rw [if_pos h, if_pos h]
    exact ⟨none, 0, rfl, Below.refl _ _, fun j u hj => by simp at hj⟩
  · obtain ⟨m, rfl⟩ : ∃ m : Nat, n = (m : Int) := ⟨n.toNat, by omega⟩
    refine (rplan_any m want (by omega) (by omega) hw w).mono fun e w' hp => ?_
    have e1 : plN (m : Int) want = plK m (plW m want) := by unfold plN; rw [if_neg h]; rfl
    have e2 : plR (m : Int) want = plRow m (plW m want) (plK m (plW m want)) := by unfold plR; rw [if_neg h]; rfl
    rw [e1, e2]
    exact planIs_of (by rw [plRow_len]; omega) hp
set_option maxHeartbeats 1000000 in
theorem speaks18_any (w : World) : Calls Try.prog 7 #[] w fun e w' => e = .returned (.bool true) ∧ Below w.heap.size w w' := by
  have hp := plan_int 10 4 (by omega) (by omega) w
  rw [show plN 10 4 = 3 by decide] at hp
  go_enter Try.func7, Try.ntmps7
  go_wp2_with (fail)
  refine hp.mono ?_
  rintro e w' ⟨A, cap, rfl, hb, hc⟩
  have HB := Lib.hid hb
  obtain ⟨g, rfl, hB, h1⟩ := hc 4 (.int .i64 8) (by kernel_rfl)
  obtain ⟨g', e, _, h2⟩ := hc 5 (.int .i64 10) (by kernel_rfl)
  injection e with e
  injection e with e
  subst e
  clear hc hp hb
  go_wp2
  go_ret
  exact ⟨rfl, HB.out⟩
end Go.Proofs.Ytijefbpgpehmfaa
