/- Pairs of numbers as they come in; the law's points: the complex numbers of a list of pairs. -/
import Derived.Test.YtahkelgcamcfmaaPlnPick
import Derived.Test.YtahkelgcamcfmaaLawEnd
import Derived.OwnWalk
import Derived.Deep.RegionLaw
import Derived.Deep.AppendLies
import Derived.Laws.OwnMore
import Derived.Laws.AppendOwnNone
import Derived.WalkLawsBesides
import Derived.Lib.Hide
namespace Go.Proofs.Ytahkelgcamcfmaa
open Go.RowKit Go.ChangeShapes Go.WideShapes

abbrev Pr := Int × Int
/-- the slice value holds the pairs it 0, it 1, .., all of them below B -/
def Prs (w : World) (B : Nat) (A : Option Addr) (len : Nat) (it : Nat → Pr) : Prop :=
  ∀ i, i < len → ∃ b off, A = some ⟨b, off, none⟩ ∧ b < B ∧ w.cell? ⟨b, off + i * 2, none⟩ = some (.int .i64 (it i).1) ∧ w.cell? ⟨b, off + i * 2 + 1, none⟩ = some (.int .i64 (it i).2)
theorem Prs.below {w w' : World} {B : Nat} {A : Option Addr} {n : Nat} {it : Nat → Pr} (h : Prs w B A n it) (hb : Below B w w') : Prs w' B A n it := fun i hi => by
  obtain ⟨b, off, e, hB, h1, h2⟩ := h i hi
  exact ⟨b, off, e, hB, (hb.cell (p := ⟨b, _, none⟩) hB).trans h1, (hb.cell (p := ⟨b, _, none⟩) hB).trans h2⟩
theorem Prs.up {w : World} {B B' : Nat} {A : Option Addr} {n : Nat} {it : Nat → Pr} (h : Prs w B A n it) (hb : B ≤ B') : Prs w B' A n it := fun i hi => by
  obtain ⟨b, off, e, hB, h1⟩ := h i hi
  exact ⟨b, off, e, by omega, h1⟩
noncomputable def cxP (p : Pr) : Value := .complex .f64 (floatOfInt .f64 p.1) (floatOfInt .f64 p.2)
noncomputable def cxL (it : Nat → Pr) (n : Nat) : List Value := (List.range n).map fun i => cxP (it i)
theorem cxL_succ (it : Nat → Pr) (n : Nat) : cxL it (n + 1) = cxL it n ++ [.complex .f64 (floatOfInt .f64 (it n).1) (floatOfInt .f64 (it n).2)] := by unfold cxL; rw [List.range_succ, List.map_append]; rfl
theorem infoCpx : (Try.prog.info? 35).map (fun i => (i.zero, i.size, i.bytes)) = some (some (.complex .f64 0 0), 1, 16) := by kernel_rfl
theorem complex_run (x y : Nat) (w : World) : (Builtin.complex_ #[42, 42] 35 #[.float .f64 x, .float .f64 y]).run Try.prog w = .ok (.complex .f64 x y) w := by
  first
    | rfl
    | kernel_rfl
theorem step_complex {P : Program} {ops : Array Oper} {o : Oper} {a : Act} {w : World} {K : Act → World → Prop} {Q : Exit → Act → World → Prop} {E : Prop}
    (hg : o.guard = none) (s x : Operand) (t u : TypeId) (hop : o.op = Op.call { callee := Callee.builtin Builtin.complex, args := #[s, x], argTypes := #[t, u] })
    (v d : Value) (hs : a.eval s = v) (hx : a.eval x = d) (v' : Value) (hrun : (Builtin.complex_ #[t, u] o.type #[v, d]).run P w = .ok v' w)
    (hK : K (a.put o.dst v') w) :
    if Region.wanted o (yielded ops a.tmps) = true then Oper.wp P o a w K Q else E := by
  have hw : Region.wanted o (yielded ops a.tmps) = true := by simp [Region.wanted, hg]
  rw [if_pos hw]
  unfold Oper.wp
  simp [execOp, hop, resolve, invoke, builtin, hs, hx, hrun, Result.andThen]
  exact hK
set_option maxRecDepth 100000 in
set_option maxHeartbeats 4000000 in
theorem points_any (A : Option Addr) (n cap : Nat) (it : Nat → Pr) (hl : n ≤ 1048576) (w : World) (hP : Prs w w.heap.size A n it) :
    Calls Try.prog 7 #[.slice A n cap] w fun e w' => ∃ v, e = .returned v ∧ w'.ownsRow w.heap.size 35 1 v n (cxL it n) ∧ Below w.heap.size w w' := by
  obtain ⟨i0, hi, hz0, hz1, hz2⟩ := info_parts infoCpx
  have HP := Lib.hid hP
  obtain ⟨B, hB⟩ : ∃ B, B = w.heap.size := ⟨_, rfl⟩
  have HB := Lib.hid hB
  rw [← hB]
  clear hP hB
  go_enter Try.func7, Try.ntmps7
  go_wp2

  go_loopw [3, 4] (fun v iv wr => ∃ i : Nat, i ≤ n ∧ iv = .int .i64 (i : Int) ∧ Hid (wr.ownsRow B 35 1 v i (cxL it i) ∧ Below B w wr)) (fun _ iv _ => n - (intOf iv).toNat)
  case atStart => exact ⟨0, Nat.zero_le _, rfl, Lib.hid ⟨World.ownsRow_nil _ _ _ _, Below.refl _ _⟩⟩
  case round =>
    obtain ⟨i, hiN, rfl, HI⟩ := hrel
    by_cases hlt : i < n
    · have hPw : Prs wr w.heap.size A n it := HP.out.below (by have := HI.out.2; rw [HB.out] at this; exact this)
      obtain ⟨b, off, rfl, _, c1, c2⟩ := hPw i hlt
      have HSN := Lib.hid (cxL_succ it i)
      have hBz : B ≤ wr.heap.size := by have := HI.out.2.size; rw [HB.out]; exact Nat.le_trans (Nat.le_of_eq rfl) this
      have k3 : i + 1 ≤ maxLen := by unfold maxLen; omega
      have k4 : (i + 1) * 16 ≤ 140737488355328 := by omega
      have hown := HI.out.1
      clear hPw
      have hrw : ((wr.alloc (.cells #[.complex .f64 (floatOfInt .f64 (it i).1) (floatOfInt .f64 (it i).2)] 35)).drew).ownsRow B 35 1 u3 i (cxL it i) := hown.alloc _
      have hnw : ∀ j v, [Value.complex .f64 (floatOfInt .f64 (it i).1) (floatOfInt .f64 (it i).2)][j]? = some v → ((wr.alloc (.cells #[.complex .f64 (floatOfInt .f64 (it i).1) (floatOfInt .f64 (it i).2)] 35)).drew).cell? ((⟨wr.heap.size, 0, none⟩ : Addr).add j) = some v := World.news_of_block (heap_alloc_new wr.drew _)
      have hone : ∀ y ∈ [Value.complex .f64 (floatOfInt .f64 (it i).1) (floatOfInt .f64 (it i).2)], y.oneCell' = true := by simp [Value.oneCell']
      have HO := Lib.hid hown
      clear hown
      go_wp2_with (fail)
      go_region_law (first
                     | (refine step_append_lies _ (by rfl) (.tmp 11) (.tmp 25) 27 (by rfl) B 35 i0 _ 1 16 Try.underlying27 hi hz0 hz1 hz2 rfl (by decide) _ i (cxL it i) (by rfl) hrw ⟨wr.heap.size, 0, none⟩ 1 1 [.complex .f64 (floatOfInt .f64 (it i).1) (floatOfInt .f64 (it i).2)] (by rfl) rfl hnw hone (by decide) k3 k4 (by simp; omega) (wr.heap.size + 1) (by simp) ?_
                        intro gb cb w6 hown' hg6 hat6 _
                        have HM0 := Lib.hid (And.intro hown' (And.intro hg6 hat6))
                        clear hown' hg6 hat6)
                     | (refine step_complex (by rfl) (.tmp 17) (.tmp 23) _ _ (by rfl) _ _ (by rfl) (by rfl) _ (complex_run _ _ _) ?_))
      all_goals
        have HF : Hid (w6.ownsRow B 35 1 (.slice (some ⟨gb, 0, none⟩) (i + 1) cb) (i + 1) (cxL it (i + 1)) ∧ Below B w w6) := Lib.hid ⟨by rw [HSN.out]; exact HM0.out.1, by
          have h3 : Below B wr ((wr.alloc (.cells #[.complex .f64 (floatOfInt .f64 (it i).1) (floatOfInt .f64 (it i).2)] 35)).drew) := ((Below.refl _ _).alloc (by omega) _).drew
          refine (HI.out.2.trans h3).grown HM0.out.2.1 (by have := HB.out; have := HI.out.2.size; simp; omega) (fun j ej => ?_)
          rcases HO.out.2 with ⟨rfl, _⟩ | ⟨g, cp, cur, rfl, hb, _, _⟩
          · simp [Value.ownBlock] at ej
          · obtain rfl : g = j := by simpa [Value.ownBlock] using ej
            exact hb⟩
        clear hrw hnw hone HM0 HO
        go_wp2
        go_roundw
        case rel => exact ⟨i + 1, by omega, by first | rfl | go_num, HF⟩
        case measure => simp [intOf]; omega
    · obtain rfl : i = n := by omega
      go_wp2
      go_ret
      exact ⟨_, rfl, HI.out.1, HI.out.2⟩
end Go.Proofs.Ytahkelgcamcfmaa
