/- A list of points as it comes in; the law's numbers: the complex numbers of a list of points. -/
import Derived.Test.YtjjmflkdfgneoaaPoints
import Derived.OwnWalk
import Derived.Laws.AppendOwnNone
import Derived.Deep.RegionLaw
import Derived.WalkLawsBesides
import Derived.Lib.Hide
namespace Go.Proofs.Ytjjmflkdfgneoaa
open Go.RowKit

/-- the slice value holds these points, below B -/
def PtsAt (w : World) (B : Nat) (A : Option Addr) (ps : List Pnt) : Prop := ∀ i (h : i < ps.length), ∃ b off, A = some ⟨b, off, none⟩ ∧ b < B ∧ w.cell? ⟨b, off + i * 3, none⟩ = some (.int .i64 ps[i].x) ∧ w.cell? ⟨b, off + i * 3 + 1, none⟩ = some (.int .i64 ps[i].y) ∧ w.cell? ⟨b, off + i * 3 + 2, none⟩ = some (.bool ps[i].raw)
theorem PtsAt.below {w w' : World} {B : Nat} {A : Option Addr} {ps : List Pnt} (h : PtsAt w B A ps) (hb : Below B w w') : PtsAt w' B A ps := fun i hi => by
  obtain ⟨b, off, e, hB, h1, h2, h3⟩ := h i hi
  exact ⟨b, off, e, hB, (hb.cell (p := ⟨b, _, none⟩) hB).trans h1, (hb.cell (p := ⟨b, _, none⟩) hB).trans h2, (hb.cell (p := ⟨b, _, none⟩) hB).trans h3⟩
theorem PtsAt.up {w : World} {B B' : Nat} {A : Option Addr} {ps : List Pnt} (h : PtsAt w B A ps) (hb : B ≤ B') : PtsAt w B' A ps := fun i hi => by
  obtain ⟨b, off, e, hB, h1⟩ := h i hi
  exact ⟨b, off, e, by omega, h1⟩
/-- an append of one element to a row of the call's own, as one step of a region that draws its order -/
theorem step_app03 {P : Program} {ops : Array Oper} {o : Oper} {a : Act} {w : World} {K : Act → World → Prop} {Q : Exit → Act → World → Prop} {E : Prop}
    (hg : o.guard = none) (s x : Operand) (t : TypeId) (hop : o.op = Op.call { callee := Callee.builtin Builtin.append, args := #[s, x], argTypes := #[t, t] })
    (base : Nat) (e : TypeId) (i : TypeInfo) (z : Value) (bytes : Nat) (ht : P.underlying t = some (.slice e)) (hi : P.info? e = some i) (hz : i.zero = some z) (hsz : i.size = 1) (hby : i.bytes = bytes) (hzs : z.cells.size = 1)
    (v : Value) (n : Nat) (xs : List Value) (hs : a.eval s = v) (hown : w.ownsRow base e 1 v n xs) (ad : Addr) (c : Nat) (u : Value) (hx : a.eval x = .slice (some ad) 1 c) (hc : w.cell? ad = some u) (hu : u.oneCell' = true)
    (b1 : n + 1 ≤ maxLen) (b2 : (n + 1) * bytes ≤ 140737488355328) (b3 : base ≤ w.heap.size)
    (hK : ∀ v' w', w'.ownsRow base e 1 v' (n + 1) (xs ++ [u]) → w.grownBy w' v.ownBlock → K (a.put o.dst v') w') :
    if Region.wanted o (yielded ops a.tmps) = true then Oper.wp P o a w K Q else E := by
  have hw : Region.wanted o (yielded ops a.tmps) = true := by simp [Region.wanted, hg]
  rw [if_pos hw]
  refine wp_append_own w s x t hop base e i z 1 bytes ht hi hz hsz hby hzs (by decide) v n xs hs hown ad 1 c [u] hx rfl ?_ ?_ b1 b2 b3 ?_
  · intro j y hj
    match j, hj with
    | 0, hj =>
      simp at hj; subst hj
      have : ad.add 0 = ad := by obtain ⟨b, o, sp⟩ := ad; simp [Addr.add]
      rw [this]; exact hc
  · intro y hy; simp at hy; subst hy; exact hu
  · intro v' w' h1 h2 _
    exact hK v' w' h1 h2
noncomputable def cpx (p : Pnt) : Value := .complex .f64 p.re p.im
theorem infoCpx : (Try.prog.info? 30).map (fun i => (i.zero, i.size, i.bytes)) = some (some (.complex .f64 0 0), 1, 16) := by kernel_rfl
set_option maxRecDepth 100000 in
set_option maxHeartbeats 4000000 in
theorem numbers_any (A : Option Addr) (cap : Nat) (ps : List Pnt) (hl : ps.length ≤ 5864062014805) (w : World) (hP : PtsAt w w.heap.size A ps) :
    Calls Try.prog 5 #[.slice A ps.length cap] w fun e w' => ∃ v, e = .returned v ∧ w'.ownsRow w.heap.size 30 1 v ps.length (ps.map cpx) ∧ Below w.heap.size w w' := by
  obtain ⟨i0, hi, hz0, hz1, hz2⟩ := info_parts infoCpx
  have HP := Lib.hid hP
  obtain ⟨B, hB⟩ : ∃ B, B = w.heap.size := ⟨_, rfl⟩
  have HB := Lib.hid hB
  rw [← hB]
  obtain ⟨N, hN⟩ : ∃ N, N = ps.length := ⟨_, rfl⟩
  have HN := Lib.hid hN
  rw [← hN] at hl ⊢
  clear hP hB hN
  go_enter Try.func5, Try.ntmps5
  go_wp2
  go_loopw [3, 4] (fun v iv wr => ∃ i : Nat, i ≤ N ∧ iv = .int .i64 (i : Int) ∧ Hid (wr.ownsRow B 30 1 v i ((ps.take i).map cpx) ∧ Below B w wr)) (fun _ iv _ => N - (intOf iv).toNat)
  case atStart => exact ⟨0, Nat.zero_le _, rfl, Lib.hid ⟨World.ownsRow_nil _ _ _ _, Below.refl _ _⟩⟩
  case round =>
    obtain ⟨i, hiN, rfl, HI⟩ := hrel
    by_cases hlt : i < N
    · have hip : i < ps.length := by have := HN.out; omega
      have hPw : PtsAt wr w.heap.size A ps := HP.out.below (by have := HI.out.2; rw [HB.out] at this; exact this)
      obtain ⟨b, off, rfl, _, c1, c2, c3⟩ := hPw i hip
      obtain ⟨p, hp⟩ : ∃ p, p = ps[i] := ⟨_, rfl⟩
      rw [← hp] at c1 c2 c3
      have hnum := fun w => number_any p w
      have hsn : (ps.take (i + 1)).map cpx = (ps.take i).map cpx ++ [.complex .f64 p.re p.im] := by
        rw [List.take_succ_eq_append_getElem hip, List.map_append, ← hp]; rfl
      have HSN := Lib.hid hsn
      have hBz : B ≤ wr.heap.size := by have := HI.out.2.size; rw [HB.out]; exact Nat.le_trans (Nat.le_of_eq rfl) this
      have k3 : i + 1 ≤ maxLen := by unfold maxLen; omega
      have k4 : (i + 1) * 16 ≤ 140737488355328 := by omega
      clear hp hsn hPw hip
      go_wp2_with (fail)
      refine (hnum _).mono ?_
      rintro e w2 ⟨rfl, hb2⟩
      have hown := (HI.out.1).kept (w' := w2) (row := none) ⟨hb2.os, hb2.tape, hb2.output, hb2.size, fun k hk _ => hb2.block k hk⟩ (by
        rcases HI.out.1.2 with ⟨rfl, _⟩ | ⟨g, cp, cur, rfl, _, _, _⟩
        · exact .inl rfl
        · exact .inr (by simp [Value.ownBlock]))
      have HB2 := Lib.hid (HI.out.2.trans (hb2.mono hBz))
      have hBz2 : B ≤ w2.heap.size := Nat.le_trans hBz hb2.size
      clear hb2 hnum
      go_wp2_with (at_builtin; refine wpList_append_own _ rfl _ _ 26 rfl B 30 i0 _ 1 16 Try.underlying26 hi hz0 hz1 hz2 rfl (by decide) _ _ _ rfl (hown.alloc _) ⟨w2.heap.size, 0, none⟩ 1 1 [.complex .f64 p.re p.im] rfl rfl ?c1 (by simp [Value.oneCell']) k3 k4 (by simp; omega) ?_)
      case c1 =>
        intro j u hj
        match j, hj with
        | 0, hj => simp at hj; subst hj; simp [Addr.add]
      intro v' w3 hown' hgrow' _
      have HF : Hid (w3.ownsRow B 30 1 v' (i + 1) ((ps.take (i + 1)).map cpx) ∧ Below B w w3) := Lib.hid ⟨by rw [HSN.out]; first | exact hown' | (rw [List.map_take]; exact hown'), by
        have h3 : Below B w2 (w2.alloc (.cells #[.complex .f64 p.re p.im] 30)) := (Below.refl _ _).alloc (by omega) _
        refine (HB2.out.trans h3).grown hgrow' (by have := HB.out; have := HB2.out.size; simp; omega) (fun j ej => ?_)
        rcases hown.2 with ⟨rfl, _⟩ | ⟨g, cp, cur, rfl, hb, _, _⟩
        · simp [Value.ownBlock] at ej
        · obtain rfl : g = j := by simpa [Value.ownBlock] using ej
          exact hb⟩
      clear hown hown' hgrow' HB2
      go_wp2
      go_roundw
      case rel => exact ⟨i + 1, by omega, by first | rfl | go_num, HF⟩
      case measure => simp [intOf]; omega
    · obtain rfl : i = N := by omega
      have HF : Hid (wr.ownsRow B 30 1 u3 i (ps.map cpx) ∧ Below B w wr) := Lib.hid (by
        have := HI.out
        rw [show ps.take i = ps by rw [HN.out, List.take_length]] at this
        exact this)
      clear HI
      go_wp2
      go_ret
      exact ⟨_, rfl, HF.out.1, HF.out.2⟩
end Go.Proofs.Ytjjmflkdfgneoaa
