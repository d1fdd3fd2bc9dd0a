/- Package attempts: what was made is lost; the winner; the end. -/
import Derived.Test.YtapnlofklgknmaaAtmGon
namespace Go.Proofs.Ytapnlofklgknmaa
open Go.RowKit

/-- a winner's attempt is there and good -/
def WinOk (b : Bd) : Prop := ∀ i, (b.T i).wi ≠ 0 → ∃ hk : (b.T i).wi - 1 < (b.T i).A.length, ((b.T i).A[(b.T i).wi - 1]).st = 1
def losT (t : Tk) : Tk := { t with A := setSt t.A (t.wi - 1) 3, wi := 0 }
def lostA (b : Bd) (x a : Int) : Bool := inB b x && (decide (x < (b.m : Int)) && (((b.T x.toNat).wi != 0) && decide (((b.T x.toNat).wi : Int) = a)))
def lostB (b : Bd) (x a : Int) : Bd := if lostA b x a then setTk b x.toNat (losT (b.T x.toNat)) else b
theorem raw_los {hs : Nat → Value} {b : Bd} {i : Nat} {A : List Att} (om orr : Int) (hfi : fiA A = (b.T i).fi) (hlv : lvA A = (b.T i).lv) (h1 : om = ((setTk b i { b.T i with A := A, wi := 0 }).om : Int)) (h2 : orr = ((setTk b i { b.T i with A := A, wi := 0 }).orr : Int)) :
    ({ rawB hs b with R := updN (rawB hs b).R i { (rawB hs b).R i with wi := 0 }, A := updN (rawB hs b).A i A, om := om, orr := orr } : Raw) = rawB hs (setTk b i { b.T i with A := A, wi := 0 }) := by
  refine raw_ext rfl rfl (funext fun j => ?_) (funext fun j => ?_) rfl rfl h1 h2 rfl
  · show updN _ i _ j = TkR.mk (hs j) _ _ _ _
    by_cases e : j = i
    · subst e
      simp only [updN_same, rawB, setTk]
      rw [show Tk.fi { b.T j with A := A, wi := 0 } = (b.T j).fi from hfi, show Tk.lv { b.T j with A := A, wi := 0 } = (b.T j).lv from hlv]
      rfl
    · simp only [updN_other _ _ e, rawB, setTk]
  · show updN _ i _ j = (updN b.T i _ j).A
    by_cases e : j = i
    · subst e
      simp only [updN_same]
    · simp only [updN_other _ _ e, rawB]
section
variable {B p tb : Nat} {w : World} {hs : Nat → Value} {b : Bd}
set_option maxRecDepth 100000 in
set_option maxHeartbeats 4000000 in
theorem lose_any (h : Hid (RawAt B w p tb (rawB hs b))) (i : Nat) (hi : i < b.n) (hl : (b.T i).A.length < 4398046511105) (k g c : Nat) (hw : (b.T i).wi = k + 1) (hk : k < (b.T i).A.length) (hv2 : hs i = .slice (some ⟨g, 0, none⟩) (b.T i).A.length c) :
    Calls Try.prog 43 #[.pointer (some ⟨tb, i * 5, none⟩)] w fun e w' => e = .returned (.tuple #[]) ∧ Hid (RawAt B w' p tb { rawB hs b with R := updN (rawB hs b).R i { (rawB hs b).R i with wi := 0 }, A := updN (rawB hs b).A i (setSt (b.T i).A k 3) } ∧ AF w w' ∧ Below B w w') := by
  have c0 : w.cell? ⟨tb, i * 5, none⟩ = some (hs i) := h.out.t0 i hi
  have c4 : w.cell? ⟨tb, i * 5 + 4, none⟩ = some (.int .i64 ((b.T i).wi : Int)) := h.out.t4 i hi
  rw [hw] at c4
  obtain ⟨u0, k0⟩ : ∃ u, w.cell? ⟨g, k * 3, none⟩ = some u := by
    obtain ⟨g', c', hv3, k0, _, _⟩ := att_at h.out hi hk
    rw [hv2] at hv3
    injection hv3 with e1 e2 e3
    injection e1 with e1
    injection e1 with e1 _ _
    subst e1
    exact ⟨_, k0⟩
  rw [hv2] at c0
  have hA := h.out.setA (i := i) (j := k) (g := g) (c := c) (s := 3) hi hk hv2
  have f0 := bears_free (own_bears (h.out.at' i hi) (show (hs i).ownBlock = some g by rw [hv2]; rfl)) (k * 3)
  obtain ⟨L, hL⟩ : ∃ L, L = (b.T i).A.length := ⟨_, rfl⟩
  rw [← hL] at c0 hk hl
  have d4 : (w.setCell ⟨g, k * 3, none⟩ (.int .i64 3)).cell? ⟨tb, i * 5 + 4, none⟩ = some (.int .i64 ((b.T i).wi : Int)) := hA.t4 i hi
  have df4 : (w.setCell ⟨g, k * 3, none⟩ (.int .i64 3)).frozen? ⟨tb, i * 5 + 4, none⟩ = false := bears_free hA.tt (i * 5 + 4)
  have ec : ((k + 1 : Nat) : Int) = (k : Int) + 1 := by omega
  rw [ec] at c4
  have hw1 : IntKind.i64.wrap ((k : Int) + 1 - 1) = (k : Int) := by rw [show (k : Int) + 1 - 1 = (k : Int) by omega]; exact IntWalk.i64_in _ (by omega)
  have hw2 : wrap64 ((k : Int) + 1 - 1) = (k : Int) := by rw [show (k : Int) + 1 - 1 = (k : Int) by omega]; exact IntWalk.wrap64_in _ ⟨by omega, by omega⟩
  have hw4 : IntKind.i64.wrap (k : Int) = (k : Int) := IntWalk.i64_in _ (by omega)
  have hw3 : wrap64 (k : Int) = (k : Int) := IntWalk.wrap64_in _ ⟨by omega, by omega⟩
  have hfin : Hid (RawAt B (((w.setCell ⟨g, k * 3, none⟩ (.int .i64 3)).setCell ⟨tb, i * 5 + 4, none⟩ (.int .i64 0)).drew) p tb { rawB hs b with R := updN (rawB hs b).R i { (rawB hs b).R i with wi := 0 }, A := updN (rawB hs b).A i (setSt (b.T i).A k 3) } ∧ AF w (((w.setCell ⟨g, k * 3, none⟩ (.int .i64 3)).setCell ⟨tb, i * 5 + 4, none⟩ (.int .i64 0)).drew) ∧ Below B w (((w.setCell ⟨g, k * 3, none⟩ (.int .i64 3)).setCell ⟨tb, i * 5 + 4, none⟩ (.int .i64 0)).drew)) := by
    have hgo : (hs i).ownBlock = some g := by rw [hv2]; rfl
    refine Lib.hid ⟨(hA.setWi i 0).drew, fun x e hb h1 h2 h3 => ?_, (((Below.refl B w).setCell (p := ⟨g, k * 3, none⟩) ((h.out.at' i hi).lt g hgo).1 _).setCell (p := ⟨tb, i * 5 + 4, none⟩) h.out.ht _).drew⟩
    show ((w.setCell _ _).setCell _ _).heap[x]? = _
    rw [set_block _ _ _ (bears_apart hb h.out.tt h2), set_block _ _ _ (bears_apart hb (own_bears (h.out.at' i hi) (show ((rawB hs b).R i).h.ownBlock = some g from hgo)) h3)]
  clear hA hL hv2 ec h hw
  go_enter Try.func43, Try.ntmps43
  go_wp2
  refine wp_region_still_tail 11 (by kernel_rfl) (by kernel_rfl) ?_
  simp only [List.take_succ_cons, List.take_zero, List.drop_succ_cons, List.drop_zero]
  iterate 11 (with_reducible refine wpStill_step (fun K hK => ?_); go_simp; with_reducible refine hK _ ?_; clear hK K)
  with_reducible refine wpStill_nil ?_
  change wpList _ _ _ _ _ w.drew
  go_wp2
  go_end0
  exact ⟨rfl, hfin⟩
end
end Go.Proofs.Ytapnlofklgknmaa
