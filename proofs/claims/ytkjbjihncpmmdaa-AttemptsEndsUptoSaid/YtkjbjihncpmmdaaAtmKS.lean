/- Package attempts: the state of the law on winners. -/
import Derived.Test.YtkjbjihncpmmdaaAtmInv
import Derived.Test.YtkjbjihncpmmdaaAtmSpk
namespace Go.Proofs.Ytkjbjihncpmmdaa
open Go.RowKit

theorem opn_none (T : Nat → Tk) (a : Nat) : ∀ k, opn T a k = 0 → ∀ j, j < k → (T (a + j)).wi ≠ 0
  | 0, _, j, hj => absurd hj (Nat.not_lt_zero _)
  | k + 1, h, j, hj => by
    rw [opn_succ] at h
    by_cases e : j = k
    · subst e
      intro h0
      rw [if_pos h0] at h
      omega
    · exact opn_none T a k (by omega) j (by omega)
theorem mayR_of {b : Bd} {hs : Nat → Value} {r : Nat} (h : mayR (rawB hs b) (r : Int) = true) : r < b.n ∧ (b.T r).wi = 0 ∧ (r < b.m ∨ b.om = 0) := by
  unfold mayR at h
  rw [Bool.and_eq_true, Bool.and_eq_true, Bool.or_eq_true] at h
  obtain ⟨⟨h1, h2⟩, h3⟩ := h
  have h1 := of_decide_eq_true h1
  have h1 : 0 ≤ (r : Int) ∧ (r : Int) < (b.n : Int) := h1
  rw [Int.toNat_natCast] at h2
  have h2 : (((b.T r).wi : Int) == 0) = true := h2
  have h2 := eq_of_beq h2
  refine ⟨by omega, by omega, ?_⟩
  rcases h3 with h3 | h3
  · have h3 : (r : Int) < (b.m : Int) := of_decide_eq_true h3
    exact .inl (by omega)
  · have h3 : ((b.om : Int) == 0) = true := h3
    have h3 := eq_of_beq h3
    exact .inr (by omega)
theorem thK_mem {P : Nat → Bool} {k r : Nat} (h : r ∈ thK P k) : r < k ∧ P r = true := by
  have := List.mem_filter.1 h
  exact ⟨List.mem_range.1 this.1, this.2⟩
theorem ready_mem {b : Bd} {nd now : Int} {r : Nat} (h : r ∈ readyB b nd now) : r < b.n ∧ (b.T r).wi = 0 ∧ (r < b.m ∨ b.om = 0) := by
  unfold readyB at h
  split at h
  · cases h
  · split at h
    · have := thK_mem h
      simp only [Bool.and_eq_true] at this
      exact mayR_of this.2.1
    · have := thK_mem h
      simp only [Bool.and_eq_true] at this
      exact mayR_of this.2.1
theorem thK_len (P : Nat → Bool) (k : Nat) : (thK P k).length ≤ k := Nat.le_trans (List.length_filter_le _ _) (by simp)
theorem ready_len (b : Bd) (nd now : Int) : (readyB b nd now).length ≤ b.n := by
  unfold readyB
  split
  · exact Nat.zero_le _
  · split <;> exact thK_len _ _
theorem winA_yes {b : Bd} {t : Nat} (hin : inB b (t : Int) = true) (h0 : (b.T t).wi ≠ 0) : ∃ nd, winA b (t : Int) = (nd, ((b.T t).wi : Int), true) := by
  unfold winA
  rw [hin, Int.toNat_natCast, if_pos (by simp [h0])]
  exact ⟨_, rfl⟩
/-- the law's own array of winners -/
structure WonAt (w : World) (gw : Nat) (v : Nat → Nat) : Prop where
  ty : Bears w gw 54
  c : ∀ t, t < 5 → w.cell? ⟨gw, t, none⟩ = some (.int .i64 (v t : Int))
theorem WonAt.same {w w' : World} {gw : Nat} {v : Nat → Nat} (h : WonAt w gw v) (e : w'.heap[gw]? = w.heap[gw]?) : WonAt w' gw v :=
  ⟨by obtain ⟨cs, k⟩ := h.ty; exact ⟨cs, e.trans k⟩, fun t ht => (cell_eq e t).trans (h.c t ht)⟩
theorem WonAt.set {w : World} {gw : Nat} {v : Nat → Nat} (h : WonAt w gw v) (i x : Nat) : WonAt (w.setCell ⟨gw, i, none⟩ (.int .i64 (x : Int))) gw (updN v i x) :=
  ⟨bears_set _ h.ty, fun t ht => by
    by_cases e : t = i
    · subst e
      rw [updN_same]
      exact World.cell?_setCell_same _ _ _ (h.c t ht)
    · rw [updN_other _ _ e]
      exact (World.cell?_setCell_other _ _ _ _ (by simp <;> omega)).trans (h.c t ht)⟩
structure KS (W w : World) (p gw g : Nat) (b : Bd) (v : Nat → Nat) (x : Ac) (N : Nat) : Prop where
  t : AB W w p b
  won : WonAt w gw v
  lo : W.heap.size ≤ gw
  box : AcB w g x
  bi : BI b N
  m : b.m = 3
  n : b.n = 5
theorem KS.call {W w w' : World} {p gw g : Nat} {b b' : Bd} {v : Nat → Nat} {x : Ac} {N N' : Nat} (h : KS W w p gw g b v x N) (ha : AB W w' p b') (hf : AF w w') (hb : BI b' N') (hm : b'.m = b.m) (hn : b'.n = b.n) : KS W w' p gw g b' v x N' :=
  ⟨ha, h.won.same (hf gw _ h.won.ty (by decide) (by decide) (by decide)), h.lo, h.box.same (hf g _ h.box.ty (by decide) (by decide) (by decide)), hb, hm.trans h.m, hn.trans h.n⟩
theorem KS.below {W w w' : World} {p gw g : Nat} {b : Bd} {v : Nat → Nat} {x : Ac} {N : Nat} (h : KS W w p gw g b v x N) (hb : Below w.heap.size w w') : KS W w' p gw g b v x N :=
  h.call (h.t.below hb) (af_below hb) h.bi rfl rfl
theorem KS.drewN {W w : World} {p gw g : Nat} {b : Bd} {v : Nat → Nat} {x : Ac} {N : Nat} (h : KS W w p gw g b v x N) (q : Nat) : KS W (w.drewN q) p gw g b v x N := h.below ⟨rfl, rfl, rfl, Nat.le_refl _, fun _ _ => rfl⟩
theorem KS.set {W w : World} {p gw g : Nat} {b : Bd} {v : Nat → Nat} {x : Ac} {N : Nat} (h : KS W w p gw g b v x N) (i y : Nat) : KS W (w.setCell ⟨gw, i, none⟩ (.int .i64 (y : Int))) p gw g b (updN v i y) x N := by
  have hs : ∀ c e, Bears w c e → e ≠ 54 → (w.setCell ⟨gw, i, none⟩ (.int .i64 (y : Int))).heap[c]? = w.heap[c]? := fun c e hb he => set_block _ _ _ (bears_apart hb h.won.ty he)
  refine ⟨⟨h.t.bel.setCell (p := ⟨gw, i, none⟩) h.lo _, ?_, h.t.mn, h.t.nn, h.t.lim, h.t.pat⟩, h.won.set i y, h.lo, h.box.same (hs g _ h.box.ty (by decide)), h.bi, h.m, h.n⟩
  obtain ⟨tb, hh, hr⟩ := h.t.raw
  exact ⟨tb, hh, hr.same fun c e hb he => hs c e hb (by rcases he with rfl | rfl | rfl <;> decide)⟩
end Go.Proofs.Ytkjbjihncpmmdaa
