/- Both boards of attempts in memory beside each other: a call of the one leaves the other. -/
import Derived.Test.YtapnlofklgknmaaAtrRdR
namespace Go.Proofs.Ytapnlofklgknmaa
open Go.RowKit

structure BO (W w : World) (p q : Nat) (b : Bd) (m r : Nat) (lim pat : Int) (L : List Tr) (v : Value) : Prop where
  ab : AB W w p b
  rb : RB W.heap.size w q m r lim pat L v
section
variable {W w w' : World} {p q : Nat} {b b' : Bd} {m r : Nat} {lim pat : Int} {L L' : List Tr} {v v' : Value}
theorem BO.below (h : BO W w p q b m r lim pat L v) (hb : Below w.heap.size w w') : BO W w' p q b m r lim pat L v := ⟨h.ab.below hb, h.rb.below hb⟩
/-- behind a call of the program -/
theorem BO.prog (h : BO W w p q b m r lim pat L v) (ha : AB W w' p b') (hf : AF w w') : BO W w' p q b' m r lim pat L v :=
  ⟨ha, h.rb.same fun c e hc he => hf c e hc (by rcases he with rfl | rfl <;> decide) (by rcases he with rfl | rfl <;> decide) (by rcases he with rfl | rfl <;> decide)⟩
/-- behind a call of the reference -/
theorem BO.refr (h : BO W w p q b m r lim pat L v) (hr : RB W.heap.size w' q m r lim pat L' v') (hf : RF w w') (hb : Below W.heap.size w w') : BO W w' p q b m r lim pat L' v' :=
  ⟨⟨h.ab.bel.trans hb, by
    obtain ⟨tb, hh, k⟩ := h.ab.raw
    exact ⟨tb, hh, k.same fun c e hc he => hf c e hc (by rcases he with rfl | rfl | rfl <;> decide) (by rcases he with rfl | rfl | rfl <;> decide)⟩, h.ab.mn, h.ab.nn, h.ab.lim, h.ab.pat⟩, hr⟩
theorem BO.drewN (h : BO W w p q b m r lim pat L v) (n : Nat) : BO W (w.drewN n) p q b m r lim pat L v := h.below (bel_drew w n)
end
theorem start_rel {b : Bd} {m r : Nat} {lim pat : Int} {L : List Tr} (h : Rel b m r lim pat L) (x nd now : Int) :
    (okS m r lim L x = false ∧ startA b x = 0 ∧ startB b x nd now = b) ∨
    (okS m r lim L x = true ∧ startA b x = ((numL x L + 1 : Nat) : Int) ∧ Rel (startB b x nd now) m r lim pat (L ++ [⟨x, ((numL x L + 1 : Nat) : Int), nd, mom now, 0, false⟩])) := by
  have hm := h.may_start x
  cases ho : okS m r lim L x with
  | false =>
    rw [ho] at hm
    refine .inl ⟨rfl, ?_, ?_⟩
    · unfold startA; rw [← hm]; rfl
    · unfold startB; rw [← hm]; rfl
  | true =>
    have ho' := ho
    unfold okS at ho'
    simp only [Bool.and_eq_true, decide_eq_true_eq] at ho'
    obtain ⟨k, rfl⟩ : ∃ k : Nat, x = (k : Int) := ⟨x.toNat, by omega⟩
    rw [ho] at hm
    refine .inr ⟨rfl, ?_, ?_⟩
    · unfold startA
      rw [← hm, Int.toNat_natCast, h.att k, attL_len]
      rfl
    · have e : startB b (k : Int) nd now = setTk b k (begT (b.T k) nd (mom now)) := by
        unfold startB
        rw [← hm, Int.toNat_natCast]
        rfl
      rw [e]
      exact h.start k (by omega) nd now
end Go.Proofs.Ytapnlofklgknmaa
