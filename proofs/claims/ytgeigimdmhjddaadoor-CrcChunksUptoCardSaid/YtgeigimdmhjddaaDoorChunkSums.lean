/- crc.Chunks and crc.Bad as a law wants them: sums in a slice of the call's own. -/
import Derived.Test.YtgeigimdmhjddaaDoorChunkMath
import Derived.Test.YtgeigimdmhjddaaDoorBytes
namespace Go.Proofs.YtgeigimdmhjddaaDoor
open Go.RowKit

def SumsPost (w : World) (xs : List Txt) (e : Ending) (W' : World) : Prop :=
  ∃ A cap, e = .returned (.slice A xs.length cap) ∧ SumsAt W' W'.heap.size A xs.length (fOf xs) ∧ (∀ a, A = some a → w.heap.size ≤ a.block) ∧ (∀ i, i < xs.length → ∃ b off, A = some ⟨b, off, none⟩ ∧ W'.frozen? ⟨b, off + i, none⟩ = false) ∧ Below w.heap.size w W'
theorem sums_of {w W' : World} {xs : List Txt} {v : Value} (h : W'.ownsRow w.heap.size 27 1 v xs.length (xs.map sumV)) (hb : Below w.heap.size w W') : SumsPost w xs (.returned v) W' := by
  rcases h.2 with ⟨rfl, h0⟩ | ⟨g, cap, cur, rfl, hg, hgb, _⟩
  · refine ⟨none, 0, by rw [h0], (fun i hi => by omega), (fun a e => by cases e), (fun i hi => by omega), hb⟩
  · refine ⟨_, cap, rfl, fun i hi => ⟨g, 0, rfl, (Array.getElem?_eq_some_iff.1 hgb).1, ?_⟩, (fun a e => by cases e; exact hg), fun i hi => ⟨g, 0, rfl, ?_⟩, hb⟩
    · rw [Nat.zero_add]
      refine (h.cellAt i (by omega)).trans ?_
      simp [hi, fOf, sumV, sumB]
    · rw [Nat.zero_add]
      exact h.frozenAt i
theorem chunks_sums (s : Txt) (k : Int) (K : Nat) (hK : k.toNat = K) (hk1 : k ≤ 9223372036854775807) (hsz : s.1.size ≤ 1099511627776) (w : World) (hh : Half w) :
    Calls Tryd.prog 7 #[.string s.1, .int .i64 k] w (SumsPost w (chA K s)) :=
  (chunks_any s k K hK hk1 hsz w hh).mono fun _ _ ⟨_, he, ho, hb⟩ => by subst he; exact sums_of ho hb
/-- in a world that has grown out of w3 -/
theorem bad_grown {w3 : World} (hh : Half w3) (s : Txt) (K : Nat) (hk0 : 1 ≤ K) (hk1 : K ≤ 1099511627776) (hsz : s.1.size ≤ 1099511627776) (A : Option Addr) (len cap : Nat) (hlen : len ≤ 1099511627776) (f : Nat → BitVec 32) (hS : SumsAt w3 w3.heap.size A len f) (r : Int) (hr : badG f len 0 (chA K s) = r)
    (w : World) (hb : Below w3.heap.size w3 w) :
    Calls Tryd.prog 9 #[.string s.1, .int .i64 (K : Int), .slice A len cap] w fun e w' => e = .returned (.int .i64 r) ∧ Below w3.heap.size w3 w' := by
  have hS2 : SumsAt w w.heap.size A len f := fun i hi => by
    obtain ⟨b, off, e, h1, h2⟩ := (hS.below hb) i hi
    exact ⟨b, off, e, by have := hb.size; omega, h2⟩
  refine (bad_any s (K : Int) K (by simp) (by omega) (by omega) hsz A len cap hlen f w (hh.below hb hh.lt) hS2).mono fun e w' ⟨he, hb'⟩ => ⟨by rw [← hr]; exact he, hb.trans (hb'.mono hb.size)⟩
end Go.Proofs.YtgeigimdmhjddaaDoor
