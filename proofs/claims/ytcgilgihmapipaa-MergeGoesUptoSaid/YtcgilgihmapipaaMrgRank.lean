/- Merging: numbers for the order of any runs; the runs of the copies. -/
import Derived.Test.YtcgilgihmapipaaMrgCopied
namespace Go.Proofs.Ytcgilgihmapipaa
open Go.RowKit

def keysOf (R : Rn) : List Bts := (List.range R.n).flatMap fun i => (List.range (R.ln i)).map fun p => (R.K i p).data.toList
theorem keys_mem {R : Rn} {x : It} (h : VIt R x) : (R.K x.1 x.2).data.toList ∈ keysOf R :=
  List.mem_flatMap.2 ⟨x.1, List.mem_range.2 h.1, List.mem_map.2 ⟨x.2, List.mem_range.2 h.2, rfl⟩⟩
def ordR (R : Rn) (x : It) : Int := ((rank (keysOf R) (R.K x.1 x.2).data.toList * R.n + x.1 : Nat) : Int)
theorem num_lt {a b n i j : Nat} (hi : i < n) (h : a < b) : a * n + i < b * n + j := by
  have := Nat.mul_le_mul_right n (Nat.succ_le_of_lt h)
  rw [Nat.succ_mul] at this
  omega
theorem ord_cases {R : Rn} {x y : It} (hx : VIt R x) (hy : VIt R y) :
    (compare (R.K x.1 x.2).data.toList (R.K y.1 y.2).data.toList = .lt ∧ ordR R x < ordR R y) ∨ (compare (R.K x.1 x.2).data.toList (R.K y.1 y.2).data.toList = .gt ∧ ordR R y < ordR R x) ∨
    (compare (R.K x.1 x.2).data.toList (R.K y.1 y.2).data.toList = .eq ∧ (ordR R x < ordR R y ↔ x.1 < y.1) ∧ (ordR R x = ordR R y ↔ x.1 = y.1)) := by
  have h1 := rank_iff (keys_mem hx) (keys_mem hy)
  have h2 := rank_iff (keys_mem hy) (keys_mem hx)
  unfold ordR
  rcases h : compare (R.K x.1 x.2).data.toList (R.K y.1 y.2).data.toList with _ | _ | _
  · have := num_lt (j := y.1) hx.1 (h1.1.2 h)
    exact .inl ⟨rfl, by omega⟩
  · have e := h1.2.2 (Std.LawfulEqCmp.eq_of_compare h)
    rw [e]
    exact .inr (.inr ⟨rfl, by omega, by omega⟩)
  · have := num_lt (j := x.1) hy.1 (h2.1.2 (Std.OrientedCmp.gt_iff_lt.1 h))
    exact .inr (.inl ⟨rfl, by omega⟩)
theorem ord_ok (R : Rn) : OrdOk R (ordR R) := fun x y hx hy => by
  rw [cmp_bytes]
  rcases ord_cases hx hy with ⟨h, k⟩ | ⟨h, k⟩ | ⟨h, k, _⟩ <;> rw [h]
  · exact ⟨fun _ => ⟨fun _ => by decide, fun _ => k⟩, fun e => absurd e (by decide)⟩
  · exact ⟨fun _ => ⟨fun e => by omega, fun e => absurd e (by decide)⟩, fun e => absurd e (by decide)⟩
  · exact ⟨fun e => absurd rfl e, fun _ => k⟩
theorem ord_inj (R : Rn) : OrdInj R (ordR R) := fun x y hx hy e => by
  rcases ord_cases hx hy with ⟨_, k⟩ | ⟨_, k⟩ | ⟨_, _, k⟩
  · omega
  · omega
  · exact k.1 e
def bkV : Value → Nat
  | .slice (some a) _ _ => a.block
  | _ => 0
def cpV : Value → Nat
  | .slice _ _ c => c
  | _ => 0
/-- the same pairs, in other rows -/
def withR (R : Rn) (h : Nat → Value) : Rn := ⟨R.n, fun i => bkV (h i), fun _ => 0, R.ln, fun i => cpV (h i), R.K, R.V⟩
theorem mrg_with (R : Rn) (h : Nat → Value) (ord : It → Int) : ∀ (k : Nat) (pos : Nat → Nat), mrg (withR R h) ord k pos = mrg R ord k pos
  | 0, _ => rfl
  | k + 1, pos => by
    simp only [mrg, mrg_with R h ord k]
    rfl
theorem mrgL_with (R : Rn) (h : Nat → Value) (ord : It → Int) : mrgL (withR R h) ord = mrgL R ord := mrg_with R h ord _ _
theorem ord_with {R : Rn} (h : Nat → Value) {ord : It → Int} (H : OrdOk R ord) : OrdOk (withR R h) ord := H
theorem inj_with {R : Rn} (h : Nat → Value) {ord : It → Int} (H : OrdInj R ord) : OrdInj (withR R h) ord := H
theorem prC_with (R : Rn) (h : Nat → Value) (l : List It) : prC (withR R h) l = prC R l := rfl
theorem tot_with (R : Rn) (h : Nat → Value) (pos : Nat → Nat) : tot (withR R h) pos = tot R pos := rfl
theorem own_forms {W : World} {B n : Nat} {e eE : TypeId} {va : Value} {R : Rn} {h : Nat → Value} (hn : n = R.n) (hr : W.ownsRow B e 1 va n ((List.range n).map h)) (hp : ∀ i, i < n → W.ownsRow B eE 2 (h i) (R.ln i) (prN (R.K i) (R.V i) (R.ln i))) :
    ∃ A c, va = .slice A n c ∧ HdAt (withR R h) W.heap.size A W ∧ RnAt (withR R h) W.heap.size W := by
  subst hn
  have h1 : ∀ i, i < R.n → ∃ a, h i = .slice a (R.ln i) (cpV (h i)) ∧ (0 < R.ln i → a = some ⟨bkV (h i), 0, none⟩) ∧ R.ln i ≤ cpV (h i) := fun i hi => by
    rcases (hp i hi).2 with ⟨e1, h0⟩ | ⟨g, cap, cur, e1, hB, hg, hnc, _⟩
    · rw [e1, h0]
      exact ⟨none, rfl, fun k => by omega, Nat.zero_le _⟩
    · rw [e1]
      exact ⟨_, rfl, fun _ => rfl, hnc⟩
  have hR : RnAt (withR R h) W.heap.size W := fun i hi p hp2 => by
    have hi' : i < R.n := hi
    have hp' : p < R.ln i := hp2
    rcases (hp i hi').2 with ⟨e1, h0⟩ | ⟨g, cap, cur, e1, hB, hg, _⟩
    · omega
    · have eb : bkV (h i) = g := by rw [e1]; rfl
      show bkV (h i) < W.heap.size ∧ W.cell? ⟨bkV (h i), 0 + p * 2, none⟩ = _ ∧ W.cell? ⟨bkV (h i), 0 + p * 2 + 1, none⟩ = _
      rw [eb, Nat.zero_add]
      have hq := hp i hi'
      rw [e1] at hq
      refine ⟨(Array.getElem?_eq_some_iff.1 hg).1, ?_, ?_⟩
      · rw [hq.cellAt _ (by omega)]
        exact (prN_get _ _ _ p hp').1
      · rw [hq.cellAt _ (by omega)]
        exact (prN_get _ _ _ p hp').2
  rcases hr.2 with ⟨rfl, h0⟩ | ⟨g, cap, cur, rfl, hB, hg, _⟩
  · exact ⟨none, 0, by rw [h0], fun i hi => by have : i < R.n := hi; omega, hR⟩
  · refine ⟨_, _, rfl, fun i hi => ?_, hR⟩
    have hi' : i < R.n := hi
    obtain ⟨a, e1, e2, e3⟩ := h1 i hi'
    refine ⟨g, 0, a, rfl, (Array.getElem?_eq_some_iff.1 hg).1, ?_, e2, e3⟩
    rw [Nat.zero_add, hr.cellAt i (by omega)]
    simp [hi']
    exact e1
end Go.Proofs.Ytcgilgihmapipaa
