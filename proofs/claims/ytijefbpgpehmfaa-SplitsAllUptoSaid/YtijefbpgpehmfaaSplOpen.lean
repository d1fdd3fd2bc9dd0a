/- A list of texts as it came in: its cells, and how much it holds. -/
import Derived.Test.YtijefbpgpehmfaaPlainKit
import Derived.SliceStrings
import Derived.ChangeShapes
import Derived.ChangeSlices
import Derived.WideShapes
import Derived.Deep.Slices
import Derived.Below
import Derived.ProofKit
namespace Go.Proofs.Ytijefbpgpehmfaa
open Go.RowKit Go.ChangeShapes Go.WideShapes Go.Deep

/-- how much texts hold, each with one more -/
def bulkT : List ByteArray → Nat
  | [] => 0
  | x :: xs => x.size + 1 + bulkT xs
/-- the slice value holds these texts, below B -/
def TxIs (w : World) (B : Nat) (A : Option Addr) (xs : List ByteArray) : Prop := ∀ i (h : i < xs.length), ∃ b off, A = some ⟨b, off, none⟩ ∧ b < B ∧ w.cell? ⟨b, off + i, none⟩ = some (.string xs[i])
theorem TxIs.below {w w' : World} {B : Nat} {A : Option Addr} {xs : List ByteArray} (h : TxIs w B A xs) (hb : Below B w w') : TxIs w' B A xs := fun i hi => by
  obtain ⟨b, off, e, hB, hc⟩ := h i hi
  exact ⟨b, off, e, hB, (hb.cell (p := ⟨b, _, none⟩) hB).trans hc⟩
theorem bulk_txs {H : Type} (ss : List ByteArray) : Rows.uptoBulkAll (strs ss : List (DataW H)) = bulkT ss := by
  induction ss with
  | nil => rfl
  | cons s ss ih =>
    show Rows.uptoBulkAll (DataW.lit (Lit.string s.data.toList) :: strs ss) = _
    simp only [Rows.uptoBulkAll, Rows.uptoBulk, bulkT, ih]
    have : s.data.toList.length = s.size := by simp
    omega
theorem open_txs {H : Type} {enc : TypeId × Value → H} {W : World} {base : Nat} {v : Value} {d : DataW H} {p : List MemPlace}
    (hv : Value.okWide Try.prog W .any base 32 v) (h : DataW.Trod enc Try.prog W 0 (fun _ => true) true 32 v d p) (hk : Rows.uptoBulk d ≤ 1048576) :
    ∃ (A : Option Addr) (cap : Nat) (xs : List ByteArray), v = .slice A xs.length cap ∧ TxIs W W.heap.size A xs ∧ bulkT xs ≤ 1048576 := by
  obtain ⟨A, len, cap, rfl⟩ := okWide_slice Try.underlying32 hv
  obtain ⟨fuel, hf⟩ := h
  have hc1 : Try.prog.cellsOf 9 = 1 := by kernel_rfl
  rcases open_strings Try.underlying32 Try.underlying9 hc1 hf with ⟨hcs, _⟩ | ⟨a, len', cap', ss, hcs, _, hl, hm, hss, hx, hcell, _⟩
  · simp only [Value.cells, List.cons.injEq, and_true] at hcs
    injection hcs with e1 e2 e3
    subst e1 e2 e3
    exact ⟨none, 0, [], rfl, fun i hi => absurd hi (by simp), Nat.zero_le _⟩
  · simp only [Value.cells, List.cons.injEq, and_true] at hcs
    injection hcs with e1 e2 e3
    subst e1 e2 e3
    simp only [if_true] at hss
    simp only [Prod.mk.injEq] at hx
    obtain ⟨rfl, _⟩ := hx
    have hk2 : bulkT (ss.take len) ≤ 1048576 := by
      simp only [Rows.uptoBulk, bulk_txs] at hk
      omega
    have hlen : (ss.take len).length = len := by simp; omega
    refine ⟨some a, cap, ss.take len, by rw [hlen], fun i hi => ?_, hk2⟩
    have hi' : i < ss.length := by omega
    have hc := hcell i hi'
    obtain ⟨b, off, spot⟩ := a
    have hspot : spot = none := by
      have h0 := World.cell?_spot (hcell 0 (by omega))
      simpa [Addr.add] using h0
    subst hspot
    rw [add_plain] at hc
    refine ⟨b, off, rfl, ?_, ?_⟩
    · rcases Nat.lt_or_ge b W.heap.size with hlt | hge
      · exact hlt
      · simp [World.cell?, Array.getElem?_eq_none hge] at hc
    · rw [hc]
      have e : ss.getD i ByteArray.empty = ss[i] := by rw [List.getD_eq_getElem?_getD, List.getElem?_eq_getElem hi']; rfl
      rw [e]
      simp
end Go.Proofs.Ytijefbpgpehmfaa
