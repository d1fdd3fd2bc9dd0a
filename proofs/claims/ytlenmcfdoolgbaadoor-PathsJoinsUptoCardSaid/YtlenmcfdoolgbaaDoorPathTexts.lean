/- A list of texts as it came in, for the laws of package paths: its cells, and how much it holds. -/
import Derived.Test.YtlenmcfdoolgbaaDoorPathJoinR
import Derived.SliceStrings
import Derived.ChangeShapes
import Derived.Deep.Slices
namespace Go.Proofs.YtlenmcfdoolgbaaDoor
open Go.RowKit Go.ChangeShapes Go.WideShapes Go.Deep

theorem bulk_parts {H : Type} (ss : List ByteArray) : Rows.uptoBulkAll (strs ss : List (DataW H)) = (Path.glue (ss.map Ls)).length := by
  induction ss with
  | nil => rfl
  | cons s ss ih =>
    show Rows.uptoBulkAll (DataW.lit (Lit.string s.data.toList) :: strs ss) = _
    simp only [Rows.uptoBulkAll, Rows.uptoBulk, List.map_cons, Path.glue, ih, List.length_cons, List.length_append, Ls]
    omega
theorem open_parts {H : Type} {enc : TypeId × Value → H} {W : World} {base : Nat} {v : Value} {d : DataW H} {p : List MemPlace}
    (hv : Value.okWide Tryd.prog W .any base 23 v) (h : DataW.Trod enc Tryd.prog W 0 (fun _ => true) true 23 v d p) (hk : Rows.uptoBulk d ≤ 1048576) :
    ∃ (A : Option Addr) (cap : Nat) (xs : List Path.Bs), v = .slice A xs.length cap ∧ xs.length ≤ cap ∧ (A = none → cap = 0) ∧ Txts W W.heap.size A xs ∧ (Path.glue xs).length ≤ 1048576 := by
  obtain ⟨A, len, cap, rfl⟩ := okWide_slice Tryd.underlying23 hv
  obtain ⟨fuel, hf⟩ := h
  have hc1 : Tryd.prog.cellsOf 9 = 1 := by kernel_rfl
  rcases open_strings Tryd.underlying23 Tryd.underlying9 hc1 hf with ⟨hcs, _⟩ | ⟨a, len', cap', ss, hcs, _, hl, hm, hss, hx, hcell, _⟩
  · simp only [Value.cells, List.cons.injEq, and_true] at hcs
    injection hcs with e1 e2 e3
    subst e1 e2 e3
    exact ⟨none, 0, [], rfl, Nat.le_refl _, fun _ => rfl, fun i hi => absurd hi (by simp), by simp [Path.glue]⟩
  · simp only [Value.cells, List.cons.injEq, and_true] at hcs
    injection hcs with e1 e2 e3
    subst e1 e2 e3
    simp only [if_true] at hss
    simp only [Prod.mk.injEq] at hx
    obtain ⟨rfl, _⟩ := hx
    have hk2 : (Path.glue ((ss.take len).map Ls)).length ≤ 1048576 := by
      simp only [Rows.uptoBulk, bulk_parts] at hk
      omega
    have hlen : ((ss.take len).map Ls).length = len := by simp; omega
    refine ⟨some a, cap, (ss.take len).map Ls, by rw [hlen], by omega, fun e => (by cases e), fun i hi => ?_, hk2⟩
    have hi' : i < ss.length := by omega
    have hc := hcell i hi'
    obtain ⟨b, off, spot⟩ := a
    have hspot : spot = none := by
      have h0 := World.cell?_spot (hcell 0 (by omega))
      simpa [Addr.add] using h0
    subst hspot
    rw [add_plain] at hc
    refine ⟨b, off, rfl, ?_, ?_⟩
    · rcases Nat.lt_or_ge b W.heap.size with hlt | hge
      · exact hlt
      · simp [World.cell?, Array.getElem?_eq_none hge] at hc
    · rw [hc]
      have e : ss.getD i ByteArray.empty = ss[i] := by rw [List.getD_eq_getElem?_getD, List.getElem?_eq_getElem hi']; rfl
      rw [e]
      simp [T, Ls]
end Go.Proofs.YtlenmcfdoolgbaaDoor
