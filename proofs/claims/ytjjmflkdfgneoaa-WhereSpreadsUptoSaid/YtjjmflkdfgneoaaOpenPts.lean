/- A list of points as it came in: its cells, and how long it may be. -/
import Derived.Test.YtjjmflkdfgneoaaNumbers
namespace Go.Proofs.Ytjjmflkdfgneoaa
open Go.RowKit Go.ChangeShapes Go.WideShapes Go.Deep

set_option maxRecDepth 100000 in
theorem open_pts {H : Type} {enc : TypeId × Value → H} {W : World} {base : Nat} {v : Value} {d : DataW H} {p : List MemPlace}
    (hv : Value.okWide Try.prog W .any base 24 v) (h : DataW.Trod enc Try.prog W 0 (fun _ => true) true 24 v d p) (hw : ∀ m ∈ d.weights Try.prog 24, m ≤ reachBytes) :
    ∃ (A : Option Addr) (cap : Nat) (ps : List Pnt), v = .slice A ps.length cap ∧ ps.length ≤ 5864062014800 ∧ PtsAt W W.heap.size A ps := by
  obtain ⟨A, len, cap, rfl⟩ := okWide_slice Try.underlying24 hv
  obtain ⟨fuel, hf⟩ := h
  rcases open_slice Try.underlying24 hf with ⟨hcs, _⟩ | ⟨a, len', cap', m, n, D, Pl, hcs, _, hl, hm, hmm, hx, hi⟩
  · simp only [Value.cells, List.cons.injEq, and_true] at hcs
    injection hcs with e1 e2 e3
    subst e1 e2 e3
    exact ⟨none, 0, [], rfl, by simp, fun i hi => absurd hi (by simp)⟩
  · simp only [Value.cells, List.cons.injEq, and_true] at hcs
    injection hcs with e1 e2 e3
    subst e1 e2 e3
    simp only [if_true] at hmm
    simp only [Prod.mk.injEq] at hx
    have c29 : Try.prog.cellsOf 23 = 3 := by kernel_rfl
    have b29 : Try.prog.bytesOf 23 = 24 := by kernel_rfl
    rw [c29] at hi
    have hlen : len * 24 ≤ 140737488351232 := by
      have := hw ((((List.range len).map D).length + ((List.range (m - len)).map fun j => D (len + j)).length) * 24) (by
        rw [hx.1]
        simp [DataW.weights, Try.underlying24, b29])
      unfold reachBytes at this
      simp at this
      omega
    have all : ∀ i, ∃ x : Pnt, i < len → ∃ b off, some a = some (⟨b, off, none⟩ : Addr) ∧ b < W.heap.size ∧ W.cell? ⟨b, off + i * 3, none⟩ = some (.int .i64 x.x) ∧ W.cell? ⟨b, off + i * 3 + 1, none⟩ = some (.int .i64 x.y) ∧ W.cell? ⟨b, off + i * 3 + 2, none⟩ = some (.bool x.raw) := fun i => by
      by_cases hil : i < len
      · obtain ⟨cs', hc, ht⟩ := hi i (by omega)
        obtain ⟨x, rfl⟩ := point_of ht
        obtain ⟨_, _, hat⟩ := World.cells?_some hc
        have h0 : a.spot = none := by
          obtain ⟨cs0, hc0, ht0⟩ := hi 0 (by omega)
          obtain ⟨x0, rfl⟩ := point_of ht0
          obtain ⟨_, _, hat0⟩ := World.cells?_some hc0
          have := World.cell?_spot (hat0 0 (by omega))
          simpa [Addr.add] using this
        obtain ⟨b, off, spot⟩ := a
        have hspot : spot = none := h0
        subst hspot
        have k0 := hat 0 (by omega)
        have k1 := hat 1 (by omega)
        have k2 := hat 2 (by omega)
        rw [add_plain, add_plain] at k0 k1 k2
        refine ⟨x, fun _ => ⟨b, off, rfl, ?_, k0, k1, k2⟩⟩
        rcases Nat.lt_or_ge b W.heap.size with hlt | hge
        · exact hlt
        · simp [World.cell?, Array.getElem?_eq_none hge] at k0
      · exact ⟨⟨0, 0, false⟩, fun h => absurd h hil⟩
    refine ⟨some a, cap, (List.range len).map fun i => Classical.choose (all i), by simp, by simp; omega, fun i hi2 => ?_⟩
    have hil : i < len := by simpa using hi2
    have hs := Classical.choose_spec (all i) hil
    rw [List.getElem_map, List.getElem_range]
    exact hs
end Go.Proofs.Ytjjmflkdfgneoaa
