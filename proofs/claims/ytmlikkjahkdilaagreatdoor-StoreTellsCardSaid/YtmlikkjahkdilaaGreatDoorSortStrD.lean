/- slices.Sort of a row of texts that the call itself has laid. -/
import Derived.Test.YtmlikkjahkdilaaGreatDoorShelf
import Derived.Test.YtmlikkjahkdilaaGreatDoorPlainKit
import Derived.Test.YtmlikkjahkdilaaGreatDoorDiskEnter
namespace Go.Proofs.YtmlikkjahkdilaaGreatDoor
open Go.RowKit Go.Sort

theorem putCells_take {α : Type} [Inhabited α] (enc : α → Value) (d : Array α) (cur : Array Value) (k : Nat) (hd : d.size = k) (hk : k ≤ cur.size) : (putCells enc 0 d cur).toList.take k = d.toList.map enc := by
  apply List.ext_getElem?
  intro i
  simp only [putCells, List.getElem?_take, Array.getElem?_toList, Array.getElem?_mapIdx, List.getElem?_map]
  by_cases hi : i < k
  · rw [if_pos hi, Array.getElem?_eq_getElem (show i < cur.size by omega), Option.map_some, if_pos ⟨Nat.zero_le _, by omega⟩, Array.getElem?_eq_getElem (show i < d.size by omega), Option.map_some]
    simp [getElem!_pos d i (by omega)]
  · rw [if_neg hi, Array.getElem?_eq_none (by omega)]
    rfl
/-- bytes of texts -/
abbrev tb (s : ByteArray) : List UInt8 := s.data.toList
theorem enc_tb (s : ByteArray) : encStr (tb s) = .string s := by
  have : (⟨(tb s).toArray⟩ : ByteArray) = s := ByteArray.ext (by simp [tb])
  simp only [encStr, this]
set_option maxRecDepth 100000 in
theorem sort_row (B k : Nat) (v : Value) (ys zs : List ByteArray) (w : World) (hk : k < 4611686018427387904) (hrow : w.ownsRow B 9 1 v k (ys.map Value.string)) (hz : (ys.map tb).mergeSort (fun x y => decide (x ≤ y)) = zs.map tb) :
    Calls Tryz.prog 39 #[v] w fun e w' => e = .returned (.tuple #[]) ∧ w'.ownsRow B 9 1 v k (zs.map Value.string) ∧ Tch w w' (fun i => some i = v.ownBlock) := by
  have hlen := hrow.1
  simp only [List.length_map, Nat.mul_one] at hlen
  have hzl : zs.length = k := by
    have := congrArg List.length hz
    rw [List.length_mergeSort, List.length_map, List.length_map] at this
    omega
  rcases hrow.2 with ⟨rfl, rfl⟩ | ⟨g, cap, cur, rfl, hB, hg, h1, h2, h3, h4⟩
  · refine (Tryz.slices_Sort_string_none none 0 w).mono ?_
    rintro e w' ⟨he, rfl⟩
    have : zs = [] := List.eq_nil_of_length_eq_zero hzl
    subst this
    exact ⟨he, World.ownsRow_nil _ _ _ _, Tch.refl _ _⟩
  · have hgl : g < w.heap.size := (Array.getElem?_eq_some_iff.1 hg).1
    have hH : Holds encStr w g 0 (ys.map tb).toArray := by
      intro j hj
      have hj' : j < k := by simpa [hlen] using hj
      have hjy : j < ys.length := by omega
      refine ⟨?_, hrow.frozenAt (0 + j)⟩
      rw [hrow.cellAt (0 + j) (by omega)]
      rw [getElem!_pos _ j hj]
      simp [encStr, tb, List.getElem?_eq_getElem hjy]
    have hc := Tryz.slices_Sort_string g 0 cap (ys.map tb) w hH hgl (by simpa [hlen] using hk)
    rw [List.length_map, hlen] at hc
    refine hc.mono ?_
    rintro e w' ⟨he, n, os, rfl⟩
    rw [hz]
    have hblk : ∀ i, (putRow encStr (Sort.ahead w n) g 0 (zs.map tb).toArray).heap[i]? = if i = g then some (.cells (putCells encStr 0 (zs.map tb).toArray cur) 9 (0, 0)) else w.heap[i]? := by
      intro i
      simp only [putRow, mapBlock, Sort.ahead, Array.getElem?_modify]
      by_cases e : i = g
      · subst e
        rw [if_pos rfl, if_pos rfl, hg]
        rfl
      · rw [if_neg (fun h => e h.symm), if_neg e]
    have hs : (putRow encStr (Sort.ahead w n) g 0 (zs.map tb).toArray).heap.size = w.heap.size := by simp
    refine ⟨he, ⟨by simpa using hzl, .inr ⟨g, cap, putCells encStr 0 (zs.map tb).toArray cur, rfl, hB, ?_, h1, h2, by simpa [putCells] using h3, ?_⟩⟩, ?_⟩
    · rw [heap_grow_old _ _ (by rw [hs]; exact hgl), hblk, if_pos rfl]
    · rw [Nat.mul_one, putCells_take encStr _ cur k (by simpa using hzl) (by omega)]
      simp only [List.map_map]
      exact List.map_congr_left fun s _ => enc_tb s
    · refine ⟨rfl, rfl, rfl, by simp, fun i hi hn => ?_⟩
      rw [heap_grow_old _ _ (by rw [hs]; exact hi), hblk, if_neg (fun e => hn (by rw [e]; rfl))]
end Go.Proofs.YtmlikkjahkdilaaGreatDoor
