/- The library's Split and Join at a slash. -/
import Derived.Test.YtoaoikfhdeiabaaDoorPathAre
namespace Go.Proofs.YtoaoikfhdeiabaaDoor
open Go.RowKit

theorem mkT (x : ByteArray) : Value.string x = T x.data.toList := by rw [T]
theorem infoStr : (Tryd.prog.info? 9).map (fun i => (i.zero, i.size, i.bytes)) = some (some (.string ByteArray.empty), 1, 16) := by kernel_rfl
theorem cuts_cells (s : ByteArray) : (Lib.splitB ⟨#[47]⟩ 0 (Lib.countB s ⟨#[47]⟩) s).map Value.string = (Path.cuts s.data.toList).map T := by
  have h := Lib.splitB_data ⟨#[47]⟩ 0 (Lib.countB s ⟨#[47]⟩) s
  have e : Lib.countB s ⟨#[47]⟩ = Lib.count s.data.toList [47] := rfl
  rw [e] at h ⊢
  have e2 : (ByteArray.mk #[47]).data.toList = [47] := rfl
  rw [e2, Path.splitK_cuts] at h
  rw [← h, List.map_map]
  apply List.map_congr_left
  intro x _
  exact mkT x
set_option maxHeartbeats 1000000 in
theorem split_any (s : ByteArray) (w : World) (hs : s.size < 4294967281) :
    Calls Tryd.prog 53 #[.string s, .string ⟨#[47]⟩] w fun e w' =>
      e = .returned (.slice (some ⟨w.heap.size, 0, none⟩) (Path.cuts s.data.toList).length (Path.cuts s.data.toList).length) ∧ w.alloc (.cells ((Path.cuts s.data.toList).map T).toArray 9) = w' := by
  have hlen := Lib.splitB_all ⟨#[47]⟩ (by decide) 0 _ s rfl
  have hle := Lib.countB_le ⟨#[47]⟩ (by decide) s.size s (Nat.le_refl _)
  have c := Any.strings_genSplit_core Tryd.lays221 infoStr s ⟨#[47]⟩ 0 (-1) (Lib.countB s ⟨#[47]⟩ + 1) w hs (by decide) (by decide)
    (fun x c _ => by
      have := Tryd.strings_Index_one x 47 (w.alloc (.cells c 9))
      rw [← Lib.index_one] at this
      exact this)
    (by
      have := Tryd.strings_Count_one s 47 w
      have e : Lib.countByte s.data.toList 47 = (Lib.countB s ⟨#[47]⟩ : Int) := by
        show ((s.data.toList.count 47 : Nat) : Int) = ((Lib.count s.data.toList [47] : Nat) : Int)
        rw [Lib.count_one]
      rw [e] at this
      exact this)
    (by decide) (by decide) (by rw [if_pos (by decide)]; omega)
  rw [Nat.add_sub_cancel, hlen] at c
  have e2 : Lib.cellsOf (Lib.splitB ⟨#[47]⟩ 0 (Lib.countB s ⟨#[47]⟩) s) (Lib.countB s ⟨#[47]⟩ + 1) = ((Path.cuts s.data.toList).map T).toArray := by rw [← cuts_cells, ← hlen]; exact Lib.cellsOf_full _
  rw [e2] at c
  have e3 : Lib.countB s ⟨#[47]⟩ + 1 = (Path.cuts s.data.toList).length := by rw [Path.cuts_len]
  rw [e3] at c
  have c' : Calls Tryd.prog 73 #[.string s, .string ⟨#[47]⟩, .int .i64 0, .int .i64 (-1)] w fun e w' =>
      e = .returned (.slice (some ⟨w.heap.size, 0, none⟩) (Path.cuts s.data.toList).length (Path.cuts s.data.toList).length) ∧ w' = w.alloc (.cells ((Path.cuts s.data.toList).map T).toArray 9) := c
  clear hlen hle e2 e3 c
  go_enter Tryd.func53, Tryd.ntmps53
  go_wp2_with (fail)
  refine c'.mono ?_
  rintro e w' ⟨rfl, rfl⟩
  go_wp2
  go_ret
  exact ⟨rfl, rfl⟩

theorem slash_app (l : Path.Bs) : (⟨#[47]⟩ : ByteArray) ++ ⟨l.toArray⟩ = ⟨(47 :: l).toArray⟩ := by
  apply ByteArray.ext
  apply Array.toList_inj.1
  simp
end Go.Proofs.YtoaoikfhdeiabaaDoor
