/- The library's Split and Join at a slash. -/
import Derived.Test.YtlenmcfdoolgbaaDoorPathAre
namespace Go.Proofs.YtlenmcfdoolgbaaDoor
open Go.RowKit

theorem mkT (x : ByteArray) : Value.string x = T x.data.toList := by rw [T]
theorem infoStr : (Tryd.prog.info? 9).map (fun i => (i.zero, i.size, i.bytes)) = some (some (.string ByteArray.empty), 1, 16) := by kernel_rfl
theorem cuts_cells (s : ByteArray) : (Lib.splitB ⟨#[47]⟩ 0 (Lib.countB s ⟨#[47]⟩) s).map Value.string = (Path.cuts s.data.toList).map T := by
  have h := Lib.splitB_data ⟨#[47]⟩ 0 (Lib.countB s ⟨#[47]⟩) s
  have e : Lib.countB s ⟨#[47]⟩ = Lib.count s.data.toList [47] := rfl
  rw [e] at h ⊢
  have e2 : (ByteArray.mk #[47]).data.toList = [47] := rfl
  rw [e2, Path.splitK_cuts] at h
  rw [← h, List.map_map]
  apply List.map_congr_left
  intro x _
  exact mkT x
set_option maxHeartbeats 1000000 in
theorem split_any (s : ByteArray) (w : World) (hs : s.size < 4294967281) :
    Calls Tryd.prog 31 #[.string s, .string ⟨#[47]⟩] w fun e w' =>
      e = .returned (.slice (some ⟨w.heap.size, 0, none⟩) (Path.cuts s.data.toList).length (Path.cuts s.data.toList).length) ∧ w.alloc (.cells ((Path.cuts s.data.toList).map T).toArray 9) = w' := by
  have hlen := Lib.splitB_all ⟨#[47]⟩ (by decide) 0 _ s rfl
  have hle := Lib.countB_le ⟨#[47]⟩ (by decide) s.size s (Nat.le_refl _)
  have c := Any.strings_genSplit_core Tryd.lays221 infoStr s ⟨#[47]⟩ 0 (-1) (Lib.countB s ⟨#[47]⟩ + 1) w hs (by decide) (by decide)
    (fun x c _ => by
      have := Tryd.strings_Index_one x 47 (w.alloc (.cells c 9))
      rw [← Lib.index_one] at this
      exact this)
    (by
      have := Tryd.strings_Count_one s 47 w
      have e : Lib.countByte s.data.toList 47 = (Lib.countB s ⟨#[47]⟩ : Int) := by
        show ((s.data.toList.count 47 : Nat) : Int) = ((Lib.count s.data.toList [47] : Nat) : Int)
        rw [Lib.count_one]
      rw [e] at this
      exact this)
    (by decide) (by decide) (by rw [if_pos (by decide)]; omega)
  rw [Nat.add_sub_cancel, hlen] at c
  have e2 : Lib.cellsOf (Lib.splitB ⟨#[47]⟩ 0 (Lib.countB s ⟨#[47]⟩) s) (Lib.countB s ⟨#[47]⟩ + 1) = ((Path.cuts s.data.toList).map T).toArray := by rw [← cuts_cells, ← hlen]; exact Lib.cellsOf_full _
  rw [e2] at c
  have e3 : Lib.countB s ⟨#[47]⟩ + 1 = (Path.cuts s.data.toList).length := by rw [Path.cuts_len]
  rw [e3] at c
  have c' : Calls Tryd.prog 37 #[.string s, .string ⟨#[47]⟩, .int .i64 0, .int .i64 (-1)] w fun e w' =>
      e = .returned (.slice (some ⟨w.heap.size, 0, none⟩) (Path.cuts s.data.toList).length (Path.cuts s.data.toList).length) ∧ w' = w.alloc (.cells ((Path.cuts s.data.toList).map T).toArray 9) := c
  clear hlen hle e2 e3 c
  go_enter Tryd.func31, Tryd.ntmps31
  go_wp2_with (fail)
  refine c'.mono ?_
  rintro e w' ⟨rfl, rfl⟩
  go_wp2
  go_ret
  exact ⟨rfl, rfl⟩

theorem join_any (xs : List Path.Bs) (A : Option Addr) (cap B : Nat) (w : World) (hA : Txts w B A xs) (hB : B ≤ w.heap.size) (hcap : xs.length ≤ cap) (hN : xs.length ≤ 140737488355328) (hlen : (Lib.join xs [47]).length ≤ 140737488355328) :
    Calls Tryd.prog 33 #[.slice A xs.length cap, .string ⟨#[47]⟩] w fun e w' => e = .returned (T (Lib.join xs [47])) ∧ Below w.heap.size w w' := by
  cases xs with
  | nil => exact (Tryd.strings_Join_none A cap ⟨#[47]⟩ w).mono fun e w' ⟨he, hw⟩ => ⟨he, hw ▸ Below.refl _ _⟩
  | cons x r =>
    obtain ⟨b, off, rfl, hb, _⟩ := hA 0 (by simp)
    have hm : ((x :: r).map fun l : Path.Bs => (⟨l.toArray⟩ : ByteArray)).map (·.data.toList) = x :: r := by
      rw [List.map_map]; exact (List.map_congr_left (fun l _ => by rfl)).trans (List.map_id _)
    have c := Tryd.strings_Join b off cap ((x :: r).map fun l : Path.Bs => (⟨l.toArray⟩ : ByteArray)) ⟨#[47]⟩ w
      (fun j y hy => by
        rw [List.getElem?_map] at hy
        obtain ⟨l, hl, rfl⟩ := Option.map_eq_some_iff.1 hy
        obtain ⟨hj, rfl⟩ := List.getElem?_eq_some_iff.1 hl
        obtain ⟨b', off', e, _, hc⟩ := hA j hj
        injection e with e; injection e with e1 e2
        subst e1 e2
        exact hc) (by omega) (by simpa using hN) (by simpa using hcap) (by rw [hm]; exact hlen)
    rw [hm, List.length_map] at c
    exact c
theorem slash_app (l : Path.Bs) : (⟨#[47]⟩ : ByteArray) ++ ⟨l.toArray⟩ = ⟨(47 :: l).toArray⟩ := by
  apply ByteArray.ext
  apply Array.toList_inj.1
  simp
set_option maxHeartbeats 1000000 in
theorem joined_any (xs : List Path.Bs) (A : Option Addr) (cap B : Nat) (w : World) (hA : Txts w B A xs) (hB : B ≤ w.heap.size) (hcap : xs.length ≤ cap) (hN : xs.length ≤ 140737488355328) (hlen : (Path.path xs).length ≤ 140737488355328) :
    Calls Tryd.prog 25 #[.slice A xs.length cap] w fun e w' => e = .returned (T (Path.path xs)) ∧ Below w.heap.size w w' := by
  rw [Path.path_join] at hlen ⊢
  have c := join_any xs A cap B w hA hB hcap hN (by simp at hlen; omega)
  obtain ⟨q, hq⟩ : ∃ q : ByteArray, q = ⟨(Lib.join xs [47]).toArray⟩ := ⟨_, rfl⟩
  have hqs : q.size ≤ 140737488355328 := by rw [hq]; show (Lib.join xs [47]).toArray.size ≤ _; simp at hlen ⊢; omega
  have HQ : Hid ((⟨#[47]⟩ : ByteArray) ++ q = ⟨(47 :: Lib.join xs [47]).toArray⟩) := Lib.hid (by rw [hq]; exact slash_app _)
  rw [T, ← hq] at c
  have hqm : (⟨#[47]⟩ : ByteArray).size + q.size ≤ maxLen := by unfold maxLen; show 1 + q.size ≤ _; omega
  clear hq hlen hA hB hcap hN
  go_enter Tryd.func25, Tryd.ntmps25
  go_wp2_with (fail)
  refine c.mono ?_
  rintro e w' ⟨rfl, hb⟩
  have HB := Lib.hid hb
  clear hb c
  go_wp2
  go_ret
  exact ⟨by rw [T, ← HQ.out]; rfl, HB.out⟩
end Go.Proofs.YtlenmcfdoolgbaaDoor
