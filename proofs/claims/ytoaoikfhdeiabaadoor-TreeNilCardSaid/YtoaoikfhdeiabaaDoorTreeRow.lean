/- Package tree: the row of ancestors: room in all of them, and telling them that more stand below. -/
import Derived.Test.YtoaoikfhdeiabaaDoorTreeIn1
import Derived.Test.YtoaoikfhdeiabaaDoorTreeMap
namespace Go.Proofs.YtoaoikfhdeiabaaDoor
open Go.RowKit Go.Maps
/-- a row of directories, in the cells of block g -/
def DirRow (w : World) (g : Nat) (ds : List Nat) : Prop := ∀ i (h : i < ds.length), w.cell? ⟨g, i, none⟩ = some (.pointer (some ⟨ds[i], 0, none⟩))
def roomQ (q c n : Int) : Bool := decide (q = 0) || decide (c + n ≤ q)
set_option maxHeartbeats 1000000 in
theorem room_dir (d : Nat) (n q c : Int) (w : World) (hq : w.cell? ⟨d, 0, none⟩ = some (.int .i64 q)) (hc : w.cell? ⟨d, 1, none⟩ = some (.int .i64 c)) (hw : IntKind.i64.wrap (c + n) = c + n) :
    Calls Tryd.prog 66 #[.pointer (some ⟨d, 0, none⟩), .int .i64 n] w fun e w' => e = .returned (.bool (roomQ q c n)) ∧ ∃ m, w' = w.drewN m := by
  unfold roomQ
  go_enter Tryd.func66, Tryd.ntmps66
  by_cases h0 : q = 0
  · have h1 : (q == 0) = true := by simpa using h0
    have h2 : decide (q = 0) = true := decide_eq_true h0
    rw [h2]
    clear h2
    go_wp2_with (fail)
    go_quiet (fail)
    go_wp2
    go_ret
    exact ⟨by simp, _, rfl⟩
  · have h1 : (q == 0) = false := by simpa using h0
    have h2 : decide (q = 0) = false := decide_eq_false h0
    rw [h2]
    clear h2 h0
    go_wp2_with (fail)
    go_quiet (fail)
    go_wp2
    go_ret
    exact ⟨by simp, _, rfl⟩
set_option maxHeartbeats 2000000 in
theorem rooms_any (g : Nat) (ds : List Nat) (cap : Nat) (n : Int) (qs cs : Nat → Int) (w : World) (hl : ds.length ≤ 1048576) (hr : DirRow w g ds) (hd : Hid (∀ i (h : i < ds.length), w.cell? ⟨ds[i], 0, none⟩ = some (.int .i64 (qs i)) ∧ w.cell? ⟨ds[i], 1, none⟩ = some (.int .i64 (cs i)) ∧ IntKind.i64.wrap (cs i + n) = cs i + n)) :
    Calls Tryd.prog 35 #[.slice (some ⟨g, 0, none⟩) ds.length cap, .int .i64 n] w fun e w' => e = .returned (.bool ((List.range ds.length).all fun i => roomQ (qs i) (cs i) n)) ∧ ∃ m, w' = w.drewN m := by
  have HR := Lib.hid hr
  obtain ⟨N, hN⟩ : ∃ N, N = ds.length := ⟨_, rfl⟩
  have HN := Lib.hid hN
  rw [← hN] at hl ⊢
  clear hr hN
  go_enter Tryd.func35, Tryd.ntmps35
  go_wp2
  go_loopw [9] (fun iv wr => ∃ k : Nat, k ≤ N ∧ iv = .int .i64 (k : Int) ∧ ((List.range k).all fun i => roomQ (qs i) (cs i) n) = true ∧ Hid (∃ m, wr = w.drewN m)) (fun iv _ => N - (intOf iv).toNat)
  case atStart => exact ⟨0, Nat.zero_le _, rfl, rfl, Lib.hid ⟨0, rfl⟩⟩
  case round =>
    obtain ⟨k, hk, rfl, ha, HM⟩ := hrel
    obtain ⟨m, rfl⟩ := HM.out
    have HA := Lib.hid ha
    clear HM ha
    by_cases hlt : k < N
    · have hkl : k < ds.length := by have := HN.out; omega
      have hc : (w.drewN m).cell? ⟨g, k, none⟩ = some (.pointer (some ⟨ds[k], 0, none⟩)) := HR.out k hkl
      obtain ⟨h1, h2, h3⟩ := hd.out k hkl
      have hro := room_dir ds[k] n (qs k) (cs k) (w.drewN m) h1 h2 h3
      obtain ⟨d, hdd⟩ : ∃ d, d = ds[k] := ⟨_, rfl⟩
      rw [← hdd] at hc hro
      have HRO := Lib.hid hro
      clear h1 h2 h3 hro hdd
      go_wp2_with (fail)
      refine HRO.out.mono ?_
      rintro e w1 ⟨rfl, m1, rfl⟩
      cases hq : roomQ (qs k) (cs k) n with
      | true =>
        have HA2 : Hid (((List.range (k + 1)).all fun i => roomQ (qs i) (cs i) n) = true) := Lib.hid (by rw [List.range_succ, List.all_append, HA.out]; simp [hq])
        clear hq
        go_wp2
        go_roundw
        case rel => exact ⟨k + 1, by omega, by first | rfl | go_num, HA2.out, Lib.hid ⟨_, rfl⟩⟩
        case measure => simp [intOf]; omega
      | false =>
        have HF : Hid (((List.range N).all fun i => roomQ (qs i) (cs i) n) = false) := Lib.hid (by
          rw [List.all_eq_false]
          exact ⟨k, List.mem_range.2 hlt, by simp [hq]⟩)
        clear hq
        go_wp2
        go_ret
        exact ⟨by rw [HF.out]; rfl, _, rfl⟩
    · obtain rfl : k = N := by omega
      go_wp2
      go_ret
      exact ⟨by rw [HA.out]; rfl, m, rfl⟩
end Go.Proofs.YtoaoikfhdeiabaaDoor
