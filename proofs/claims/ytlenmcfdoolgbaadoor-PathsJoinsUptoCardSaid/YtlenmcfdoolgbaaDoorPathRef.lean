/- The contracts of the reference for package paths: part, Split, Join, Within, Compare. -/
import Derived.Test.YtlenmcfdoolgbaaDoorPathRel
import Derived.WalkLawsBesides
namespace Go.Proofs.YtlenmcfdoolgbaaDoor
open Go.RowKit

theorem size_zero {s : ByteArray} (h : s.size = 0) : s.toList = [] := by
  rw [Lib.toList_data]; exact List.length_eq_zero_iff.1 (by rw [size_len]; exact h)
theorem not_nil {s : ByteArray} (h : 0 < s.size) : ¬ s.toList = [] := fun e => by
  rw [Lib.toList_data] at e
  have := size_len s
  rw [e] at this; simp at this; omega
theorem empty_lt (s : ByteArray) : s.toList.isEmpty = decide ((s.size : Int) < 1) := by
  rw [Lib.toList_data]
  have := size_len s
  rcases h : s.data.toList with _ | ⟨a, l⟩
  · rw [h] at this; simp at this; rw [← this]; rfl
  · rw [h] at this; simp at this
    have : decide ((s.size : Int) < 1) = false := decide_eq_false (by omega)
    rw [this]; rfl
theorem hb0' (s : ByteArray) : HB s (decide ((s.size : Int) < 1) || decide (64 < (s.size : Int)) || s.toList == [46] || s.toList == [46, 46]) := by
  rw [← empty_lt]; exact hb0 s
set_option maxHeartbeats 1000000 in
theorem rpart_any (s : ByteArray) (w : World) (hs : s.size ≤ maxLen) :
    Calls Tryd.prog 21 #[.string s] w fun e w' => e = .returned (.bool (Path.part s.data.toList)) ∧ ∃ m, w' = w.drewN m := by
  unfold maxLen at hs
  go_enter Tryd.func21, Tryd.ntmps21
  go_upto_region 1 with (fail)
  go_cut [19] (fun v wx => (∃ b, v = .bool b ∧ HB s b) ∧ w = wx)
  case first =>
    go_wp2
    all_goals go_meet
    all_goals refine ⟨⟨_, rfl, ?_⟩, rfl⟩
    all_goals first
      | exact hb0' s
      | (refine hb1 (size_zero ?_); omega)
      | (refine hb2 ?_; assumption)
      | (refine hb3 ?_ ?_ ?_ <;> first | assumption | (refine not_nil ?_; omega) | omega)
      | (refine hb4 ?_; omega)
  case rest =>
    obtain ⟨⟨b, rfl, hb⟩, rfl⟩ := hcut
    have HHB := Lib.hid hb
    clear hb
    cases b
    · go_wp2
      go_loopw [3] (fun i wr => ∃ k : Nat, k ≤ s.size ∧ i = .int .i64 k ∧ Hid (Ok s k) ∧ ∃ m, wr = w.drewN m) (fun i _ => s.size - (intOf i).toNat)
      case atStart => exact ⟨0, Nat.zero_le _, rfl, Lib.hid rfl, 0, rfl⟩
      case round =>
        obtain ⟨k, hk, rfl, HO, m, rfl⟩ := hrel
        by_cases hlt : k < s.size
        · have hlt' : (k : Int) < (s.size : Int) := by omega
          by_cases c1 : (s[k].toNat : Int) < 33
          · go_wp2
            go_ret
            exact ⟨by rw [Ok.stop hlt (ch_no (.inl c1))]; rfl, _, rfl⟩
          · by_cases c2 : 126 < (s[k].toNat : Int)
            · go_wp2
              go_ret
              exact ⟨by rw [Ok.stop hlt (ch_no (.inr (.inl c2)))]; rfl, _, rfl⟩
            · by_cases c3 : (s[k].toNat : Int) = 47
              · have d3 : ((s[k].toNat : Int) == 47) = true := beq_iff_eq.2 c3
                have HC := Lib.hid (ch_no (.inr (.inr c3)))
                clear c3
                go_wp2
                go_ret
                exact ⟨by rw [Ok.stop hlt HC.out]; rfl, _, rfl⟩
              · have d3 : ((s[k].toNat : Int) == 47) = false := beq_eq_false_iff_ne.2 c3
                have HC := Lib.hid (ch_of c1 c2 d3)
                go_wp2
                go_roundw
                case rel => exact ⟨k + 1, by omega, by go_num, Lib.hid (HO.out.next hlt HC.out), _, rfl⟩
                case measure => simp [intOf]; omega
        · go_wp2
          go_ret
          exact ⟨by rw [HO.out.fin hlt HHB.out]; rfl, _, rfl⟩
    · go_wp2
      go_ret
      exact ⟨by rw [part_no HHB.out]; rfl, 0, rfl⟩
end Go.Proofs.YtlenmcfdoolgbaaDoor
