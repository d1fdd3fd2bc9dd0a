/- The contracts of package paths: a part, parts, and the reference's part. -/
import Derived.Test.YtoaoikfhdeiabaaDoorPlainKit
import Derived.Test.YtoaoikfhdeiabaaDoorPathMath
import Derived.WalkLawsBesides
import Derived.WalkSpells
import Derived.Lib.Hide
import Derived.Below
import Derived.Deep.DeepCutAuto
import Derived.Deep.QuietTactic
import Derived.BigQuiet
import Derived.IntWalk
namespace Go.Proofs.YtoaoikfhdeiabaaDoor
open Go.RowKit

def headOk (l : Path.Bs) : Bool := decide (1 ≤ l.length) && (decide (l.length ≤ 64) && (!(l == [46]) && !(l == [46, 46])))
theorem part_head (l : Path.Bs) : Path.part l = (headOk l && l.all Path.ch) := by simp [Path.part, headOk, Bool.and_assoc]
/-- the answer of the first tests -/
def HB (s : ByteArray) (b : Bool) : Prop := b = !headOk s.data.toList
theorem size_len (s : ByteArray) : s.data.toList.length = s.size := by simp
theorem hb1 {s : ByteArray} (h : s.toList = []) : HB s true := by
  rw [Lib.toList_data] at h; simp [HB, headOk, h]
theorem hb2 {s : ByteArray} (h : s.toList = [46]) : HB s true := by
  rw [Lib.toList_data] at h; simp [HB, headOk, h]
theorem hb4 {s : ByteArray} (h : ¬ (s.size : Int) ≤ 64) : HB s true := by
  have := size_len s
  have h2 : decide (s.data.toList.length ≤ 64) = false := decide_eq_false (by omega)
  simp only [HB, headOk, h2]; simp
theorem hb3 {s : ByteArray} (h1 : ¬ s.toList = []) (h2 : (s.size : Int) ≤ 64) (h3 : ¬ s.toList = [46]) : HB s (s.toList == [46, 46]) := by
  rw [Lib.toList_data] at *
  have := size_len s
  have e1 : 1 ≤ s.data.toList.length := by
    rcases h : s.data.toList with _ | ⟨a, l⟩
    · exact absurd h h1
    · simp
  have e2 : decide (1 ≤ s.data.toList.length) = true := decide_eq_true e1
  have e3 : decide (s.data.toList.length ≤ 64) = true := decide_eq_true (by omega)
  have e4 : (s.data.toList == [46]) = false := beq_eq_false_iff_ne.2 h3
  simp only [HB, headOk, e2, e3, e4]; simp
theorem hb0 (s : ByteArray) : HB s (s.toList.isEmpty || decide (64 < (s.size : Int)) || s.toList == [46] || s.toList == [46, 46]) := by
  by_cases h1 : s.toList = []
  · rw [h1]; exact hb1 h1
  · have e1 : s.toList.isEmpty = false := by simpa using h1
    by_cases h2 : (s.size : Int) ≤ 64
    · have e2 : decide (64 < (s.size : Int)) = false := decide_eq_false (by omega)
      by_cases h3 : s.toList = [46]
      · have := hb2 h3
        have e3 : (s.toList == [46]) = true := beq_iff_eq.2 h3
        rw [e1, e2, e3]
        simpa using this
      · have e3 : (s.toList == [46]) = false := beq_eq_false_iff_ne.2 h3
        rw [e1, e2, e3]
        simpa using hb3 h1 h2 h3
    · have e2 : decide (64 < (s.size : Int)) = true := decide_eq_true (by omega)
      rw [e1, e2]
      simpa using hb4 h2
theorem hb_out {s : ByteArray} {b : Bool} (h : HB s b) : headOk s.data.toList = !b := by rw [h]; simp
/-- the first k bytes may stand in a part -/
def Ok (s : ByteArray) (k : Nat) : Prop := (s.data.toList.take k).all Path.ch = true
theorem take_snoc (s : ByteArray) (k : Nat) (h : k < s.size) : s.data.toList.take (k + 1) = s.data.toList.take k ++ [s[k]] := by
  rw [List.take_succ_eq_append_getElem (by simpa using h)]; rfl
theorem Ok.next {s : ByteArray} {k : Nat} (h : Ok s k) (hk : k < s.size) (hc : Path.ch s[k] = true) : Ok s (k + 1) := by
  unfold Ok
  rw [take_snoc s k hk, List.all_append, h]
  simp [hc]
theorem Ok.stop {s : ByteArray} {k : Nat} (hk : k < s.size) (hc : Path.ch s[k] = false) : Path.part s.data.toList = false := by
  have : s.data.toList.all Path.ch = false := by
    rw [List.all_eq_false]
    exact ⟨s[k], by rw [show s[k] = s.data.toList[k]'(by simpa using hk) from rfl]; exact List.getElem_mem _, by simp [hc]⟩
  rw [part_head, this]; simp
theorem Ok.fin {s : ByteArray} {k : Nat} (h : Ok s k) (hk : ¬ k < s.size) (hb : HB s false) : Path.part s.data.toList = true := by
  have e : s.data.toList.take k = s.data.toList := List.take_of_length_le (by rw [size_len]; omega)
  unfold Ok at h
  rw [e] at h
  rw [part_head, h, hb_out hb]; rfl
theorem part_no {s : ByteArray} (h : HB s true) : Path.part s.data.toList = false := by rw [part_head, hb_out h]; rfl
theorem ch_of {b : UInt8} (h1 : ¬ (b.toNat : Int) < 33) (h2 : ¬ 126 < (b.toNat : Int)) (h3 : ((b.toNat : Int) == 47) = false) : Path.ch b = true := by
  have e1 : decide (b.toNat < 33) = false := decide_eq_false (by omega)
  have e2 : decide (126 < b.toNat) = false := decide_eq_false (by omega)
  have e3 : (b == 47) = false := by
    rw [beq_eq_false_iff_ne] at h3 ⊢
    intro e; subst e; exact h3 rfl
  simp [Path.ch, e1, e2, e3]
theorem ch_no {b : UInt8} (h : (b.toNat : Int) < 33 ∨ 126 < (b.toNat : Int) ∨ (b.toNat : Int) = 47) : Path.ch b = false := by
  rcases h with h | h | h
  · have e1 : decide (b.toNat < 33) = true := decide_eq_true (by omega)
    simp [Path.ch, e1]
  · have e1 : decide (126 < b.toNat) = true := decide_eq_true (by omega)
    simp [Path.ch, e1]
  · have e3 : b = 47 := UInt8.toNat_inj.1 (by simpa using (by omega : b.toNat = 47))
    subst e3; rfl

theorem drewN_more (w : World) (m n : Nat) : (w.drewN m).drewN n = w.drewN (m + n) := by simp [World.drewN, Nat.add_assoc]
set_option maxHeartbeats 1000000 in
theorem isPart_any (s : ByteArray) (w : World) (hs : s.size ≤ maxLen) :
    Calls Tryd.prog 74 #[.string s] w fun e w' => e = .returned (.bool (Path.part s.data.toList)) ∧ ∃ m, w' = w.drewN m := by
  unfold maxLen at hs
  go_enter Tryd.func74, Tryd.ntmps74
  go_upto_region 1 with (fail)
  go_cut [18] (fun v wx => (∃ b, v = .bool b ∧ HB s b) ∧ w = wx)
  case first =>
    go_wp2
    all_goals go_meet
    · refine ⟨⟨_, rfl, ?_⟩, rfl⟩; first | exact hb0 s | (refine hb1 ?_; assumption)
    · refine ⟨⟨_, rfl, ?_⟩, rfl⟩; first | exact hb0 s | (refine hb2 ?_; assumption)
    · refine ⟨⟨_, rfl, ?_⟩, rfl⟩; first | exact hb0 s | (refine hb3 ?_ ?_ ?_ <;> assumption)
    · refine ⟨⟨_, rfl, ?_⟩, rfl⟩; first | exact hb0 s | (refine hb4 ?_; omega)
  case rest =>
    obtain ⟨⟨b, rfl, hb⟩, rfl⟩ := hcut
    have HHB := Lib.hid hb
    clear hb
    cases b
    · go_wp2
      go_loopw [21] (fun i wr => ∃ k : Nat, k ≤ s.size ∧ i = .int .i64 k ∧ Hid (Ok s k) ∧ ∃ m, wr = w.drewN m) (fun i _ => s.size - (intOf i).toNat)
      case atStart => exact ⟨0, Nat.zero_le _, rfl, Lib.hid rfl, 0, rfl⟩
      case round =>
        obtain ⟨k, hk, rfl, HO, m, rfl⟩ := hrel
        by_cases hlt : k < s.size
        · have hlt' : (k : Int) < (s.size : Int) := by omega
          by_cases c1 : (s[k].toNat : Int) < 33
          · go_wp2
            go_quiet (fail)
            go_wp2
            go_ret
            exact ⟨by rw [Ok.stop hlt (ch_no (.inl c1))]; rfl, _, drewN_more _ _ _⟩
          · by_cases c2 : 126 < (s[k].toNat : Int)
            · go_wp2
              go_quiet (fail)
              go_wp2
              go_ret
              exact ⟨by rw [Ok.stop hlt (ch_no (.inr (.inl c2)))]; rfl, _, drewN_more _ _ _⟩
            · by_cases c3 : (s[k].toNat : Int) = 47
              · have d3 : ((s[k].toNat : Int) == (((⟨#[47]⟩ : ByteArray)[0]'(by decide)).toNat : Int)) = true := beq_iff_eq.2 c3
                have HC := Lib.hid (ch_no (.inr (.inr c3)))
                clear c3
                go_wp2
                go_quiet (fail)
                go_wp2
                go_ret
                exact ⟨by rw [Ok.stop hlt HC.out]; rfl, _, drewN_more _ _ _⟩
              · have d3 : ((s[k].toNat : Int) == (((⟨#[47]⟩ : ByteArray)[0]'(by decide)).toNat : Int)) = false := beq_eq_false_iff_ne.2 c3
                have HC := Lib.hid (ch_of c1 c2 d3)
                go_wp2
                go_quiet (fail)
                go_wp2
                go_roundw
                case rel => exact ⟨k + 1, by omega, by go_num, Lib.hid (HO.out.next hlt HC.out), _, rfl⟩
                case measure => simp [intOf]; omega
        · go_wp2
          go_ret
          exact ⟨by rw [HO.out.fin hlt HHB.out]; rfl, _, rfl⟩
    · go_wp2
      go_ret
      exact ⟨by rw [part_no HHB.out]; rfl, 0, rfl⟩
end Go.Proofs.YtoaoikfhdeiabaaDoor
