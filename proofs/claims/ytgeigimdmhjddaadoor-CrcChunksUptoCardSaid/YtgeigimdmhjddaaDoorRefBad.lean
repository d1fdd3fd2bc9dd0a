/- The reference's Bad, the law's own 'same'. -/
import Derived.Test.YtgeigimdmhjddaaDoorRefChunks
import Derived.BigQuiet
namespace Go.Proofs.YtgeigimdmhjddaaDoor
open Go.RowKit

set_option maxHeartbeats 1000000 in
theorem same_true (A C : Option Addr) (n cap cap' : Nat) (f g : Nat → BitVec 32) (w : World) (hn : n ≤ 1099511627776) (hA : SumsAt w w.heap.size A n f) (hC : SumsAt w w.heap.size C n g) (hfg : ∀ i, i < n → f i = g i) :
    Calls Tryd.prog 8 #[.slice A n cap, .slice C n cap'] w fun e w' => e = .returned (.bool true) ∧ ∃ m, w' = w.drewN m := by
  have HA := Lib.hid hA
  have HC := Lib.hid hC
  have HF := Lib.hid hfg
  clear hA hC hfg
  go_enter Tryd.func8, Tryd.ntmps8
  go_wp2
  go_loopw [5] (fun i wr => ∃ k : Nat, k ≤ n ∧ i = .int .i64 k ∧ ∃ m, wr = w.drewN m) (fun i _ => n - (intOf i).toNat)
  case atStart => exact ⟨0, Nat.zero_le _, rfl, 0, rfl⟩
  case round =>
    obtain ⟨k, hk, rfl, m, rfl⟩ := hrel
    by_cases hlt : k < n
    · obtain ⟨b, off, rfl, hb, hc⟩ := HA.out k hlt
      obtain ⟨b', off', rfl, hb', hc'⟩ := HC.out k hlt
      rw [HF.out k hlt] at hc
      go_wp2_with (fail)
      go_quiet (fail)
      go_wp2
      go_roundw
      case rel => exact ⟨k + 1, by omega, by go_num, _, rfl⟩
      case measure => simp [intOf]; omega
    · go_wp2
      go_ret
      exact ⟨rfl, m, rfl⟩
theorem Match.nil (f : Nat → BitVec 32) (len : Nat) : Match f len [] := ⟨Nat.zero_le _, fun _ h => absurd h (Nat.not_lt_zero _)⟩
def RB (f : Nat → BitVec 32) (len : Nat) (xs : List Txt) (k : Nat) : Prop := k ≤ xs.length ∧ Match f len (xs.take k)
theorem RB.le {f : Nat → BitVec 32} {len : Nat} {xs : List Txt} {k : Nat} (h : RB f len xs k) : k ≤ len := by have := h.2.1; rw [List.length_take] at this; have := h.1; omega
theorem RB.next {f : Nat → BitVec 32} {len : Nat} {xs : List Txt} {k : Nat} (h : RB f len xs k) (hx : k < xs.length) (hl : k < len) (he : fOf xs k = f k) : RB f len xs (k + 1) := by
  refine ⟨by omega, ?_⟩
  have e : (xs.take k).length = k := by rw [List.length_take]; omega
  rw [List.take_succ_eq_append_getElem hx]
  exact h.2.snoc (by rw [e]; exact hl) (by rw [e, ← he]; simp [fOf, hx])
theorem RB.stop {f : Nat → BitVec 32} {len : Nat} {xs : List Txt} {k : Nat} (h : RB f len xs k) (hx : k < xs.length) (hl : k = len ∨ fOf xs k ≠ f k) : badG f len 0 xs = (k : Int) := by
  have e : (xs.take k).length = k := by rw [List.length_take]; omega
  have hb := h.2.bad (xs.drop k)
  rw [List.take_append_drop, e] at hb
  rw [hb, List.drop_eq_getElem_cons hx]
  show (if k = len ∨ sumB xs[k] ≠ f k then (k : Int) else _) = _
  rw [if_pos]
  rcases hl with hl | hl
  · exact .inl hl
  · exact .inr (fun e2 => hl (by rw [← e2]; simp [fOf, hx]))
theorem RB.full {f : Nat → BitVec 32} {len : Nat} {xs : List Txt} {k : Nat} (h : RB f len xs k) (hx : k = xs.length) : badG f len 0 xs = if k < len then (k : Int) else -1 := by
  subst hx
  have hb := h.2.bad []
  rw [List.take_length, List.append_nil] at hb
  exact hb
theorem rb_fin {s : Txt} {kn len : Nat} {f : Nat → BitVec 32} {xs : List Txt} {r : Int} {w w1 : World} (hx : Hid (chA kn s = xs)) (h : badG f len 0 xs = r) (hb : Below w.heap.size w w1) (q : Nat) : BadPost w (badG f len 0 (chA kn s)) (.returned (.int .i64 r)) (w1.drewN q) :=
  ⟨by rw [hx.out, h], below_drewN hb q⟩
set_option maxRecDepth 100000 in
set_option maxHeartbeats 2000000 in
theorem rbad_any (s : Txt) (kn : Nat) (hk0 : 1 ≤ kn) (hk1 : kn ≤ 9223372036854775807) (hsz : s.1.size ≤ 1099511627776) (A : Option Addr) (len cap : Nat) (hlen : len ≤ 1099511627776) (f : Nat → BitVec 32) (w : World) (hS : SumsAt w w.heap.size A len f) :
    Calls Tryd.prog 10 #[.string s.1, .int .i64 (kn : Int), .slice A len cap] w (BadPost w (badG f len 0 (chA kn s))) := by
  have hxl := chA_len kn s.1.size s (Nat.le_refl _)
  have hch := rchunks_any s kn hk0 hk1 hsz w
  have HS := Lib.hid hS
  clear hS
  go_enter Tryd.func10, Tryd.ntmps10
  go_wp2_with (go_at_call 6; refine hch.mono ?_; rintro e w1 ⟨v, rfl, hown, hb⟩)
  obtain ⟨C, ccap, hv, hC, _, _, hb1⟩ := sums_of hown hb
  injection hv with hv
  subst hv
  obtain ⟨xs, hxs⟩ : ∃ xs, chA kn s = xs := ⟨_, rfl⟩
  rw [hxs] at hxl hC hown
  have HX := Lib.hid hxs
  obtain ⟨n, hn⟩ : ∃ n, xs.length = n := ⟨_, rfl⟩
  have HXL : Hid (n ≤ 1099511627776) := Lib.hid (by omega)
  have HC := Lib.hid hC
  have HB := Lib.hid hb1
  have HS1 := Lib.hid (HS.out.below hb1)
  clear hC hb1 hxl hown hb HS hch
  have hn2 : (chA kn s).length = n := by rw [hxs, hn]
  rw [hn] at HC
  rw [hn2]
  have HN := Lib.hid hn
  clear hn hn2 hxs
  go_loopw [8] (fun i wr => ∃ k : Nat, i = .int .i64 k ∧ Hid (RB f len xs k) ∧ ∃ m, wr = w1.drewN m) (fun i _ => n - (intOf i).toNat)
  case atStart => exact ⟨0, rfl, Lib.hid ⟨Nat.zero_le _, by rw [List.take_zero]; exact Match.nil f len⟩, 0, rfl⟩
  case round =>
    obtain ⟨k, rfl, HR, m, rfl⟩ := hrel
    have hkx : k ≤ n := by have := HR.out.1; rw [HN.out] at this; exact this
    have hkl : k ≤ len := HR.out.le
    have hx0 := HXL.out
    rcases Nat.lt_or_ge k n with hx | hx
    · rcases Nat.lt_or_ge k len with hl | hl
      · obtain ⟨b, off, rfl, hb, hc⟩ := HC.out k hx
        obtain ⟨b', off', rfl, hb', hc'⟩ := HS1.out k hl
        have i1 : (k : Int) < (n : Int) := by omega
        have i2 : (k : Int) < (len : Int) := by omega
        by_cases he : fOf xs k = f k
        · have t1 : (U (fOf xs k) == U (f k)) = true := beq_iff_eq.2 (congrArg U he)
          have HE := Lib.hid he
          clear he
          go_wp2_with (fail)
          go_quiet (fail)
          go_wp2
          go_roundw
          case rel => exact ⟨k + 1, by go_num, Lib.hid (HR.out.next (by rw [HN.out]; exact hx) hl HE.out), _, rfl⟩
          case measure => simp [intOf]; omega
        · have t1 : (U (fOf xs k) == U (f k)) = false := beq_eq_false_iff_ne.2 (fun e => he (BitVec.eq_of_toNat_eq (Int.ofNat.inj e)))
          have HE := Lib.hid he
          clear he
          go_wp2_with (fail)
          go_quiet (fail)
          go_wp2
          go_ret
          exact rb_fin HX (HR.out.stop (by rw [HN.out]; exact hx) (.inr HE.out)) HB.out _
      · have d2 : decide ((k : Int) < (len : Int)) = false := decide_eq_false (by omega)
        have d3 : decide (k < len) = false := decide_eq_false (by omega)
        have i1 : (k : Int) < (n : Int) := by omega
        go_wp2_with (fail)
        go_quiet (fail)
        go_wp2
        go_ret
        exact rb_fin HX (HR.out.stop (by rw [HN.out]; exact hx) (.inl (by omega))) HB.out _
    · have d1 : decide ((k : Int) < (n : Int)) = false := decide_eq_false (by omega)
      have d3 : decide (k < n) = false := decide_eq_false (by omega)
      rcases Nat.lt_or_ge k len with hl | hl
      · have d4 : ((k : Int) == (len : Int)) = false := beq_eq_false_iff_ne.2 (by omega)
        have d5 : (k == len) = false := beq_eq_false_iff_ne.2 (by omega)
        have d6 : ((k : Int) == (n : Int)) = true := beq_iff_eq.2 (by omega)
        have hf := HR.out.full (by rw [HN.out]; omega)
        rw [if_pos hl] at hf
        have HF := Lib.hid hf
        clear hf
        go_wp2_with (fail)
        go_quiet (fail)
        go_wp2
        go_ret
        exact rb_fin HX HF.out HB.out _
      · have d4 : ((k : Int) == (len : Int)) = true := beq_iff_eq.2 (by omega)
        have d5 : (k == len) = true := beq_iff_eq.2 (by omega)
        have d6 : ((k : Int) == (n : Int)) = true := beq_iff_eq.2 (by omega)
        have hf := HR.out.full (by rw [HN.out]; omega)
        rw [if_neg (by omega)] at hf
        have HF := Lib.hid hf
        clear hf
        go_wp2_with (fail)
        go_quiet (fail)
        go_wp2
        go_ret
        exact rb_fin HX HF.out HB.out _
end Go.Proofs.YtgeigimdmhjddaaDoor
