/- The library's Cut at a newline and Clone; splits.begin. -/
import Derived.Test.YtijefbpgpehmfaaSplMath
import Derived.Test.YtijefbpgpehmfaaShelf
import Derived.WalkKit
import Derived.Below
import Derived.WalkLawsBesides
import Derived.BigQuiet
import Derived.Lib.Hide
namespace Go.Proofs.Ytijefbpgpehmfaa
open Go.RowKit

theorem list_drop (s : ByteArray) (a : Nat) : (s.extract a s.size).data.toList = s.data.toList.drop a := by
  have es : s.data.toList.length = s.size := by simp
  simp only [ByteArray.data_extract, Array.toList_extract, List.extract_eq_take_drop]
  rw [List.take_of_length_le (by simp only [List.length_drop]; omega)]
theorem size_list (s : ByteArray) : s.data.toList.length = s.size := by simp
set_option maxRecDepth 100000 in
set_option maxHeartbeats 1000000 in
theorem lite_cut (s : ByteArray) (hs : s.size ≤ 140737488351232) (w : World) :
    Calls Try.prog 19 #[.string s, .string ⟨#[10]⟩] w fun e w' => (∃ x y, e = .returned (.tuple #[.string (s.extract 0 (lnLen s.data.toList)), x, y])) ∧ ∃ n, w' = w.drewN n := by
  have es := size_list s
  have hi := Try.stringslite_Index_one s 10 w
  go_enter Try.func19, Try.ntmps19
  rcases ln_cases s.data.toList with ⟨h1, h2, _⟩ | ⟨o, h1, h2, h3, _⟩
  · rw [h1] at hi
    rw [h2, es, show s.extract 0 s.size = s by simp]
    clear h1 h2
    go_wp2_with (fail)
    refine hi.mono ?_
    rintro e w' ⟨rfl, rfl⟩
    go_wp2
    go_ret3
    exact ⟨⟨_, _, rfl⟩, 0, rfl⟩
  · have ho : o < s.size := by have := (List.getElem?_eq_some_iff.1 h3).1; omega
    rw [h1] at hi
    rw [h2]
    clear h1 h2 h3
    go_wp2_with (fail)
    refine hi.mono ?_
    rintro e w' ⟨rfl, rfl⟩
    clear hi
    go_wp2_with (fail)
    go_quiet (fail)
    go_wp2
    go_ret3
    exact ⟨⟨_, _, rfl⟩, _, rfl⟩
set_option maxHeartbeats 1000000 in
theorem cut_nl (s : ByteArray) (hs : s.size ≤ 140737488351232) (w : World) :
    Calls Try.prog 16 #[.string s, .string ⟨#[10]⟩] w fun e w' => (∃ x y, e = .returned (.tuple #[.string (s.extract 0 (lnLen s.data.toList)), x, y])) ∧ ∃ n, w' = w.drewN n := by
  have hc := lite_cut s hs w
  go_enter Try.func16, Try.ntmps16
  go_wp2_with (fail)
  refine hc.mono ?_
  rintro e w' ⟨⟨x, y, rfl⟩, n, rfl⟩
  go_wp2
  go_ret3
  exact ⟨⟨_, _, rfl⟩, _, rfl⟩
set_option maxHeartbeats 1000000 in
theorem clone_any (s : ByteArray) (hs : s.size ≤ 140737488351232) (w : World) :
    Calls Try.prog 13 #[.string s] w fun e w' => e = .returned (.string s) ∧ Below w.heap.size w w' := by
  have hc := Try.stringslite_Clone s w (by omega)
  go_enter Try.func13, Try.ntmps13
  go_wp2_with (fail)
  refine hc.mono ?_
  rintro e w' ⟨rfl, hb⟩
  have HB := Lib.hid hb
  clear hb hc
  go_wp2
  go_ret
  exact ⟨rfl, HB.out⟩
set_option maxRecDepth 100000 in
set_option maxHeartbeats 1000000 in
theorem begin_any (s : ByteArray) (hs : s.size ≤ 140737488351232) (c : Int) (hc0 : -9223372036854775808 ≤ c) (hc : c ≤ 9223372036854775807) (w : World) :
    Calls Try.prog 15 #[.string s, .int .i64 c] w fun e w' => e = .returned (.int .i64 (begL s.data.toList c : Nat)) ∧ w' = w := by
  have es := size_list s
  unfold begL
  rw [es]
  by_cases h : c < 1
  · rw [if_pos h]
    go_enter Try.func15, Try.ntmps15
    go_wp2
    go_ret
    exact ⟨rfl, rfl⟩
  · rw [if_neg h]
    obtain ⟨q, hq⟩ : ∃ q, q = min (c.toNat - 1) s.size := ⟨_, rfl⟩
    rw [← hq]
    have hqz : min (c - 1) (s.size : Int) = (q : Int) := by omega
    have hi := Try.strings_IndexByte (s.extract q s.size) 10 w
    have hcs := ln_cases (s.data.toList.drop q)
    rw [list_drop] at hi
    rw [show (Int.toNat 10).toUInt8 = 10 from rfl] at hi
    have hle := ln_le (s.data.toList.drop q)
    rw [List.length_drop, es] at hle
    have hqs : q ≤ s.size := by omega
    clear hq
    rcases hcs with ⟨h1, h2, _⟩ | ⟨o, h1, h2, h3, _⟩
    · rw [h1] at hi
      rw [List.length_drop, es] at h2
      rw [h2, show min (q + (s.size - q) + 1) s.size = s.size by omega]
      clear h1 h2 hle
      go_enter Try.func15, Try.ntmps15
      go_wp2_with (fail)
      try simp only [Int.toNat_natCast]
      refine hi.mono ?_
      rintro e w' ⟨rfl, rfl⟩
      clear hi hqz
      go_wp2
      go_ret
      exact ⟨rfl, rfl⟩
    · have ho : o < s.size - q := by have := (List.getElem?_eq_some_iff.1 h3).1; rw [List.length_drop] at this; omega
      rw [h1] at hi
      rw [h2, show min (q + o + 1) s.size = q + o + 1 by omega]
      clear h1 h2 h3 hle
      go_enter Try.func15, Try.ntmps15
      go_wp2_with (fail)
      try simp only [Int.toNat_natCast]
      refine hi.mono ?_
      rintro e w' ⟨rfl, rfl⟩
      clear hi hqz
      go_wp2
      go_ret
      exact ⟨rfl, rfl⟩
end Go.Proofs.Ytijefbpgpehmfaa
