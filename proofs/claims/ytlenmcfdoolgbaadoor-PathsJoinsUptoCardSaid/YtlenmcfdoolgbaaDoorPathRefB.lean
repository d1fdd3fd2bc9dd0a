/- The contracts of the reference's Split, Within, Compare, Join, and of the laws' own texts. -/
import Derived.Test.YtlenmcfdoolgbaaDoorPathRefS
namespace Go.Proofs.YtlenmcfdoolgbaaDoor
open Go.RowKit

set_option maxHeartbeats 1000000 in
theorem rsplit_any (s : ByteArray) (w : World) (hs : s.size ≤ maxLen) : Calls Tryd.prog 9 #[.string s] w (RSplit s w) := by
  by_cases h0 : Ls s = [47]
  · have t0 : (s.toList == [47]) = true := by rw [isSlash]; exact decide_eq_true h0
    have H0 := Lib.hid h0
    clear h0 hs
    go_enter Tryd.func9, Tryd.ntmps9
    go_wp2
    go_ret2
    exact .inr ⟨[], none, 0, by rw [H0.out]; rfl, rfl, fun i hi => absurd hi (Nat.not_lt_zero _), Below.refl _ _, Nat.le_refl _⟩
  · by_cases h : (s.size : Int) ≤ 256 ∧ (Ls s).head? = some 47
    · exact rsplit_scan s w h0 h.1 h.2
    · refine (rsplit_short s w h0 (fun h' => h ⟨by omega, h'.2⟩) hs).mono fun e w' ⟨he, hb⟩ => .inl ⟨?_, he, hb⟩
      refine Path.pp_short h0 (fun h' => h ⟨?_, h'.2⟩)
      have := h'.1
      rw [Ls, size_len] at this
      omega
theorem rsplit_cap (s : ByteArray) (xs : List Path.Bs) (w : World) (h : Path.pp (Ls s) = some xs) :
    Calls Tryd.prog 9 #[.string s] w fun e w' => ∃ A c, e = .returned (.tuple #[.slice A xs.length c, .bool true]) ∧ Txts w' w'.heap.size A xs ∧ Below w.heap.size w w' ∧ xs.length ≤ c := by
  refine (rsplit_any s w (by have := len_of_some h; unfold maxLen; omega)).mono fun e w' hr => ?_
  rcases hr with ⟨h1, _⟩ | ⟨ys, A, c, h1, h2, h3⟩
  · rw [h1] at h; cases h
  · rw [h1] at h; cases h
    exact ⟨A, c, h2, h3⟩
theorem rsplit_ok (s : ByteArray) (xs : List Path.Bs) (w : World) (h : Path.pp (Ls s) = some xs) :
    Calls Tryd.prog 9 #[.string s] w fun e w' => ∃ A c, e = .returned (.tuple #[.slice A xs.length c, .bool true]) ∧ Txts w' w'.heap.size A xs ∧ Below w.heap.size w w' :=
  (rsplit_cap s xs w h).mono fun _ _ ⟨A, c, h1, h2, h3, _⟩ => ⟨A, c, h1, h2, h3⟩
theorem rsplit_no (s : ByteArray) (w : World) (h : Path.pp (Ls s) = none) (hs : s.size ≤ maxLen) :
    Calls Tryd.prog 9 #[.string s] w fun e w' => e = .returned (.tuple #[.slice none 0 0, .bool false]) ∧ Below w.heap.size w w' := by
  refine (rsplit_any s w hs).mono fun e w' hr => ?_
  rcases hr with ⟨_, h1, h2⟩ | ⟨ys, A, c, h1, _⟩
  · exact ⟨h1, h2⟩
  · rw [h1] at h; cases h
theorem rsplit_slice (s : ByteArray) (o : Option (List Path.Bs)) (w : World) (h : Path.pp (Ls s) = o) (hs : s.size ≤ maxLen) :
    Calls Tryd.prog 9 #[.string s] w fun e w' => ∃ A n c, e = .returned (.tuple #[.slice A n c, .bool o.isSome]) ∧ Hid (Below w.heap.size w w') := by
  cases o with
  | none => exact (rsplit_no s w h hs).mono fun e w' ⟨he, hb⟩ => ⟨_, _, _, he, Lib.hid hb⟩
  | some xs => exact (rsplit_ok s xs w h).mono fun e w' ⟨A, c, he, _, hb⟩ => ⟨A, _, c, he, Lib.hid hb⟩
/-- the first k texts are the same -/
def Eqs (xs ys : List Path.Bs) (k : Nat) : Prop := xs.take k = ys.take k
theorem Eqs.next {xs ys : List Path.Bs} {k : Nat} (h : Eqs xs ys k) (hx : k < xs.length) (hy : k < ys.length) (he : xs[k] = ys[k]) : Eqs xs ys (k + 1) := by
  unfold Eqs at *
  rw [Path.take_moreB hx, Path.take_moreB hy, h, he]
theorem Eqs.stop {xs ys : List Path.Bs} {k : Nat} (hx : k < xs.length) (hy : k < ys.length) (he : ¬ xs[k] = ys[k]) : xs ≠ ys := by
  intro e; subst e; exact he rfl
theorem Eqs.pre {xs ys : List Path.Bs} {k : Nat} (h : Eqs xs ys k) (hk : ¬ k < ys.length) : ys.isPrefixOf xs = true := by
  unfold Eqs at h
  rw [List.take_of_length_le (l := ys) (by omega)] at h
  rw [List.isPrefixOf_iff_prefix, ← h]
  exact List.take_prefix _ _
theorem Eqs.nopre {xs ys : List Path.Bs} {k : Nat} (hx : k < xs.length) (hy : k < ys.length) (he : ¬ xs[k] = ys[k]) : ys.isPrefixOf xs = false := by
  rcases hp : ys.isPrefixOf xs with _ | _
  · rfl
  · obtain ⟨z, rfl⟩ := List.isPrefixOf_iff_prefix.1 hp
    exact absurd (List.getElem_append_left hy) he
theorem Eqs.all {xs ys : List Path.Bs} {k : Nat} (h : Eqs xs ys k) (hl : xs.length = ys.length) (hk : ¬ k < xs.length) : xs = ys := by
  unfold Eqs at h
  rwa [List.take_of_length_le (by omega), List.take_of_length_le (by omega)] at h
theorem eq_Ls {s t : ByteArray} : (s.toList == t.toList) = decide (Ls s = Ls t) := by
  rw [Lib.toList_data, Lib.toList_data]
  by_cases h : s.data.toList = t.data.toList
  · simp [h]
  · have : (s.data.toList == t.data.toList) = false := beq_eq_false_iff_ne.2 h
    rw [this]; simp [h]
set_option maxHeartbeats 1000000 in
theorem texts_any (xs ys : List Path.Bs) (A A' : Option Addr) (c d B B' : Nat) (w : World) (hx : Txts w B A xs) (hy : Txts w B' A' ys) (hl : xs.length ≤ 1099511627776) (_ : ys.length ≤ 1099511627776) :
    Calls Tryd.prog 12 #[.slice A xs.length c, .slice A' ys.length d] w fun e w' => e = .returned (.bool (decide (xs = ys))) ∧ ∃ m, w' = w.drewN m := by
  have HX := Lib.hid hx
  have HY := Lib.hid hy
  clear hx hy
  by_cases hlen : xs.length = ys.length
  · have i1 : ((xs.length : Int) == (ys.length : Int)) = true := beq_iff_eq.2 (by omega)
    have i2 : ((xs.length : Int) != (ys.length : Int)) = false := by simp [hlen]
    have i3 : (xs.length == ys.length) = true := beq_iff_eq.2 hlen
    have HLEN := Lib.hid hlen
    clear hlen
    go_enter Tryd.func12, Tryd.ntmps12
    go_wp2
    go_loopw [5] (fun i wr => ∃ k : Nat, k ≤ xs.length ∧ i = .int .i64 k ∧ Hid (Eqs xs ys k) ∧ ∃ m, wr = w.drewN m) (fun i _ => xs.length - (intOf i).toNat)
    case atStart => exact ⟨0, Nat.zero_le _, rfl, Lib.hid rfl, 0, rfl⟩
    case round =>
      obtain ⟨k, hk, rfl, HA, m, rfl⟩ := hrel
      by_cases hlt : k < xs.length
      · have hlt2 : k < ys.length := by rw [← HLEN.out]; exact hlt
        obtain ⟨b, off, rfl, _, hc⟩ := HX.out k hlt
        obtain ⟨b', off', rfl, _, hc'⟩ := HY.out k hlt2
        obtain ⟨s, hs⟩ : ∃ s : ByteArray, s = ⟨xs[k].toArray⟩ := ⟨_, rfl⟩
        obtain ⟨t, ht⟩ : ∃ t : ByteArray, t = ⟨ys[k].toArray⟩ := ⟨_, rfl⟩
        have hse : Hid (Ls s = xs[k]) := Lib.hid (by rw [hs])
        have hte : Hid (Ls t = ys[k]) := Lib.hid (by rw [ht])
        rw [T, ← hs] at hc
        rw [T, ← ht] at hc'
        clear hs ht
        by_cases he : Ls s = Ls t
        · have t1 : (s.toList == t.toList) = true := by rw [eq_Ls]; exact decide_eq_true he
          have HN := Lib.hid (HA.out.next hlt hlt2 (by rw [← hse.out, ← hte.out]; exact he))
          clear he
          go_wp2_with (fail)
          go_quiet (fail)
          go_wp2
          go_roundw
          case rel => exact ⟨k + 1, by omega, by go_num, HN, _, rfl⟩
          case measure => simp [intOf]; omega
        · have t1 : (s.toList == t.toList) = false := by rw [eq_Ls]; exact decide_eq_false he
          have HN := Lib.hid (decide_eq_false (Eqs.stop hlt hlt2 (by rw [← hse.out, ← hte.out]; exact he)))
          clear he
          go_wp2_with (fail)
          go_quiet (fail)
          go_wp2
          go_ret
          exact ⟨by rw [HN.out]; rfl, _, drewN_more _ _ _⟩
      · have HN := Lib.hid (decide_eq_true (HA.out.all HLEN.out hlt))
        go_wp2
        go_ret
        exact ⟨by rw [HN.out]; rfl, _, rfl⟩
  · have i1 : ((xs.length : Int) == (ys.length : Int)) = false := beq_eq_false_iff_ne.2 (by omega)
    have i3 : (xs.length == ys.length) = false := beq_eq_false_iff_ne.2 hlen
    have HE := Lib.hid (decide_eq_false (p := xs = ys) (fun e => hlen (by rw [e])))
    clear hlen
    go_enter Tryd.func12, Tryd.ntmps12
    go_wp2
    go_ret
    exact ⟨by rw [HE.out]; rfl, 0, rfl⟩
set_option maxHeartbeats 1000000 in
theorem rwithin_any (s t : ByteArray) (w : World) (hs : s.size ≤ maxLen) (ht : t.size ≤ maxLen) :
    Calls Tryd.prog 20 #[.string s, .string t] w fun e w' => e = .returned (.bool (Path.wi (Path.pp (Ls s)) (Path.pp (Ls t)))) ∧ Below w.heap.size w w' := by
  cases h1 : Path.pp (Ls s) with
  | none =>
    have c1 := rsplit_slice s none w h1 hs
    have c2 := fun w => rsplit_slice t _ w rfl ht
    have e : Path.wi none (Path.pp (Ls t)) = false := rfl
    rw [e]
    clear h1 e
    generalize Path.pp (Ls t) = o2 at c2
    go_enter Tryd.func20, Tryd.ntmps20
    go_wp2_with (fail)
    refine c1.mono ?_
    rintro e w1 ⟨A, n, c, rfl, hb1⟩
    go_wp2_with (fail)
    refine (c2 w1).mono ?_
    rintro e w2 ⟨A', n', c', rfl, hb2⟩
    go_wp2
    go_ret
    exact ⟨rfl, hb1.out.trans (hb2.out.mono hb1.out.size)⟩
  | some xs =>
    have c1 := rsplit_ok s xs w h1
    have l1 := (Path.good_parts (good_of h1)).1
    cases h2 : Path.pp (Ls t) with
    | none =>
      have c2 := fun w => rsplit_no t w h2 ht
      have e : Path.wi (some xs) none = false := rfl
      rw [e]
      clear h1 h2 e
      go_enter Tryd.func20, Tryd.ntmps20
      go_wp2_with (fail)
      refine c1.mono ?_
      rintro e w1 ⟨A, c, rfl, _, hb1⟩
      have HB := Lib.hid hb1
      clear hb1
      go_wp2_with (fail)
      refine (c2 w1).mono ?_
      rintro e w2 ⟨rfl, hb2⟩
      have HB2 := Lib.hid hb2
      clear hb2
      go_wp2
      go_ret
      exact ⟨rfl, HB.out.trans (HB2.out.mono HB.out.size)⟩
    | some ys =>
      have c2 := fun w => rsplit_ok t ys w h2
      have l2 := (Path.good_parts (good_of h2)).1
      have e : Path.wi (some xs) (some ys) = ys.isPrefixOf xs := rfl
      rw [e]
      clear h1 h2 e
      by_cases hle : ys.length ≤ xs.length
      · have i1 : ¬ (xs.length : Int) < (ys.length : Int) := by omega
        go_enter Tryd.func20, Tryd.ntmps20
        go_wp2_with (fail)
        refine c1.mono ?_
        rintro e w1 ⟨A, c, rfl, hx, hb1⟩
        have HB := Lib.hid hb1
        have HX0 := Lib.hid hx
        clear hb1 hx
        go_wp2_with (fail)
        refine (c2 w1).mono ?_
        rintro e w2 ⟨A', c', rfl, hy, hb2⟩
        have HX := Lib.hid (HX0.out.below hb2)
        have HY := Lib.hid hy
        have HB2 := Lib.hid (HB.out.trans (hb2.mono HB.out.size))
        clear hb2 hy HX0 HB
        go_wp2
        go_loopw [9] (fun i wr => ∃ k : Nat, k ≤ ys.length ∧ i = .int .i64 k ∧ Hid (Eqs xs ys k) ∧ ∃ m, wr = w2.drewN m) (fun i _ => ys.length - (intOf i).toNat)
        case atStart => exact ⟨0, Nat.zero_le _, rfl, Lib.hid rfl, 0, rfl⟩
        case round =>
          obtain ⟨k, hk, rfl, HA, m, rfl⟩ := hrel
          by_cases hlt2 : k < ys.length
          · have hlt : k < xs.length := by omega
            obtain ⟨b, off, rfl, _, hc⟩ := HX.out k hlt
            obtain ⟨b', off', rfl, _, hc'⟩ := HY.out k hlt2
            obtain ⟨p, hp⟩ : ∃ s : ByteArray, s = ⟨xs[k].toArray⟩ := ⟨_, rfl⟩
            obtain ⟨q, hq⟩ : ∃ t : ByteArray, t = ⟨ys[k].toArray⟩ := ⟨_, rfl⟩
            have hse : Hid (Ls p = xs[k]) := Lib.hid (by rw [hp])
            have hte : Hid (Ls q = ys[k]) := Lib.hid (by rw [hq])
            rw [T, ← hp] at hc
            rw [T, ← hq] at hc'
            clear hp hq
            by_cases he : Ls p = Ls q
            · have t1 : (p.toList == q.toList) = true := by rw [eq_Ls]; exact decide_eq_true he
              have HN := Lib.hid (HA.out.next hlt hlt2 (by rw [← hse.out, ← hte.out]; exact he))
              clear he
              go_wp2_with (fail)
              go_quiet (fail)
              go_wp2
              go_roundw
              case rel => exact ⟨k + 1, by omega, by go_num, HN, _, rfl⟩
              case measure => simp [intOf]; omega
            · have t1 : (p.toList == q.toList) = false := by rw [eq_Ls]; exact decide_eq_false he
              have HN := Lib.hid (Eqs.nopre hlt hlt2 (by rw [← hse.out, ← hte.out]; exact he))
              clear he
              go_wp2_with (fail)
              go_quiet (fail)
              go_wp2
              go_ret
              exact ⟨by rw [HN.out]; rfl, below_drewN (below_drewN HB2.out _) _⟩
          · have HN := Lib.hid (HA.out.pre hlt2)
            go_wp2
            go_ret
            exact ⟨by rw [HN.out]; rfl, below_drewN HB2.out _⟩
      · have i1 : (xs.length : Int) < (ys.length : Int) := by omega
        have HP := Lib.hid (prefix_len hle)
        go_enter Tryd.func20, Tryd.ntmps20
        go_wp2_with (fail)
        refine c1.mono ?_
        rintro e w1 ⟨A, c, rfl, _, hb1⟩
        have HB := Lib.hid hb1
        clear hb1
        go_wp2_with (fail)
        refine (c2 w1).mono ?_
        rintro e w2 ⟨A', c', rfl, _, hb2⟩
        have HB2 := Lib.hid hb2
        clear hb2
        go_wp2
        go_ret
        exact ⟨by rw [HP.out]; rfl, HB.out.trans (HB2.out.mono HB.out.size)⟩
end Go.Proofs.YtlenmcfdoolgbaaDoor
