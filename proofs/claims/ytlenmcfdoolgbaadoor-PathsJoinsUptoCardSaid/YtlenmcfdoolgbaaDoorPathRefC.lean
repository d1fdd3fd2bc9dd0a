/- The contract of the reference's Compare. -/
import Derived.Test.YtlenmcfdoolgbaaDoorPathRefB
namespace Go.Proofs.YtlenmcfdoolgbaaDoor
open Go.RowKit

set_option maxHeartbeats 1000000 in
theorem rcompare_mixed (s t : ByteArray) (w : World) (o o' : Option (List Path.Bs)) (h1 : Path.pp (Ls s) = o) (h2 : Path.pp (Ls t) = o') (hs : s.size ≤ maxLen) (ht : t.size ≤ maxLen) (hd : o.isSome = !o'.isSome) :
    Calls Tryd.prog 18 #[.string s, .string t] w fun e w' => e = .returned (.int .i64 (Path.oi (Path.cp (Ls s) (Ls t) o o'))) ∧ Below w.heap.size w w' := by
  have c1 := rsplit_slice s o w h1 hs
  have c2 := fun w => rsplit_slice t o' w h2 ht
  clear h1 h2
  cases o with
  | none =>
    cases o' with
    | none => cases hd
    | some ys =>
      clear hd
      go_enter Tryd.func18, Tryd.ntmps18
      go_wp2_with (fail)
      refine c1.mono ?_
      rintro e w1 ⟨A, n, c, rfl, hb1⟩
      go_wp2_with (fail)
      refine (c2 w1).mono ?_
      rintro e w2 ⟨A', n', c', rfl, hb2⟩
      go_wp2
      go_ret
      exact ⟨rfl, hb1.out.trans (hb2.out.mono hb1.out.size)⟩
  | some xs =>
    cases o' with
    | some ys => cases hd
    | none =>
      clear hd
      go_enter Tryd.func18, Tryd.ntmps18
      go_wp2_with (fail)
      refine c1.mono ?_
      rintro e w1 ⟨A, n, c, rfl, hb1⟩
      go_wp2_with (fail)
      refine (c2 w1).mono ?_
      rintro e w2 ⟨A', n', c', rfl, hb2⟩
      go_wp2
      go_ret
      exact ⟨rfl, hb1.out.trans (hb2.out.mono hb1.out.size)⟩
set_option maxHeartbeats 1000000 in
theorem rcompare_both (s t : ByteArray) (w : World) (xs ys : List Path.Bs) (h1 : Path.pp (Ls s) = some xs) (h2 : Path.pp (Ls t) = some ys) :
    Calls Tryd.prog 18 #[.string s, .string t] w fun e w' => e = .returned (.int .i64 (Path.oi (compare xs ys))) ∧ Below w.heap.size w w' := by
  have c1 := rsplit_ok s xs w h1
  have c2 := fun w => rsplit_ok t ys w h2
  have l1 := (Path.good_parts (good_of h1)).1
  have l2 := (Path.good_parts (good_of h2)).1
  clear h1 h2
  go_enter Tryd.func18, Tryd.ntmps18
  go_wp2_with (fail)
  refine c1.mono ?_
  rintro e w1 ⟨A, c, rfl, hx, hb1⟩
  have HB := Lib.hid hb1
  have HX0 := Lib.hid hx
  clear hb1 hx
  go_wp2_with (fail)
  refine (c2 w1).mono ?_
  rintro e w2 ⟨A', c', rfl, hy, hb2⟩
  have HX := Lib.hid (HX0.out.below hb2)
  have HY := Lib.hid hy
  have HB2 := Lib.hid (HB.out.trans (hb2.mono HB.out.size))
  clear hb2 hy HX0 HB
  go_wp2
  go_loopw [9] (fun i wr => ∃ k : Nat, k ≤ xs.length ∧ i = .int .i64 k ∧ Hid (Alike xs ys k) ∧ ∃ m, wr = w2.drewN m) (fun i _ => xs.length - (intOf i).toNat)
  case atStart => exact ⟨0, Nat.zero_le _, rfl, Lib.hid ⟨Nat.zero_le _, Nat.zero_le _, rfl⟩, 0, rfl⟩
  case round =>
    obtain ⟨k, hk, rfl, HA, m, rfl⟩ := hrel
    by_cases hlt : k < xs.length
    · have i1 : (k : Int) < (xs.length : Int) := by omega
      obtain ⟨b, off, rfl, _, hc⟩ := HX.out k hlt
      obtain ⟨p, hp⟩ : ∃ s : ByteArray, s = ⟨xs[k].toArray⟩ := ⟨_, rfl⟩
      have hse : Hid (Ls p = xs[k]) := Lib.hid (by rw [hp])
      rw [T, ← hp] at hc
      clear hp
      by_cases hlt2 : k < ys.length
      · have i2 : (k : Int) < (ys.length : Int) := by omega
        obtain ⟨b', off', rfl, _, hc'⟩ := HY.out k hlt2
        obtain ⟨q, hq⟩ : ∃ t : ByteArray, t = ⟨ys[k].toArray⟩ := ⟨_, rfl⟩
        have hte : Hid (Ls q = ys[k]) := Lib.hid (by rw [hq])
        rw [T, ← hq] at hc'
        clear hq
        have h1 := less_Ls p q
        rcases hcmp : compare (Ls p) (Ls q) with _ | _ | _
        · have HN := Lib.hid ((HA.out.stop hlt hlt2 (by rw [← hse.out, ← hte.out, hcmp]; exact nofun)).trans (by rw [← hse.out, ← hte.out, hcmp]))
          have t1 : Op.bytesLess p.toList q.toList = true := by rw [h1, hcmp]; rfl
          clear h1 hcmp
          go_wp2_with (fail)
          go_quiet (fail)
          go_wp2
          go_ret
          exact ⟨by rw [HN.out]; rfl, below_drewN (below_drewN HB2.out _) _⟩
        · have HN := Lib.hid (HA.out.next hlt hlt2 (by rw [← hse.out, ← hte.out, hcmp]))
          have hpq := same_of (Std.LawfulEqCmp.compare_eq_iff_eq.1 hcmp)
          subst hpq
          have t1 : Op.bytesLess p.toList p.toList = false := by rw [h1, hcmp]; rfl
          clear h1 hcmp
          go_wp2_with (fail)
          go_quiet (fail)
          go_wp2_with (fail)
          go_quiet (fail)
          go_wp2
          go_roundw
          case rel => exact ⟨k + 1, by omega, by go_num, HN, _, rfl⟩
          case measure => simp [intOf]; omega
        · have HN := Lib.hid ((HA.out.stop hlt hlt2 (by rw [← hse.out, ← hte.out, hcmp]; exact nofun)).trans (by rw [← hse.out, ← hte.out, hcmp]))
          have t1 : Op.bytesLess p.toList q.toList = false := by rw [h1, hcmp]; rfl
          have t2 : (p.toList == q.toList) = false := by
            rw [eq_Ls]
            exact decide_eq_false (fun e => by rw [e] at hcmp; simp at hcmp)
          clear h1 hcmp
          go_wp2_with (fail)
          go_quiet (fail)
          go_wp2_with (fail)
          go_quiet (fail)
          go_wp2
          go_ret
          exact ⟨by rw [HN.out]; rfl, below_drewN (below_drewN (below_drewN HB2.out _) _) _⟩
      · have i2 : ¬ (k : Int) < (ys.length : Int) := by omega
        have HN := Lib.hid (HA.out.more hlt hlt2)
        go_wp2
        go_ret
        exact ⟨by rw [HN.out]; rfl, below_drewN HB2.out _⟩
    · have i1 : ¬ (k : Int) < (xs.length : Int) := by omega
      by_cases hxy : xs.length < ys.length
      · have i2 : (k : Int) < (ys.length : Int) := by omega
        have HN := Lib.hid (HA.out.less hlt hxy)
        go_wp2
        go_ret
        exact ⟨by rw [HN.out]; rfl, below_drewN HB2.out _⟩
      · have i2 : ¬ (k : Int) < (ys.length : Int) := by have := HA.out.2.1; omega
        have HN := Lib.hid (HA.out.same hlt hxy)
        go_wp2
        go_ret
        exact ⟨by rw [HN.out]; rfl, below_drewN HB2.out _⟩
set_option maxHeartbeats 1000000 in
theorem rcompare_none (s t : ByteArray) (w : World) (h1 : Path.pp (Ls s) = none) (h2 : Path.pp (Ls t) = none) (hs : s.size ≤ maxLen) (ht : t.size ≤ maxLen) :
    Calls Tryd.prog 18 #[.string s, .string t] w fun e w' => e = .returned (.int .i64 (Path.oi (compare (Ls s) (Ls t)))) ∧ Below w.heap.size w w' := by
  have c1 := rsplit_no s w h1 hs
  have c2 := fun w => rsplit_no t w h2 ht
  clear h1 h2
  go_enter Tryd.func18, Tryd.ntmps18
  go_wp2_with (fail)
  refine c1.mono ?_
  rintro e w1 ⟨rfl, hb1⟩
  have HB := Lib.hid hb1
  clear hb1
  go_wp2_with (fail)
  refine (c2 w1).mono ?_
  rintro e w2 ⟨rfl, hb2⟩
  have HB2 := Lib.hid (HB.out.trans (hb2.mono HB.out.size))
  clear hb2
  go_wp2
  go_loopw [9] (fun i wr => (i = .int .i64 0 ∧ ∃ m, wr = ((w2.alloc (.cells #[.string s] 9)).alloc (.cells #[.string t] 9)).drewN m) ∨ (i = .int .i64 1 ∧ Hid (Ls s = Ls t) ∧ ∃ m, wr = ((w2.alloc (.cells #[.string s] 9)).alloc (.cells #[.string t] 9)).drewN m)) (fun i _ => 1 - (intOf i).toNat)
  case atStart => exact .inl ⟨rfl, 0, rfl⟩
  case round =>
    have HB3 : ∀ m, Hid (Below w.heap.size w (((w2.alloc (.cells #[.string s] 9)).alloc (.cells #[.string t] 9)).drewN m)) := fun m =>
      Lib.hid (below_drewN ((HB2.out.alloc HB2.out.size _).alloc (by have := HB2.out.size; simp; omega) _) m)
    rcases hrel with ⟨rfl, m, rfl⟩ | ⟨rfl, HE, m, rfl⟩
    · have h1 := less_Ls s t
      rcases hcmp : compare (Ls s) (Ls t) with _ | _ | _
      · have t1 : Op.bytesLess s.toList t.toList = true := by rw [h1, hcmp]; rfl
        have HN := Lib.hid hcmp
        clear h1 hcmp
        go_wp2_with (fail)
        go_quiet (fail)
        go_wp2
        go_ret
        exact ⟨by rw [HN.out]; rfl, below_drewN (HB3 m).out _⟩
      · have hpq := Std.LawfulEqCmp.compare_eq_iff_eq.1 hcmp
        have HN := Lib.hid hpq
        have t1 : Op.bytesLess s.toList t.toList = false := by rw [h1, hcmp]; rfl
        have t2 : (s.toList == t.toList) = true := by rw [eq_Ls]; exact decide_eq_true hpq
        have e1 : t.toList = s.toList := by rw [Lib.toList_data, Lib.toList_data]; exact hpq.symm
        rw [e1] at t1
        clear h1 hcmp hpq t2
        go_wp2_with (fail)
        go_quiet (fail)
        go_wp2_with (fail)
        go_quiet (fail)
        go_wp2
        go_roundw
        case rel => exact .inr ⟨rfl, HN, _, rfl⟩
        case measure => simp [intOf]
      · have t1 : Op.bytesLess s.toList t.toList = false := by rw [h1, hcmp]; rfl
        have t2 : (s.toList == t.toList) = false := by
          rw [eq_Ls]
          exact decide_eq_false (fun e => by rw [e] at hcmp; simp at hcmp)
        have HN := Lib.hid hcmp
        clear h1 hcmp
        go_wp2_with (fail)
        go_quiet (fail)
        go_wp2_with (fail)
        go_quiet (fail)
        go_wp2
        go_ret
        exact ⟨by rw [HN.out]; rfl, below_drewN (below_drewN (HB3 m).out _) _⟩
    · have HN := Lib.hid (Std.LawfulEqCmp.compare_eq_iff_eq (cmp := compare (α := List UInt8)) |>.2 HE.out)
      go_wp2
      go_ret
      exact ⟨by rw [HN.out]; rfl, (HB3 m).out⟩
theorem rcompare_any (s t : ByteArray) (w : World) (hs : s.size ≤ maxLen) (ht : t.size ≤ maxLen) :
    Calls Tryd.prog 18 #[.string s, .string t] w fun e w' => e = .returned (.int .i64 (Path.oi (Path.cp (Ls s) (Ls t) (Path.pp (Ls s)) (Path.pp (Ls t))))) ∧ Below w.heap.size w w' := by
  cases h1 : Path.pp (Ls s) with
  | none =>
    cases h2 : Path.pp (Ls t) with
    | none => exact rcompare_none s t w h1 h2 hs ht
    | some ys => exact rcompare_mixed s t w none (some ys) h1 h2 hs ht rfl
  | some xs =>
    cases h2 : Path.pp (Ls t) with
    | none => exact rcompare_mixed s t w (some xs) none h1 h2 hs ht rfl
    | some ys => exact rcompare_both s t w xs ys h1 h2
end Go.Proofs.YtlenmcfdoolgbaaDoor
