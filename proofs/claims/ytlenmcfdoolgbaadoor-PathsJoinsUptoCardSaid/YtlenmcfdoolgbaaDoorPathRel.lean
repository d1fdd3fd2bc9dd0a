/- The contracts of package paths: Within and Compare. -/
import Derived.Test.YtlenmcfdoolgbaaDoorPathOps
import Derived.Test.YtlenmcfdoolgbaaDoorLawEnd
namespace Go.Proofs.YtlenmcfdoolgbaaDoor
open Go.RowKit

def mkB (l : Path.Bs) : ByteArray := ⟨l.toArray⟩
theorem mkB_inj {a b : Path.Bs} (h : mkB a = mkB b) : a = b := by
  have := congrArg (fun s : ByteArray => s.data.toList) h
  simpa [mkB] using this
theorem mapB_inj {xs ys : List Path.Bs} (h : xs.map mkB = ys.map mkB) : xs = ys := by
  induction xs generalizing ys with
  | nil => cases ys with
    | nil => rfl
    | cons y ys => simp at h
  | cons x xs ih =>
    cases ys with
    | nil => simp at h
    | cons y ys =>
      simp only [List.map_cons, List.cons.injEq] at h
      rw [mkB_inj h.1, ih h.2]
theorem equal_any (xs ys : List Path.Bs) (A A' : Option Addr) (c d B B' : Nat) (w : World) (hx : Txts w B A xs) (hy : Txts w B' A' ys) (hl : xs.length = ys.length) (hb : xs.length ≤ 16) :
    Calls Tryd.prog 29 #[.slice A xs.length c, .slice A' ys.length d] w fun e w' => e = .returned (.bool (decide (xs = ys))) ∧ ∃ q, w' = w.drewN q := by
  rcases xs with _ | ⟨x, r⟩
  · have hy0 : ys = [] := List.length_eq_zero_iff.1 (by simpa using hl.symm)
    subst hy0
    refine (Tryd.slices_Equal_string_empty A A' c 0 d w (by omega)).mono fun e w' ⟨he, hw⟩ => ⟨he, 0, hw⟩
  · obtain ⟨b1, o1, rfl, _, _⟩ := hx 0 (by simp)
    obtain ⟨b2, o2, rfl, _, _⟩ := hy 0 (by rw [← hl]; simp)
    have hcell : ∀ (zs : List Path.Bs) (b o B : Nat), Txts w B (some ⟨b, o, none⟩) zs → ∀ j, j < (zs.map mkB).length → w.cell? ⟨b, o + j, none⟩ = some (.string ((zs.map mkB).getD j ByteArray.empty)) := by
      intro zs b o B hz j hj
      have hj' : j < zs.length := by simpa using hj
      obtain ⟨b', o', e, _, hc⟩ := hz j hj'
      injection e with e; injection e with e1 e2
      subst e1 e2
      rw [hc]
      simp [mkB, hj']
    have h := Tryd.slices_Equal_string b1 o1 (x :: r).length c b2 o2 ys.length d ((x :: r).map mkB) (ys.map mkB) w (by rw [List.length_map]; exact Nat.le_refl _) (by rw [List.length_map]; exact Nat.le_refl _) (by omega) (by omega) (hcell _ _ _ _ hx) (hcell _ _ _ _ hy)
    have e : decide (((x :: r).map mkB).take (x :: r).length = (ys.map mkB).take ys.length) = decide (x :: r = ys) := by
      rw [List.take_of_length_le (by rw [List.length_map]; exact Nat.le_refl _), List.take_of_length_le (l := ys.map mkB) (by rw [List.length_map]; exact Nat.le_refl _)]
      rw [decide_eq_decide]
      exact ⟨mapB_inj, fun h => by rw [h]⟩
    rw [e] at h
    exact h
theorem prefix_take (xs ys : List Path.Bs) : decide (ys = xs.take ys.length) = ys.isPrefixOf xs := by
  rw [Bool.eq_iff_iff, decide_eq_true_eq, List.isPrefixOf_iff_prefix]
  exact List.prefix_iff_eq_take.symm
theorem prefix_len {xs ys : List Path.Bs} (h : ¬ ys.length ≤ xs.length) : ys.isPrefixOf xs = false := by
  rcases hp : ys.isPrefixOf xs with _ | _
  · rfl
  · exact absurd (List.isPrefixOf_iff_prefix.1 hp).length_le h
def AnyPath (w : World) (o : Option (List Path.Bs)) (e : Ending) (w' : World) : Prop := match o with
  | none => NoPath w e w'
  | some xs => IsPath w xs e w'
theorem cut_any (s : ByteArray) (o : Option (List Path.Bs)) (w : World) (h : Path.pp (Ls s) = o) (hs : s.size ≤ maxLen) : Calls Tryd.prog 22 #[.string s] w (AnyPath w o) := by
  cases o with
  | none => exact cut_no s w h hs
  | some xs => exact cut_ok s xs w h
theorem cut_slice (s : ByteArray) (o : Option (List Path.Bs)) (w : World) (h : Path.pp (Ls s) = o) (hs : s.size ≤ maxLen) :
    Calls Tryd.prog 22 #[.string s] w fun e w' => ∃ A n c, e = .returned (.tuple #[.slice A n c, .bool o.isSome]) ∧ Hid (Below w.heap.size w w') := by
  refine (cut_any s o w h hs).mono fun e w' hp => ?_
  cases o with
  | none => obtain ⟨A, n, c, he, hb⟩ := hp; exact ⟨A, n, c, he, Lib.hid hb⟩
  | some xs => obtain ⟨A, c, he, _, hb⟩ := hp; exact ⟨A, _, c, he, Lib.hid hb⟩
set_option maxHeartbeats 1000000 in
theorem within_no1 (s t : ByteArray) (w : World) (h1 : Path.pp (Ls s) = none) (hs : s.size ≤ maxLen) (ht : t.size ≤ maxLen) :
    Calls Tryd.prog 19 #[.string s, .string t] w fun e w' => e = .returned (.bool false) ∧ Below w.heap.size w w' := by
  have c1 := cut_slice s none w h1 hs
  have c2 := fun w => cut_slice t _ w rfl ht
  clear h1
  generalize Path.pp (Ls t) = o2 at c2
  go_enter Tryd.func19, Tryd.ntmps19
  go_wp2_with (fail)
  refine c1.mono ?_
  rintro e w1 ⟨A, n, c, rfl, hb1⟩
  go_wp2_with (fail)
  refine (c2 w1).mono ?_
  rintro e w2 ⟨A', n', c', rfl, hb2⟩
  go_wp2
  go_ret
  exact ⟨rfl, hb1.out.trans (hb2.out.mono hb1.out.size)⟩
set_option maxHeartbeats 1000000 in
theorem within_no2 (s t : ByteArray) (xs : List Path.Bs) (w : World) (h1 : Path.pp (Ls s) = some xs) (h2 : Path.pp (Ls t) = none) (ht : t.size ≤ maxLen) :
    Calls Tryd.prog 19 #[.string s, .string t] w fun e w' => e = .returned (.bool false) ∧ Below w.heap.size w w' := by
  have c1 := cut_ok s xs w h1
  have c2 := fun w => cut_slice t _ w h2 ht
  clear h1 h2
  go_enter Tryd.func19, Tryd.ntmps19
  go_wp2_with (fail)
  refine c1.mono ?_
  rintro e w1 ⟨A, c, rfl, _, hb1⟩
  have HB := Lib.hid hb1
  clear hb1
  go_wp2_with (fail)
  refine (c2 w1).mono ?_
  rintro e w2 ⟨A', n', c', rfl, hb2⟩
  go_wp2
  go_ret
  exact ⟨rfl, HB.out.trans (hb2.out.mono HB.out.size)⟩
set_option maxHeartbeats 1000000 in
theorem within_ok (s t : ByteArray) (xs ys : List Path.Bs) (w : World) (h1 : Path.pp (Ls s) = some xs) (h2 : Path.pp (Ls t) = some ys) :
    Calls Tryd.prog 19 #[.string s, .string t] w fun e w' => e = .returned (.bool (ys.isPrefixOf xs)) ∧ Below w.heap.size w w' := by
  have c1 := cut_ok s xs w h1
  have c2 := fun w => cut_ok t ys w h2
  have hl := (Path.good_parts (good_of h1)).1
  clear h1 h2
  by_cases hle : ys.length ≤ xs.length
  · have hle' : (ys.length : Int) ≤ (xs.length : Int) := by omega
    go_enter Tryd.func19, Tryd.ntmps19
    go_wp2_with (fail)
    refine c1.mono ?_
    rintro e w1 ⟨A, c, rfl, hn1, hb1⟩
    have HB := Lib.hid hb1
    have HN := Lib.hid hn1
    have hcap := hn1.cap
    clear hb1 hn1
    subst hcap
    go_wp2_with (fail)
    refine (c2 w1).mono ?_
    rintro e w2 ⟨A', c', rfl, hn2, hb2⟩
    have HE := equal_any ys (xs.take ys.length) A' A c' xs.length _ _ w2 hn2.txts ((HN.out.later hb2 (Nat.le_refl _)).txts.take _) (by rw [List.length_take]; omega) (by omega)
    rw [prefix_take, show (xs.take ys.length).length = ys.length by rw [List.length_take]; omega] at HE
    have HB2 := Lib.hid hb2
    clear hb2 hn2
    go_wp2_with (fail)
    refine HE.mono ?_
    rintro e w3 ⟨rfl, q, rfl⟩
    go_wp2
    go_ret
    exact ⟨rfl, below_drewN (HB.out.trans (HB2.out.mono HB.out.size)) _⟩
  · have hle' : decide ((ys.length : Int) ≤ (xs.length : Int)) = false := decide_eq_false (by omega)
    have hle2 : decide (ys.length ≤ xs.length) = false := decide_eq_false hle
    have HP := Lib.hid (prefix_len hle)
    go_enter Tryd.func19, Tryd.ntmps19
    go_wp2_with (fail)
    refine c1.mono ?_
    rintro e w1 ⟨A, c, rfl, _, hb1⟩
    have HB := Lib.hid hb1
    clear hb1
    go_wp2_with (fail)
    refine (c2 w1).mono ?_
    rintro e w2 ⟨A', c', rfl, _, hb2⟩
    have HB2 := Lib.hid hb2
    clear hb2
    go_wp2
    go_ret
    exact ⟨by rw [HP.out]; rfl, HB.out.trans (HB2.out.mono HB.out.size)⟩
theorem within_any (s t : ByteArray) (w : World) (hs : s.size ≤ maxLen) (ht : t.size ≤ maxLen) :
    Calls Tryd.prog 19 #[.string s, .string t] w fun e w' => e = .returned (.bool (Path.wi (Path.pp (Ls s)) (Path.pp (Ls t)))) ∧ Below w.heap.size w w' := by
  cases h1 : Path.pp (Ls s) with
  | none => exact within_no1 s t w h1 hs ht
  | some xs =>
    cases h2 : Path.pp (Ls t) with
    | none => exact within_no2 s t xs w h1 h2 ht
    | some ys => exact within_ok s t xs ys w h1 h2
theorem same_of {s t : ByteArray} (h : Ls s = Ls t) : s = t := ByteArray.ext (Array.toList_inj.1 h)
theorem less_Ls (s t : ByteArray) : Op.bytesLess s.toList t.toList = (compare (Ls s) (Ls t) == .lt) := by rw [Path.less_iff, Lib.toList_data, Lib.toList_data]
theorem cmp_any (s t : ByteArray) (w : World) :
    Calls Tryd.prog 28 #[.string s, .string t] w fun e w' => e = .returned (.int .i64 (Path.oi (compare (Ls s) (Ls t)))) ∧ w = w' := by
  have h1 := less_Ls s t
  rcases hc : compare (Ls s) (Ls t) with _ | _ | _
  · have t1 : Op.bytesLess s.toList t.toList = true := by rw [h1, hc]; rfl
    clear h1 hc
    go_enter Tryd.func28, Tryd.ntmps28
    go_wp2
    go_ret
    exact ⟨rfl, rfl⟩
  · have h := same_of (Std.LawfulEqCmp.compare_eq_iff_eq.1 hc)
    subst h
    have t1 : Op.bytesLess s.toList s.toList = false := by rw [h1, hc]; rfl
    clear h1 hc
    go_enter Tryd.func28, Tryd.ntmps28
    go_wp2
    go_ret
    exact ⟨rfl, rfl⟩
  · have t1 : Op.bytesLess s.toList t.toList = false := by rw [h1, hc]; rfl
    have t2 : (s.toList == t.toList) = false := by
      rw [Lib.toList_data, Lib.toList_data]
      exact beq_eq_false_iff_ne.2 (fun e => by rw [Ls, Ls, e] at hc; simp at hc)
    clear h1 hc
    go_enter Tryd.func28, Tryd.ntmps28
    go_wp2
    go_ret
    exact ⟨rfl, rfl⟩
/-- both lists begin with the same k texts -/
def Alike (xs ys : List Path.Bs) (k : Nat) : Prop := k ≤ xs.length ∧ k ≤ ys.length ∧ compare xs ys = compare (xs.drop k) (ys.drop k)
theorem Alike.next {xs ys : List Path.Bs} {k : Nat} (h : Alike xs ys k) (hx : k < xs.length) (hy : k < ys.length) (he : compare xs[k] ys[k] = .eq) : Alike xs ys (k + 1) := by
  refine ⟨hx, hy, ?_⟩
  rw [h.2.2, List.drop_eq_getElem_cons hx, List.drop_eq_getElem_cons hy, List.compare_cons_cons, he]
  rfl
theorem Alike.stop {xs ys : List Path.Bs} {k : Nat} (h : Alike xs ys k) (hx : k < xs.length) (hy : k < ys.length) (he : compare xs[k] ys[k] ≠ .eq) : compare xs ys = compare xs[k] ys[k] := by
  rw [h.2.2, List.drop_eq_getElem_cons hx, List.drop_eq_getElem_cons hy, List.compare_cons_cons]
  rcases hc : compare xs[k] ys[k] with _ | _ | _
  · rfl
  · exact absurd hc he
  · rfl
theorem Alike.more {xs ys : List Path.Bs} {k : Nat} (h : Alike xs ys k) (hx : k < xs.length) (hy : ¬ k < ys.length) : compare xs ys = .gt := by
  rw [h.2.2, List.drop_eq_getElem_cons hx, List.drop_of_length_le (l := ys) (by omega)]
  rfl
theorem Alike.less {xs ys : List Path.Bs} {k : Nat} (h : Alike xs ys k) (hx : ¬ k < xs.length) (hy : xs.length < ys.length) : compare xs ys = .lt := by
  have : k < ys.length := by have := h.1; omega
  rw [h.2.2, List.drop_of_length_le (l := xs) (by omega), List.drop_eq_getElem_cons this]
  rfl
theorem Alike.same {xs ys : List Path.Bs} {k : Nat} (h : Alike xs ys k) (hx : ¬ k < xs.length) (hy : ¬ xs.length < ys.length) : compare xs ys = .eq := by
  have := h.2.1
  have h1 := h.1
  rw [h.2.2, List.drop_of_length_le (l := xs) (by omega), List.drop_of_length_le (l := ys) (by omega)]
  rfl
set_option maxHeartbeats 1000000 in
theorem scmp_any (xs ys : List Path.Bs) (A A' : Option Addr) (c d B B' : Nat) (w : World) (hx : Txts w B A xs) (hy : Txts w B' A' ys) (hl : xs.length ≤ 16) (_ : ys.length ≤ 16) :
    Calls Tryd.prog 27 #[.slice A xs.length c, .slice A' ys.length d] w fun e w' => e = .returned (.int .i64 (Path.oi (compare xs ys))) ∧ ∃ m, w' = w.drewN m := by
  have HX := Lib.hid hx
  have HY := Lib.hid hy
  clear hx hy
  go_enter Tryd.func27, Tryd.ntmps27
  go_wp2
  go_loopw [11] (fun i wr => ∃ k : Nat, k ≤ xs.length ∧ i = .int .i64 k ∧ Hid (Alike xs ys k) ∧ ∃ m, wr = w.drewN m) (fun i _ => xs.length - (intOf i).toNat)
  case atStart => exact ⟨0, Nat.zero_le _, rfl, Lib.hid ⟨Nat.zero_le _, Nat.zero_le _, rfl⟩, 0, rfl⟩
  case round =>
    obtain ⟨k, hk, rfl, HA, m, rfl⟩ := hrel
    by_cases hlt : k < xs.length
    · obtain ⟨b, off, rfl, _, hc⟩ := HX.out k hlt
      obtain ⟨s, hs⟩ : ∃ s : ByteArray, s = ⟨xs[k].toArray⟩ := ⟨_, rfl⟩
      have hse : Hid (Ls s = xs[k]) := Lib.hid (by rw [hs])
      rw [T, ← hs] at hc
      clear hs
      by_cases hlt2 : k < ys.length
      · have i2 : (k : Int) < (ys.length : Int) := by omega
        obtain ⟨b', off', rfl, _, hc'⟩ := HY.out k hlt2
        obtain ⟨t, ht⟩ : ∃ t : ByteArray, t = ⟨ys[k].toArray⟩ := ⟨_, rfl⟩
        have hte : Hid (Ls t = ys[k]) := Lib.hid (by rw [ht])
        rw [T, ← ht] at hc'
        clear ht
        go_wp2_with (fail)
        refine (cmp_any s t _).mono ?_
        rintro e w' ⟨rfl, rfl⟩
        rcases hcmp : compare (Ls s) (Ls t) with _ | _ | _
        · have HN := Lib.hid (HA.out.stop hlt hlt2 (by rw [← hse.out, ← hte.out, hcmp]; exact nofun))
          rw [← hse.out, ← hte.out, hcmp] at HN
          have HM := Lib.hid HN.out
          clear hcmp HN
          go_wp2
          go_ret
          exact ⟨by rw [HM.out]; rfl, _, rfl⟩
        · have HN := Lib.hid (HA.out.next hlt hlt2 (by rw [← hse.out, ← hte.out, hcmp]))
          clear hcmp
          go_wp2
          go_roundw
          case rel => exact ⟨k + 1, by omega, by go_num, HN, _, rfl⟩
          case measure => simp [intOf]; omega
        · have HN := Lib.hid (HA.out.stop hlt hlt2 (by rw [← hse.out, ← hte.out, hcmp]; exact nofun))
          rw [← hse.out, ← hte.out, hcmp] at HN
          have HM := Lib.hid HN.out
          clear hcmp HN
          go_wp2
          go_ret
          exact ⟨by rw [HM.out]; rfl, _, rfl⟩
      · have i2 : ¬ (k : Int) < (ys.length : Int) := by omega
        have HM := Lib.hid (HA.out.more hlt hlt2)
        go_wp2
        go_ret
        exact ⟨by rw [HM.out]; rfl, _, rfl⟩
    · by_cases hxy : xs.length < ys.length
      · have HM := Lib.hid (HA.out.less hlt hxy)
        have i3 : (xs.length : Int) < (ys.length : Int) := by omega
        go_wp2
        go_ret
        exact ⟨by rw [HM.out]; rfl, _, rfl⟩
      · have HM := Lib.hid (HA.out.same hlt hxy)
        have i3 : ¬ (xs.length : Int) < (ys.length : Int) := by omega
        go_wp2
        go_ret
        exact ⟨by rw [HM.out]; rfl, _, rfl⟩
/-- Compare, whatever the texts -/
theorem compare_any (s t : ByteArray) (w : World) (hs : s.size ≤ maxLen) (ht : t.size ≤ maxLen) :
    Calls Tryd.prog 17 #[.string s, .string t] w fun e w' => e = .returned (.int .i64 (Path.oi (Path.cp (Ls s) (Ls t) (Path.pp (Ls s)) (Path.pp (Ls t))))) ∧ Below w.heap.size w w' := by
  cases h1 : Path.pp (Ls s) with
  | none =>
    cases h2 : Path.pp (Ls t) with
    | none =>
      have c1 := cut_slice s none w h1 hs
      have c2 := fun w => cut_slice t none w h2 ht
      have c3 := cmp_any s t
      simp only [Path.cp]
      generalize Path.oi (compare (Ls s) (Ls t)) = r at c3 ⊢
      clear h1 h2
      go_enter Tryd.func17, Tryd.ntmps17
      go_wp2_with (fail)
      refine c1.mono ?_
      rintro e w1 ⟨A, n, c, rfl, hb1⟩
      go_wp2_with (fail)
      refine (c2 w1).mono ?_
      rintro e w2 ⟨A', n', c', rfl, hb2⟩
      go_wp2_with (fail)
      refine (c3 w2).mono ?_
      rintro e w3 ⟨rfl, rfl⟩
      go_wp2
      go_ret
      exact ⟨rfl, hb1.out.trans (hb2.out.mono hb1.out.size)⟩
    | some ys =>
      have c1 := cut_slice s none w h1 hs
      have c2 := fun w => cut_slice t (some ys) w h2 ht
      simp only [Path.cp]
      clear h1 h2
      go_enter Tryd.func17, Tryd.ntmps17
      go_wp2_with (fail)
      refine c1.mono ?_
      rintro e w1 ⟨A, n, c, rfl, hb1⟩
      go_wp2_with (fail)
      refine (c2 w1).mono ?_
      rintro e w2 ⟨A', n', c', rfl, hb2⟩
      go_wp2
      go_ret
      exact ⟨rfl, hb1.out.trans (hb2.out.mono hb1.out.size)⟩
  | some xs =>
    cases h2 : Path.pp (Ls t) with
    | none =>
      have c1 := cut_slice s (some xs) w h1 hs
      have c2 := fun w => cut_slice t none w h2 ht
      simp only [Path.cp]
      clear h1 h2
      go_enter Tryd.func17, Tryd.ntmps17
      go_wp2_with (fail)
      refine c1.mono ?_
      rintro e w1 ⟨A, n, c, rfl, hb1⟩
      go_wp2_with (fail)
      refine (c2 w1).mono ?_
      rintro e w2 ⟨A', n', c', rfl, hb2⟩
      go_wp2
      go_ret
      exact ⟨rfl, hb1.out.trans (hb2.out.mono hb1.out.size)⟩
    | some ys =>
      have c1 := cut_ok s xs w h1
      have c2 := fun w => cut_ok t ys w h2
      have l1 := (Path.good_parts (good_of h1)).1
      have l2 := (Path.good_parts (good_of h2)).1
      simp only [Path.cp]
      clear h1 h2
      go_enter Tryd.func17, Tryd.ntmps17
      go_wp2_with (fail)
      refine c1.mono ?_
      rintro e w1 ⟨A, c, rfl, hn1, hb1⟩
      have HN := Lib.hid hn1
      have HB := Lib.hid hb1
      clear hn1 hb1
      go_wp2_with (fail)
      refine (c2 w1).mono ?_
      rintro e w2 ⟨A', c', rfl, hn2, hb2⟩
      have HE := scmp_any xs ys A A' c c' _ _ w2 (HN.out.later hb2 (Nat.le_refl _)).txts hn2.txts l1 l2
      have HB2 := Lib.hid hb2
      clear hn2 hb2
      go_wp2_with (fail)
      refine HE.mono ?_
      rintro e w3 ⟨rfl, q, rfl⟩
      go_wp2
      go_ret
      exact ⟨rfl, below_drewN (HB.out.trans (HB2.out.mono HB.out.size)) _⟩
end Go.Proofs.YtlenmcfdoolgbaaDoor
