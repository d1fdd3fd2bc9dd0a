/- The contracts of package paths: Split, Join, Parent, Base, Within. -/
import Derived.Test.YtlenmcfdoolgbaaDoorPathCut
import Derived.Test.YtlenmcfdoolgbaaDoorCloneP
namespace Go.Proofs.YtlenmcfdoolgbaaDoor
open Go.RowKit

theorem below_drew (w : World) (m : Nat) : Below w.heap.size w (w.drewN m) := ⟨rfl, rfl, rfl, Nat.le_refl _, fun _ _ => rfl⟩
theorem below_of_drew {w w' : World} {m B : Nat} (h : Below B (w.drewN m) w') : Below B w w' := ⟨h.os, h.tape, h.output, h.size, h.block⟩
theorem path_len {xs : List Path.Bs} (h : Path.good xs = true) : (Path.path xs).length ≤ 256 := by
  unfold Path.path
  split
  · simp
  · exact (Path.good_parts h).2.2
theorem good_of {s : ByteArray} {xs : List Path.Bs} (h : Path.pp (Ls s) = some xs) : Path.good xs = true := (Path.path_pp h).2
theorem part_len {xs : List Path.Bs} (h : Path.good xs = true) : ∀ x ∈ xs, x.length ≤ 64 := fun x hx => by
  have := (Path.good_parts h).2.1 x hx
  simp only [Path.part, Bool.and_eq_true, decide_eq_true_eq] at this
  exact this.2.1

theorem set_same {w : World} {a : Addr} {v : Value} (h : w.cell? a = some v) : w.setCell a v = w := by
  have hh : (w.setCell a v).heap = w.heap := by
    apply Array.ext_getElem?
    intro k
    simp only [World.setCell, Array.getElem?_modify]
    by_cases hk : a.block = k
    · subst hk
      rw [if_pos rfl]
      unfold World.cell? at h
      split at h
      · next c e fr hg =>
        rw [hg]
        split at h
        · cases h
        · next hs =>
          simp only [Option.map_some, if_neg hs]
          have : c.setIfInBounds a.off v = c := by
            apply Array.ext_getElem?
            intro j
            rw [Array.getElem?_setIfInBounds]
            split
            · next e => subst e; rw [h]; have := (Array.getElem?_eq_some_iff.1 h).1; simp [this]
            · rfl
          rw [this]
      · cases h
    · rw [if_neg hk]
  cases w
  simp only [World.setCell, World.mk.injEq] at hh ⊢
  exact ⟨hh, trivial, trivial, trivial, trivial⟩
set_option maxHeartbeats 1000000 in
theorem split_no (s : ByteArray) (w : World) (h : Path.pp (Ls s) = none) (hs : s.size ≤ maxLen) :
    Calls Tryd.prog 10 #[.string s] w fun e w' => e = .returned (.tuple #[.slice none 0 0, .int .i64 60]) ∧ Below w.heap.size w w' := by
  have c := cut_no s w h hs
  clear h
  go_enter Tryd.func10, Tryd.ntmps10
  go_wp2_with (fail)
  refine c.mono ?_
  rintro e w' ⟨A, n, c, rfl, hb⟩
  have HB := Lib.hid hb
  clear hb
  go_wp2
  go_ret2
  exact ⟨rfl, HB.out⟩
def SplitRes (w : World) (xs : List Path.Bs) (e : Ending) (w' : World) : Prop := ∃ A c, e = .returned (.tuple #[.slice A xs.length c, .int .i64 0]) ∧ NewT w.heap.size w' A c xs ∧ Below w.heap.size w w'
set_option maxHeartbeats 1000000 in
theorem psplit_ok (s : ByteArray) (xs : List Path.Bs) (w : World) (h : Path.pp (Ls s) = some xs) :
    Calls Tryd.prog 10 #[.string s] w (SplitRes w xs) := by
  have c := cut_ok s xs w h
  have HG := Lib.hid (part_len (good_of h))
  have hl := (Path.good_parts (good_of h)).1
  clear h
  go_enter Tryd.func10, Tryd.ntmps10
  go_wp2_with (fail)
  refine c.mono ?_
  rintro e w1 ⟨A, c, rfl, hn, hb⟩
  have HB := Lib.hid hb
  have HN := Lib.hid hn
  clear hb hn
  go_wp2
  go_loopw [17] (fun i wr => ∃ k : Nat, k ≤ xs.length ∧ i = .int .i64 k ∧ Hid (NewT w.heap.size wr A c xs ∧ Below w.heap.size w wr)) (fun i _ => xs.length - (intOf i).toNat)
  case atStart => exact ⟨0, Nat.zero_le _, rfl, Lib.hid ⟨HN.out, HB.out⟩⟩
  case round =>
    obtain ⟨k, hk, rfl, HR⟩ := hrel
    by_cases hlt : k < xs.length
    · rcases HR.out.1 with ⟨h0, _, _⟩ | ⟨g, hg0, rfl, rfl, _, hg⟩
      · rw [h0] at hlt; exact absurd hlt (by simp)
      obtain ⟨s', hs'⟩ : ∃ s' : ByteArray, s' = ⟨xs[k].toArray⟩ := ⟨_, rfl⟩
      have hsz : s'.size ≤ 281474976710656 := by
        have h1 := HG.out _ (List.getElem_mem hlt)
        rw [hs']; show xs[k].toArray.size ≤ _; simp; omega
      have hgl := (Array.getElem?_eq_some_iff.1 hg).1
      have hc : wr.cell? ⟨g, k, none⟩ = some (.string s') := by rw [cell_row hg, hs']; simp [hlt]
      have HC := fun (w2 : World) (hb : Below wr.heap.size wr w2) => And.intro ((hb.cell (p := ⟨g, k, none⟩) hgl).trans hc) ((hb.frozen (p := ⟨g, k, none⟩) hgl).trans (show wr.frozen? ⟨g, k, none⟩ = false by simp [World.frozen?, hg]))
      have HZ := Lib.hid (And.intro hgl (HR.out.2.size))
      clear hs' hg0 hg hgl
      go_wp2_with (fail)
      refine (clone_any s' _ hsz).mono ?_
      rintro e w2 ⟨rfl, hb2⟩
      obtain ⟨hc2, hf2⟩ := HC w2 hb2
      have HE := Lib.hid (set_same hc2)
      have HB2 := Lib.hid hb2
      clear HC hb2
      go_wp2
      go_roundw
      case rel =>
        refine ⟨k + 1, by omega, by go_num, Lib.hid ?_⟩
        rw [HE.out]
        exact ⟨HR.out.1.later HB2.out (Nat.le_refl _), HR.out.2.trans (HB2.out.mono HZ.out.2)⟩
      case measure => simp [intOf]; omega
    · go_wp2
      go_ret2
      exact ⟨_, _, rfl, HR.out.1, HR.out.2⟩
set_option maxHeartbeats 1000000 in
theorem pjoin_any (xs : List Path.Bs) (A : Option Addr) (cap B : Nat) (w : World) (hA : Txts w B A xs) (hB : B ≤ w.heap.size) (hcap : xs.length ≤ cap) (hx : ∀ x ∈ xs, x.length ≤ 140737488355328) :
    Calls Tryd.prog 16 #[.slice A xs.length cap] w fun e w' => e = .returned (if Path.good xs then .tuple #[T (Path.path xs), .int .i64 0] else .tuple #[T [], .int .i64 60]) ∧ Below w.heap.size w w' := by
  have ha := areParts_any xs A cap B w hA hx
  rcases hg : Path.good xs with _ | _
  · rw [hg] at ha
    clear hg hx hA
    go_enter Tryd.func16, Tryd.ntmps16
    go_wp2_with (fail)
    refine ha.mono ?_
    rintro e w' ⟨rfl, m, rfl⟩
    go_wp2
    go_ret2
    exact ⟨rfl, below_drew w m⟩
  · rw [hg] at ha
    have hj := fun m => joined_any xs A cap B (w.drewN m) hA hB hcap (by have := (Path.good_parts hg).1; omega) (by have := path_len hg; omega)
    clear hg hx hA
    go_enter Tryd.func16, Tryd.ntmps16
    go_wp2_with (fail)
    refine ha.mono ?_
    rintro e w' ⟨rfl, m, rfl⟩
    go_wp2_with (fail)
    refine (hj m).mono ?_
    rintro e w' ⟨rfl, hb⟩
    have HB := Lib.hid hb
    clear hb
    go_wp2
    go_ret2
    exact ⟨rfl, below_of_drew HB.out⟩
set_option maxHeartbeats 1000000 in
theorem parent_no (s : ByteArray) (w : World) (h : Path.pp (Ls s) = none ∨ Path.pp (Ls s) = some []) (hs : s.size ≤ maxLen) :
    Calls Tryd.prog 13 #[.string s] w fun e w' => e = .returned (.tuple #[T [], .int .i64 60]) ∧ Below w.heap.size w w' := by
  have c := below_no s w h hs
  clear h
  go_enter Tryd.func13, Tryd.ntmps13
  go_wp2_with (fail)
  refine c.mono ?_
  rintro e w' ⟨A, n, c, rfl, hb⟩
  have HB := Lib.hid hb
  clear hb
  go_wp2
  go_ret2
  exact ⟨rfl, HB.out⟩
set_option maxHeartbeats 1000000 in
theorem base_no (s : ByteArray) (w : World) (h : Path.pp (Ls s) = none ∨ Path.pp (Ls s) = some []) (hs : s.size ≤ maxLen) :
    Calls Tryd.prog 14 #[.string s] w fun e w' => e = .returned (.tuple #[T [], .int .i64 60]) ∧ Below w.heap.size w w' := by
  have c := below_no s w h hs
  clear h
  go_enter Tryd.func14, Tryd.ntmps14
  go_wp2_with (fail)
  refine c.mono ?_
  rintro e w' ⟨A, n, c, rfl, hb⟩
  have HB := Lib.hid hb
  clear hb
  go_wp2
  go_ret2
  exact ⟨rfl, HB.out⟩
set_option maxHeartbeats 1000000 in
theorem parent_ok (s : ByteArray) (xs : List Path.Bs) (x : Path.Bs) (w : World) (h : Path.pp (Ls s) = some (xs ++ [x])) :
    Calls Tryd.prog 13 #[.string s] w fun e w' => e = .returned (.tuple #[T (Path.path xs), .int .i64 0]) ∧ Below w.heap.size w w' := by
  have c := below_ok s (xs ++ [x]) w h (by simp)
  have hg := good_of h
  have hgx : Path.good xs = true := by have := Path.good_take hg xs.length; simpa using this
  have hl := (Path.good_parts hgx).1
  have hpl := path_len hgx
  have hne : (xs ++ [x]).length = xs.length + 1 := by simp
  unfold IsPath at c
  rw [hne] at c
  clear h hg hgx hne
  go_enter Tryd.func13, Tryd.ntmps13
  go_wp2_with (fail)
  refine c.mono ?_
  rintro e w1 ⟨A, c, rfl, hn, hb⟩
  have hcap := hn.cap
  have htx := hn.txts.take xs.length
  rw [List.take_append_of_le_length (Nat.le_refl _), List.take_length] at htx
  rw [List.length_append, List.length_singleton] at hcap
  subst hcap
  have HJ := joined_any xs A (xs.length + 1) w1.heap.size w1 htx (Nat.le_refl _) (by omega) (by omega) (by omega)
  have HB := Lib.hid hb
  clear hb hn htx
  go_wp2_with (fail)
  refine HJ.mono ?_
  rintro e w2 ⟨rfl, hb2⟩
  have HB2 := Lib.hid hb2
  clear hb2 HJ
  go_wp2
  go_ret2
  exact ⟨rfl, HB.out.trans (HB2.out.mono HB.out.size)⟩
set_option maxHeartbeats 1000000 in
theorem base_ok (s : ByteArray) (xs : List Path.Bs) (x : Path.Bs) (w : World) (h : Path.pp (Ls s) = some (xs ++ [x])) :
    Calls Tryd.prog 14 #[.string s] w fun e w' => e = .returned (.tuple #[T x, .int .i64 0]) ∧ Below w.heap.size w w' := by
  have c := below_ok s (xs ++ [x]) w h (by simp)
  have hg := good_of h
  have hl := (Path.good_parts hg).1
  have hxl := part_len hg x (by simp)
  have hne : (xs ++ [x]).length = xs.length + 1 := by simp
  unfold IsPath at c
  rw [hne] at c hl
  obtain ⟨s', hs'⟩ : ∃ s' : ByteArray, s' = ⟨x.toArray⟩ := ⟨_, rfl⟩
  have hsz : s'.size ≤ 281474976710656 := by rw [hs']; show x.toArray.size ≤ _; simp; omega
  have HT := Lib.hid (show Value.string s' = T x by rw [hs'])
  clear h hg hne hxl
  go_enter Tryd.func14, Tryd.ntmps14
  go_wp2_with (fail)
  refine c.mono ?_
  rintro e w1 ⟨A, c, rfl, hn, hb⟩
  obtain ⟨b, off, rfl, hlt, hc⟩ := hn.txts xs.length (by simp)
  have hc' : w1.cell? ⟨b, off + xs.length, none⟩ = some (.string s') := by rw [hc, hs']; simp
  have HB := Lib.hid hb
  clear hb hn hc hs' hlt
  go_wp2_with (fail)
  refine (clone_any s' _ hsz).mono ?_
  rintro e w2 ⟨rfl, hb2⟩
  have HB2 := Lib.hid hb2
  clear hb2
  go_wp2
  go_ret2
  exact ⟨by rw [← HT.out]; rfl, HB.out.trans (HB2.out.mono HB.out.size)⟩
end Go.Proofs.YtlenmcfdoolgbaaDoor
