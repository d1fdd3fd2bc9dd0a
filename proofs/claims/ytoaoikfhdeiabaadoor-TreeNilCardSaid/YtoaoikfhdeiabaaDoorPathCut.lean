/- The contracts of package paths: cut, cutBelow, Check. -/
import Derived.Test.YtoaoikfhdeiabaaDoorPathSplit
import Derived.Deep.Draws
namespace Go.Proofs.YtoaoikfhdeiabaaDoor
open Go.RowKit

abbrev Ls (s : ByteArray) : Path.Bs := s.data.toList
/-- a slice of the call's own that holds these texts; none: nil -/
def NewT (B : Nat) (w : World) (A : Option Addr) (c : Nat) (xs : List Path.Bs) : Prop :=
  (xs = [] ∧ A = none ∧ c = 0) ∨ ∃ g, B ≤ g ∧ A = some ⟨g, 0, none⟩ ∧ c = xs.length ∧ 0 < xs.length ∧ w.heap[g]? = some (.cells (xs.map T).toArray 9 (0, 0))
theorem NewT.txts {B : Nat} {w : World} {A : Option Addr} {c : Nat} {xs : List Path.Bs} (h : NewT B w A c xs) : Txts w w.heap.size A xs := fun i hi => by
  rcases h with ⟨rfl, _, _⟩ | ⟨g, _, rfl, _, _, hg⟩
  · simp at hi
  · refine ⟨g, 0, rfl, (Array.getElem?_eq_some_iff.1 hg).1, ?_⟩
    rw [Nat.zero_add]
    simp [World.cell?, hg, hi]
theorem NewT.cap {B : Nat} {w : World} {A : Option Addr} {c : Nat} {xs : List Path.Bs} (h : NewT B w A c xs) : xs.length = c := by
  rcases h with ⟨rfl, _, rfl⟩ | ⟨g, _, _, rfl, _⟩ <;> rfl
theorem cell_row {w : World} {g : Nat} {vs : List Value} {t : TypeId} {f : Nat × Nat} (h : w.heap[g]? = some (.cells vs.toArray t f)) (i : Nat) : w.cell? ⟨g, i, none⟩ = vs[i]? := by
  simp [World.cell?, h]
theorem NewT.later {B C : Nat} {w w' : World} {A : Option Addr} {c : Nat} {xs : List Path.Bs} (h : NewT B w A c xs) (hb : Below C w w') (hC : w.heap.size ≤ C) : NewT B w' A c xs := by
  rcases h with h | ⟨g, h1, h2, h3, h4, hg⟩
  · exact .inl h
  · exact .inr ⟨g, h1, h2, h3, h4, by
      have := (Array.getElem?_eq_some_iff.1 hg).1
      rw [hb.block g (by omega)]; exact hg⟩
theorem isSlash (s : ByteArray) : (s.toList == [47]) = decide (Ls s = [47]) := by
  rw [Lib.toList_data]
  by_cases h : s.data.toList = [47]
  · simp [h]
  · have : (s.data.toList == [47]) = false := beq_eq_false_iff_ne.2 h
    rw [this]; simp [h]
theorem hasPrefix_slash (s : ByteArray) : Lib.hasPrefix (Ls s) [47] = decide ((Ls s).head? = some 47) := by
  cases h : s.data.toList with
  | nil => simp [Lib.hasPrefix, Ls, h]
  | cons b l =>
    simp only [Lib.hasPrefix, Ls, h, List.isPrefixOf, List.head?_cons, Option.some.injEq]
    by_cases hb : b = 47
    · subst hb; simp
    · have : (47 == b) = false := beq_eq_false_iff_ne.2 (fun e => hb e.symm)
      simp [this, hb]
theorem tail_ext (s : ByteArray) : (s.extract 1 s.size).data.toList = (Ls s).tail := by
  rw [ByteArray.data_extract, Array.toList_extract, List.extract_eq_take_drop, List.take_of_length_le (by rw [List.length_drop, size_len]; exact Nat.le_refl _), List.drop_one]
theorem len_of_some {s : ByteArray} {xs : List Path.Bs} (h : Path.pp (Ls s) = some xs) : s.size ≤ 256 := by
  have := size_len s
  unfold Path.pp at h
  split at h
  · next e => rw [Ls] at e; rw [e] at this; simp at this; omega
  · split at h
    · next e => have := e.1; rw [Ls] at this; omega
    · cases h
/-- what cut hands back of no path: some slice, false -/
def NoPath (w : World) (e : Ending) (w' : World) : Prop := ∃ A n c, e = .returned (.tuple #[.slice A n c, .bool false]) ∧ Below w.heap.size w w'
def IsPath (w : World) (xs : List Path.Bs) (e : Ending) (w' : World) : Prop := ∃ A c, e = .returned (.tuple #[.slice A xs.length c, .bool true]) ∧ NewT w.heap.size w' A c xs ∧ Below w.heap.size w w'
theorem cuts_le {s : ByteArray} (hs : s.size ≤ 256) : ∀ x ∈ Path.cuts (s.extract 1 s.size).data.toList, x.length ≤ 140737488355328 := by
  intro x hx
  rw [tail_ext] at hx
  have key : ∀ (l : Path.Bs) (x : Path.Bs), x ∈ Path.cuts l → x.length ≤ l.length := by
    intro l
    induction l with
    | nil => intro x hx; simp [Path.cuts] at hx; subst hx; simp
    | cons b l ih =>
      intro x hx
      unfold Path.cuts at hx
      split at hx
      · rcases List.mem_cons.1 hx with rfl | hx
        · simp
        · have := ih x hx; simp; omega
      · cases hc : Path.cuts l with
        | nil => exact absurd hc (Path.cuts_ne l)
        | cons y ys =>
          rw [hc] at hx ih
          simp only [Path.consHd] at hx
          rcases List.mem_cons.1 hx with rfl | hx
          · have := ih y (by simp); simp; omega
          · have := ih x (by simp [hx]); simp; omega
  have h1 := key _ x hx
  have h2 := size_len s
  rw [List.length_tail] at h1
  rw [Ls] at h1
  omega
theorem txts_new (w : World) (xs : List Path.Bs) : Txts (w.alloc (.cells (xs.map T).toArray 9)) (w.heap.size + 1) (some ⟨w.heap.size, 0, none⟩) xs := fun i hi => by
  refine ⟨w.heap.size, 0, rfl, by omega, ?_⟩
  rw [Nat.zero_add]
  simp [hi]
theorem cut_alloc (w : World) (vs : Array Value) (m : Nat) : Below w.heap.size w ((w.alloc (.cells vs 9)).drewN m) :=
  let h := (Below.refl w.heap.size w).alloc (Nat.le_refl _) (.cells vs 9)
  ⟨h.os, h.tape, h.output, h.size, h.block⟩
set_option maxHeartbeats 1000000 in
theorem cut_no (s : ByteArray) (w : World) (h : Path.pp (Ls s) = none) (hs : s.size ≤ maxLen) :
    Calls Tryd.prog 29 #[.string s] w (NoPath w) := by
  unfold maxLen at hs
  have h0 : Ls s ≠ [47] := by
    intro e; rw [e] at h; cases h
  have t0 : (s.toList == [47]) = false := by rw [isSlash]; exact decide_eq_false h0
  have HPre := Tryd.strings_HasPrefix s ⟨#[47]⟩
  have hpe : Lib.hasPrefix s.data.toList (ByteArray.mk #[47]).data.toList = decide ((Ls s).head? = some 47) := hasPrefix_slash s
  rw [hpe] at HPre
  have H0 := Lib.hid h0
  clear h0
  by_cases h1 : (s.size : Int) ≤ 256
  · by_cases h2 : (Ls s).head? = some 47
    · have hg : Path.good (Path.cuts (Ls s).tail) = false := by
        rcases hg : Path.good (Path.cuts (Ls s).tail) with _ | _
        · rfl
        · exfalso
          have := size_len s
          unfold Path.pp at h
          rw [if_neg H0.out, if_pos ⟨by rw [Ls]; omega, h2, hg⟩] at h
          cases h
      have hsp := split_any (s.extract 1 s.size) w (by rw [ByteArray.size_extract]; omega)
      have hle := cuts_le (s := s) (by omega)
      have hpos : 1 ≤ s.size := by
        have := size_len s
        rcases h3 : s.data.toList with _ | ⟨b, l⟩
        · rw [Ls, h3] at h2; cases h2
        · rw [h3] at this; simp at this; omega
      obtain ⟨xs, hxs⟩ : ∃ xs, Path.cuts (s.extract 1 s.size).data.toList = xs := ⟨_, rfl⟩
      have hg2 : Path.good xs = false := by rw [← hxs, tail_ext]; exact hg
      rw [hxs] at hsp hle
      have hare := areParts_any xs (some ⟨w.heap.size, 0, none⟩) xs.length (w.heap.size + 1) _ (txts_new w xs) hle
      rw [hg2] at hare
      rw [decide_eq_true h2] at HPre
      clear hxs hg hg2 h2 hpe h hle H0
      go_enter Tryd.func29, Tryd.ntmps29
      go_wp2_with (fail)
      refine (HPre _).mono ?_
      rintro e w' ⟨rfl, rfl⟩
      go_wp2_with (fail)
      refine hsp.mono ?_
      rintro e w' ⟨rfl, rfl⟩
      go_wp2_with (fail)
      refine hare.mono ?_
      rintro e w' ⟨rfl, m, rfl⟩
      go_wp2
      go_ret2
      exact ⟨_, _, _, rfl, cut_alloc _ _ _⟩
    · rw [decide_eq_false h2] at HPre
      clear hpe h2 h H0
      go_enter Tryd.func29, Tryd.ntmps29
      go_wp2_with (fail)
      refine (HPre _).mono ?_
      rintro e w' ⟨rfl, rfl⟩
      go_wp2
      go_ret2
      exact ⟨_, _, _, rfl, Below.refl _ _⟩
  · clear hpe HPre h H0
    go_enter Tryd.func29, Tryd.ntmps29
    go_wp2
    go_ret2
    exact ⟨_, _, _, rfl, Below.refl _ _⟩
set_option maxHeartbeats 1000000 in
theorem cut_ok (s : ByteArray) (xs : List Path.Bs) (w : World) (h : Path.pp (Ls s) = some xs) :
    Calls Tryd.prog 29 #[.string s] w (IsPath w xs) := by
  have hs := len_of_some h
  by_cases h0 : Ls s = [47]
  · have hx : xs = [] := by rw [h0] at h; cases h; rfl
    subst hx
    have t0 : (s.toList == [47]) = true := by rw [isSlash]; exact decide_eq_true h0
    clear h h0
    go_enter Tryd.func29, Tryd.ntmps29
    go_wp2
    go_ret2
    exact ⟨_, _, rfl, .inl ⟨rfl, rfl, rfl⟩, Below.refl _ _⟩
  · have t0 : (s.toList == [47]) = false := by rw [isSlash]; exact decide_eq_false h0
    have HPre := Tryd.strings_HasPrefix s ⟨#[47]⟩
    have hpe : Lib.hasPrefix s.data.toList (ByteArray.mk #[47]).data.toList = decide ((Ls s).head? = some 47) := hasPrefix_slash s
    rw [hpe] at HPre
    unfold Path.pp at h
    rw [if_neg h0] at h
    split at h
    case isFalse => cases h
    case isTrue hc =>
    obtain ⟨_, h2, hg⟩ := hc
    injection h with h
    have h1 : (s.size : Int) ≤ 256 := by omega
    have hsp := split_any (s.extract 1 s.size) w (by rw [ByteArray.size_extract]; omega)
    have hle := cuts_le (s := s) (by omega)
    have hpos : 1 ≤ s.size := by
      have := size_len s
      rcases h3 : s.data.toList with _ | ⟨b, l⟩
      · rw [Ls, h3] at h2; cases h2
      · rw [h3] at this; simp at this; omega
    rw [tail_ext, h] at hsp hle
    rw [h] at hg
    have hx0 : 0 < xs.length := by
      rw [← h]
      exact List.length_pos_iff.2 (Path.cuts_ne _)
    have hare := areParts_any xs (some ⟨w.heap.size, 0, none⟩) xs.length (w.heap.size + 1) _ (txts_new w xs) hle
    rw [hg] at hare
    rw [decide_eq_true h2] at HPre
    have HX0 := Lib.hid hx0
    clear hx0 hg h2 hpe h hle h0
    go_enter Tryd.func29, Tryd.ntmps29
    go_wp2_with (fail)
    refine (HPre _).mono ?_
    rintro e w' ⟨rfl, rfl⟩
    go_wp2_with (fail)
    refine hsp.mono ?_
    rintro e w' ⟨rfl, rfl⟩
    go_wp2_with (fail)
    refine hare.mono ?_
    rintro e w' ⟨rfl, m, rfl⟩
    go_wp2
    go_ret2
    exact ⟨_, _, rfl, .inr ⟨_, Nat.le_refl _, rfl, rfl, HX0.out, heap_alloc_new _ _⟩, cut_alloc _ _ _⟩

set_option maxHeartbeats 1000000 in
theorem check_no (s : ByteArray) (w : World) (h : Path.pp (Ls s) = none) (hs : s.size ≤ maxLen) :
    Calls Tryd.prog 69 #[.string s] w fun e w' => e = .returned (.int .i64 60) ∧ Below w.heap.size w w' := by
  have c := cut_no s w h hs
  clear h
  go_enter Tryd.func69, Tryd.ntmps69
  go_wp2_with (fail)
  refine c.mono ?_
  rintro e w' ⟨A, n, c, rfl, hb⟩
  have HB := Lib.hid hb
  clear hb
  go_wp2
  go_ret
  exact ⟨rfl, HB.out⟩
set_option maxHeartbeats 1000000 in
theorem check_ok (s : ByteArray) (xs : List Path.Bs) (w : World) (h : Path.pp (Ls s) = some xs) :
    Calls Tryd.prog 69 #[.string s] w fun e w' => e = .returned (.int .i64 0) ∧ Below w.heap.size w w' := by
  have c := cut_ok s xs w h
  clear h
  go_enter Tryd.func69, Tryd.ntmps69
  go_wp2_with (fail)
  refine c.mono ?_
  rintro e w' ⟨A, c, rfl, _, hb⟩
  have HB := Lib.hid hb
  clear hb
  go_wp2
  go_ret
  exact ⟨rfl, HB.out⟩
end Go.Proofs.YtoaoikfhdeiabaaDoor
