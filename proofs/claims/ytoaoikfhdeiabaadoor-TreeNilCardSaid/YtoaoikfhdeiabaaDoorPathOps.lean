/- The contracts of package paths: Split, Join, Parent, Base, Within. -/
import Derived.Test.YtoaoikfhdeiabaaDoorPathCut
import Derived.Test.YtoaoikfhdeiabaaDoorCloneP
namespace Go.Proofs.YtoaoikfhdeiabaaDoor
open Go.RowKit

theorem below_drew (w : World) (m : Nat) : Below w.heap.size w (w.drewN m) := ⟨rfl, rfl, rfl, Nat.le_refl _, fun _ _ => rfl⟩
theorem below_of_drew {w w' : World} {m B : Nat} (h : Below B (w.drewN m) w') : Below B w w' := ⟨h.os, h.tape, h.output, h.size, h.block⟩
theorem path_len {xs : List Path.Bs} (h : Path.good xs = true) : (Path.path xs).length ≤ 256 := by
  unfold Path.path
  split
  · simp
  · exact (Path.good_parts h).2.2
theorem good_of {s : ByteArray} {xs : List Path.Bs} (h : Path.pp (Ls s) = some xs) : Path.good xs = true := (Path.path_pp h).2
theorem part_len {xs : List Path.Bs} (h : Path.good xs = true) : ∀ x ∈ xs, x.length ≤ 64 := fun x hx => by
  have := (Path.good_parts h).2.1 x hx
  simp only [Path.part, Bool.and_eq_true, decide_eq_true_eq] at this
  exact this.2.1

theorem set_same {w : World} {a : Addr} {v : Value} (h : w.cell? a = some v) : w.setCell a v = w := by
  have hh : (w.setCell a v).heap = w.heap := by
    apply Array.ext_getElem?
    intro k
    simp only [World.setCell, Array.getElem?_modify]
    by_cases hk : a.block = k
    · subst hk
      rw [if_pos rfl]
      unfold World.cell? at h
      split at h
      · next c e fr hg =>
        rw [hg]
        split at h
        · cases h
        · next hs =>
          simp only [Option.map_some, if_neg hs]
          have : c.setIfInBounds a.off v = c := by
            apply Array.ext_getElem?
            intro j
            rw [Array.getElem?_setIfInBounds]
            split
            · next e => subst e; rw [h]; have := (Array.getElem?_eq_some_iff.1 h).1; simp [this]
            · rfl
          rw [this]
      · cases h
    · rw [if_neg hk]
  cases w
  simp only [World.setCell, World.mk.injEq] at hh ⊢
  exact ⟨hh, trivial, trivial, trivial, trivial⟩
set_option maxHeartbeats 1000000 in
theorem split_no (s : ByteArray) (w : World) (h : Path.pp (Ls s) = none) (hs : s.size ≤ maxLen) :
    Calls Tryd.prog 17 #[.string s] w fun e w' => e = .returned (.tuple #[.slice none 0 0, .int .i64 60]) ∧ Below w.heap.size w w' := by
  have c := cut_no s w h hs
  clear h
  go_enter Tryd.func17, Tryd.ntmps17
  go_wp2_with (fail)
  refine c.mono ?_
  rintro e w' ⟨A, n, c, rfl, hb⟩
  have HB := Lib.hid hb
  clear hb
  go_wp2
  go_ret2
  exact ⟨rfl, HB.out⟩
def SplitRes (w : World) (xs : List Path.Bs) (e : Ending) (w' : World) : Prop := ∃ A c, e = .returned (.tuple #[.slice A xs.length c, .int .i64 0]) ∧ NewT w.heap.size w' A c xs ∧ Below w.heap.size w w'
set_option maxHeartbeats 1000000 in
theorem psplit_ok (s : ByteArray) (xs : List Path.Bs) (w : World) (h : Path.pp (Ls s) = some xs) :
    Calls Tryd.prog 17 #[.string s] w (SplitRes w xs) := by
  have c := cut_ok s xs w h
  have HG := Lib.hid (part_len (good_of h))
  have hl := (Path.good_parts (good_of h)).1
  clear h
  go_enter Tryd.func17, Tryd.ntmps17
  go_wp2_with (fail)
  refine c.mono ?_
  rintro e w1 ⟨A, c, rfl, hn, hb⟩
  have HB := Lib.hid hb
  have HN := Lib.hid hn
  clear hb hn
  go_wp2
  go_loopw [17] (fun i wr => ∃ k : Nat, k ≤ xs.length ∧ i = .int .i64 k ∧ Hid (NewT w.heap.size wr A c xs ∧ Below w.heap.size w wr)) (fun i _ => xs.length - (intOf i).toNat)
  case atStart => exact ⟨0, Nat.zero_le _, rfl, Lib.hid ⟨HN.out, HB.out⟩⟩
  case round =>
    obtain ⟨k, hk, rfl, HR⟩ := hrel
    by_cases hlt : k < xs.length
    · rcases HR.out.1 with ⟨h0, _, _⟩ | ⟨g, hg0, rfl, rfl, _, hg⟩
      · rw [h0] at hlt; exact absurd hlt (by simp)
      obtain ⟨s', hs'⟩ : ∃ s' : ByteArray, s' = ⟨xs[k].toArray⟩ := ⟨_, rfl⟩
      have hsz : s'.size ≤ 281474976710656 := by
        have h1 := HG.out _ (List.getElem_mem hlt)
        rw [hs']; show xs[k].toArray.size ≤ _; simp; omega
      have hgl := (Array.getElem?_eq_some_iff.1 hg).1
      have hc : wr.cell? ⟨g, k, none⟩ = some (.string s') := by rw [cell_row hg, hs']; simp [hlt]
      have HC := fun (w2 : World) (hb : Below wr.heap.size wr w2) => And.intro ((hb.cell (p := ⟨g, k, none⟩) hgl).trans hc) ((hb.frozen (p := ⟨g, k, none⟩) hgl).trans (show wr.frozen? ⟨g, k, none⟩ = false by simp [World.frozen?, hg]))
      have HZ := Lib.hid (And.intro hgl (HR.out.2.size))
      clear hs' hg0 hg hgl
      go_wp2_with (fail)
      refine (clone_any s' _ hsz).mono ?_
      rintro e w2 ⟨rfl, hb2⟩
      obtain ⟨hc2, hf2⟩ := HC w2 hb2
      have HE := Lib.hid (set_same hc2)
      have HB2 := Lib.hid hb2
      clear HC hb2
      go_wp2
      go_roundw
      case rel =>
        refine ⟨k + 1, by omega, by go_num, Lib.hid ?_⟩
        rw [HE.out]
        exact ⟨HR.out.1.later HB2.out (Nat.le_refl _), HR.out.2.trans (HB2.out.mono HZ.out.2)⟩
      case measure => simp [intOf]; omega
    · go_wp2
      go_ret2
      exact ⟨_, _, rfl, HR.out.1, HR.out.2⟩
end Go.Proofs.YtoaoikfhdeiabaaDoor
