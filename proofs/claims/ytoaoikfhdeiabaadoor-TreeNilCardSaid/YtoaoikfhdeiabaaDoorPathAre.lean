/- The contracts of package paths: the parts of one path; joining. -/
import Derived.Test.YtoaoikfhdeiabaaDoorPathFns
import Derived.Test.YtoaoikfhdeiabaaDoorShelf
namespace Go.Proofs.YtoaoikfhdeiabaaDoor
open Go.RowKit

abbrev T (l : Path.Bs) : Value := .string ⟨l.toArray⟩
/-- the slice value holds these texts, all of them below B -/
def Txts (w : World) (B : Nat) (A : Option Addr) (xs : List Path.Bs) : Prop :=
  ∀ i, (h : i < xs.length) → ∃ b off, A = some ⟨b, off, none⟩ ∧ b < B ∧ w.cell? ⟨b, off + i, none⟩ = some (T xs[i])
theorem Txts.below {w w' : World} {B : Nat} {A : Option Addr} {xs : List Path.Bs} (h : Txts w B A xs) (hb : Below B w w') : Txts w' B A xs := fun i hi => by
  obtain ⟨b, off, e, hB, hc⟩ := h i hi
  exact ⟨b, off, e, hB, (hb.cell (p := ⟨b, _, none⟩) hB).trans hc⟩
theorem Txts.mono {w : World} {B C : Nat} {A : Option Addr} {xs : List Path.Bs} (h : Txts w B A xs) (hc : B ≤ C) : Txts w C A xs := fun i hi => by
  obtain ⟨b, off, e, hB, hc'⟩ := h i hi
  exact ⟨b, off, e, by omega, hc'⟩
theorem Txts.take {w : World} {B : Nat} {A : Option Addr} {xs : List Path.Bs} (h : Txts w B A xs) (n : Nat) : Txts w B A (xs.take n) := fun i hi => by
  have hi' : i < xs.length := by rw [List.length_take] at hi; omega
  obtain ⟨b, off, e, hB, hc⟩ := h i hi'
  exact ⟨b, off, e, hB, by rw [hc, List.getElem_take]⟩
/-- the first k parts are parts -/
def AP (xs : List Path.Bs) (k : Nat) (n : Int) : Prop := (xs.take k).all Path.part = true ∧ n = (Path.glue (xs.take k)).length
theorem AP.next {xs : List Path.Bs} {k : Nat} {n : Int} (h : AP xs k n) (hk : k < xs.length) (hp : Path.part xs[k] = true) : AP xs (k + 1) (n + (1 + (xs[k].length : Int))) := by
  obtain ⟨h1, h2⟩ := h
  have e : xs.take (k + 1) = xs.take k ++ [xs[k]] := by rw [List.take_add_one, List.getElem?_eq_getElem hk]; rfl
  refine ⟨by rw [e, List.all_append, h1]; simp [hp], ?_⟩
  rw [e, Path.glue_append, h2]
  simp [Path.glue]
  omega
theorem AP.stop {xs : List Path.Bs} {k : Nat} (hk : k < xs.length) (hp : Path.part xs[k] = false) : Path.good xs = false := by
  have : xs.all Path.part = false := by
    rw [List.all_eq_false]
    exact ⟨xs[k], List.getElem_mem _, by simp [hp]⟩
  simp [Path.good, this]
theorem AP.fin {xs : List Path.Bs} {k : Nat} {n : Int} (h : AP xs k n) (hk : ¬ k < xs.length) (hl : xs.length ≤ 16) : Path.good xs = decide (n ≤ 256) := by
  obtain ⟨h1, h2⟩ := h
  rw [List.take_of_length_le (by omega)] at h1 h2
  have e : decide (n ≤ 256) = decide ((Path.glue xs).length ≤ 256) := by
    rw [h2]; simp only [decide_eq_decide]; omega
  rw [e]
  simp [Path.good, h1, hl]
theorem AP.bd {xs : List Path.Bs} {k : Nat} {n : Int} (h : AP xs k n) (hx : ∀ x ∈ xs, x.length ≤ 140737488355328) (hl : xs.length ≤ 16) : 0 ≤ n ∧ n ≤ 2251799813685264 := by
  have key : ∀ ys : List Path.Bs, (∀ x ∈ ys, x.length ≤ 140737488355328) → (Path.glue ys).length ≤ ys.length * 140737488355329 := by
    intro ys
    induction ys with
    | nil => simp [Path.glue]
    | cons y ys ih =>
      intro hy
      have h1 := hy y (by simp)
      have h2 := ih (fun x hx => hy x (by simp [hx]))
      simp only [Path.glue, List.length_cons, List.length_append]
      omega
  have := key (xs.take k) (fun x hm => hx x (List.mem_of_mem_take hm))
  have h3 : (xs.take k).length ≤ 16 := by rw [List.length_take]; omega
  have h4 := h.2
  omega
theorem good_long {xs : List Path.Bs} (h : ¬ xs.length ≤ 16) : Path.good xs = false := by simp [Path.good, h]
theorem isPart_T (l : Path.Bs) (w : World) (hs : l.length ≤ 140737488355328) :
    Calls Tryd.prog 74 #[T l] w fun e w' => e = .returned (.bool (Path.part l)) ∧ ∃ m, w' = w.drewN m :=
  isPart_any ⟨l.toArray⟩ w (by unfold maxLen; show l.toArray.size ≤ _; simp; omega)

set_option maxHeartbeats 1000000 in
theorem areParts_any (xs : List Path.Bs) (A : Option Addr) (cap : Nat) (B : Nat) (w : World) (hA : Txts w B A xs) (hx : ∀ x ∈ xs, x.length ≤ 140737488355328) :
    Calls Tryd.prog 54 #[.slice A xs.length cap] w fun e w' => e = .returned (.bool (Path.good xs)) ∧ ∃ m, w' = w.drewN m := by
  have HA := Lib.hid hA
  have HX := Lib.hid hx
  clear hA hx
  by_cases hl : xs.length ≤ 16
  · go_enter Tryd.func54, Tryd.ntmps54
    go_wp2
    go_loopw [3, 11] (fun v i wr => ∃ (k : Nat) (n : Int), k ≤ xs.length ∧ i = .int .i64 k ∧ v = .int .i64 n ∧ Hid (AP xs k n) ∧ ∃ m, wr = w.drewN m) (fun _ i _ => xs.length - (intOf i).toNat)
    case atStart => exact ⟨0, 0, Nat.zero_le _, rfl, rfl, Lib.hid ⟨rfl, rfl⟩, 0, rfl⟩
    case round =>
      obtain ⟨k, n, hk, rfl, rfl, HP, m, rfl⟩ := hrel
      obtain ⟨n0, n1⟩ := HP.out.bd HX.out hl
      by_cases hlt : k < xs.length
      · obtain ⟨b, off, rfl, hb, hc⟩ := HA.out k hlt
        obtain ⟨s, hs⟩ : ∃ s : ByteArray, s = ⟨xs[k].toArray⟩ := ⟨_, rfl⟩
        have hsz : s.size ≤ 140737488355328 := by
          have h1 := HX.out _ (List.getElem_mem hlt)
          rw [hs]; show xs[k].toArray.size ≤ _; simpa using h1
        have HE : Hid (s.data.toList = xs[k]) := Lib.hid (by rw [hs])
        have HL : Hid (s.size = xs[k].length) := Lib.hid (by rw [hs]; show xs[k].toArray.size = _; simp)
        rw [T, ← hs] at hc
        clear hs hb
        go_wp2_with (fail)
        refine (isPart_any s _ (by unfold maxLen; omega)).mono ?_
        rintro e w' ⟨rfl, q, rfl⟩
        rcases hp : Path.part s.data.toList with _ | _
        · have HN := Lib.hid (AP.stop hlt (by rw [← HE.out]; exact hp))
          clear hp
          go_wp2
          go_ret
          exact ⟨by rw [HN.out]; rfl, _, rfl⟩
        · have HN := HP.out.next hlt (by rw [← HE.out]; exact hp)
          rw [← HL.out] at HN
          have HM := Lib.hid HN
          clear hp HN
          go_wp2
          go_roundw
          case rel => exact ⟨k + 1, _, by omega, by go_num, rfl, HM, _, rfl⟩
          case measure => simp [intOf]; omega
      · go_wp2
        go_ret
        exact ⟨by rw [HP.out.fin hlt hl]; rfl, _, rfl⟩
  · go_enter Tryd.func54, Tryd.ntmps54
    go_wp2
    go_ret
    exact ⟨by rw [good_long hl]; rfl, 0, rfl⟩
end Go.Proofs.YtoaoikfhdeiabaaDoor
