/- Stable sorting: slices.SortStableFunc over a row of one cell each. -/
import Derived.Test.YtjjmflkdfgneoaaStbStb
namespace Go.Proofs.Ytjjmflkdfgneoaa
open Go.RowKit Go.Lib Go.Sort Go.Shelf

section
variable {α : Type} [Inhabited α] {enc : α → Value} {w0 : World} {blk off : Nat} {d0 : Array α} {key : α → Int} {num : α → Nat} {cf : α → α → Int} {g : Nat} {cb : Array Value}
set_option maxRecDepth 100000 in
set_option maxHeartbeats 400000 in
theorem sortStable_S (R : Row1 enc w0 blk off d0) (hsz : d0.size < 4611686018427387904) (cap : Nat) (C : Cmp g cb enc cf key blk off d0.size w0) (L : List α) (W : World) (HN : Hid (L.Pairwise fun x y => num x < num y)) (HL : Hid (L.length = d0.size))
    (S : Aside (SW enc w0 blk off L.toArray W)) :
    Calls Try.prog 25 #[.slice (some ⟨blk, off, none⟩) d0.size cap, .func (.func g) #[] cb] W fun e w' => e = .returned (.tuple #[]) ∧ ∃ S', Hid (S'.Perm L ∧ SrtT key num S' ∧ SW enc w0 blk off S'.toArray w') := by
  have mixed : Try.prog.follows Departure.mixedOrders = true := by kernel_rfl
  have hcall := stable_S (key := key) (num := num) R hsz cap C L W HN HL S
  obtain ⟨n, hn⟩ : ∃ n : Nat, n = d0.size := ⟨_, rfl⟩
  rw [← hn] at hcall hsz ⊢
  clear S hn
  go_enter Try.func25, Try.ntmps25
  go_wp2_with fail
  refine hcall.mono ?_
  rintro e w' ⟨rfl, S', HF⟩
  clear hcall
  go_wp2
  first
    | (go_end0; exact ⟨rfl, _, HF⟩)
    | (go_ret; exact ⟨rfl, _, HF⟩)
    | exact bodyPost_ret (v := .tuple #[]) (results_none rfl _ _ _) rfl ⟨rfl, _, HF⟩
/-- what cmp.Compare answers -/
def cmpI (x y : Int) : Int := if x < y then -1 else if y < x then 1 else 0
theorem cmpI_neg (x y : Int) : cmpI x y < 0 ↔ x < y := by
  unfold cmpI
  by_cases h1 : x < y
  · simp [h1]
  · by_cases h2 : y < x <;> simp [h1, h2]
set_option maxRecDepth 100000 in
set_option maxHeartbeats 4000000 in
theorem compare_ok (x y : Int) (W : World) : Calls Try.prog 27 #[.int .i64 x, .int .i64 y] W fun e w' => e = .returned (.int .i64 (cmpI x y)) ∧ w' = W := by
  have mixed : Try.prog.follows Departure.mixedOrders = true := by kernel_rfl
  by_cases h1 : x < y
  · have e1 : cmpI x y = -1 := by unfold cmpI; rw [if_pos h1]
    rw [e1]
    go_enter Try.func27, Try.ntmps27
    go_wp2
    go_ret
    exact ⟨rfl, rfl⟩
  · by_cases h2 : y < x
    · have e1 : cmpI x y = 1 := by unfold cmpI; rw [if_neg h1, if_pos h2]
      rw [e1]
      go_enter Try.func27, Try.ntmps27
      go_wp2
      go_ret
      exact ⟨rfl, rfl⟩
    · have e1 : cmpI x y = 0 := by unfold cmpI; rw [if_neg h1, if_neg h2]
      rw [e1]
      go_enter Try.func27, Try.ntmps27
      go_wp2
      go_ret
      exact ⟨rfl, rfl⟩
end
end Go.Proofs.Ytjjmflkdfgneoaa
