/- Stable sorting: slices.SortStableFunc over a row of one cell each. -/
import Derived.Test.YtmpeaondljpgiaaStkStb
namespace Go.Proofs.Ytmpeaondljpgiaa
open Go.RowKit Go.Lib Go.Sort Go.Shelf

section
variable {α : Type} [Inhabited α] {Ky Vl : α → ByteArray} {w0 : World} {blk off : Nat} {d0 : Array α} {key : α → Int} {num : α → Nat} {cf : α → α → Int} {g : Nat} {cb : Array Value}
set_option maxRecDepth 100000 in
set_option maxHeartbeats 400000 in
theorem sortStable_K (R : RowK (encP Ky Vl) 2 w0 blk off d0) (hsz : d0.size < 4611686018427387904) (cap : Nat) (C : CmpK g cb Ky Vl cf key blk off d0.size w0) (L : List α) (W : World) (HN : Hid (L.Pairwise fun x y => num x < num y)) (HL : Hid (L.length = d0.size))
    (S : Aside (SWK (encP Ky Vl) 2 w0 blk off L.toArray W)) :
    Calls Try.prog 22 #[.slice (some ⟨blk, off, none⟩) d0.size cap, .func (.func g) #[] cb] W fun e w' => e = .returned (.tuple #[]) ∧ ∃ S', Hid (S'.Perm L ∧ SrtT key num S' ∧ SWK (encP Ky Vl) 2 w0 blk off S'.toArray w') := by
  have mixed : Try.prog.follows Departure.mixedOrders = true := by kernel_rfl
  have hcall := stable_K (key := key) (num := num) R hsz cap C L W HN HL S
  obtain ⟨n, hn⟩ : ∃ n : Nat, n = d0.size := ⟨_, rfl⟩
  rw [← hn] at hcall hsz ⊢
  clear S hn
  go_enter Try.func22, Try.ntmps22
  go_wp2_with fail
  refine hcall.mono ?_
  rintro e w' ⟨rfl, S', HF⟩
  clear hcall
  go_wp2
  first
    | (go_end0; exact ⟨rfl, _, HF⟩)
    | (go_ret; exact ⟨rfl, _, HF⟩)
    | exact bodyPost_ret (v := .tuple #[]) (results_none rfl _ _ _) rfl ⟨rfl, _, HF⟩
end
end Go.Proofs.Ytmpeaondljpgiaa
