/- Stable sorting: slices.symMergeCmpFunc, whatever is merged. -/
import Derived.Test.YtmpeaondljpgiaaStkSymC
import Derived.Test.YtmpeaondljpgiaaStkIns
namespace Go.Proofs.Ytmpeaondljpgiaa
open Go.RowKit Go.Lib Go.Sort Go.Shelf

section
variable {α : Type} [Inhabited α] {Ky Vl : α → ByteArray} {w0 : World} {blk off : Nat} {d0 : Array α} {key : α → Int} {num : α → Nat} {cf : α → α → Int} {g : Nat} {cb : Array Value}
theorem symMerge_K (R : RowK (encP Ky Vl) 2 w0 blk off d0) (hsz : d0.size < 4611686018427387904) (cap : Nat) (C : CmpK g cb Ky Vl cf key blk off d0.size w0) : ∀ (len : Nat) (P A B Q : List α) (W : World) (a m b : Nat), A.length + B.length ≤ len → 0 < A.length → 0 < B.length → Hid (SrtT key num A ∧ SrtT key num B ∧ Nl num A B) → (P ++ (A ++ (B ++ Q))).length = d0.size → a = P.length → m = P.length + A.length → b = P.length + A.length + B.length →
    Aside (SWK (encP Ky Vl) 2 w0 blk off (P ++ (A ++ (B ++ Q))).toArray W) →
    Calls Try.prog 38 #[.slice (some ⟨blk, off, none⟩) d0.size cap, .int .i64 a, .int .i64 m, .int .i64 b, .func (.func g) #[] cb] W fun e w' => e = .returned (.tuple #[]) ∧ ∃ S', Hid (S'.Perm (A ++ B) ∧ SrtT key num S' ∧ SWK (encP Ky Vl) 2 w0 blk off (P ++ (S' ++ Q)).toArray w') := by
  intro len
  induction len with
  | zero => intro P A B Q W a m b h1 h2 h3; omega
  | succ len ih =>
    intro P A B Q W a m b hlen hA hB HS hs ha hm hb S
    by_cases hone : A.length = 1
    · exact sym_left_K R hsz cap C len P A B Q W a m b hlen hA hB HS hs ha hm hb S hone
    · by_cases htwo : B.length = 1
      · exact sym_right_K R hsz cap C len P A B Q W a m b hlen hA hB HS hs ha hm hb S hone htwo
      · exact sym_gen_K R hsz cap C len (Lib.hid ih) P A B Q W a m b hlen hA hB HS hs ha hm hb S hone htwo
end
end Go.Proofs.Ytmpeaondljpgiaa
