/- Merging: append([]Pair{}, l...): a copy of a list of pairs. -/
import Derived.Test.YtmpeaondljpgiaaMrgCopied
import Derived.Deep.AppendLies
namespace Go.Proofs.Ytmpeaondljpgiaa
open Go.RowKit

theorem wpList_lit {ops : Array Oper} {rest : List Oper} {o : Oper} {a : Act} {Q : Exit → Act → World → Prop} (hgd : o.guard = none) (s x : Operand)
    (ho : o.op = .call { callee := .builtin .append, args := #[s, x], argTypes := #[32, 32] }) (W : World) (B : Nat) (hB : B ≤ W.heap.size) (A : Option Addr) (n cap : Nat) (K V : Nat → ByteArray) (hn : n ≤ 1048576) (H : Nat) (hH : H = W.heap.size)
    (hs : a.eval s = .slice (some ⟨H, 0, none⟩) 0 0) (hx : a.eval x = .slice A n cap) (hP : PrAt W W.heap.size A n K V)
    (h : ∀ b c w', Hid (w'.ownsRow B 34 2 (.slice (some ⟨b, 0, none⟩) n c) n (prN K V n) ∧ Below W.heap.size W w') → wpList Try.prog ops Q rest (a.put o.dst (.slice (some ⟨b, 0, none⟩) n c)) w') :
    wpList Try.prog ops Q (o :: rest) a (W.alloc (.cells #[] 34)) := by
  subst hH
  obtain ⟨i2, hi2, hz02, hz12, hz22⟩ := info_parts infoPair
  have hl0 : (W.alloc (.cells #[] 34)).ownsRow B 34 2 (.slice (some ⟨W.heap.size, 0, none⟩) 0 0) 0 [] := World.ownsRow_lit W #[] 0 hB (by unfold maxLen; omega) rfl
  have hb0 : Below W.heap.size W (W.alloc (.cells #[] 34)) := (Below.refl _ _).alloc (Nat.le_refl _) _
  by_cases h0 : n = 0
  · subst h0
    refine wpList_append_nothing _ hgd _ _ 32 ho 34 i2 Try.underlying32 hi2 (some ⟨W.heap.size, 0, none⟩) 0 0 (Nat.le_refl _) hs A 0 cap rfl hx ?_
    intro u hu
    have hu := hu.out
    subst hu
    exact h _ _ _ (Lib.hid ⟨hl0, hb0⟩)
  · obtain ⟨b, off, rfl, hb, _⟩ := hP 0 (by omega)
    have hcs : ∀ j u, (prN K V n)[j]? = some u → (W.alloc (.cells #[] 34)).cell? ((⟨b, off, none⟩ : Addr).add j) = some u := fun j u hj => by
      refine (hb0.cell (p := (⟨b, off, none⟩ : Addr).add j) ?_).trans (prAt_add hP j u hj)
      rw [Addr.add_lit]
      exact hb
    refine wpList_append_lies _ hgd _ _ 32 ho B 34 i2 _ 2 32 Try.underlying32 hi2 hz02 hz12 hz22 rfl (by decide) _ 0 [] hs hl0 ⟨b, off, none⟩ n cap (prN K V n) hx (prN_len _ _ _) hcs (prN_one K V n) (by omega) (by unfold maxLen; omega) (by omega) (by simp; omega) (W.heap.size + 1) (by simp) ?_
    intro g c w' hown hg _ _
    rw [Nat.zero_add, List.nil_append] at hown
    rw [Nat.zero_add]
    exact h _ _ _ (Lib.hid ⟨hown, hb0.grown hg (by simp) (fun j ej => by simp [Value.ownBlock] at ej; omega)⟩)
end Go.Proofs.Ytmpeaondljpgiaa
