/- Package leases: the map from paths to leases: each element a pointer to a block of its own. -/
import Derived.Test.YtabnhiehmheocaaTch
import Derived.Test.YtabnhiehmheocaaPlainKit
import Derived.Maps.Own
import Derived.Maps.OwnSet
import Derived.Maps.Views
import Derived.Lib.Hide
namespace Go.Proofs.Ytabnhiehmheocaa
open Go.RowKit Go.Maps

theorem strLaw : Keyed Try.prog 9 := string_keyed Try.underlying9
theorem zeroLease (w : World) : (zeroValue 55).run Try.prog w = .ok (.pointer none) w := by kernel_rfl
def sk (s : ByteArray) : Lit := .string s.data.toList
theorem sk_inj {s t : ByteArray} (h : sk s = sk t) : s = t := by
  unfold sk at h
  injection h with h
  exact ByteArray.ext (Array.toList_inj.1 h)
theorem sk_is (s : ByteArray) : WideAt.IsKeyLit (sk s) := by unfold sk WideAt.IsKeyLit; trivial
theorem key_str {s : ByteArray} (h : s.size ≤ maxLen) : keyOf Try.prog 9 (.string s) = some (sk s) := Go.WideMaps.keyOf_string_mk Try.underlying9 h
/-- a pointer as a datum -/
def pdr : Value → Option (DataW Unit × List MemPlace)
  | .pointer none => some (.agg [], [])
  | .pointer (some ⟨b, 0, none⟩) => some (.lit (.int .i64 (b : Int)), [])
  | _ => none
def pd (b : Nat) : DataW Unit := .lit (.int .i64 (b : Int))
def pd0 : DataW Unit := .agg []
def pdo : Option Nat → DataW Unit
  | none => pd0
  | some b => pd b
def pvo : Option Nat → Value
  | none => .pointer none
  | some b => .pointer (some ⟨b, 0, none⟩)
theorem pdr_inv {v : Value} {o : Option Nat} {ps : List MemPlace} (h : pdr v = some (pdo o, ps)) : v = pvo o := by
  unfold pdr at h
  split at h
  · cases o with
    | none => rfl
    | some b => simp [pdo, pd] at h
  · rename_i b
    cases o with
    | none => simp [pdo, pd0] at h
    | some c =>
      simp only [pdo, pd, Option.some.injEq, Prod.mk.injEq, DataW.lit.injEq, Lit.int.injEq, true_and] at h
      have := Int.ofNat.inj h.1
      subst this
      rfl
  · cases h
/-- which block each path leads to -/
abbrev Blk := ByteArray → Option Nat
def updG (G : Blk) (q : ByteArray) (b : Nat) : Blk := fun x => if x = q then some b else G x
def delG (G : Blk) (q : ByteArray) : Blk := fun x => if x = q then none else G x
def GM (w : World) (m n : Nat) (G : Blk) : Prop := ∃ D, w.ownsMap Try.prog 9 pdr m n D ∧ ∀ q, Maps.has D (sk q) = (G q).isSome ∧ D.atKey (sk q) pd0 = pdo (G q)
theorem GM.same {w w' : World} {m n : Nat} {G : Blk} (h : GM w m n G) (e : w'.heap[m]? = w.heap[m]?) : GM w' m n G := by
  obtain ⟨D, ⟨es, clock, h1, h2⟩, h3⟩ := h
  exact ⟨D, ⟨es, clock, e.trans h1, h2⟩, h3⟩
theorem GM.map {w : World} {m n : Nat} {G : Blk} (h : GM w m n G) : ∃ es clock, w.heap[m]? = some (.map es clock) := by
  obtain ⟨D, ⟨es, clock, h1, _⟩, _⟩ := h
  exact ⟨es, clock, h1⟩
theorem GM.lt {w : World} {m n : Nat} {G : Blk} (h : GM w m n G) : m < w.heap.size := by
  obtain ⟨es, clock, h1⟩ := h.map
  exact (Array.getElem?_eq_some_iff.1 h1).1
theorem GM.apart {w : World} {m n b : Nat} {e : TypeId} {G : Blk} (h : GM w m n G) (hb : Bears w b e) : ¬ b = m := by
  rintro rfl
  obtain ⟨es, clock, h1⟩ := h.map
  obtain ⟨cs, h2⟩ := hb
  rw [h1] at h2
  cases h2
theorem GM.mono {w : World} {m n n' : Nat} {G : Blk} (h : GM w m n G) (hn : n ≤ n') : GM w m n' G := by
  obtain ⟨D, h1, h2⟩ := h
  exact ⟨D, h1.mono hn, h2⟩
theorem gm_made (w : World) : GM (w.alloc (.map #[] 0)) w.heap.size 0 (fun _ => none) := ⟨_, World.ownsMap_made _ _ _ _, fun _ => ⟨rfl, rfl⟩⟩
theorem look_gm {w : World} {m n : Nat} {G : Blk} {q : ByteArray} (h : GM w m n G) (hq : q.size ≤ maxLen) :
    (Instr.lookup 52 (.map (some m)) (.string q) true).run Try.prog w = .ok (.tuple #[pvo (G q), .bool (G q).isSome]) w := by
  obtain ⟨D, h1, h2⟩ := h
  obtain ⟨v, ps, hrun, hv⟩ := h1.look_ok strLaw Try.underlying52 (zeroLease _) (zd := pd0) (zp := []) rfl (key_str hq)
  rw [(h2 q).2] at hv
  rw [pdr_inv hv, (h2 q).1] at hrun
  exact hrun
theorem look_gm0 {w : World} {q : ByteArray} (hq : q.size ≤ maxLen) :
    (Instr.lookup 52 (.map none) (.string q) true).run Try.prog w = .ok (.tuple #[.pointer none, .bool false]) w := by
  have := Maps.look_nil (w := w) true strLaw Try.underlying52 (zeroLease _) (key_str hq)
  simpa using this
theorem put_gm {w : World} {m n b : Nat} {G : Blk} {q : ByteArray} (h : GM w m n G) (hn : n < maxLen) (hq : q.size ≤ maxLen) :
    ∃ w', (Instr.mapUpdate 52 (.map (some m)) (.string q) (.pointer (some ⟨b, 0, none⟩))).run Try.prog w = .ok () w' ∧ GM w' m (n + 1) (updG G q b) ∧ w.grownBy w' (some m) := by
  obtain ⟨D, h1, h2⟩ := h
  obtain ⟨w', hrun, h3, h4⟩ := h1.update strLaw Try.underlying52 hn (key_str hq) (show pdr (.pointer (some ⟨b, 0, none⟩)) = some (pd b, []) from rfl)
  refine ⟨w', hrun, ⟨_, h3, fun x => ?_⟩, h4⟩
  have hm := h1.isMap
  by_cases e : x = q
  · subst e
    rw [Maps.has_put_same hm (sk_is _), Maps.atKey_put_same hm (sk_is _)]
    simp [updG, pdo]
  · have hne : sk x ≠ sk q := fun he => e (sk_inj he)
    rw [Maps.has_put_other hne, Maps.atKey_put_other hne]
    simp only [updG, if_neg e]
    exact h2 x
theorem drop_gm {w : World} {m n : Nat} {G : Blk} {q : ByteArray} (h : GM w m n G) (hq : q.size ≤ maxLen) (ty : TypeId) :
    ∃ w', (Builtin.delete_ #[52, 9] ty #[.map (some m), .string q]).run Try.prog w = .ok (.tuple #[]) w' ∧ GM w' m n (delG G q) ∧ w.grownBy w' (some m) := by
  obtain ⟨D, h1, h2⟩ := h
  obtain ⟨w', hrun, h3, h4⟩ := h1.drop strLaw Try.underlying52 (key_str hq) ty
  refine ⟨w', hrun, ⟨_, h3, fun x => ?_⟩, h4.grown⟩
  by_cases e : x = q
  · subst e
    rw [Maps.has_del_same, Maps.atKey_del_same]
    simp [delG, pdo]
  · have hne : sk x ≠ sk q := fun he => e (sk_inj he)
    rw [Maps.has_del_other hne, Maps.atKey_del_other hne]
    simp only [delG, if_neg e]
    exact h2 x
theorem drop_gm0 {w : World} {q : ByteArray} (hq : q.size ≤ maxLen) (ty : TypeId) :
    (Builtin.delete_ #[52, 9] ty #[.map none, .string q]).run Try.prog w = .ok (.tuple #[]) w := Maps.drop_nil strLaw Try.underlying52 (key_str hq) ty
end Go.Proofs.Ytabnhiehmheocaa
