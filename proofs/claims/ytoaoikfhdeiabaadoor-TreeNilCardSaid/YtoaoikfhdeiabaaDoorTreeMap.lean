/- Package tree: the map of a directory, from names to nodes: a node is a directory or a file, in a block of its own. -/
import Derived.Test.YtoaoikfhdeiabaaDoorTch
import Derived.Test.YtoaoikfhdeiabaaDoorPlainKit
import Derived.Maps.Own
import Derived.Maps.OwnSet
import Derived.Maps.Views
import Derived.Lib.Hide
namespace Go.Proofs.YtoaoikfhdeiabaaDoor
open Go.RowKit Go.Maps

theorem strLaw : Keyed Tryd.prog 9 := string_keyed Tryd.underlying9
theorem zeroNd (w : World) : (zeroValue 50).run Tryd.prog w = .ok .nilIface w := by kernel_rfl
def sk (s : ByteArray) : Lit := .string s.data.toList
theorem sk_inj {s t : ByteArray} (h : sk s = sk t) : s = t := by
  unfold sk at h
  injection h with h
  exact ByteArray.ext (Array.toList_inj.1 h)
theorem sk_is (s : ByteArray) : WideAt.IsKeyLit (sk s) := by unfold sk WideAt.IsKeyLit; trivial
theorem key_str {s : ByteArray} (h : s.size ≤ maxLen) : keyOf Tryd.prog 9 (.string s) = some (sk s) := Go.WideMaps.keyOf_string_mk Tryd.underlying9 h
/-- a node: is it a directory; its block -/
abbrev Nd := Bool × Nat
def nvo : Option Nd → Value
  | none => .nilIface
  | some (true, b) => .iface 56 (.pointer (some ⟨b, 0, none⟩))
  | some (false, b) => .iface 72 (.pointer (some ⟨b, 0, none⟩))
def ndo : Option Nd → DataW Unit
  | none => .agg []
  | some (true, b) => .lit (.int .i64 (b : Int))
  | some (false, b) => .agg [.lit (.int .i64 (b : Int))]
/-- a node as a datum -/
def ndr : Value → Option (DataW Unit × List MemPlace)
  | .nilIface => some (.agg [], [])
  | .iface t (.pointer (some ⟨b, 0, none⟩)) => if t = 56 then some (.lit (.int .i64 (b : Int)), []) else if t = 72 then some (.agg [.lit (.int .i64 (b : Int))], []) else none
  | _ => none
theorem ndr_nvo (o : Option Nd) : ndr (nvo o) = some (ndo o, []) := by
  match o with
  | none => rfl
  | some (true, b) => rfl
  | some (false, b) => rfl
theorem ndr_inv {v : Value} {o : Option Nd} {ps : List MemPlace} (h : ndr v = some (ndo o, ps)) : v = nvo o := by
  unfold ndr at h
  split at h
  · match o, h with
    | none, _ => rfl
    | some (true, b), h => simp [ndo] at h
    | some (false, b), h => simp [ndo] at h
  · rename_i t b
    by_cases h1 : t = 56
    · rw [if_pos h1] at h
      match o, h with
      | none, h => simp [ndo] at h
      | some (true, c), h =>
        simp only [ndo, Option.some.injEq, Prod.mk.injEq, DataW.lit.injEq, Lit.int.injEq, true_and] at h
        have := Int.ofNat.inj h.1
        subst this h1
        rfl
      | some (false, c), h => simp [ndo] at h
    · rw [if_neg h1] at h
      by_cases h2 : t = 72
      · rw [if_pos h2] at h
        match o, h with
        | none, h => simp [ndo] at h
        | some (true, c), h => simp [ndo] at h
        | some (false, c), h =>
          simp only [ndo, Option.some.injEq, Prod.mk.injEq, DataW.agg.injEq, List.cons.injEq, DataW.lit.injEq, Lit.int.injEq, true_and, and_true] at h
          have := Int.ofNat.inj h.1
          subst this h2
          rfl
      · rw [if_neg h2] at h
        cases h
  · cases h
/-- which node each name leads to -/
abbrev Blk := ByteArray → Option Nd
def updG (G : Blk) (q : ByteArray) (b : Nd) : Blk := fun x => if x = q then some b else G x
def delG (G : Blk) (q : ByteArray) : Blk := fun x => if x = q then none else G x
def GM (w : World) (m n : Nat) (G : Blk) : Prop := ∃ D, w.ownsMap Tryd.prog 9 ndr m n D ∧ ∀ q, Maps.has D (sk q) = (G q).isSome ∧ D.atKey (sk q) (ndo none) = ndo (G q)
theorem GM.same {w w' : World} {m n : Nat} {G : Blk} (h : GM w m n G) (e : w'.heap[m]? = w.heap[m]?) : GM w' m n G := by
  obtain ⟨D, ⟨es, clock, h1, h2⟩, h3⟩ := h
  exact ⟨D, ⟨es, clock, e.trans h1, h2⟩, h3⟩
theorem GM.map {w : World} {m n : Nat} {G : Blk} (h : GM w m n G) : ∃ es clock, w.heap[m]? = some (.map es clock) := by
  obtain ⟨D, ⟨es, clock, h1, _⟩, _⟩ := h
  exact ⟨es, clock, h1⟩
theorem GM.lt {w : World} {m n : Nat} {G : Blk} (h : GM w m n G) : m < w.heap.size := by
  obtain ⟨es, clock, h1⟩ := h.map
  exact (Array.getElem?_eq_some_iff.1 h1).1
theorem GM.mono {w : World} {m n n' : Nat} {G : Blk} (h : GM w m n G) (hn : n ≤ n') : GM w m n' G := by
  obtain ⟨D, h1, h2⟩ := h
  exact ⟨D, h1.mono hn, h2⟩
theorem gm_made (w : World) : GM (w.alloc (.map #[] 0)) w.heap.size 0 (fun _ => none) := ⟨_, World.ownsMap_made _ _ _ _, fun _ => ⟨rfl, rfl⟩⟩
theorem look_gm {w : World} {m n : Nat} {G : Blk} {q : ByteArray} (h : GM w m n G) (hq : q.size ≤ maxLen) :
    (Instr.lookup 63 (.map (some m)) (.string q) false).run Tryd.prog w = .ok (nvo (G q)) w := by
  obtain ⟨D, h1, h2⟩ := h
  obtain ⟨v, ps, hrun, hv⟩ := h1.lookup strLaw Tryd.underlying63 (zeroNd _) (zd := ndo none) (zp := []) rfl (key_str hq)
  rw [(h2 q).2] at hv
  rw [ndr_inv hv] at hrun
  exact hrun
theorem look_gm0 {w : World} {q : ByteArray} (hq : q.size ≤ maxLen) :
    (Instr.lookup 63 (.map none) (.string q) false).run Tryd.prog w = .ok .nilIface w := by
  have := Maps.look_nil (w := w) false strLaw Tryd.underlying63 (zeroNd _) (key_str hq)
  simpa using this
theorem put_gm {w : World} {m n : Nat} {b : Nd} {G : Blk} {q : ByteArray} (h : GM w m n G) (hn : n < maxLen) (hq : q.size ≤ maxLen) :
    ∃ w', (Instr.mapUpdate 63 (.map (some m)) (.string q) (nvo (some b))).run Tryd.prog w = .ok () w' ∧ GM w' m (n + 1) (updG G q b) ∧ w.grownBy w' (some m) := by
  obtain ⟨D, h1, h2⟩ := h
  obtain ⟨w', hrun, h3, h4⟩ := h1.update strLaw Tryd.underlying63 hn (key_str hq) (ndr_nvo (some b))
  refine ⟨w', hrun, ⟨_, h3, fun x => ?_⟩, h4⟩
  have hm := h1.isMap
  by_cases e : x = q
  · subst e
    rw [Maps.has_put_same hm (sk_is _), Maps.atKey_put_same hm (sk_is _)]
    simp [updG]
  · have hne : sk x ≠ sk q := fun he => e (sk_inj he)
    rw [Maps.has_put_other hne, Maps.atKey_put_other hne]
    simp only [updG, if_neg e]
    exact h2 x
theorem drop_gm {w : World} {m n : Nat} {G : Blk} {q : ByteArray} (h : GM w m n G) (hq : q.size ≤ maxLen) (ty : TypeId) :
    ∃ w', (Builtin.delete_ #[63, 9] ty #[.map (some m), .string q]).run Tryd.prog w = .ok (.tuple #[]) w' ∧ GM w' m n (delG G q) ∧ w.grownBy w' (some m) := by
  obtain ⟨D, h1, h2⟩ := h
  obtain ⟨w', hrun, h3, h4⟩ := h1.drop strLaw Tryd.underlying63 (key_str hq) ty
  refine ⟨w', hrun, ⟨_, h3, fun x => ?_⟩, h4.grown⟩
  by_cases e : x = q
  · subst e
    rw [Maps.has_del_same, Maps.atKey_del_same]
    simp [delG]
  · have hne : sk x ≠ sk q := fun he => e (sk_inj he)
    rw [Maps.has_del_other hne, Maps.atKey_del_other hne]
    simp only [delG, if_neg e]
    exact h2 x
/-- the map of a directory as its third cell holds it: none as yet, or one in a block of its own -/
def DM (w : World) (mv : Value) (n : Nat) (G : Blk) : Prop := (mv = .map none ∧ n = 0 ∧ G = fun _ => none) ∨ ∃ m, mv = .map (some m) ∧ GM w m n G
theorem look_dm {w : World} {mv : Value} {n : Nat} {G : Blk} {q : ByteArray} (h : DM w mv n G) (hq : q.size ≤ maxLen) :
    (Instr.lookup 63 mv (.string q) false).run Tryd.prog w = .ok (nvo (G q)) w := by
  rcases h with ⟨rfl, _, rfl⟩ | ⟨m, rfl, h⟩
  · exact look_gm0 hq
  · exact look_gm h hq
end Go.Proofs.YtoaoikfhdeiabaaDoor
