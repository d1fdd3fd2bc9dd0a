/- Layer 13's laws: the program's table, the reference's and another one beside each other. -/
import Derived.Test.YtabnhiehmheocaaLeaActs
namespace Go.Proofs.Ytabnhiehmheocaa
open Go.RowKit Go.Maps

/-- what the law finds by its own search -/
def fnd (q : ByteArray) (a : Int × Bool) (L : List Ls) : Int × Bool := L.foldl (fun a x => if x.p = q then (x.c, true) else a) a
theorem fnd_none (q : ByteArray) : ∀ (L : List Ls) (a : Int × Bool), (∀ x ∈ L, ¬ x.p = q) → fnd q a L = a
  | [], _, _ => rfl
  | x :: L, a, h => by
    unfold fnd
    rw [List.foldl_cons, if_neg (h x (by simp))]
    exact fnd_none q L a (fun y hy => h y (by simp [hy]))
theorem fnd_is (q : ByteArray) : ∀ (L : List Ls) (a : Int × Bool), Srt L → fnd q a L = match holdL L q with | some x => (x.c, true) | none => a
  | [], _, _ => rfl
  | x :: L, a, hs => by
    obtain ⟨h1, h2⟩ := List.pairwise_cons.1 hs
    by_cases e : x.p = q
    · have hh : holdL (x :: L) q = some x := by simp [holdL, e]
      rw [hh]
      unfold fnd
      rw [List.foldl_cons, if_pos e]
      exact fnd_none q L _ fun y hy e2 => by
        have := h1 y hy
        rw [e, e2, blt_irrefl] at this
        cases this
    · have hh : holdL (x :: L) q = holdL L q := by simp [holdL, e]
      rw [hh]
      unfold fnd
      rw [List.foldl_cons, if_neg e]
      exact fnd_is q L a h2
theorem fnd_hold {L : List Ls} (q : ByteArray) (hs : Srt L) : fnd q (0, false) L = (((holdL L q).map (·.c)).getD 0, (holdL L q).isSome) := by
  rw [fnd_is q L _ hs]
  cases holdL L q <;> rfl
theorem fnd_take {L : List Ls} {q : ByteArray} {a : Int × Bool} {k : Nat} {x : Ls} (h : L[k]? = some x) : fnd q a (L.take (k + 1)) = if x.p = q then (x.c, true) else fnd q a (L.take k) := by
  unfold fnd
  rw [List.take_add_one, h, List.foldl_append]
  rfl
/-- a table in which nothing is held, of the law's own at o -/
structure OthSt (w0 w : World) (o : Nat) (len : Int) : Prop where
  lo : w0.heap.size ≤ o
  ty : Bears w o 54
  c0 : w.cell? ⟨o, 0, none⟩ = some (.int .i64 (lenT len))
  c1 : w.cell? ⟨o, 1, none⟩ = some (.map none)
theorem OthSt.same {w0 w w' : World} {o : Nat} {len : Int} (h : OthSt w0 w o len) (e : w'.heap[o]? = w.heap[o]?) : OthSt w0 w' o len :=
  ⟨h.lo, by obtain ⟨cs, k⟩ := h.ty; exact ⟨cs, e.trans k⟩, (cell_eq e 0).trans h.c0, (cell_eq e 1).trans h.c1⟩
theorem OthSt.tab {w0 w : World} {o : Nat} {len : Int} (h : OthSt w0 w o len) (hb : Below w0.heap.size w0 w) : TabSt w0 w o len 0 [] :=
  ⟨hb, h.lo, h.ty, h.c0, .inl ⟨h.c1, rfl⟩, List.Pairwise.nil, by simp⟩
theorem newtab_eq (a : Int) (w : World) : Calls Try.prog 8 #[.int .i64 a] w fun e w' =>
    e = .returned (.pointer (some ⟨w.heap.size, 0, none⟩)) ∧ w' = w.alloc (.cells #[.int .i64 (lenT a), .map none] 54) := by
  rcases Int.lt_or_le a 1 with h | h
  · rw [show lenT a = 1 by unfold lenT; omega]
    go_enter Try.func8, Try.ntmps8
    go_wp2
    go_ret
    exact ⟨rfl, by rw [show min (max a 1) 1099511627776 = 1 by omega]⟩
  · rcases Int.lt_or_le 1099511627776 a with h2 | h2
    · rw [show lenT a = 1099511627776 by unfold lenT; omega]
      go_enter Try.func8, Try.ntmps8
      go_wp2
      go_ret
      exact ⟨rfl, by rw [show min (max a 1) 1099511627776 = 1099511627776 by omega]⟩
    · rw [show lenT a = a by unfold lenT; omega]
      go_enter Try.func8, Try.ntmps8
      go_wp2
      go_ret
      exact ⟨rfl, by rw [show min (max a 1) 1099511627776 = a by omega]⟩
theorem oth_new {w0 w : World} (a : Int) (h : w0.heap.size ≤ w.heap.size) : OthSt w0 (w.alloc (.cells #[.int .i64 (lenT a), .map none] 54)) w.heap.size a :=
  ⟨h, ⟨_, heap_alloc_new w _⟩, by simp, by simp⟩
theorem bears_ap {w : World} {b c : Nat} {e e' : TypeId} (h : Bears w b e) (h' : Bears w c e') (he : e ≠ e') : ¬ b = c := by
  rintro rfl
  obtain ⟨_, h⟩ := h
  obtain ⟨_, h'⟩ := h'
  rw [h] at h'
  injection h' with h'
  injection h' with _ h'
  exact he h'
structure LX (w0 w : World) (p q o : Nat) (len : Int) (n : Nat) (L M : List Ls) : Prop where
  t : TabSt w0 w p len n L
  r : ∃ v, RefSt w0 w q len v M
  h : OthSt w0 w o len
  po : ¬ o = p
theorem LX.below {w0 w w' : World} {p q o n : Nat} {len : Int} {L M : List Ls} (h : LX w0 w p q o len n L M) (hb : Below w.heap.size w w') : LX w0 w' p q o len n L M :=
  ⟨h.t.below hb, by obtain ⟨v, k⟩ := h.r; exact ⟨v, k.below hb⟩, h.h.same (hb.block o h.h.ty.lt), h.po⟩
theorem RefSt.frame {w0 w w' : World} {q : Nat} {len : Int} {v : Value} {L : List Ls} (h : RefSt w0 w q len v L) (hb : Below w0.heap.size w0 w') (hf : ∀ b e, Bears w b e → e ≠ 58 → e ≠ 54 → w'.heap[b]? = w.heap[b]?) : RefSt w0 w' q len v L := by
  have e := hf q _ h.ty (by decide) (by decide)
  refine ⟨hb, h.lo, by obtain ⟨cs, k⟩ := h.ty; exact ⟨cs, e.trans k⟩, (cell_eq e 0).trans h.c0, (cell_eq e 1).trans h.c1, ?_⟩
  obtain ⟨h1, h2⟩ := h.row
  refine ⟨h1, h2.imp id fun ⟨g, cap, cur, q1, q2, q3, q4⟩ => ⟨g, cap, cur, q1, q2, (hf g _ ⟨cur, q3⟩ (by decide) (by decide)).trans q3, q4⟩⟩
/-- behind a call of the program's table -/
theorem LX.tab {w0 w w' : World} {p q o n n' : Nat} {len : Int} {L L' M : List Ls} (h : LX w0 w p q o len n L M) (k : TabSt w0 w' p len n' L') (f : TF p w w') : LX w0 w' p q o len n' L' M :=
  ⟨k, by
    obtain ⟨v, r⟩ := h.r
    exact ⟨v, r.frame k.bel (fun b e hb h1 h2 => f b e hb (fun e2 => by
      subst e2
      obtain ⟨c1, k1⟩ := hb
      obtain ⟨c2, k2⟩ := h.t.ty
      rw [k1] at k2
      injection k2 with k2
      injection k2 with _ k2
      exact h2 k2) h1)⟩, h.h.same (f o _ h.h.ty h.po (by decide)), h.po⟩
/-- behind a call of the reference's -/
theorem LX.ref {w0 w w' : World} {p q o n : Nat} {len : Int} {L M M' : List Ls} (h : LX w0 w p q o len n L M) (k : RPost w0 w q len M' w') : LX w0 w' p q o len n L M' := by
  obtain ⟨v', k⟩ := k
  obtain ⟨v, r⟩ := h.r
  have hf : ∀ b e, Bears w b e → e ≠ 41 → ¬ b = q → w'.heap[b]? = w.heap[b]? := fun b e hb he hn => k.out.2.block b hb.lt hn (fun hb2 => bears_ap hb hb2 he rfl)
  have hp := hf p _ h.t.ty (by decide) (bears_ap h.t.ty r.ty (by decide))
  refine ⟨⟨k.out.1.bel, h.t.lo, by obtain ⟨cs, z⟩ := h.t.ty; exact ⟨cs, hp.trans z⟩, (cell_eq hp 0).trans h.t.c0, ?_, h.t.srt, h.t.sz⟩, ⟨v', k.out.1⟩, h.h.same (hf o _ h.h.ty (by decide) (bears_ap h.h.ty r.ty (by decide))), h.po⟩
  rcases h.t.v with ⟨h1, h2⟩ | ⟨m, G, h1, h2, h3⟩
  · exact .inl ⟨(cell_eq hp 1).trans h1, h2⟩
  · refine .inr ⟨m, G, h1, (cell_eq hp 1).trans h2, ⟨h3.gm.same (k.out.2.block m h3.gm.lt (fun e => h3.gm.apart r.ty e.symm) (fun hb => h3.gm.apart hb rfl)), fun x hx => ?_, h3.only, h3.one⟩⟩
    obtain ⟨b, q1, q2⟩ := h3.at' x hx
    exact ⟨b, q1, q2.same (hf b _ q2.ty (by decide) (bears_ap q2.ty r.ty (by decide)))⟩
theorem LX.drew {w0 w : World} {p q o n : Nat} {len : Int} {L M : List Ls} (h : LX w0 w p q o len n L M) : LX w0 w.drew p q o len n L M := h.below (Below.refl _ w).drew
/-- .. and the box of an act -/
structure LB (w0 w : World) (p q o g : Nat) (len : Int) (n : Nat) (L M : List Ls) (z : Ac) : Prop where
  x : LX w0 w p q o len n L M
  b : AcB w g z
theorem LB.below {w0 w w' : World} {p q o g n : Nat} {len : Int} {L M : List Ls} {x : Ac} (h : LB w0 w p q o g len n L M x) (hb : Below w.heap.size w w') : LB w0 w' p q o g len n L M x :=
  ⟨h.x.below hb, h.b.same (hb.block g h.b.ty.lt)⟩
theorem LB.tab {w0 w w' : World} {p q o g n n' : Nat} {len : Int} {L L' M : List Ls} {x : Ac} (h : LB w0 w p q o g len n L M x) (k : Hid (TabSt w0 w' p len n' L' ∧ TF p w w')) : LB w0 w' p q o g len n' L' M x :=
  ⟨h.x.tab k.out.1 k.out.2, h.b.same (k.out.2 g _ h.b.ty (bears_ap h.b.ty h.x.t.ty (by decide)) (by decide))⟩
theorem LB.ref {w0 w w' : World} {p q o g n : Nat} {len : Int} {L M M' : List Ls} {x : Ac} (h : LB w0 w p q o g len n L M x) (k : RPost w0 w q len M' w') : LB w0 w' p q o g len n L M' x :=
  ⟨h.x.ref k, by
    obtain ⟨v', k⟩ := k
    obtain ⟨v, r⟩ := h.x.r
    exact h.b.same (k.out.2.block g h.b.ty.lt (bears_ap h.b.ty r.ty (by decide)) (fun hb => bears_ap h.b.ty hb (by decide) rfl))⟩
theorem row_slice {w : World} {B k : Nat} {v : Value} {ys : List ByteArray} (h : w.ownsRow B 9 1 v k (ys.map Value.string)) : ∃ a c, v = .slice a k c ∧ ∀ j s, ys[j]? = some s → ∃ g, a = some ⟨g, 0, none⟩ ∧ w.cell? ⟨g, j, none⟩ = some (.string s) ∧ ∀ i, w.frozen? ⟨g, i, none⟩ = false := by
  have hl := h.1
  simp only [List.length_map, Nat.mul_one] at hl
  rcases h.2 with ⟨h1, h0⟩ | ⟨g, cap, cur, h1, _⟩
  · exact ⟨none, 0, by rw [h1, h0], fun j s hj => by have := (List.getElem?_eq_some_iff.1 hj).1; omega⟩
  · subst h1
    refine ⟨_, _, rfl, fun j s hj => ⟨g, rfl, ?_, fun i => h.frozenAt i⟩⟩
    have hjl := (List.getElem?_eq_some_iff.1 hj).1
    rw [h.cellAt j (by omega)]
    simp [hj]
set_option maxRecDepth 100000 in
set_option maxHeartbeats 4000000 in
/-- two equal lists of texts -/
theorem texts_same (B B' k : Nat) (v v' : Value) (ys : List ByteArray) (w : World) (hk : k = ys.length) (hkl : k ≤ 4398046510000) (h : w.ownsRow B 9 1 v k (ys.map Value.string)) (h' : w.ownsRow B' 9 1 v' k (ys.map Value.string)) :
    Calls Try.prog 17 #[v, v'] w fun e w' => e = .returned (.bool true) ∧ Below w.heap.size w w' := by
  have hki : (k : Int) ≤ 9223372036854775807 := by omega
  obtain ⟨a, c, rfl, hc⟩ := row_slice h
  obtain ⟨a', c', rfl, hc'⟩ := row_slice h'
  have HC := Lib.hid (And.intro hc hc')
  clear h h' hkl hc hc'
  go_enter Try.func17, Try.ntmps17
  go_wp2
  go_loopw [5] (fun i wr => ∃ j, j ≤ k ∧ i = .int .i64 j ∧ Hid (Below w.heap.size w wr ∧ ∀ b i, wr.cell? ⟨b, i, none⟩ = w.cell? ⟨b, i, none⟩)) (fun i _ => k - (intOf i).toNat)
  case atStart => exact ⟨0, Nat.zero_le _, rfl, Lib.hid ⟨Below.refl _ _, fun _ _ => rfl⟩⟩
  case round =>
    obtain ⟨j, hj, rfl, HB⟩ := hrel
    by_cases hjk : j < k
    · have hjk' : (j : Int) < k := by omega
      obtain ⟨s, hs⟩ : ∃ s, ys[j]? = some s := ⟨_, List.getElem?_eq_getElem (by omega)⟩
      obtain ⟨g, rfl, d, _⟩ := HC.out.1 j s hs
      obtain ⟨g', rfl, d', _⟩ := HC.out.2 j s hs
      rw [← HB.out.2] at d d'
      clear hs
      go_wp2_with (fail)
      go_quiet (fail)
      go_wp2
      go_roundw
      case rel => exact ⟨j + 1, by omega, by simp, Lib.hid ⟨⟨HB.out.1.os, HB.out.1.tape, HB.out.1.output, HB.out.1.size, HB.out.1.block⟩, HB.out.2⟩⟩
      case measure => simp [intOf]; omega
    · obtain rfl : j = k := by omega
      go_wp2
      go_ret
      exact ⟨rfl, HB.out.1⟩
end Go.Proofs.Ytabnhiehmheocaa
