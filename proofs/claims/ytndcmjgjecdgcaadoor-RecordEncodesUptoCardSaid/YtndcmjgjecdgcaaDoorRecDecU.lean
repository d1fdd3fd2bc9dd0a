/- Both decoders' contracts in one form: the message, zero beside an error, as new memory. -/
import Derived.Test.YtndcmjgjecdgcaaDoorRecDecMath
import Derived.Test.YtndcmjgjecdgcaaDoorDecRef
namespace Go.Proofs.YtndcmjgjecdgcaaDoor
open Go.RowKit
structure Msg where
  k : Int
  c : Int
  i : Int
  ns : List Int
  ts : List ByteArray
  er : Int
def decM : Except Int (Int × Int × Int × List Int × List ByteArray) → Msg
  | .error er => ⟨0, 0, 0, [], [], er⟩
  | .ok (k, c, i, ns, ts) => ⟨k, c, i, ns, ts, 0⟩
/-- a message is answered, in memory from B on -/
def MsgPost (w : World) (m : Msg) (e : Ending) (w' : World) : Prop :=
  ∃ (A : Option Addr) (cn : Nat) (C : Option Addr) (ct : Nat), e = .returned (.tuple #[.agg #[.int .i64 m.k, .int .i64 m.c, .int .i64 m.i, .slice A m.ns.length cn, .slice C m.ts.length ct], .int .i64 m.er]) ∧ Below w.heap.size w w' ∧ MsgAt w' w'.heap.size A C m.ns m.ts ∧
    w'.ownsRow (w.heap.size + 2) 3 1 (.slice A m.ns.length cn) m.ns.length (m.ns.map (Value.int .i64)) ∧ w'.ownsRow (w.heap.size + 2) 9 1 (.slice C m.ts.length ct) m.ts.length (m.ts.map Value.string)
theorem slof_ints {w : World} {B n : Nat} {A : Option Addr} {ns : List Int} (h : SlOf w B A n (fun i => (ns.map (Value.int .i64)).getD i undef)) (hn : n = ns.length) : SlOf w B A ns.length (fun i => .int .i64 (ns.getD i 0)) := fun i hi => by
  obtain ⟨b, o, e, hb, hc⟩ := h i (by omega)
  refine ⟨b, o, e, hb, ?_⟩
  have e2 : (ns.map (Value.int .i64)).getD i undef = .int .i64 (ns.getD i 0) := by simp [List.getD, hi]
  simp only [e2] at hc
  exact hc
theorem slof_texts {w : World} {B n : Nat} {A : Option Addr} {ts : List ByteArray} (h : SlOf w B A n (fun i => (ts.map Value.string).getD i undef)) (hn : n = ts.length) : SlOf w B A ts.length (fun i => .string (ts.getD i ⟨#[]⟩)) := fun i hi => by
  obtain ⟨b, o, e, hb, hc⟩ := h i (by omega)
  refine ⟨b, o, e, hb, ?_⟩
  have e2 : (ts.map Value.string).getD i undef = .string (ts.getD i ⟨#[]⟩) := by simp [List.getD, hi]
  simp only [e2] at hc
  exact hc
theorem own_nil (w : World) (B : Nat) (e : TypeId) : w.ownsRow B e 1 (.slice none 0 0) 0 [] := ⟨rfl, .inl ⟨rfl, rfl⟩⟩
theorem msg_of {w w' : World} {n : Nat} {L : List UInt8} {e : Ending} (hn : n ≤ 16777216) (h : DecPost w (dec n L) e w') : MsgPost w (decM (dec n L)) e w' := by
  cases hR : dec n L with
  | error er =>
    rw [hR] at h
    obtain ⟨he, _, hb⟩ := h
    exact ⟨none, 0, none, 0, he, hb, ⟨fun i hi => absurd hi (by simp [decM]), fun i hi => absurd hi (by simp [decM]), by simp [decM], by simp [decM], by simp [decM], by simp [decM]⟩, own_nil _ _ _, own_nil _ _ _⟩
  | ok r =>
    obtain ⟨k, c, i, ns, ts⟩ := r
    rw [hR] at h
    obtain ⟨x, y, he, hb, hx, hy⟩ := h
    obtain ⟨_, _, _, _, _, h1, h2, h3, h4⟩ := dec_ok hR
    obtain ⟨A, cn, rfl, hA, _⟩ := own_shape hx
    obtain ⟨C, ct, rfl, hC, _⟩ := own_shape hy
    exact ⟨A, cn, C, ct, he, hb, ⟨slof_ints hA rfl, slof_texts hC rfl, h1, by simp only [decM]; omega, by simp only [decM]; omega, fun t ht => by have := h2 t ht; omega⟩, hx, hy⟩
theorem decode_msg (s : ByteArray) (w : World) (hS : Shp w) (hs : s.size ≤ 16777216) : Calls Tryd.prog 15 #[.string s] w (MsgPost w (decM (dec s.size s.data.toList))) :=
  (decode_any s w hS hs).mono fun _ _ h => msg_of hs h
theorem rdecode_msg (s : ByteArray) (w : World) (hs : s.size ≤ 16777216) : Calls Tryd.prog 16 #[.string s] w (MsgPost w (decM (dec s.size s.data.toList))) :=
  (rdecode_any s w hs).mono fun _ _ h => msg_of hs h
theorem dec_ne {n : Nat} {L : List UInt8} {er : Int} (h : dec n L = .error er) : er ≠ 0 := by
  unfold dec at h
  simp only at h
  split at h
  · injection h with h; subst h; assumption
  · split at h
    · injection h with h; subst h; assumption
    · split at h
      · injection h with h; subst h; assumption
      · split at h
        · cases h
        · injection h with h; subst h; decide
theorem own_cases {w : World} {B n cn : Nat} {e : TypeId} {A : Option Addr} {xs : List Value} (h : w.ownsRow B e 1 (.slice A n cn) n xs) : n = 0 ∨ ∃ g, A = some ⟨g, 0, none⟩ ∧ B ≤ g ∧ g < w.heap.size ∧ Fr n w g := by
  obtain ⟨hl, h⟩ := h
  rcases h with ⟨_, h⟩ | ⟨g, cap, cur, h1, hB, hg, hnc, hcm, hcs, ht⟩
  · exact .inl h
  · injection h1 with h1 _ _
    have hgl : g < w.heap.size := by
      rcases Nat.lt_or_ge g w.heap.size with hl | hl
      · exact hl
      · rw [Array.getElem?_eq_none hl] at hg; cases hg
    refine .inr ⟨g, h1, hB, hgl, fun j hj => ⟨⟨cur[j]'(by omega), ?_⟩, ?_⟩⟩
    · simp [World.cell?, hg, show j < cur.size by omega]
    · simp [World.frozen?, hg]
theorem Fr.setAny {n : Nat} {w : World} {g : Nat} (h : Fr n w g) (g' i : Nat) (u : Value) : Fr n (w.setCell ⟨g', i, none⟩ u) g := by
  by_cases e : g' = g
  · subst e; exact h.set i u
  · intro j hj
    obtain ⟨⟨v, hv⟩, hf⟩ := h j hj
    exact ⟨⟨v, set_cell hv e⟩, by rw [World.frozen?_setCell]; exact hf⟩
/-- what stands from lo on is as it was in W; what stood in w is as it was -/
structure Kp (w : World) (lo : Nat) (W wr : World) : Prop where
  bel : Below w.heap.size w wr
  sz : W.heap.size ≤ wr.heap.size
  same : ∀ b, lo ≤ b → b < W.heap.size → wr.heap[b]? = W.heap[b]?
section
variable {w W wr : World} {lo : Nat}
theorem Kp.set (h : Kp w lo W wr) {g : Nat} (h1 : w.heap.size ≤ g) (h2 : g < lo) (j : Nat) (v : Value) : Kp w lo W (wr.setCell ⟨g, j, none⟩ v) :=
  ⟨h.bel.setCell h1 v, by rw [setCell_size]; exact h.sz, fun b hb hW => (Below.heap_setCell _ _ _ _ (by show b ≠ g; omega)).trans (h.same b hb hW)⟩
theorem Kp.below {w' : World} (h : Kp w lo W wr) (hb : Below wr.heap.size wr w') : Kp w lo W w' :=
  ⟨h.bel.trans (hb.mono h.bel.size), Nat.le_trans h.sz hb.size, fun b h1 h2 => (hb.block b (Nat.lt_of_lt_of_le h2 h.sz)).trans (h.same b h1 h2)⟩
theorem Kp.m5 (h : Kp w lo W wr) {q : Nat} {k c i : Int} {A : Option Addr} {n cn : Nat} {C : Option Addr} {t ct : Nat} (hM : M5 W q k c i A n cn C t ct) (hq : lo ≤ q) : M5 wr q k c i A n cn C t ct :=
  have e : wr.heap[q]? = W.heap[q]? := h.same q hq hM.lt
  ⟨Nat.lt_of_lt_of_le hM.lt h.sz, (World.cell?_of_block (a := ⟨q, _, none⟩) e).trans hM.c0, (World.cell?_of_block (a := ⟨q, _, none⟩) e).trans hM.c1, (World.cell?_of_block (a := ⟨q, _, none⟩) e).trans hM.c2, (World.cell?_of_block (a := ⟨q, _, none⟩) e).trans hM.c3, (World.cell?_of_block (a := ⟨q, _, none⟩) e).trans hM.c4⟩
theorem Kp.sl (h : Kp w lo W wr) {A : Option Addr} {n : Nat} {f : Nat → Value} (hs : SlOf W W.heap.size A n f) (hA : ∀ g o, A = some ⟨g, o, none⟩ → lo ≤ g) : SlOf wr wr.heap.size A n f := fun i hi => by
  obtain ⟨b, o, e, hb, hc⟩ := hs i hi
  exact ⟨b, o, e, Nat.lt_of_lt_of_le hb h.sz, (World.cell?_of_block (a := ⟨b, _, none⟩) (h.same b (hA b o e) hb)).trans hc⟩
theorem Kp.msg (h : Kp w lo W wr) {A C : Option Addr} {ns : List Int} {ts : List ByteArray} (hM : MsgAt W W.heap.size A C ns ts) (hA : ∀ g o, A = some ⟨g, o, none⟩ → lo ≤ g) (hC : ∀ g o, C = some ⟨g, o, none⟩ → lo ≤ g) : MsgAt wr wr.heap.size A C ns ts :=
  ⟨h.sl hM.n hA, h.sl hM.t hC, hM.nb, hM.nl, hM.tl, hM.tb⟩
end
theorem own_lo {w : World} {B n cn : Nat} {e : TypeId} {A : Option Addr} {xs : List Value} (h : w.ownsRow B e 1 (.slice A n cn) n xs) : ∀ g o, A = some ⟨g, o, none⟩ → B ≤ g := by
  obtain ⟨A', cn', hx, _, hB⟩ := own_shape h
  injection hx with h1 _ _
  subst h1
  exact hB
theorem same_self (k c i : Int) (ns : List Int) (ts : List ByteArray) : sameB k c i ns ts k c i ns ts = true := by unfold sameB; simp
end Go.Proofs.YtndcmjgjecdgcaaDoor
