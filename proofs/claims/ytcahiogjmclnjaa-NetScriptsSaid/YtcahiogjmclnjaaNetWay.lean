/- Package net, for its laws: a net with its cut ways. -/
import Derived.Test.YtcahiogjmclnjaaNetLaw
import Derived.Test.YtcahiogjmclnjaaNetPartG
namespace Go.Proofs.Ytcahiogjmclnjaa
open Go.RowKit Go.Maps

/-- the ways that are cut: no more than n entries; S tells which -/
def Cuts (w0 w : World) (cut : Value) (n : Nat) (S : Int → Int → Bool) : Prop :=
  (cut = .map none ∧ ∀ a b, S a b = false) ∨ ∃ (m : Nat) (D : DataW Unit), cut = .map (some m) ∧ w0.heap.size ≤ m ∧ Owns w m n D ∧ ∀ a b, node4 a → node4 b → Maps.has D (kk a b) = S a b
theorem Cuts.same {w0 w w' : World} {cut : Value} {n : Nat} {S : Int → Int → Bool} (h : Cuts w0 w cut n S) (hb : ∀ m, cut = .map (some m) → w'.heap[m]? = w.heap[m]?) : Cuts w0 w' cut n S := by
  refine h.imp id ?_
  rintro ⟨m, D, h1, h2, ⟨es, clock, h3, h4⟩, h5⟩
  exact ⟨m, D, h1, h2, ⟨es, clock, (hb m h1).trans h3, h4⟩, h5⟩
theorem Cuts.lt {w0 w : World} {cut : Value} {n m : Nat} {S : Int → Int → Bool} (h : Cuts w0 w cut n S) (hm : cut = .map (some m)) : m < w.heap.size ∧ w0.heap.size ≤ m ∧ ∀ e, ¬ Bears w m e := by
  rcases h with ⟨h, _⟩ | ⟨m', D, h1, h2, ⟨es, clock, h3, _⟩, _⟩
  · rw [h] at hm; cases hm
  · rw [hm] at h1
    injection h1 with h1
    injection h1 with h1
    subst h1
    refine ⟨(Array.getElem?_eq_some_iff.1 h3).1, h2, fun e ⟨cs, h⟩ => ?_⟩
    rw [h] at h3
    cases h3
/-- a net of the law's own, with its ways -/
def NWt (w0 w : World) (p : Nat) (N sent : Int) (n : Nat) (S : Int → Int → Bool) (L : List Letr) : Prop := ∃ cut, NSt w0 w p N sent cut L ∧ Cuts w0 w cut n S
/-- blocks of other types stay -/
theorem NWt.below {w0 w w' : World} {p n : Nat} {N sent : Int} {S : Int → Int → Bool} {L : List Letr} (h : NWt w0 w p N sent n S L) (hb : Below w.heap.size w w') : NWt w0 w' p N sent n S L := by
  obtain ⟨cut, h1, h2⟩ := h
  exact ⟨cut, h1.below hb, h2.same (fun m hm => hb.block m (h2.lt hm).1)⟩
theorem NWt.bel {w0 w : World} {p n : Nat} {N sent : Int} {S : Int → Int → Bool} {L : List Letr} (h : NWt w0 w p N sent n S L) : Below w0.heap.size w0 w := by
  obtain ⟨cut, h1, _⟩ := h
  exact h1.1
theorem nwt_of {w0 w w' : World} {p n : Nat} {N sent sent' : Int} {cut v v' : Value} {S : Int → Int → Bool} {L L' : List Letr} (h1 : Below w0.heap.size w0 w) (h2 : w0.heap.size ≤ p) (h3 : NetL w w0.heap.size p N sent cut v L) (hc : Cuts w0 w cut n S)
    (h : NetL w' w0.heap.size p N sent' cut v' L') (t : Tch w w' (own2 p v)) : NWt w0 w' p N sent' n S L' ∧ Frm w w' := by
  obtain ⟨a1, a2⟩ := nst_of h1 h2 h3 h t
  exact ⟨⟨cut, a1, hc.same (fun m hm => t.block m (hc.lt hm).1 (fun hi => hi.elim (fun e => (hc.lt hm).2.2 _ (e ▸ h3.ty)) (fun e => (hc.lt hm).2.2 _ (h3.fly.ty m e.symm))))⟩, a2⟩
section
variable {w0 : World} {p n : Nat} {N sent : Int} {S : Int → Int → Bool} {L : List Letr}
theorem nwt_new (x N : Int) (hN : N = min (max x 0) 64) (w : World) (hb : Below w0.heap.size w0 w) :
    Calls Try.prog 5 #[.int .i64 x] w fun e w' => e = .returned (.pointer (some ⟨w.heap.size, 0, none⟩)) ∧ NWt w0 w' w.heap.size N 0 0 (fun _ _ => false) [] ∧ Frm w w' := by
  refine (nst_new x N hN w hb).mono ?_
  rintro e w' ⟨he, h1, h2⟩
  exact ⟨he, ⟨_, h1, .inl ⟨rfl, fun _ _ => rfl⟩⟩, h2⟩
theorem nwt_send (a b : Int) (s : ByteArray) (w : World) (hs : s.size ≤ 1048576) (hL : L.length < 65536) (hsn : 0 ≤ sent ∧ sent ≤ 9223372036854775806) (ha : nodeB N a = true) (hb : nodeB N b = true) (h : Hid (NWt w0 w p N sent n S L)) :
    Calls Try.prog 7 #[.pointer (some ⟨p, 0, none⟩), .int .i64 a, .int .i64 b, .string s] w fun e w' => e = .returned (.tuple #[.int .i64 (sent + 1), .int .i64 0]) ∧ Hid (NWt w0 w' p N (sent + 1) n S (L ++ [⟨sent + 1, a, b, s⟩]) ∧ Frm w w') := by
  obtain ⟨cut, ⟨h1, h2, v, h3⟩, hc⟩ := h.out
  refine (send_L w0.heap.size p N sent a b cut v s L w hs hL hsn ha hb h1.size h3).mono ?_
  rintro e w' ⟨he, v', h4, _, t⟩
  exact ⟨he, Lib.hid (nwt_of h1 h2 h3 hc h4 t)⟩
/-- what is refused, and what else changes nothing -/
theorem nwt_send_no (a b : Int) (s : ByteArray) (w : World) (h : Hid (NWt w0 w p N sent n S L)) (hno : (nodeB N a && nodeB N b) = false ∨ ¬ s.size ≤ 1048576 ∨ 65536 ≤ L.length) :
    Calls Try.prog 7 #[.pointer (some ⟨p, 0, none⟩), .int .i64 a, .int .i64 b, .string s] w fun e w' =>
      e = .returned (.tuple #[.int .i64 0, .int .i64 (if (nodeB N a && nodeB N b) = false then 2 else if ¬ s.size ≤ 1048576 then 1 else 40)]) ∧ Hid (NWt w0 w' p N sent n S L ∧ Frm w w') := by
  obtain ⟨cut, ⟨h1, h2, v, h3⟩, hc⟩ := h.out
  have fin : ∀ w', Below w.heap.size w w' → Hid (NWt w0 w' p N sent n S L ∧ Frm w w') := fun w' hb => Lib.hid ⟨h.out.below hb, frm_below hb⟩
  by_cases q1 : (nodeB N a && nodeB N b) = false
  · rw [if_pos q1]
    exact (send_arg w0.heap.size p N sent cut v L w a b s h3 q1).mono fun e w' ⟨he, hb⟩ => ⟨he, fin w' hb⟩
  · rw [if_neg q1]
    have q1' : (nodeB N a && nodeB N b) = true := by simpa using q1
    by_cases q2 : ¬ s.size ≤ 1048576
    · rw [if_pos q2]
      exact (send_long w0.heap.size p N sent cut v L w a b s h3 q1' q2).mono fun e w' ⟨he, hb⟩ => ⟨he, fin w' hb⟩
    · rw [if_neg q2]
      have q2' : s.size ≤ 1048576 := Decidable.not_not.1 q2
      exact (send_full w0.heap.size p N sent cut v L w a b s h3 q1' q2' (by rcases hno with h | h | h; exact absurd h q1; exact absurd h q2; exact h)).mono fun e w' ⟨he, hb⟩ => ⟨he, fin w' hb⟩
theorem nwt_parted (a b : Int) (w : World) (h : Hid (NWt w0 w p N sent n S L)) (ha : node4 a) (hb : node4 b) :
    Calls Try.prog 19 #[.pointer (some ⟨p, 0, none⟩), .int .i64 a, .int .i64 b] w fun e w' => e = .returned (.bool (S a b)) ∧ Below w.heap.size w w' := by
  obtain ⟨cut, ⟨h1, h2, v, h3⟩, hc⟩ := h.out
  rcases hc with ⟨rfl, hS⟩ | ⟨m, D, rfl, hm, ho, hS⟩
  · rw [hS]
    exact parted_none p N sent a b v w h3.at'
  · rw [← hS a b ha hb]
    exact parted_own p m n a b D w h3.at'.c3 ho ha hb
theorem nwt_deliver (k : Nat) (l : Letr) (w : World) (hs : l.s.size ≤ 1048576) (hk : L[k]? = some l) (hL : L.length ≤ 65536) (ha : node4 l.a) (hb : node4 l.b) (h : Hid (NWt w0 w p N sent n S L)) :
    Calls Try.prog 9 #[.pointer (some ⟨p, 0, none⟩), .int .i64 k] w fun e w' =>
      e = .returned (.tuple #[if S l.a l.b then noLet else letV l, .int .i64 (if S l.a l.b then 140 else 0)]) ∧ Hid (NWt w0 w' p N sent n S (if S l.a l.b then L else L.eraseIdx k) ∧ Frm w w') := by
  have hh := h
  obtain ⟨cut, ⟨h1, h2, v, h3⟩, hc⟩ := h.out
  refine (deliver_L w0.heap.size p k N sent cut v L l (S l.a l.b) w hs hk hL h3 (fun w2 hb2 => nwt_parted l.a l.b w2 (Lib.hid (hh.out.below hb2)) ha hb)).mono ?_
  rintro e w' ⟨he, v', h4, _, t⟩
  exact ⟨he, Lib.hid (nwt_of h1 h2 h3 hc h4 t)⟩
theorem nwt_deliver_arg (k : Int) (w : World) (hk : ¬ (0 ≤ k ∧ k < (L.length : Int))) (h : Hid (NWt w0 w p N sent n S L)) :
    Calls Try.prog 9 #[.pointer (some ⟨p, 0, none⟩), .int .i64 k] w fun e w' => e = .returned (.tuple #[noLet, .int .i64 2]) ∧ Hid (NWt w0 w' p N sent n S L ∧ Frm w w') := by
  obtain ⟨cut, ⟨h1, h2, v, h3⟩, hc⟩ := h.out
  refine (deliver_arg w0.heap.size p N sent cut v L k w hk h3).mono ?_
  rintro e w' ⟨he, hb⟩
  exact ⟨he, Lib.hid ⟨h.out.below hb, frm_below hb⟩⟩
theorem nwt_drop (k : Nat) (w : World) (hk : k < L.length) (h : Hid (NWt w0 w p N sent n S L)) :
    Calls Try.prog 11 #[.pointer (some ⟨p, 0, none⟩), .int .i64 k] w fun e w' => e = .returned (.int .i64 0) ∧ Hid (NWt w0 w' p N sent n S (L.eraseIdx k) ∧ Frm w w') := by
  obtain ⟨cut, ⟨h1, h2, v, h3⟩, hc⟩ := h.out
  refine (drop_L w0.heap.size p k N sent cut v L w hk h3).mono ?_
  rintro e w' ⟨he, v', h4, _, t⟩
  exact ⟨he, Lib.hid (nwt_of h1 h2 h3 hc h4 t)⟩
theorem nwt_drop_arg (k : Int) (w : World) (hk : ¬ (0 ≤ k ∧ k < (L.length : Int))) (h : Hid (NWt w0 w p N sent n S L)) :
    Calls Try.prog 11 #[.pointer (some ⟨p, 0, none⟩), .int .i64 k] w fun e w' => e = .returned (.int .i64 2) ∧ w = w' := by
  obtain ⟨cut, ⟨h1, h2, v, h3⟩, hc⟩ := h.out
  exact drop_arg w0.heap.size p N sent cut v L k w hk h3
theorem nwt_double (k : Nat) (l : Letr) (w : World) (hk : L[k]? = some l) (hL : L.length < 65536) (h : Hid (NWt w0 w p N sent n S L)) :
    Calls Try.prog 13 #[.pointer (some ⟨p, 0, none⟩), .int .i64 k] w fun e w' => e = .returned (.int .i64 0) ∧ Hid (NWt w0 w' p N sent n S (L ++ [l]) ∧ Frm w w') := by
  obtain ⟨cut, ⟨h1, h2, v, h3⟩, hc⟩ := h.out
  refine (double_L w0.heap.size p k N sent cut v L l w hk hL h1.size h3).mono ?_
  rintro e w' ⟨he, v', h4, _, t⟩
  exact ⟨he, Lib.hid (nwt_of h1 h2 h3 hc h4 t)⟩
theorem nwt_double_no (k : Int) (w : World) (hk : ¬ (0 ≤ k ∧ k < (L.length : Int)) ∨ 65536 ≤ L.length) (h : Hid (NWt w0 w p N sent n S L)) :
    Calls Try.prog 13 #[.pointer (some ⟨p, 0, none⟩), .int .i64 k] w fun e w' => e = .returned (.int .i64 (if ¬ (0 ≤ k ∧ k < (L.length : Int)) then 2 else 40)) ∧ w = w' := by
  obtain ⟨cut, ⟨h1, h2, v, h3⟩, hc⟩ := h.out
  by_cases q : ¬ (0 ≤ k ∧ k < (L.length : Int))
  · rw [if_pos q]
    exact double_arg w0.heap.size p N sent cut v L w k q h3
  · rw [if_neg q]
    exact double_full w0.heap.size p N sent cut v L w k (Decidable.not_not.1 q) (hk.elim (fun h => absurd h q) id) h3
theorem nwt_fly (w : World) (hL : L.length ≤ 65536) (hs : ∀ l ∈ L, l.s.size ≤ 1048576) (h : Hid (NWt w0 w p N sent n S L)) :
    Calls Try.prog 17 #[.pointer (some ⟨p, 0, none⟩)] w fun e w' => e = .returned (.slice (some ⟨w.heap.size, 0, none⟩) L.length L.length) ∧ Hid (NWt w0 w' p N sent n S L ∧ Below w.heap.size w w' ∧ RowL w' w.heap.size 0 L.length L) := by
  obtain ⟨cut, ⟨h1, h2, v, h3⟩, hc⟩ := h.out
  refine (flying_L w0.heap.size p N sent cut v L w hL hs h3).mono ?_
  rintro e w' ⟨he, hb, hr⟩
  exact ⟨he, Lib.hid ⟨h.out.below hb, hb, hr⟩⟩
theorem nwt_part_no (a b : Int) (c : Bool) (w : World) (hab : (nodeB N a && nodeB N b) = false ∨ a = b) (h : Hid (NWt w0 w p N sent n S L)) :
    Calls Try.prog 15 #[.pointer (some ⟨p, 0, none⟩), .int .i64 a, .int .i64 b, .bool c] w fun e w' => e = .returned (.int .i64 2) ∧ Hid (NWt w0 w' p N sent n S L ∧ Frm w w') := by
  obtain ⟨cut, ⟨h1, h2, v, h3⟩, hc⟩ := h.out
  refine (part_arg w0.heap.size p N sent cut v L w a b c h3 hab).mono ?_
  rintro e w' ⟨he, hb⟩
  exact ⟨he, Lib.hid ⟨h.out.below hb, frm_below hb⟩⟩
end
end Go.Proofs.Ytcahiogjmclnjaa
