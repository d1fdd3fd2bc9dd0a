/- Package net: a net with its cut ways, beside other nets. -/
import Derived.Test.YtcahiogjmclnjaaNetWayP
namespace Go.Proofs.Ytcahiogjmclnjaa
open Go.RowKit Go.Maps

/-- all cells that were there stay but those of the net p and of letters -/
def FrmB (p : Nat) (w w' : World) : Prop := ∀ b e, Bears w b e → e ≠ 36 → ¬ b = p → w'.heap[b]? = w.heap[b]?
theorem frmb_below (p : Nat) {w w' : World} (h : Below w.heap.size w w') : FrmB p w w' := fun b e hb _ _ => h.block b hb.lt
theorem nwb_of {w0 w w' : World} {p n : Nat} {N sent sent' : Int} {cut v v' : Value} {S : Int → Int → Bool} {L L' : List Letr} (h1 : Below w0.heap.size w0 w) (h2 : w0.heap.size ≤ p) (h3 : NetL w w0.heap.size p N sent cut v L) (hc : Cuts w0 w cut n S)
    (h : NetL w' w0.heap.size p N sent' cut v' L') (t : Tch w w' (own2 p v)) : NWt w0 w' p N sent' n S L' ∧ FrmB p w w' :=
  ⟨(nwt_of h1 h2 h3 hc h t).1, fun b e hb he hp => t.block b hb.lt (fun hi => hi.elim hp (fun e' => bears_apart hb (h3.fly.ty b e'.symm) he rfl))⟩
section
variable {w0 : World} {p n : Nat} {N sent : Int} {S : Int → Int → Bool} {L : List Letr}
theorem nwb_send (a b : Int) (s : ByteArray) (w : World) (hs : s.size ≤ 1048576) (hL : L.length < 65536) (hsn : 0 ≤ sent ∧ sent ≤ 9223372036854775806) (ha : nodeB N a = true) (hb : nodeB N b = true) (h : Hid (NWt w0 w p N sent n S L)) :
    Calls Try.prog 7 #[.pointer (some ⟨p, 0, none⟩), .int .i64 a, .int .i64 b, .string s] w fun e w' => e = .returned (.tuple #[.int .i64 (sent + 1), .int .i64 0]) ∧ Hid (NWt w0 w' p N (sent + 1) n S (L ++ [⟨sent + 1, a, b, s⟩]) ∧ FrmB p w w') := by
  obtain ⟨cut, ⟨h1, h2, v, h3⟩, hc⟩ := h.out
  refine (send_L w0.heap.size p N sent a b cut v s L w hs hL hsn ha hb h1.size h3).mono ?_
  rintro e w' ⟨he, v', h4, _, t⟩
  exact ⟨he, Lib.hid (nwb_of h1 h2 h3 hc h4 t)⟩
/-- what is refused, and what else changes nothing -/
theorem nwb_send_no (a b : Int) (s : ByteArray) (w : World) (h : Hid (NWt w0 w p N sent n S L)) (hno : (nodeB N a && nodeB N b) = false ∨ ¬ s.size ≤ 1048576 ∨ 65536 ≤ L.length) :
    Calls Try.prog 7 #[.pointer (some ⟨p, 0, none⟩), .int .i64 a, .int .i64 b, .string s] w fun e w' =>
      e = .returned (.tuple #[.int .i64 0, .int .i64 (if (nodeB N a && nodeB N b) = false then 2 else if ¬ s.size ≤ 1048576 then 1 else 40)]) ∧ Hid (NWt w0 w' p N sent n S L ∧ FrmB p w w') := by
  obtain ⟨cut, ⟨h1, h2, v, h3⟩, hc⟩ := h.out
  have fin : ∀ w', Below w.heap.size w w' → Hid (NWt w0 w' p N sent n S L ∧ FrmB p w w') := fun w' hb => Lib.hid ⟨h.out.below hb, frmb_below _ hb⟩
  by_cases q1 : (nodeB N a && nodeB N b) = false
  · rw [if_pos q1]
    exact (send_arg w0.heap.size p N sent cut v L w a b s h3 q1).mono fun e w' ⟨he, hb⟩ => ⟨he, fin w' hb⟩
  · rw [if_neg q1]
    have q1' : (nodeB N a && nodeB N b) = true := by simpa using q1
    by_cases q2 : ¬ s.size ≤ 1048576
    · rw [if_pos q2]
      exact (send_long w0.heap.size p N sent cut v L w a b s h3 q1' q2).mono fun e w' ⟨he, hb⟩ => ⟨he, fin w' hb⟩
    · rw [if_neg q2]
      have q2' : s.size ≤ 1048576 := Decidable.not_not.1 q2
      exact (send_full w0.heap.size p N sent cut v L w a b s h3 q1' q2' (by rcases hno with h | h | h; exact absurd h q1; exact absurd h q2; exact h)).mono fun e w' ⟨he, hb⟩ => ⟨he, fin w' hb⟩
theorem nwb_parted (a b : Int) (w : World) (h : Hid (NWt w0 w p N sent n S L)) (ha : node4 a) (hb : node4 b) :
    Calls Try.prog 19 #[.pointer (some ⟨p, 0, none⟩), .int .i64 a, .int .i64 b] w fun e w' => e = .returned (.bool (S a b)) ∧ Below w.heap.size w w' := by
  obtain ⟨cut, ⟨h1, h2, v, h3⟩, hc⟩ := h.out
  rcases hc with ⟨rfl, hS⟩ | ⟨m, D, rfl, hm, ho, hS⟩
  · rw [hS]
    exact parted_none p N sent a b v w h3.at'
  · rw [← hS a b ha hb]
    exact parted_own p m n a b D w h3.at'.c3 ho ha hb
theorem nwb_deliver (k : Nat) (l : Letr) (w : World) (hs : l.s.size ≤ 1048576) (hk : L[k]? = some l) (hL : L.length ≤ 65536) (ha : node4 l.a) (hb : node4 l.b) (h : Hid (NWt w0 w p N sent n S L)) :
    Calls Try.prog 9 #[.pointer (some ⟨p, 0, none⟩), .int .i64 k] w fun e w' =>
      e = .returned (.tuple #[if S l.a l.b then noLet else letV l, .int .i64 (if S l.a l.b then 140 else 0)]) ∧ Hid (NWt w0 w' p N sent n S (if S l.a l.b then L else L.eraseIdx k) ∧ FrmB p w w') := by
  have hh := h
  obtain ⟨cut, ⟨h1, h2, v, h3⟩, hc⟩ := h.out
  refine (deliver_L w0.heap.size p k N sent cut v L l (S l.a l.b) w hs hk hL h3 (fun w2 hb2 => nwb_parted l.a l.b w2 (Lib.hid (hh.out.below hb2)) ha hb)).mono ?_
  rintro e w' ⟨he, v', h4, _, t⟩
  exact ⟨he, Lib.hid (nwb_of h1 h2 h3 hc h4 t)⟩
theorem nwb_deliver_arg (k : Int) (w : World) (hk : ¬ (0 ≤ k ∧ k < (L.length : Int))) (h : Hid (NWt w0 w p N sent n S L)) :
    Calls Try.prog 9 #[.pointer (some ⟨p, 0, none⟩), .int .i64 k] w fun e w' => e = .returned (.tuple #[noLet, .int .i64 2]) ∧ Hid (NWt w0 w' p N sent n S L ∧ FrmB p w w') := by
  obtain ⟨cut, ⟨h1, h2, v, h3⟩, hc⟩ := h.out
  refine (deliver_arg w0.heap.size p N sent cut v L k w hk h3).mono ?_
  rintro e w' ⟨he, hb⟩
  exact ⟨he, Lib.hid ⟨h.out.below hb, frmb_below _ hb⟩⟩
theorem nwb_drop (k : Nat) (w : World) (hk : k < L.length) (h : Hid (NWt w0 w p N sent n S L)) :
    Calls Try.prog 11 #[.pointer (some ⟨p, 0, none⟩), .int .i64 k] w fun e w' => e = .returned (.int .i64 0) ∧ Hid (NWt w0 w' p N sent n S (L.eraseIdx k) ∧ FrmB p w w') := by
  obtain ⟨cut, ⟨h1, h2, v, h3⟩, hc⟩ := h.out
  refine (drop_L w0.heap.size p k N sent cut v L w hk h3).mono ?_
  rintro e w' ⟨he, v', h4, _, t⟩
  exact ⟨he, Lib.hid (nwb_of h1 h2 h3 hc h4 t)⟩
theorem nwb_drop_arg (k : Int) (w : World) (hk : ¬ (0 ≤ k ∧ k < (L.length : Int))) (h : Hid (NWt w0 w p N sent n S L)) :
    Calls Try.prog 11 #[.pointer (some ⟨p, 0, none⟩), .int .i64 k] w fun e w' => e = .returned (.int .i64 2) ∧ w = w' := by
  obtain ⟨cut, ⟨h1, h2, v, h3⟩, hc⟩ := h.out
  exact drop_arg w0.heap.size p N sent cut v L k w hk h3
theorem nwb_double (k : Nat) (l : Letr) (w : World) (hk : L[k]? = some l) (hL : L.length < 65536) (h : Hid (NWt w0 w p N sent n S L)) :
    Calls Try.prog 13 #[.pointer (some ⟨p, 0, none⟩), .int .i64 k] w fun e w' => e = .returned (.int .i64 0) ∧ Hid (NWt w0 w' p N sent n S (L ++ [l]) ∧ FrmB p w w') := by
  obtain ⟨cut, ⟨h1, h2, v, h3⟩, hc⟩ := h.out
  refine (double_L w0.heap.size p k N sent cut v L l w hk hL h1.size h3).mono ?_
  rintro e w' ⟨he, v', h4, _, t⟩
  exact ⟨he, Lib.hid (nwb_of h1 h2 h3 hc h4 t)⟩
theorem nwb_double_no (k : Int) (w : World) (hk : ¬ (0 ≤ k ∧ k < (L.length : Int)) ∨ 65536 ≤ L.length) (h : Hid (NWt w0 w p N sent n S L)) :
    Calls Try.prog 13 #[.pointer (some ⟨p, 0, none⟩), .int .i64 k] w fun e w' => e = .returned (.int .i64 (if ¬ (0 ≤ k ∧ k < (L.length : Int)) then 2 else 40)) ∧ w = w' := by
  obtain ⟨cut, ⟨h1, h2, v, h3⟩, hc⟩ := h.out
  by_cases q : ¬ (0 ≤ k ∧ k < (L.length : Int))
  · rw [if_pos q]
    exact double_arg w0.heap.size p N sent cut v L w k q h3
  · rw [if_neg q]
    exact double_full w0.heap.size p N sent cut v L w k (Decidable.not_not.1 q) (hk.elim (fun h => absurd h q) id) h3
theorem nwb_fly (w : World) (hL : L.length ≤ 65536) (hs : ∀ l ∈ L, l.s.size ≤ 1048576) (h : Hid (NWt w0 w p N sent n S L)) :
    Calls Try.prog 17 #[.pointer (some ⟨p, 0, none⟩)] w fun e w' => e = .returned (.slice (some ⟨w.heap.size, 0, none⟩) L.length L.length) ∧ Hid (NWt w0 w' p N sent n S L ∧ Below w.heap.size w w' ∧ RowL w' w.heap.size 0 L.length L) := by
  obtain ⟨cut, ⟨h1, h2, v, h3⟩, hc⟩ := h.out
  refine (flying_L w0.heap.size p N sent cut v L w hL hs h3).mono ?_
  rintro e w' ⟨he, hb, hr⟩
  exact ⟨he, Lib.hid ⟨h.out.below hb, hb, hr⟩⟩
theorem nwb_part_no (a b : Int) (c : Bool) (w : World) (hab : (nodeB N a && nodeB N b) = false ∨ a = b) (h : Hid (NWt w0 w p N sent n S L)) :
    Calls Try.prog 15 #[.pointer (some ⟨p, 0, none⟩), .int .i64 a, .int .i64 b, .bool c] w fun e w' => e = .returned (.int .i64 2) ∧ Hid (NWt w0 w' p N sent n S L ∧ FrmB p w w') := by
  obtain ⟨cut, ⟨h1, h2, v, h3⟩, hc⟩ := h.out
  refine (part_arg w0.heap.size p N sent cut v L w a b c h3 hab).mono ?_
  rintro e w' ⟨he, hb⟩
  exact ⟨he, Lib.hid ⟨h.out.below hb, frmb_below _ hb⟩⟩
theorem frmb_tu {w w' : World} {m k : Nat} {D : DataW Unit} (ho : Owns w m k D) (t : Tu w w' m) : FrmB p w w' := fun b e hb _ _ => t.block b hb.lt (fun e' => by
  obtain ⟨es, clock, h, _⟩ := ho
  obtain ⟨cs, h2⟩ := hb
  rw [e', h] at h2
  cases h2)
theorem nwb_part (a b : Int) (c : Bool) (w : World) (hN : N ≤ 64) (hn : n < maxLen) (ha : nodeB N a = true) (hb : nodeB N b = true) (hab : ¬ a = b) (h : Hid (NWt w0 w p N sent n S L)) :
    Calls Try.prog 15 #[.pointer (some ⟨p, 0, none⟩), .int .i64 a, .int .i64 b, .bool c] w fun e w' => e = .returned (.int .i64 0) ∧ Hid (NWt w0 w' p N sent (n + 1) (setS S a b c) L ∧ FrmB p w w') := by
  have ha4 := node4_of hN ha
  have hb4 := node4_of hN hb
  obtain ⟨cut, ⟨h1, h2, v, h3⟩, hc⟩ := h.out
  rcases hc with ⟨rfl, hS⟩ | ⟨m, D, rfl, hm, ho, hS⟩
  · cases c
    · refine (part_mend_none p N sent a b v w h3.at' ha4 hb4 ha hb hab).mono ?_
      rintro e w' ⟨he, hbl⟩
      refine ⟨he, Lib.hid ⟨⟨_, NSt.below ⟨h1, h2, v, h3⟩ hbl, .inl ⟨rfl, fun x y => ?_⟩⟩, frmb_below _ hbl⟩⟩
      unfold setS
      split
      · rfl
      · exact hS x y
    · refine (part_first p N sent a b v w h3.at' ha4 hb4 ha hb hab).mono ?_
      rintro e w' ⟨he, m, hm, hown, hnet, t, hty⟩
      have hap := h3.apart
      have hf : Fly w' 36 4 w0.heap.size v L.length (cellsOf L) := h3.fly.same (fun b hb => t.block b (h3.fly.lt b hb).2 (hap b hb))
      have hx : Owns w' m (n + 1) ((DataW.map []).put (kk a b) (.agg [])) := by
        obtain ⟨es, clock, q1, q2, q3, q4⟩ := hown
        exact ⟨es, clock, q1, q2, by omega, q4⟩
      refine ⟨he, Lib.hid ⟨⟨_, ⟨t.below h1 h2 h1.size, h2, v, hnet, hty _ h3.ty, hf⟩, .inr ⟨m, _, rfl, by have := h1.size; omega, hx, fun x y hx4 hy4 => ?_⟩⟩, fun b' e' hb' _ he2 => t.block b' hb'.lt he2⟩⟩
      unfold setS
      by_cases q : (x = a ∧ y = b) ∨ (x = b ∧ y = a)
      · rw [if_pos q, kk_of q]
        exact Maps.has_put_same ⟨[], rfl⟩ (kl_is _ _) _
      · rw [if_neg q, hS, Maps.has_put_other (kk_ne2 hx4 hy4 ha4 hb4 q)]
        rfl
  · have hsz := h3.ty.lt
    cases c
    · refine (part_mend p m n N sent a b v D w h3.at' ho ha4 hb4 ha hb hab).mono ?_
      rintro e w' ⟨he, hown, t⟩
      have hx : Owns w' m (n + 1) (D.del (kk a b)) := by
        obtain ⟨es, clock, q1, q2, q3, q4⟩ := hown
        exact ⟨es, clock, q1, q2, by omega, q4⟩
      refine ⟨he, Lib.hid ⟨⟨_, ⟨t.below h1 hm h1.size, h2, v, netl_tu h3 ho t⟩, .inr ⟨m, _, rfl, hm, hx, fun x y hx4 hy4 => ?_⟩⟩, frmb_tu ho t⟩⟩
      unfold setS
      by_cases q : (x = a ∧ y = b) ∨ (x = b ∧ y = a)
      · rw [if_pos q, kk_of q]
        exact Maps.has_del_same
      · rw [if_neg q, Maps.has_del_other (kk_ne2 hx4 hy4 ha4 hb4 q)]
        exact hS x y hx4 hy4
    · refine (part_own p m n N sent a b v D w h3.at' ho hn ha4 hb4 ha hb hab).mono ?_
      rintro e w' ⟨he, hown, t⟩
      refine ⟨he, Lib.hid ⟨⟨_, ⟨t.below h1 hm h1.size, h2, v, netl_tu h3 ho t⟩, .inr ⟨m, _, rfl, hm, hown, fun x y hx4 hy4 => ?_⟩⟩, frmb_tu ho t⟩⟩
      unfold setS
      by_cases q : (x = a ∧ y = b) ∨ (x = b ∧ y = a)
      · rw [if_pos q, kk_of q]
        exact Maps.has_put_same ho.isMap (kl_is _ _) _
      · rw [if_neg q, Maps.has_put_other (kk_ne2 hx4 hy4 ha4 hb4 q)]
        exact hS x y hx4 hy4
end
end Go.Proofs.Ytcahiogjmclnjaa
