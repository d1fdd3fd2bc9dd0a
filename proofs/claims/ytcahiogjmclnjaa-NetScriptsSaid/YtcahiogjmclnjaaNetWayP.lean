/- Package net, for its laws: a way is cut or mended, of any net. -/
import Derived.Test.YtcahiogjmclnjaaNetWay
namespace Go.Proofs.Ytcahiogjmclnjaa
open Go.RowKit Go.Maps

abbrev MNil (wc : World) (p : Nat) (w' : World) : Prop := Hid (Below wc.heap.size wc w') ∧ w'.cell? ⟨p, 3, none⟩ = some (.map none)
theorem mnil_of {wc w' : World} {p : Nat} (hp : p < wc.heap.size) (hc : wc.cell? ⟨p, 3, none⟩ = some (.map none)) (hb : Below wc.heap.size wc w') : MNil wc p w' := ⟨Lib.hid hb, (hb.cell (p := ⟨p, 3, none⟩) hp).trans hc⟩
theorem mnil_drew {wc w' : World} {p : Nat} (k : MNil wc p w') : MNil wc p w'.drew := ⟨Lib.hid k.1.out.drew, k.2⟩
set_option maxRecDepth 100000 in
set_option maxHeartbeats 4000000 in
theorem part_mend_none (p : Nat) (N sent a b : Int) (fl : Value) (w : World) (hn : NetAt w p N sent fl (.map none)) (ha : node4 a) (hb : node4 b) (hna : nodeB N a = true) (hnb : nodeB N b = true) (hab : ¬ a = b) :
    Calls Try.prog 15 #[.pointer (some ⟨p, 0, none⟩), .int .i64 a, .int .i64 b, .bool false] w fun e w' => e = .returned (.int .i64 0) ∧ Below w.heap.size w w' := by
  have hlt := hn.lt
  have hb1 : Below w.heap.size w (w.alloc (.cells #[.int .i64 a, .int .i64 b] 3)) := (Below.refl _ w).alloc (Nat.le_refl _) _
  have hh := has_S (w0 := w) p w.heap.size N a b hna hnb ((hb1.cell (p := ⟨p, 0, none⟩) hlt).trans hn.c0) (by simp) (by simp)
  have c3 := (hb1.cell (p := ⟨p, 3, none⟩) hlt).trans hn.c3
  have d3 := hn.c3
  have hne : ¬ w.heap.size = p := by omega
  have HB1 := Lib.hid hb1
  have hlt1 : p < (w.alloc (.cells #[.int .i64 a, .int .i64 b] 3)).heap.size := by simp; omega
  have hkey := Lib.hid (keyOf_way (node4_min ha hb) (node4_max ha hb))
  clear hn hb1 ha hb hna hnb hlt
  go_enter Try.func15, Try.ntmps15
  go_upto_region 4 with (first | (go_at_call 21; refine hh.mono ?_; rintro e w' ⟨rfl, rfl⟩) | go_in)
  clear d3 hne hh
  generalize w.alloc (.cells #[.int .i64 a, .int .i64 b] 3) = wc at *
  have hS : MNil wc p wc := mnil_of hlt1 c3 (Below.refl _ _)
  go_region_with (first | (go_at_call 28; refine (between_exact a b _).mono ?_; rintro e w' ⟨rfl, hbb⟩; have hS2 : MNil wc p w' := mnil_of hlt1 c3 ⟨hbb.os, hbb.tape, hbb.output, hbb.size, hbb.block⟩; have hrun : (Builtin.delete_ #[57, 67] 0 #[.map none, .agg #[.int .i64 (min a b), .int .i64 (max a b)]]).run Try.prog w' = .ok (.tuple #[]) w' := by first | exact Maps.drop_nil wayLaw Try.underlying57 hkey.out 0 | exact Maps.drop_nil _ wayLaw Try.underlying57 hkey.out 0; have d3 := hS2.2; clear hbb))
  all_goals (go_wp2; go_ret; exact ⟨rfl, HB1.out.trans (hS2.1.out.mono HB1.out.size)⟩)
theorem node4_of {N a : Int} (hN : N ≤ 64) (h : nodeB N a = true) : node4 a := by
  obtain ⟨h1, h2⟩ := nodeB_t h
  unfold node4
  omega
def setS (S : Int → Int → Bool) (a b : Int) (c : Bool) : Int → Int → Bool := fun x y => if (x = a ∧ y = b) ∨ (x = b ∧ y = a) then c else S x y
theorem kk_of {a b x y : Int} (h : (x = a ∧ y = b) ∨ (x = b ∧ y = a)) : kk x y = kk a b := by
  rcases h with ⟨rfl, rfl⟩ | ⟨rfl, rfl⟩
  · rfl
  · exact kk_comm _ _
section
variable {w0 : World} {p n : Nat} {N sent : Int} {S : Int → Int → Bool} {L : List Letr}
theorem frm_tu {w w' : World} {m k : Nat} {D : DataW Unit} (ho : Owns w m k D) (t : Tu w w' m) : Frm w w' := fun b e hb _ _ => t.block b hb.lt (fun e' => by
  obtain ⟨es, clock, h, _⟩ := ho
  obtain ⟨cs, h2⟩ := hb
  rw [e', h] at h2
  cases h2)
theorem netl_tu {w w' : World} {base m k : Nat} {cut v : Value} {D : DataW Unit} (h : NetL w base p N sent cut v L) (ho : Owns w m k D) (t : Tu w w' m) : NetL w' base p N sent cut v L := by
  obtain ⟨es, clock, hm, _⟩ := ho
  have ne : ∀ b e, Bears w b e → ¬ b = m := fun b e ⟨cs, hb⟩ e' => by
    rw [e', hm] at hb
    cases hb
  exact h.tch ⟨t.os, t.tape, t.output, t.size, fun k hk hn => t.block k hk hn⟩ (ne p _ h.ty) (fun b hb => ne b _ (h.fly.ty b hb))
theorem nwt_part (a b : Int) (c : Bool) (w : World) (hN : N ≤ 64) (hn : n < maxLen) (ha : nodeB N a = true) (hb : nodeB N b = true) (hab : ¬ a = b) (h : Hid (NWt w0 w p N sent n S L)) :
    Calls Try.prog 15 #[.pointer (some ⟨p, 0, none⟩), .int .i64 a, .int .i64 b, .bool c] w fun e w' => e = .returned (.int .i64 0) ∧ Hid (NWt w0 w' p N sent (n + 1) (setS S a b c) L ∧ Frm w w') := by
  have ha4 := node4_of hN ha
  have hb4 := node4_of hN hb
  obtain ⟨cut, ⟨h1, h2, v, h3⟩, hc⟩ := h.out
  rcases hc with ⟨rfl, hS⟩ | ⟨m, D, rfl, hm, ho, hS⟩
  · cases c
    · refine (part_mend_none p N sent a b v w h3.at' ha4 hb4 ha hb hab).mono ?_
      rintro e w' ⟨he, hbl⟩
      refine ⟨he, Lib.hid ⟨⟨_, NSt.below ⟨h1, h2, v, h3⟩ hbl, .inl ⟨rfl, fun x y => ?_⟩⟩, frm_below hbl⟩⟩
      unfold setS
      split
      · rfl
      · exact hS x y
    · refine (part_first p N sent a b v w h3.at' ha4 hb4 ha hb hab).mono ?_
      rintro e w' ⟨he, m, hm, hown, hnet, t, hty⟩
      have hap := h3.apart
      have hf : Fly w' 36 4 w0.heap.size v L.length (cellsOf L) := h3.fly.same (fun b hb => t.block b (h3.fly.lt b hb).2 (hap b hb))
      have hx : Owns w' m (n + 1) ((DataW.map []).put (kk a b) (.agg [])) := by
        obtain ⟨es, clock, q1, q2, q3, q4⟩ := hown
        exact ⟨es, clock, q1, q2, by omega, q4⟩
      refine ⟨he, Lib.hid ⟨⟨_, ⟨t.below h1 h2 h1.size, h2, v, hnet, hty _ h3.ty, hf⟩, .inr ⟨m, _, rfl, by have := h1.size; omega, hx, fun x y hx4 hy4 => ?_⟩⟩, fun b' e' hb' _ he2 => t.block b' hb'.lt (fun e => bears_apart hb' (e ▸ h3.ty) he2 rfl)⟩⟩
      unfold setS
      by_cases q : (x = a ∧ y = b) ∨ (x = b ∧ y = a)
      · rw [if_pos q, kk_of q]
        exact Maps.has_put_same ⟨[], rfl⟩ (kl_is _ _) _
      · rw [if_neg q, hS, Maps.has_put_other (kk_ne2 hx4 hy4 ha4 hb4 q)]
        rfl
  · have hsz := h3.ty.lt
    cases c
    · refine (part_mend p m n N sent a b v D w h3.at' ho ha4 hb4 ha hb hab).mono ?_
      rintro e w' ⟨he, hown, t⟩
      have hx : Owns w' m (n + 1) (D.del (kk a b)) := by
        obtain ⟨es, clock, q1, q2, q3, q4⟩ := hown
        exact ⟨es, clock, q1, q2, by omega, q4⟩
      refine ⟨he, Lib.hid ⟨⟨_, ⟨t.below h1 hm h1.size, h2, v, netl_tu h3 ho t⟩, .inr ⟨m, _, rfl, hm, hx, fun x y hx4 hy4 => ?_⟩⟩, frm_tu ho t⟩⟩
      unfold setS
      by_cases q : (x = a ∧ y = b) ∨ (x = b ∧ y = a)
      · rw [if_pos q, kk_of q]
        exact Maps.has_del_same
      · rw [if_neg q, Maps.has_del_other (kk_ne2 hx4 hy4 ha4 hb4 q)]
        exact hS x y hx4 hy4
    · refine (part_own p m n N sent a b v D w h3.at' ho hn ha4 hb4 ha hb hab).mono ?_
      rintro e w' ⟨he, hown, t⟩
      refine ⟨he, Lib.hid ⟨⟨_, ⟨t.below h1 hm h1.size, h2, v, netl_tu h3 ho t⟩, .inr ⟨m, _, rfl, hm, hown, fun x y hx4 hy4 => ?_⟩⟩, frm_tu ho t⟩⟩
      unfold setS
      by_cases q : (x = a ∧ y = b) ∨ (x = b ∧ y = a)
      · rw [if_pos q, kk_of q]
        exact Maps.has_put_same ho.isMap (kl_is _ _) _
      · rw [if_neg q, Maps.has_put_other (kk_ne2 hx4 hy4 ha4 hb4 q)]
        exact hS x y hx4 hy4
end
end Go.Proofs.Ytcahiogjmclnjaa
