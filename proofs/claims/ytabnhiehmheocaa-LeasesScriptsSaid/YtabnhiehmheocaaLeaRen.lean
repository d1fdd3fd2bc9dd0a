/- Package leases: Renew and Drop. -/
import Derived.Test.YtabnhiehmheocaaLeaTab
import Derived.Maps.RangeWalk
import Derived.Sort.MapsRangeIn
namespace Go.Proofs.Ytabnhiehmheocaa
open Go.RowKit Go.Maps

theorem nextP {ops : Array Oper} {rest : List Oper} {o : Oper} {a : Act} {Q : Exit → Act → World → Prop} (w : World) (hg : o.guard = none) (it : Operand) (hop : o.op = Op.next it false) (b r n : Nat) (D : DataW Unit) (left : Lit → Bool) (cnt : Nat)
    (hit : a.eval it = .pointer (some ⟨r, 0, none⟩)) (h : w.ranges Try.prog 9 pdr b r n D left cnt)
    (hDone : cnt = 0 → (∀ kl, left kl = false) → wpList Try.prog ops Q rest (a.put o.dst (.tuple #[.bool false])) w)
    (hMore : ∀ (x : ByteArray) (c : Value) (kl : Lit) (y : DataW Unit × List MemPlace) (w' : World) (cnt' : Nat), keyOf Try.prog 9 (.string x) = some kl → left kl = true → pdr c = some y → (∀ zd, D.atKey kl zd = y.1) → w'.ranges Try.prog 9 pdr b r n D (fun z => left z && !z.sameKey kl) cnt' → cnt' < cnt →
      w.grownBy w' (some r) → w'.heap.size = w.heap.size → (Instr.entry (.pointer (some ⟨r, 0, none⟩))).run Try.prog w' = .ok (.tuple #[.string x, c]) w' → wpList Try.prog ops Q rest (a.put o.dst (.tuple #[.bool true, .string x, c])) w') :
    wpList Try.prog ops Q (o :: rest) a w :=
  wpList_next_ranges w hg it hop 9 strLaw pdr Value.string id (fun _ _ hk => Maps.keyOf_string_inv Try.underlying9 hk) (fun v _ _ => ⟨v, rfl⟩) b r n D left cnt hit h hDone hMore
theorem keys_str {w : World} {m n : Nat} {D : DataW Unit} (h : w.ownsMap Try.prog 9 pdr m n D) {kl : Lit} (hk : Maps.has D kl = true) : ∃ q, kl = sk q := by
  obtain ⟨es, clock, _, F, _, rfl⟩ := h
  obtain ⟨p, hp, hpk⟩ := List.any_eq_true.1 hk
  have hp' := mem_sorted.1 hp
  obtain ⟨v, hv⟩ := Maps.fit_keys F p hp'
  obtain ⟨s, rfl⟩ := Maps.keyOf_string_inv Try.underlying9 hv
  have : p.1 = kl := Classical.byContradiction fun hne => by rw [Maps.sameKey_ne hne] at hpk; cases hpk
  refine ⟨s, ?_⟩
  rw [← this]
  rw [keyOf_string Try.underlying9] at hv
  simp [mapKey, Try.underlying9] at hv
  exact hv.2.symm
theorem Held.low {B : Nat} {w : World} {m n : Nat} {G : Blk} {L : List Ls} (h : Held B w m n G L) {q : ByteArray} {b : Nat} (hb : G q = some b) : ∃ x ∈ L, x.p = q ∧ LeAt w b x.c x.h := by
  obtain ⟨_, x, hx, e⟩ := h.only q b hb
  obtain ⟨b', h1, h2⟩ := h.at' x hx
  rw [e, hb] at h1
  injection h1 with h1
  subst h1
  exact ⟨x, hx, e, h2⟩
theorem dropped {w0 w wu : World} {p m n : Nat} {len : Int} {L : List Ls} {G : Blk} {q : ByteArray} (h : TabSt w0 w p len n L) (hm : w0.heap.size ≤ m) (hc : w.cell? ⟨p, 1, none⟩ = some (.map (some m))) (hh : Held w0.heap.size w m n G L) (hg : GM wu m n (delG G q)) (hgr : w.grownBy wu (some m)) :
    TabSt w0 wu p len n (dropL L q) ∧ TF p w wu := by
  have hkeep : ∀ b e, Bears w b e → wu.heap[b]? = w.heap[b]? := fun b e hbe => hgr.block b hbe.lt (fun e => hh.gm.apart hbe (by injection e))
  refine ⟨⟨⟨hgr.os.trans h.bel.os, hgr.tape.trans h.bel.tape, hgr.output.trans h.bel.output, Nat.le_trans h.bel.size hgr.size, fun b hb => (hgr.block b (Nat.lt_of_lt_of_le hb h.bel.size) (fun e => by injection e with e; omega)).trans (h.bel.block b hb)⟩, h.lo, ?_, (cell_eq (hkeep p _ h.ty) 0).trans h.c0, .inr ⟨m, _, hm, (cell_eq (hkeep p _ h.ty) 1).trans hc, hg, ?_, ?_, ?_⟩, srt_dropL h.srt q, fun x hx => h.sz x ((mem_dropL _ _ _).1 hx).1⟩, fun b e hb _ _ => hkeep b e hb⟩
  · obtain ⟨cs, k⟩ := h.ty
    exact ⟨cs, (hkeep p _ ⟨cs, k⟩).trans k⟩
  · intro x hx
    obtain ⟨hx, hne⟩ := (mem_dropL _ _ _).1 hx
    obtain ⟨b, h1, h2⟩ := hh.at' x hx
    exact ⟨b, by simp [delG, hne, h1], h2.same (hkeep b _ h2.ty)⟩
  · intro q' b hb
    unfold delG at hb
    split at hb
    · cases hb
    · next e =>
      obtain ⟨h1, x, h2, h3⟩ := hh.only q' b hb
      exact ⟨h1, x, (mem_dropL _ _ _).2 ⟨h2, by rw [h3]; exact e⟩, h3⟩
  · intro a a' b h1 h2
    unfold delG at h1 h2
    split at h1
    · cases h1
    · split at h2
      · cases h2
      · exact hh.one _ _ _ h1 h2
set_option maxHeartbeats 4000000 in
set_option maxRecDepth 100000 in
theorem drop_any {w0 : World} (p n : Nat) (len : Int) (L : List Ls) (q : ByteArray) (w : World) (hq : q.size ≤ 140737488351232) (h : Hid (TabSt w0 w p len n L)) :
    Calls Try.prog 13 #[.pointer (some ⟨p, 0, none⟩), .string q] w (TPost w0 w p len n (dropL L q) (.tuple #[])) := by
  have hqm : q.size ≤ maxLen := by unfold maxLen; omega
  rcases h.out.v with ⟨hc, rfl⟩ | ⟨m, G, hm, hc, hh⟩
  · have hd := fun w ty => @drop_gm0 w q hqm ty
    have hF : Hid (TabSt w0 w p len n (dropL [] q) ∧ TF p w w) := Lib.hid ⟨h.out, fun _ _ _ _ _ => rfl⟩
    clear h
    go_enter Try.func13, Try.ntmps13
    go_wp2
    first
      | (go_end0; exact ⟨rfl, hF.out⟩)
      | exact bodyPost_ret (v := .tuple #[]) (results_none rfl _ _ _) rfl ⟨rfl, hF⟩
  · obtain ⟨wu, hrun, hg, hgr⟩ := drop_gm hh.gm hqm 0
    have hF := Lib.hid (dropped h.out hm hc hh hg hgr)
    clear h hh hg hgr
    go_enter Try.func13, Try.ntmps13
    go_wp2
    first
      | (go_end0; exact ⟨rfl, hF.out⟩)
      | exact bodyPost_ret (v := .tuple #[]) (results_none rfl _ _ _) rfl ⟨rfl, hF⟩
/-- where a round of Renew stands -/
structure RenAt (w0 w : World) (p n m : Nat) (L : List Ls) (G : Blk) (c T : Int) (left : Lit → Bool) (wr : World) : Prop where
  bel : Below w0.heap.size w0 wr
  size : w.heap.size < wr.heap.size
  tf : TF p w wr
  pb : wr.heap[p]? = w.heap[p]?
  at' : ∀ x ∈ L, ∃ b, G x.p = some b ∧ LeAt wr b x.c (if left (sk x.p) = true then x.h else if x.c = c then T else x.h)
  only : ∀ kl, left kl = true → ∃ x ∈ L, kl = sk x.p
  ity : ∀ e, ¬ Bears wr w.heap.size e
theorem heldAt_end {w0 w wr : World} {p m n : Nat} {len : Int} {L : List Ls} {G : Blk} {c T : Int} {left : Lit → Bool} (h : TabSt w0 w p len n L) (hm : w0.heap.size ≤ m) (hc : w.cell? ⟨p, 1, none⟩ = some (.map (some m))) (hh : Held w0.heap.size w m n G L)
    (hr : RenAt w0 w p n m L G c T left wr) (hg : GM wr m n G) (hl : ∀ kl, left kl = false) : TabSt w0 wr p len n (renewL L c T) ∧ TF p w wr := by
  refine ⟨⟨hr.bel, h.lo, ?_, (cell_eq hr.pb 0).trans h.c0, .inr ⟨m, G, hm, (cell_eq hr.pb 1).trans hc, hg, ?_, ?_, hh.one⟩, srt_renewL h.srt _ _, ?_⟩, hr.tf⟩
  · obtain ⟨cs, k⟩ := h.ty
    exact ⟨cs, hr.pb.trans k⟩
  · intro y hy
    obtain ⟨x, hx, rfl⟩ := List.mem_map.1 hy
    obtain ⟨b, h1, h2⟩ := hr.at' x hx
    rw [hl] at h2
    by_cases e : x.c = c
    · simp only [e, if_true, Bool.false_eq_true, if_false] at h2 ⊢
      exact ⟨b, h1, h2⟩
    · simp only [e, if_false, Bool.false_eq_true] at h2 ⊢
      exact ⟨b, h1, h2⟩
  · intro q b hb
    obtain ⟨h1, x, h2, h3⟩ := hh.only q b hb
    refine ⟨h1, _, List.mem_map.2 ⟨x, h2, rfl⟩, ?_⟩
    split <;> exact h3
  · intro y hy
    obtain ⟨x, hx, rfl⟩ := List.mem_map.1 hy
    split <;> exact h.sz x hx
/-- one lease has been seen: its block holds what it shall -/
theorem renAt_step {w0 w w1 w2 : World} {p m n b : Nat} {len : Int} {L : List Ls} {G : Blk} {c T : Int} {left : Lit → Bool} {x : Ls} (h : TabSt w0 w p len n L) (hh : Held w0.heap.size w m n G L)
    (hr : RenAt w0 w p n m L G c T left w1) (hx : x ∈ L) (hb : G x.p = some b) (hw : (x.c = c ∧ w2 = w1.setCell ⟨b, 1, none⟩ (.int .i64 T)) ∨ (¬ x.c = c ∧ w2 = w1)) :
    RenAt w0 w p n m L G c T (fun z => left z && !z.sameKey (sk x.p)) w2 := by
  obtain ⟨_, _, _, hlw⟩ := hh.low hb
  have hbw := hlw.ty.lt
  have hbB := (hh.only _ _ hb).1
  have hbp : ¬ p = b := bears_apart h.ty hlw.ty (by decide)
  have hleft : ∀ y ∈ L, (left (sk y.p) && !(sk y.p).sameKey (sk x.p)) = (if y = x then false else left (sk y.p)) := fun y hy => by
    by_cases e : y = x
    · subst e
      rw [if_pos rfl, WideAt.sameKey_self (sk_is _)]
      simp
    · rw [if_neg e, Maps.sameKey_ne (fun k => e (srt_one h.srt hy hx (sk_inj k)))]
      simp
  have honly : ∀ kl, (left kl && !kl.sameKey (sk x.p)) = true → ∃ x ∈ L, kl = sk x.p := fun kl hk => hr.only kl (by cases k : left kl <;> simp_all)
  rcases hw with ⟨hc, rfl⟩ | ⟨hc, rfl⟩
  · have hblk : ∀ k, ¬ k = b → (w1.setCell ⟨b, 1, none⟩ (.int .i64 T)).heap[k]? = w1.heap[k]? := fun k hk => Below.heap_setCell _ _ _ _ hk
    refine ⟨hr.bel.setCell (p := ⟨b, 1, none⟩) hbB _, by rw [World.setCell]; simpa using hr.size, ?_, (hblk p hbp).trans hr.pb, fun y hy => ?_, honly, fun e ⟨cs, k⟩ => hr.ity e ⟨cs, by rw [hblk _ (by omega)] at k; exact k⟩⟩
    · intro k e hk hn he
      exact (hblk k (fun e' => by subst e'; exact bears_apart hk hlw.ty he rfl)).trans (hr.tf k e hk hn he)
    · obtain ⟨b', h1, h2⟩ := hr.at' y hy
      by_cases e : y = x
      · subst e
        rw [hb] at h1
        injection h1 with h1
        subst h1
        rw [hleft y hy, if_pos rfl]
        simp only [Bool.false_eq_true, if_false, hc, if_true]
        rw [hc] at h2
        exact ⟨b, hb, (World.cell?_setCell_other _ _ _ _ (by simp)).trans h2.c0, World.cell?_setCell_same _ _ _ h2.c1, bears_set _ h2.ty⟩
      · rw [hleft y hy, if_neg e]
        exact ⟨b', h1, h2.same (hblk b' (fun k => e (srt_one h.srt hy hx (hh.one _ _ b (k ▸ h1) hb))))⟩
  · refine ⟨hr.bel, hr.size, hr.tf, hr.pb, fun y hy => ?_, honly, hr.ity⟩
    obtain ⟨b', h1, h2⟩ := hr.at' y hy
    by_cases e : y = x
    · subst e
      rw [hleft y hy, if_pos rfl]
      simp only [Bool.false_eq_true, if_false, hc]
      simp only [hc, if_false, ite_self] at h2
      exact ⟨b', h1, h2⟩
    · rw [hleft y hy, if_neg e]
      exact ⟨b', h1, h2⟩
theorem RenAt.grown {w0 w w1 w2 : World} {p m n r : Nat} {L : List Ls} {G : Blk} {c T : Int} {left : Lit → Bool} (h : RenAt w0 w p n m L G c T left w1) (hT : Bears w p 54) (hB : w0.heap.size ≤ w.heap.size) (hr : r = w.heap.size) (hg : w1.grownBy w2 (some r)) (hi : ∀ e, ¬ Bears w2 r e) : RenAt w0 w p n m L G c T left w2 := by
  subst hr
  have hk : ∀ b, b < w1.heap.size → ¬ b = w.heap.size → w2.heap[b]? = w1.heap[b]? := fun b hb hn => hg.block b hb (fun e => hn (by injection e))
  have hpl := hT.lt
  have hs := h.size
  refine ⟨⟨hg.os.trans h.bel.os, hg.tape.trans h.bel.tape, hg.output.trans h.bel.output, Nat.le_trans h.bel.size hg.size, fun b hb => (hk b (by omega) (by omega)).trans (h.bel.block b hb)⟩, Nat.lt_of_lt_of_le h.size hg.size, ?_, (hk p (by omega) (by omega)).trans h.pb, fun x hx => ?_, h.only, hi⟩
  · intro b e hb hn he
    exact (hk b (by have := hb.lt; omega) (by have := hb.lt; omega)).trans (h.tf b e hb hn he)
  · obtain ⟨b, h1, h2⟩ := h.at' x hx
    exact ⟨b, h1, h2.same (hk b h2.ty.lt (fun e => h.ity _ (e ▸ h2.ty)))⟩
theorem ranges_iter {w : World} {b r n : Nat} {D : DataW Unit} {left : Lit → Bool} {cnt : Nat} (h : w.ranges Try.prog 9 pdr b r n D left cnt) : ∀ e, ¬ Bears w r e := by
  obtain ⟨es, clock, since, seen, c0, _, _, _, _, hr, _⟩ := h
  rintro e ⟨cs, k⟩
  rw [k] at hr
  cases hr
/-- the entry that comes is a lease of the list -/
theorem one_lease {D : DataW Unit} {G : Blk} {L : List Ls} {w0 w w1 : World} {p m n : Nat} {c T : Int} {left : Lit → Bool} (hD : ∀ q, Maps.has D (sk q) = (G q).isSome ∧ D.atKey (sk q) pd0 = pdo (G q)) (hr : RenAt w0 w p n m L G c T left w1) {kl : Lit} (hl : left kl = true) {cv : Value} {y : DataW Unit × List MemPlace}
    (hy : pdr cv = some y) (hat : ∀ zd, D.atKey kl zd = y.1) : ∃ x b, x ∈ L ∧ kl = sk x.p ∧ G x.p = some b ∧ cv = .pointer (some ⟨b, 0, none⟩) ∧ LeAt w1 b x.c x.h := by
  obtain ⟨x, hx, rfl⟩ := hr.only kl hl
  obtain ⟨b, h1, h2⟩ := hr.at' x hx
  rw [if_pos hl] at h2
  refine ⟨x, b, hx, rfl, h1, ?_, h2⟩
  obtain ⟨y1, y2⟩ := y
  have := hat pd0
  rw [(hD x.p).2, h1] at this
  have hv := pdr_inv (v := cv) (o := some b) (ps := y2) (by rw [hy]; simp only at this; rw [← this])
  exact hv
set_option maxHeartbeats 4000000 in
set_option maxRecDepth 100000 in
theorem renew_some {w0 : World} (p m n : Nat) (len : Int) (L : List Ls) (G : Blk) (c t : Int) (w : World) (hm : w0.heap.size ≤ m) (hc : w.cell? ⟨p, 1, none⟩ = some (.map (some m))) (hh : Held w0.heap.size w m n G L)
    (h : Hid (TabSt w0 w p len n L)) :
    Calls Try.prog 11 #[.pointer (some ⟨p, 0, none⟩), .int .i64 c, .int .i64 t] w (TPost w0 w p len n (renewL L c (mom t)) (.tuple #[])) := by
  have HH := Lib.hid hh
  have HC := Lib.hid (And.intro hm hc)
  obtain ⟨D, ho, hD⟩ := hh.gm
  have HD := Lib.hid hD
  obtain ⟨r, hr⟩ : ∃ r, r = w.heap.size := ⟨_, rfl⟩
  have HR := Lib.hid hr
  clear hh hD hm
  go_enter Try.func11, Try.ntmps11
  go_wp2_with (first
    | (at_range; refine wpList_range_own _ rfl _ 52 rfl 9 55 strLaw Try.underlying52 pdr m n _ rfl ho ?_; intro wr hrg0 hg0 hs0)
    | go_in)
  rw [← hr] at hrg0 hs0 ⊢
  go_frame
  have h0 : RenAt w0 w p n m L G c (mom t) (Maps.has D) wr := by
    have hb : Below w.heap.size w wr := ⟨hg0.os, hg0.tape, hg0.output, hg0.size, fun b hb => hg0.block b hb (by simp)⟩
    refine ⟨h.out.bel.trans (hb.mono h.out.bel.size), by omega, tf_below p hb, hb.block p h.out.ty.lt, fun x hx => ?_, fun kl hk => ?_, hr ▸ ranges_iter hrg0⟩
    · obtain ⟨b, h1, h2⟩ := HH.out.at' x hx
      refine ⟨b, h1, ?_⟩
      rw [(HD.out x.p).1, h1]
      exact h2.same (hb.block b h2.ty.lt)
    · obtain ⟨q, rfl⟩ := keys_str ho hk
      rw [(HD.out q).1] at hk
      obtain ⟨b, hb⟩ := Option.isSome_iff_exists.1 hk
      obtain ⟨x, hx, e, _⟩ := HH.out.low hb
      exact ⟨x, hx, by rw [e]⟩
  have H0 := Lib.hid h0
  clear h0 hg0 hs0 hr ho
  go_loopw [7] (fun _ wr => ∃ (left : Lit → Bool) (cnt : Nat), wr.ranges Try.prog 9 pdr m r n D left cnt ∧ Hid (RenAt w0 w p n m L G c (mom t) left wr))
    (fun _ wr => wr.rangeLeft m r)
  case atStart => exact ⟨_, _, hrg0, H0⟩
  case round =>
    obtain ⟨left, cnt, hrg, HA⟩ := hrel
    go_wp2_with (first
      | (at_next; refine nextP _ rfl _ rfl m r n _ _ _ rfl hrg ?_ ?_)
      | go_in)
    · intro hc0 hl0
      have HF := Lib.hid (heldAt_end h.out HC.out.1 HC.out.2 HH.out HA.out ⟨D, hrg.owns, HD.out⟩ hl0)
      go_wp2
      first
        | (go_end0; exact ⟨rfl, HF.out⟩)
        | exact bodyPost_ret (v := .tuple #[]) (results_none rfl _ _ _) rfl ⟨rfl, HF⟩
    · intro q cv kl y y2 w1 cnt1 hkx hlx hcy hat hrg1 hlt hg1 hs1 hen
      have HA1 : Hid (RenAt w0 w p n m L G c (mom t) left w1) := Lib.hid (HA.out.grown h.out.ty h.out.bel.size HR.out hg1 (ranges_iter hrg1))
      obtain ⟨x, b, hx, rfl, hb, rfl, hle⟩ := one_lease (y := (y, y2)) HD.out HA1.out hlx hcy hat
      have HX := Lib.hid (And.intro hx hb)
      have HM : Hid (cnt1 < cnt) := Lib.hid hlt
      have HRL := Lib.hid hrg.left_eq
      have e0 := hle.c0
      have e1 := hle.c1
      have f1 := bears_free hle.ty 1
      clear hkx hlx hcy hat hs1 hrg hlt hg1 hx hb
      by_cases hxc : x.c = c
      · have HS := Lib.hid (renAt_step h.out HH.out HA1.out HX.out.1 HX.out.2 (.inl ⟨hxc, rfl⟩))
        have hrg2 := hrg1.kept (row := some b) (w' := w1.setCell ⟨b, 1, none⟩ (.int .i64 (mom t))) ⟨rfl, rfl, rfl, by simp [World.setCell], fun k hk hn => Below.heap_setCell _ _ _ _ (fun e => hn (by rw [e]))⟩
          (fun e => by injection e with e; exact GM.apart ⟨D, hrg1.owns, HD.out⟩ hle.ty e.symm) (fun e => by injection e with e; exact ranges_iter hrg1 _ (e ▸ hle.ty))
        have hcc : (x.c == c) = true := by simpa using hxc
        clear hle
        go_wp2_with (fail)
        refine (moment_any t _).mono ?_
        rintro e w2 ⟨rfl, rfl⟩
        go_wp2
        go_roundw
        case rel => exact ⟨_, cnt1, hrg2, HS⟩
        case measure => rw [hrg2.left_eq, HRL.out]; exact HM.out
      · have HS := Lib.hid (renAt_step h.out HH.out HA1.out HX.out.1 HX.out.2 (.inr ⟨hxc, rfl⟩))
        have hcc : (x.c == c) = false := by simpa using hxc
        clear hle
        go_wp2
        go_roundw
        case rel => exact ⟨_, cnt1, hrg1, HS⟩
        case measure => rw [hrg1.left_eq, HRL.out]; exact HM.out
end Go.Proofs.Ytabnhiehmheocaa
