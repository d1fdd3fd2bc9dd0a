/- Package leases: Due. -/
import Derived.Test.YtabnhiehmheocaaLeaRen
import Derived.Test.YtabnhiehmheocaaSortStr
namespace Go.Proofs.Ytabnhiehmheocaa
open Go.RowKit Go.Maps

theorem range0 (w : World) : (Instr.range 52 (.map none)).run Try.prog w = .ok (.pointer (some ⟨w.heap.size, 0, none⟩)) (w.alloc (.mapIter none 0 #[] 0)) := by kernel_rfl
theorem next0 (r : Nat) (t : TypeId) (w : World) (h : w.heap[r]? = some (.mapIter none 0 #[] 0)) : (Instr.next (.pointer (some ⟨r, 0, none⟩)) false t).run Try.prog w = .ok (.tuple #[.bool false]) w := by
  simp only [Instr.next, getObj, Sem.run_bind, Sem.run, h, Result.andThen]
  rfl
set_option maxHeartbeats 4000000 in
set_option maxRecDepth 100000 in
theorem renew_none {w0 : World} (p n : Nat) (len : Int) (c t : Int) (w : World) (hc : w.cell? ⟨p, 1, none⟩ = some (.map none)) (h : Hid (TabSt w0 w p len n [])) :
    Calls Try.prog 11 #[.pointer (some ⟨p, 0, none⟩), .int .i64 c, .int .i64 t] w (TPost w0 w p len n (renewL [] c (mom t)) (.tuple #[])) := by
  have hbl : Below w.heap.size w (w.alloc (.mapIter none 0 #[] 0)) := (Below.refl _ w).alloc (Nat.le_refl _) _
  have HF : Hid (TabSt w0 (w.alloc (.mapIter none 0 #[] 0)) p len n (renewL [] c (mom t)) ∧ TF p w (w.alloc (.mapIter none 0 #[] 0))) := Lib.hid ⟨h.out.below hbl, tf_below p hbl⟩
  have hrg := range0 w
  have hnx := fun t => next0 w.heap.size t _ (heap_alloc_new w (.mapIter none 0 #[] 0))
  clear h hbl
  go_enter Try.func11, Try.ntmps11
  go_wp2_with (fail)
  obtain ⟨w1, hw1⟩ : ∃ w1, w1 = w.alloc (.mapIter none 0 #[] 0) := ⟨_, rfl⟩
  rw [← hw1] at hnx HF ⊢
  clear hrg hw1
  go_loopw [7] (fun _ wr => wr = w1) (fun _ _ => 0)
  case atStart => rfl
  case round =>
    obtain rfl := hrel
    go_wp2
    first
      | (go_end0; exact ⟨rfl, HF.out⟩)
      | exact bodyPost_ret (v := .tuple #[]) (results_none rfl _ _ _) rfl ⟨rfl, HF⟩
theorem renew_any {w0 : World} (p n : Nat) (len : Int) (L : List Ls) (c t : Int) (w : World) (h : Hid (TabSt w0 w p len n L)) :
    Calls Try.prog 11 #[.pointer (some ⟨p, 0, none⟩), .int .i64 c, .int .i64 t] w (TPost w0 w p len n (renewL L c (mom t)) (.tuple #[])) := by
  rcases h.out.v with ⟨hc, rfl⟩ | ⟨m, G, hm, hc, hh⟩
  · exact renew_none p n len c t w hc h
  · exact renew_some p m n len L G c t w hm hc hh h
theorem perm_of_mem : ∀ (l1 l2 : List ByteArray), l1.Nodup → l2.Nodup → (∀ a, a ∈ l1 ↔ a ∈ l2) → l1.Perm l2
  | [], l2, _, _, h => by
    cases l2 with
    | nil => exact List.Perm.nil
    | cons b l => exact absurd ((h b).2 (by simp)) (by simp)
  | a :: l, l2, h1, h2, h => by
    obtain ⟨s, t, rfl⟩ := List.append_of_mem ((h a).1 (by simp))
    obtain ⟨ha, hl⟩ := List.nodup_cons.1 h1
    have h3 := (List.perm_middle (a := a) (l₁ := s) (l₂ := t)).nodup_iff.1 h2
    obtain ⟨ha2, hl2⟩ := List.nodup_cons.1 h3
    refine ((perm_of_mem l (s ++ t) hl hl2 fun b => ?_).cons a).trans List.perm_middle.symm
    constructor
    · intro hb
      have hne : b ≠ a := fun e => ha (e ▸ hb)
      have := (h b).1 (List.mem_cons_of_mem _ hb)
      rw [List.mem_append, List.mem_cons] at this
      rw [List.mem_append]
      rcases this with k | k | k
      · exact .inl k
      · exact absurd k hne
      · exact .inr k
    · intro hb
      have hne : b ≠ a := fun e => ha2 (e ▸ hb)
      have : b ∈ a :: l := (h b).2 (by rw [List.mem_append, List.mem_cons]; rw [List.mem_append] at hb; exact hb.elim .inl (fun k => .inr (.inr k)))
      exact (List.mem_cons.1 this).resolve_left hne
/-- where a round of Due stands: what is gathered so far -/
structure DueAt (w : World) (L : List Ls) (T : Int) (left : Lit → Bool) (v : Value) (k : Nat) (ys : List ByteArray) (wr : World) : Prop where
  bel : Below w.heap.size w wr
  size : w.heap.size < wr.heap.size
  row : wr.ownsRow w.heap.size 9 1 v k (ys.map Value.string)
  nd : ys.Nodup
  mem : ∀ q, q ∈ ys ↔ ∃ x ∈ L, x.p = q ∧ x.h ≤ T ∧ left (sk x.p) = false
  only : ∀ kl, left kl = true → ∃ x ∈ L, kl = sk x.p
theorem srt_nodup {L : List Ls} (h : Srt L) (f : Ls → Bool) : ((L.filter f).map (·.p)).Nodup := by
  refine List.Pairwise.map _ (fun a b hab e => ?_) (h.filter f)
  rw [e, blt_irrefl] at hab
  cases hab
theorem DueAt.perm {w wr : World} {L : List Ls} {T : Int} {left : Lit → Bool} {v : Value} {k : Nat} {ys : List ByteArray} (hs : Srt L) (h : DueAt w L T left v k ys wr) : ys.Perm ((L.filter fun x => decide (x.h ≤ T) && !left (sk x.p)).map (·.p)) := by
  refine perm_of_mem _ _ h.nd (srt_nodup hs _) fun q => ?_
  rw [h.mem, List.mem_map]
  constructor
  · rintro ⟨x, h1, h2, h3, h4⟩
    exact ⟨x, List.mem_filter.2 ⟨h1, by simp [h3, h4]⟩, h2⟩
  · rintro ⟨x, h1, h2⟩
    obtain ⟨h3, h4⟩ := List.mem_filter.1 h1
    simp only [Bool.and_eq_true, decide_eq_true_eq, Bool.not_eq_true'] at h4
    exact ⟨x, h3, h2, h4.1, h4.2⟩
theorem DueAt.len {w wr : World} {L : List Ls} {T : Int} {left : Lit → Bool} {v : Value} {k : Nat} {ys : List ByteArray} (hs : Srt L) (h : DueAt w L T left v k ys wr) : k ≤ L.length := by
  have h1 := h.row.1
  simp only [List.length_map, Nat.mul_one] at h1
  have := (h.perm hs).length_eq
  rw [List.length_map] at this
  have := List.length_filter_le (fun x : Ls => decide (x.h ≤ T) && !left (sk x.p)) L
  omega
theorem due_sort {w wr : World} {L : List Ls} {T : Int} {left : Lit → Bool} {v : Value} {k : Nat} {ys : List ByteArray} (hs : Srt L) (h : DueAt w L T left v k ys wr) (hl : ∀ kl, left kl = false) : (ys.map tb).mergeSort (fun x y => decide (x ≤ y)) = (dueL L T).map tb := by
  refine sorted_due ?_ (dueL_rise hs T)
  have := h.perm hs
  simpa [hl, dueL] using this
theorem due_lease {D : DataW Unit} {G : Blk} {L : List Ls} {w0 w wr w1 : World} {m n k : Nat} {T : Int} {left : Lit → Bool} {v : Value} {ys : List ByteArray} (hD : ∀ q, Maps.has D (sk q) = (G q).isSome ∧ D.atKey (sk q) pd0 = pdo (G q)) (hh : Held w0.heap.size w m n G L)
    (hr : DueAt w L T left v k ys wr) (hb1 : Below w.heap.size w w1) {q : ByteArray} {kl : Lit} (hk : keyOf Try.prog 9 (.string q) = some kl) (hl : left kl = true) {cv : Value} {y : DataW Unit × List MemPlace}
    (hy : pdr cv = some y) (hat : ∀ zd, D.atKey kl zd = y.1) : ∃ x b, x ∈ L ∧ kl = sk x.p ∧ q = x.p ∧ cv = .pointer (some ⟨b, 0, none⟩) ∧ LeAt w1 b x.c x.h := by
  obtain ⟨x, hx, rfl⟩ := hr.only kl hl
  obtain ⟨b, h1, h2⟩ := hh.at' x hx
  refine ⟨x, b, hx, rfl, ?_, ?_, h2.same (hb1.block b h2.ty.lt)⟩
  · rw [keyOf_string Try.underlying9] at hk
    simp [mapKey, Try.underlying9, sk] at hk
    exact ByteArray.ext hk.2
  · obtain ⟨y1, y2⟩ := y
    have := hat pd0
    rw [(hD x.p).2, h1] at this
    exact pdr_inv (v := cv) (o := some b) (ps := y2) (by rw [hy]; simp only at this; rw [← this])
theorem row_below {w w' : World} {B k sz : Nat} {e : TypeId} {v : Value} {xs : List Value} (h : w.ownsRow B e sz v k xs) (hb : Below w.heap.size w w') : w'.ownsRow B e sz v k xs :=
  h.kept (row := none) ⟨hb.os, hb.tape, hb.output, hb.size, fun i hi _ => hb.block i hi⟩ (by cases h : v.ownBlock <;> simp)
theorem row_ne {w : World} {B k sz b : Nat} {e : TypeId} {v : Value} {xs : List Value} (h : w.ownsRow B e sz v k xs) (hb : ∀ e, ¬ Bears w b e) : some b ≠ v.ownBlock := by
  rcases h.2 with ⟨rfl, _⟩ | ⟨g, cap, cur, rfl, _, hg, _⟩
  · simp [Value.ownBlock]
  · intro e
    injection e with e
    simp only at e
    subst e
    exact hb _ ⟨cur, hg⟩
theorem due_left {L : List Ls} (hs : Srt L) {left : Lit → Bool} {x y : Ls} (hx : x ∈ L) (hy : y ∈ L) : (left (sk y.p) && !(sk y.p).sameKey (sk x.p)) = (if y = x then false else left (sk y.p)) := by
  by_cases e : y = x
  · subst e
    rw [if_pos rfl, WideAt.sameKey_self (sk_is _)]
    simp
  · rw [if_neg e, Maps.sameKey_ne (fun k => e (srt_one hs hy hx (sk_inj k)))]
    simp
/-- a lease that is due is gathered -/
theorem due_step {w wr w3 : World} {L : List Ls} {T : Int} {left : Lit → Bool} {v v' : Value} {k : Nat} {ys : List ByteArray} {x : Ls} (hs : Srt L) (h : DueAt w L T left v k ys wr) (hx : x ∈ L) (hd : x.h ≤ T) (hl : left (sk x.p) = true)
    (hb : Below w.heap.size w w3) (hsz : w.heap.size < w3.heap.size) (hrow : w3.ownsRow w.heap.size 9 1 v' (k + 1) (ys.map Value.string ++ [.string x.p])) : DueAt w L T (fun z => left z && !z.sameKey (sk x.p)) v' (k + 1) (ys ++ [x.p]) w3 := by
  have hnew : x.p ∉ ys := fun hm => by
    obtain ⟨y, hy, e, _, hf⟩ := (h.mem x.p).1 hm
    rw [srt_one hs hy hx e, hl] at hf
    cases hf
  refine ⟨hb, hsz, by simpa using hrow, ?_, fun q => ?_, fun kl hk => h.only kl (by cases k : left kl <;> simp_all)⟩
  · rw [List.nodup_append]
    refine ⟨h.nd, by simp, fun a ha b hb e => ?_⟩
    simp only [List.mem_singleton] at hb
    subst e
    exact hnew (hb ▸ ha)
  · rw [List.mem_append, h.mem, List.mem_singleton]
    constructor
    · rintro (⟨y, hy, e, h1, h2⟩ | e)
      · refine ⟨y, hy, e, h1, ?_⟩
        rw [due_left hs hx hy, h2, ite_self]
      · exact ⟨x, hx, e.symm, hd, by rw [due_left hs hx hx, if_pos rfl]⟩
    · rintro ⟨y, hy, e, h1, h2⟩
      rw [due_left hs hx hy] at h2
      by_cases ey : y = x
      · subst ey
        exact .inr e.symm
      · rw [if_neg ey] at h2
        exact .inl ⟨y, hy, e, h1, h2⟩
/-- one that isn't is passed by -/
theorem due_pass {w wr w3 : World} {L : List Ls} {T : Int} {left : Lit → Bool} {v : Value} {k : Nat} {ys : List ByteArray} {x : Ls} (hs : Srt L) (h : DueAt w L T left v k ys wr) (hx : x ∈ L) (hd : ¬ x.h ≤ T)
    (hb : Below w.heap.size w w3) (hsz : w.heap.size < w3.heap.size) (hrow : w3.ownsRow w.heap.size 9 1 v k (ys.map Value.string)) : DueAt w L T (fun z => left z && !z.sameKey (sk x.p)) v k ys w3 := by
  refine ⟨hb, hsz, hrow, h.nd, fun q => ?_, fun kl hk => h.only kl (by cases k : left kl <;> simp_all)⟩
  rw [h.mem]
  constructor
  · rintro ⟨y, hy, e, h1, h2⟩
    exact ⟨y, hy, e, h1, by rw [due_left hs hx hy, h2, ite_self]⟩
  · rintro ⟨y, hy, e, h1, h2⟩
    rw [due_left hs hx hy, if_neg (fun ey => hd (by rw [← ey]; exact h1))] at h2
    exact ⟨y, hy, e, h1, h2⟩
theorem infoStr : (Try.prog.info? 9).map (fun i => (i.zero, i.size, i.bytes)) = some (some (.string ⟨#[]⟩), 1, 16) := by kernel_rfl
set_option maxHeartbeats 4000000 in
set_option maxRecDepth 100000 in
theorem due_some {w0 : World} (p m n : Nat) (len : Int) (L : List Ls) (G : Blk) (t : Int) (w : World) (hL : L.length ≤ 8796093021952) (hm : w0.heap.size ≤ m) (hc : w.cell? ⟨p, 1, none⟩ = some (.map (some m))) (hh : Held w0.heap.size w m n G L)
    (h : Hid (TabSt w0 w p len n L)) :
    Calls Try.prog 16 #[.pointer (some ⟨p, 0, none⟩), .int .i64 t] w fun e w' => ∃ v k, e = .returned v ∧ w'.ownsRow w.heap.size 9 1 v k ((dueL L (mom t - lenT len)).map Value.string) ∧ Below w.heap.size w w' := by
  have HH := Lib.hid hh
  have HL := Lib.hid hL
  have HC := Lib.hid (And.intro hm hc)
  obtain ⟨D, ho, hD⟩ := hh.gm
  have HD := Lib.hid hD
  obtain ⟨r, hr⟩ : ∃ r, r = w.heap.size := ⟨_, rfl⟩
  have HR := Lib.hid hr
  have c0 := h.out.c0
  have hb1 := mom_b t
  have hb2 := lenT_b len
  have hw1 : wrap64 (mom t - lenT len) = mom t - lenT len := IntWalk.wrap64_in _ ⟨by omega, by omega⟩
  have hw3 : IntKind.i64.wrap (mom t - lenT len) = mom t - lenT len := IntWalk.i64_in _ (by omega)
  clear hh hD hm hb1 hb2 hL
  go_enter Try.func16, Try.ntmps16
  go_upto_region 3 with (fail)
  go_region_with (go_at_call 19; refine (moment_any t _).mono ?_; rintro e w2 ⟨rfl, rfl⟩)
  all_goals
    generalize hT : mom t - lenT len = T at *
    clear hw1 hw3 c0
    have ho2 : w.drew.ownsMap Try.prog 9 pdr m n D := ho
    have hc2 : w.drew.cell? ⟨p, 1, none⟩ = some (.map (some m)) := hc
    go_wp2_with (first
      | (at_range; refine wpList_range_own _ rfl _ 52 rfl 9 55 strLaw Try.underlying52 pdr m n _ rfl ho2 ?_; intro wr hrg0 hg0 hs0)
      | go_in)
    rw [show w.drew.heap.size = r from hr.symm] at hrg0 hs0 ⊢
    go_frame
    have h0 : DueAt w L T (Maps.has D) (.slice none 0 0) 0 [] wr ∧ Bears wr p 54 := by
      have hb : Below w.heap.size w wr := ⟨hg0.os, hg0.tape, hg0.output, hg0.size, fun b hb => hg0.block b hb (by simp)⟩
      refine ⟨⟨hb, by omega, World.ownsRow_nil _ _ _ _, List.nodup_nil, fun q => ⟨fun h => absurd h (by simp), ?_⟩, fun kl hk => ?_⟩, ?_⟩
      · rintro ⟨x, hx, rfl, _, hl⟩
        obtain ⟨b, h1, h2⟩ := HH.out.at' x hx
        rw [(HD.out x.p).1, h1] at hl
        cases hl
      · obtain ⟨q, rfl⟩ := keys_str ho hk
        rw [(HD.out q).1] at hk
        obtain ⟨b, hb⟩ := Option.isSome_iff_exists.1 hk
        obtain ⟨x, hx, e, _⟩ := HH.out.low hb
        exact ⟨x, hx, by rw [e]⟩
      · obtain ⟨cs, k⟩ := h.out.ty
        exact ⟨cs, (hb.block p h.out.ty.lt).trans k⟩
    have H0 := Lib.hid h0.1
    clear h0 hg0 hs0 hr ho ho2 hc2 hc
    go_loopw [6, 7, 8] (fun v _ _ wr => ∃ (left : Lit → Bool) (cnt k : Nat) (ys : List ByteArray), wr.ranges Try.prog 9 pdr m r n D left cnt ∧ Hid (DueAt w L T left v k ys wr))
      (fun _ _ _ wr => wr.rangeLeft m r)
    case atStart => exact ⟨_, _, _, _, hrg0, H0⟩
    case round =>
      obtain ⟨left, cnt, k, ys, hrg, HA⟩ := hrel
      go_wp2_with (first
        | (at_next; refine nextP _ rfl _ rfl m r n _ _ _ rfl hrg ?_ ?_)
        | go_in)
      · intro hc0 hl0
        have hs := due_sort h.out.srt HA.out hl0
        have hk := HA.out.len h.out.srt
        have hrow := HA.out.row
        have HB := Lib.hid HA.out.bel
        have HT := Lib.hid hT
        have hkk : k < 4611686018427387904 := by have := HL.out; omega
        clear hT
        go_wp2_with (fail)
        refine (sort_row w.heap.size k _ ys _ _ hkk hrow hs).mono ?_
        rintro e w2 ⟨rfl, hrow2, ht⟩
        have HX := Lib.hid (show w2.ownsRow w.heap.size 9 1 u6 k ((dueL L T).map Value.string) ∧ Below w.heap.size w w2 from ⟨hrow2, ht.from HB.out (fun i hi => (hrow.lt i hi.symm).1)⟩)
        clear hrow hrow2 ht
        go_wp2
        go_ret
        exact ⟨_, k, rfl, by rw [HT.out]; exact HX.out.1, HX.out.2⟩
      · intro q cv kl y y2 w1 cnt1 hkx hlx hcy hat hrg1 hlt hg1 hs1 hen
        have HB1 : Hid (Below w.heap.size w w1) := Lib.hid (HA.out.bel.grown hg1 HA.out.bel.size (fun j hj => by cases hj; have := HR.out; omega))
        obtain ⟨x, b, hx, rfl, rfl, rfl, hle⟩ := due_lease (y := (y, y2)) HD.out HH.out HA.out HB1.out hkx hlx hcy hat
        have HX := Lib.hid hx
        have HLX := Lib.hid hlx
        have HS1 := Lib.hid hs1
        have HM : Hid (cnt1 < cnt) := Lib.hid hlt
        have HRL := Lib.hid hrg.left_eq
        have HSZ := Lib.hid (h.out.sz x hx)
        have e1 := hle.c1
        have hrow1 : w1.ownsRow w.heap.size 9 1 u6 k (ys.map Value.string) := HA.out.row.kept hg1 (.inr (fun e => by
          have := HA.out.row.lt r e
          have h2 := hrg.lt
          rcases HA.out.row.2 with ⟨e2, _⟩ | ⟨g, cap, cur, e2, _, hg, _⟩
          · rw [e2] at e; cases e
          · rw [e2] at e
            injection e with e
            simp only at e
            subst e
            exact ranges_iter hrg _ ⟨cur, hg⟩))
        have hkL := HA.out.len h.out.srt
        have HKL : Hid (k ≤ 8796093021952) := Lib.hid (Nat.le_trans hkL HL.out)
        clear hkx hlx hcy hat hs1 hrg hlt hg1 hx hkL
        by_cases hd : x.h ≤ T
        · have hdd : decide (x.h ≤ T) = true := by simpa using hd
          have HD1 := Lib.hid hd
          clear hle hd
          go_wp2_with (fail)
          refine (clone_any x.p _ (by have := HSZ.out; omega)).mono ?_
          rintro e w2 ⟨rfl, hb2⟩
          have hrow2 := row_below hrow1 hb2
          have HR2 := Lib.hid hrow2
          have HB2 := Lib.hid hb2
          have HROW1 := Lib.hid hrow1
          have hrg2 := hrg1.kept (row := none) (w' := w2) ⟨hb2.os, hb2.tape, hb2.output, hb2.size, fun i hi _ => hb2.block i hi⟩ (by simp) (by simp)
          obtain ⟨i0, hi, hz0, hz1, hz2⟩ := info_parts infoStr
          have HRG2 := Lib.hid hrg2
          clear hb2 hrow1 hrow2 hrg1 hrg2 hT
          go_wp2_with (first
            | (at_builtin; refine wpList_append_own _ rfl _ _ 42 rfl w.heap.size 9 i0 (.string ⟨#[]⟩) 1 16 Try.underlying42 hi hz0 hz1 hz2 rfl (by decide) _ _ _ rfl (HR2.out.alloc _) ⟨w2.heap.size, 0, none⟩ 1 1 [.string x.p] rfl rfl ?c1 ?c2 ?c3 ?c4 ?c5 ?_)
            | go_in)
          case c1 =>
            intro j u hj
            match j, hj with
            | 0, hj => simp at hj; subst hj; simp [Addr.add]
          case c2 => first | rfl | (intro u hu; simp at hu; subst hu; rfl)
          case c3 => have := HKL.out; unfold maxLen; omega
          case c4 => have := HKL.out; omega
          case c5 => have := HB1.out.size; have := HB2.out.size; simp; omega
          intro v' w3 hown' hgrow' hfresh
          have hB2 := HB1.out.trans (HB2.out.mono HB1.out.size)
          have hsz3 : w.heap.size < w3.heap.size := by have := hgrow'.size; have := hB2.size; have := HA.out.size; have := HB2.out.size; have := HS1.out; simp only [World.size_alloc] at *; omega
          have HF := Lib.hid (due_step h.out.srt HA.out HX.out HD1.out HLX.out ((hB2.alloc hB2.size _).grown hgrow' (hB2.alloc hB2.size _).size (fun j hj => (HR2.out.lt j hj).1)) hsz3 hown')
          have hrg3 := (HRG2.out.alloc _).kept hgrow' (fun e => by
            rcases HR2.out.2 with ⟨e2, _⟩ | ⟨g, cap, cur, e2, _, hg, _⟩
            · rw [e2] at e; cases e
            · rw [e2] at e
              injection e with e
              simp only at e
              subst e
              exact GM.apart ⟨D, HRG2.out.owns, HD.out⟩ ⟨cur, hg⟩ rfl) (row_ne HR2.out (ranges_iter HRG2.out))
          clear hown' hgrow' hfresh hB2 hsz3
          go_wp2
          go_roundw
          case rel => exact ⟨_, cnt1, _, _, hrg3, HF⟩
          case measure => rw [hrg3.left_eq, HRL.out]; exact HM.out
        · have hdd : decide (x.h ≤ T) = false := by simpa using hd
          have HF := Lib.hid (due_pass h.out.srt HA.out HX.out hd HB1.out (by have := HS1.out; have := HA.out.size; omega) hrow1)
          clear hle hd hrow1
          go_wp2
          go_roundw
          case rel => exact ⟨_, cnt1, _, _, hrg1, HF⟩
          case measure => rw [hrg1.left_eq, HRL.out]; exact HM.out
set_option maxHeartbeats 4000000 in
set_option maxRecDepth 100000 in
theorem due_none {w0 : World} (p n : Nat) (len : Int) (t : Int) (w : World) (hc : w.cell? ⟨p, 1, none⟩ = some (.map none)) (h : Hid (TabSt w0 w p len n [])) :
    Calls Try.prog 16 #[.pointer (some ⟨p, 0, none⟩), .int .i64 t] w fun e w' => ∃ v k, e = .returned v ∧ w'.ownsRow w.heap.size 9 1 v k ((dueL [] (mom t - lenT len)).map Value.string) ∧ Below w.heap.size w w' := by
  have HB : Hid (Below w.heap.size w (w.drew.alloc (.mapIter none 0 #[] 0))) := Lib.hid ((Below.refl _ w).drew.alloc (Nat.le_refl _) _)
  have hrg := range0 w.drew
  have hnx := fun t => next0 w.drew.heap.size t _ (heap_alloc_new w.drew (.mapIter none 0 #[] 0))
  have c0 := h.out.c0
  have hc2 : w.drew.cell? ⟨p, 1, none⟩ = some (.map none) := hc
  have hb1 := mom_b t
  have hb2 := lenT_b len
  have hw1 : wrap64 (mom t - lenT len) = mom t - lenT len := IntWalk.wrap64_in _ ⟨by omega, by omega⟩
  have hw3 : IntKind.i64.wrap (mom t - lenT len) = mom t - lenT len := IntWalk.i64_in _ (by omega)
  clear h hb1 hb2
  go_enter Try.func16, Try.ntmps16
  go_upto_region 3 with (fail)
  go_region_with (go_at_call 19; refine (moment_any t _).mono ?_; rintro e w2 ⟨rfl, rfl⟩)
  all_goals
    generalize mom t - lenT len = T at *
    clear hw1 hw3 c0
    generalize w.drew = wd at *
    go_wp2_with (fail)
    obtain ⟨w1, hw1⟩ : ∃ w1, w1 = wd.alloc (.mapIter none 0 #[] 0) := ⟨_, rfl⟩
    rw [← hw1] at hnx HB ⊢
    clear hrg hw1
    go_loopw [6, 7, 8] (fun v _ _ wr => v = .slice none 0 0 ∧ wr = w1) (fun _ _ _ _ => 0)
    case atStart => exact ⟨rfl, rfl⟩
    case round =>
      obtain ⟨rfl, rfl⟩ := hrel
      go_wp2_with (fail)
      refine (Try.slices_Sort_string_none _ _ _).mono ?_
      rintro e w2 ⟨rfl, rfl⟩
      go_wp2
      go_ret
      exact ⟨_, 0, rfl, World.ownsRow_nil _ _ _ _, HB.out⟩
/-- the paths whose leases have run out -/
theorem due_any {w0 : World} (p n : Nat) (len : Int) (L : List Ls) (t : Int) (w : World) (hL : L.length ≤ 8796093021952) (h : Hid (TabSt w0 w p len n L)) :
    Calls Try.prog 16 #[.pointer (some ⟨p, 0, none⟩), .int .i64 t] w fun e w' => ∃ v k, e = .returned v ∧ k = (dueL L (mom t - lenT len)).length ∧ w'.ownsRow w.heap.size 9 1 v k ((dueL L (mom t - lenT len)).map Value.string) ∧ Below w.heap.size w w' := by
  have hx : Calls Try.prog 16 #[.pointer (some ⟨p, 0, none⟩), .int .i64 t] w fun e w' => ∃ v k, e = .returned v ∧ w'.ownsRow w.heap.size 9 1 v k ((dueL L (mom t - lenT len)).map Value.string) ∧ Below w.heap.size w w' := by
    rcases h.out.v with ⟨hc, rfl⟩ | ⟨m, G, hm, hc, hh⟩
    · exact due_none p n len t w hc h
    · exact due_some p m n len L G t w hL hm hc hh h
  refine hx.mono ?_
  rintro e w' ⟨v, k, he, hr, hb⟩
  exact ⟨v, k, he, by have := hr.1; simpa using this.symm, hr, hb⟩
end Go.Proofs.Ytabnhiehmheocaa
