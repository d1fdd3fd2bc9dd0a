/- The reference's table of leases: Drop, Grant, Renew, Due. -/
import Derived.Test.YtabnhiehmheocaaLeaDue
import Derived.Test.YtabnhiehmheocaaTexts16
namespace Go.Proofs.Ytabnhiehmheocaa
open Go.RowKit Go.Maps

abbrev lsC (x : Ls) : List Value := [.string x.p, .int .i64 x.c, .int .i64 x.h]
def cellsL (L : List Ls) : List Value := L.flatMap lsC
theorem cellsL_len (L : List Ls) : (cellsL L).length = L.length * 3 := by
  induction L with
  | nil => rfl
  | cons x L ih => rw [cellsL, List.flatMap_cons, List.length_append, ← cellsL, ih]; simp; omega
theorem cellsL_get : ∀ (L : List Ls) (i : Nat) (x : Ls), L[i]? = some x → ∀ j u, (lsC x)[j]? = some u → (cellsL L)[i * 3 + j]? = some u
  | [], i, x, h => by simp at h
  | y :: L, 0, x, h => fun j u hj => by
    simp only [List.getElem?_cons_zero, Option.some.injEq] at h
    subst h
    have hj3 : j < 3 := by have := (List.getElem?_eq_some_iff.1 hj).1; simpa using this
    rw [cellsL, List.flatMap_cons, List.getElem?_append_left (by simp; omega), Nat.zero_mul, Nat.zero_add]
    exact hj
  | y :: L, i + 1, x, h => fun j u hj => by
    rw [cellsL, List.flatMap_cons, List.getElem?_append_right (by simp; omega), ← cellsL]
    rw [show (i + 1) * 3 + j - (lsC y).length = i * 3 + j by simp; omega]
    exact cellsL_get L i x (by simpa using h) j u hj
theorem cellsL_app (L M : List Ls) : cellsL (L ++ M) = cellsL L ++ cellsL M := List.flatMap_append ..
/-- a reference's table of the law's own at q -/
structure RefSt (w0 w : World) (q : Nat) (len : Int) (v : Value) (L : List Ls) : Prop where
  bel : Below w0.heap.size w0 w
  lo : w0.heap.size ≤ q
  ty : Bears w q 29
  c0 : w.cell? ⟨q, 0, none⟩ = some (.int .i64 len)
  c1 : w.cell? ⟨q, 1, none⟩ = some v
  row : w.ownsRow w0.heap.size 41 3 v L.length (cellsL L)
theorem infoLs : (Try.prog.info? 41).map (fun i => (i.zero, i.size, i.bytes)) = some (some (.agg #[.string ⟨#[]⟩, .int .i64 0, .int .i64 0]), 3, 32) := by kernel_rfl
theorem clamp_any (n k : Int) (w : World) : Calls Try.prog 21 #[.int .i64 n, .int .i64 k] w fun e w' => e = .returned (.int .i64 (if n < k then k else if 1099511627776 < n then 1099511627776 else n)) ∧ w = w' := by
  by_cases h : n < k
  · have h1 : decide (n < k) = true := by simpa using h
    rw [if_pos h]
    clear h
    go_enter Try.func21, Try.ntmps21
    go_wp2
    go_ret
    exact ⟨rfl, rfl⟩
  · have h1 : decide (n < k) = false := by simpa using h
    rw [if_neg h]
    clear h
    by_cases h2 : 1099511627776 < n
    · have h3 : decide (1099511627776 < n) = true := by simpa using h2
      rw [if_pos h2]
      clear h2
      go_enter Try.func21, Try.ntmps21
      go_wp2
      go_ret
      exact ⟨rfl, rfl⟩
    · have h3 : decide (1099511627776 < n) = false := by simpa using h2
      rw [if_neg h2]
      clear h2
      go_enter Try.func21, Try.ntmps21
      go_wp2
      go_ret
      exact ⟨rfl, rfl⟩
theorem clamp_mom (n : Int) (w : World) : Calls Try.prog 21 #[.int .i64 n, .int .i64 0] w fun e w' => e = .returned (.int .i64 (mom n)) ∧ w = w' :=
  (clamp_any n 0 w).mono fun _ _ ⟨he, hw⟩ => ⟨by rw [he]; congr 2; unfold mom; split <;> (try split) <;> omega, hw⟩
theorem clamp_len (n : Int) (w : World) : Calls Try.prog 21 #[.int .i64 n, .int .i64 1] w fun e w' => e = .returned (.int .i64 (lenT n)) ∧ w = w' :=
  (clamp_any n 1 w).mono fun _ _ ⟨he, hw⟩ => ⟨by rw [he]; congr 2; unfold lenT; split <;> (try split) <;> omega, hw⟩
theorem RefSt.below {w0 w w' : World} {q : Nat} {len : Int} {v : Value} {L : List Ls} (h : RefSt w0 w q len v L) (hb : Below w.heap.size w w') : RefSt w0 w' q len v L := by
  have e := hb.block q h.ty.lt
  exact ⟨h.bel.trans (hb.mono h.bel.size), h.lo, by obtain ⟨cs, k⟩ := h.ty; exact ⟨cs, e.trans k⟩, (cell_eq e 0).trans h.c0, (cell_eq e 1).trans h.c1, row_below h.row hb⟩
theorem row_base {w : World} {B B' k sz : Nat} {e : TypeId} {v : Value} {xs : List Value} (h : w.ownsRow B e sz v k xs) (hB : B' ≤ B) : w.ownsRow B' e sz v k xs :=
  ⟨h.1, h.2.imp id fun ⟨g, cap, cur, q1, q2, q3⟩ => ⟨g, cap, cur, q1, Nat.le_trans hB q2, q3⟩⟩
/-- where a lease lies -/
theorem RefSt.cells {w0 w : World} {q : Nat} {len : Int} {v : Value} {L : List Ls} (h : RefSt w0 w q len v L) {k : Nat} {x : Ls} (hk : L[k]? = some x) :
    ∃ g cap, v = .slice (some ⟨g, 0, none⟩) L.length cap ∧ w.cell? ⟨g, k * 3, none⟩ = some (.string x.p) ∧ w.cell? ⟨g, k * 3 + 1, none⟩ = some (.int .i64 x.c) ∧ w.cell? ⟨g, k * 3 + 2, none⟩ = some (.int .i64 x.h) := by
  have hkl := (List.getElem?_eq_some_iff.1 hk).1
  rcases h.row.2 with ⟨_, h0⟩ | ⟨g, cap, cur, rfl, h2, h3⟩
  · omega
  · have hc := fun j u hj => cellsL_get L k x hk j u hj
    refine ⟨g, cap, rfl, ?_, ?_, ?_⟩
    · rw [h.row.cellAt (k * 3) (by omega)]; exact hc 0 _ rfl
    · rw [h.row.cellAt (k * 3 + 1) (by omega)]; exact hc 1 _ rfl
    · rw [h.row.cellAt (k * 3 + 2) (by omega)]; exact hc 2 _ rfl
theorem RefSt.slice {w0 w : World} {q : Nat} {len : Int} {v : Value} {L : List Ls} (h : RefSt w0 w q len v L) : ∃ a cap, v = .slice a L.length cap := by
  rcases h.row.2 with ⟨h1, h0⟩ | ⟨g, cap, cur, rfl, _⟩
  · exact ⟨none, 0, by rw [h0, h1]⟩
  · exact ⟨_, _, rfl⟩
/-- what has been gathered so far, in new memory -/
structure Bld (w wr : World) (o : Value) (O : List Ls) : Prop where
  bel : Below w.heap.size w wr
  row : wr.ownsRow w.heap.size 41 3 o O.length (cellsL O)
theorem Bld.put {w wr w2 : World} {o o' : Value} {O : List Ls} {x : Ls} (h : Bld w wr o O) {ob : Obj} (hr : w2.ownsRow w.heap.size 41 3 o' (O.length + 1) (cellsL O ++ lsC x)) (hg : (wr.alloc ob).grownBy w2 o.ownBlock) : Bld w w2 o' (O ++ [x]) :=
  ⟨(h.bel.alloc h.bel.size ob).grown hg (h.bel.alloc h.bel.size ob).size (fun j hj => (h.row.lt j hj).1), by rw [List.length_append, cellsL_app]; simpa [cellsL] using hr⟩
theorem Bld.slice {w wr : World} {o : Value} {O : List Ls} (h : Bld w wr o O) : ∃ a c, o = .slice a O.length c := by
  rcases h.row.2 with ⟨h1, h0⟩ | ⟨g, cap, cur, rfl, _⟩
  · exact ⟨none, 0, by rw [h0, h1]⟩
  · exact ⟨_, _, rfl⟩
theorem bld_nil (w : World) : Bld w w (.slice none 0 0) [] := ⟨Below.refl _ _, World.ownsRow_nil _ _ _ _⟩
/-- nothing has turned but block p, the blocks of leases and new blocks -/
structure RF (w w' : World) (p : Nat) : Prop where
  size : w.heap.size ≤ w'.heap.size
  block : ∀ b, b < w.heap.size → ¬ b = p → ¬ Bears w b 41 → w'.heap[b]? = w.heap[b]?
theorem RF.refl (w : World) (p : Nat) : RF w w p := ⟨Nat.le_refl _, fun _ _ _ _ => rfl⟩
theorem RF.trans {w w1 w2 : World} {p : Nat} (h : RF w w1 p) (k : RF w1 w2 p) : RF w w2 p :=
  ⟨Nat.le_trans h.size k.size, fun b hb hn he => by
    have e := h.block b hb hn he
    exact (k.block b (Nat.lt_of_lt_of_le hb h.size) hn (fun ⟨cs, q⟩ => he ⟨cs, e.symm.trans q⟩)).trans e⟩
/-- the gathered list becomes the table's -/
theorem ref_store {w0 w wr : World} {q : Nat} {len : Int} {v o : Value} {L O : List Ls} (h : RefSt w0 w q len v L) (hb : Bld w wr o O) : RefSt w0 (wr.setCell ⟨q, 1, none⟩ o) q len o O ∧ RF w (wr.setCell ⟨q, 1, none⟩ o) q := by
  have h1 := h.below hb.bel
  have hq : ¬ o.ownBlock = some q := fun e => by
    have := (hb.row.lt q e).1
    have := h.ty.lt
    omega
  refine ⟨⟨h1.bel.setCell (p := ⟨q, 1, none⟩) h.lo _, h.lo, bears_set _ h1.ty, (World.cell?_setCell_other _ _ _ _ (by simp)).trans h1.c0, World.cell?_setCell_same _ _ _ h1.c1, ?_⟩, ⟨Nat.le_trans hb.bel.size (by simp), fun b hbe hn _ => ?_⟩⟩
  · exact ownsRow_setCell_other (row_base hb.row h.bel.size) (a := ⟨q, 1, none⟩) hq o
  · exact (Below.heap_setCell _ _ _ _ hn).trans (hb.bel.block b hbe)
def RPost (w0 w : World) (p : Nat) (len : Int) (L' : List Ls) (w' : World) : Prop := ∃ o, Hid (RefSt w0 w' p len o L' ∧ RF w w' p)
theorem dropL_take {L : List Ls} {q : ByteArray} {k : Nat} {x : Ls} (h : L[k]? = some x) : dropL (L.take (k + 1)) q = dropL (L.take k) q ++ (if x.p = q then [] else [x]) := by
  unfold dropL
  rw [List.take_add_one, h, List.filter_append]
  by_cases e : x.p = q <;> simp [e]
theorem str_ne {a b : ByteArray} (h : ¬ a = b) : (a.toList == b.toList) = false := by
  rw [Lib.toList_data, Lib.toList_data, beq_eq_false_iff_ne]
  exact fun e => h (ByteArray.ext (Array.toList_inj.1 e))
set_option maxHeartbeats 4000000 in
set_option maxRecDepth 100000 in
theorem rdrop_any {w0 : World} (p : Nat) (len : Int) (v : Value) (L : List Ls) (q : ByteArray) (w : World) (hL : L.length ≤ 4398046510000) (h : Hid (RefSt w0 w p len v L)) :
    Calls Try.prog 14 #[.pointer (some ⟨p, 0, none⟩), .string q] w fun e w' => e = .returned (.tuple #[]) ∧ RPost w0 w p len (dropL L q) w' := by
  have HL := Lib.hid hL
  have hLi : (L.length : Int) ≤ 9223372036854775807 := by omega
  obtain ⟨i0, hi, hz0, hz1, hz2⟩ := info_parts infoLs
  have HI := Lib.hid (And.intro hi (And.intro hz0 (And.intro hz1 hz2)))
  have hpl := Lib.hid h.out.ty.lt
  clear hL hi hz0 hz1 hz2
  go_enter Try.func14, Try.ntmps14
  go_wp2
  go_loopw [4, 5] (fun o i wr => ∃ k, k ≤ L.length ∧ i = .int .i64 k ∧ Hid (Bld w wr o (dropL (L.take k) q))) (fun _ i _ => L.length - (intOf i).toNat)
  case atStart => exact ⟨0, Nat.zero_le _, rfl, Lib.hid (bld_nil w)⟩
  case round =>
    obtain ⟨k, hk, rfl, HB⟩ := hrel
    have hr := h.out.below HB.out.bel
    have c1 := hr.c1
    by_cases hkn : k < L.length
    · obtain ⟨x, hx⟩ : ∃ x, L[k]? = some x := ⟨_, List.getElem?_eq_getElem hkn⟩
      obtain ⟨g, cap, rfl, d0, d1, d2⟩ := hr.cells hx
      have hkn' : (k : Int) < L.length := by omega
      have hw1 : wrap64 ((k : Int) + 1) = (k : Int) + 1 := IntWalk.wrap64_in _ ⟨by omega, by have := HL.out; omega⟩
      have hnx := dropL_take (q := q) hx
      by_cases hq : x.p = q
      · rw [if_pos hq, List.append_nil] at hnx
        have heq : (x.p.toList == q.toList) = true := by rw [hq]; simp
        have HN := Lib.hid hnx
        clear hr hx hnx hq
        go_wp2
        go_roundw
        case rel => exact ⟨k + 1, by omega, by simp, Lib.hid (by rw [HN.out]; exact HB.out)⟩
        case measure => simp [intOf]; omega
      · rw [if_neg hq] at hnx
        have HN := Lib.hid hnx
        have hne := str_ne hq
        have hlen : (dropL (L.take k) q).length ≤ L.length := Nat.le_trans (length_dropL _ _) (by simp; omega)
        have HLN := Lib.hid hlen
        clear hr hx hnx hq hlen
        go_wp2_with (first
          | (at_builtin; refine wpList_append_own _ rfl _ _ 27 rfl w.heap.size 41 i0 (.agg #[.string ⟨#[]⟩, .int .i64 0, .int .i64 0]) 3 32 Try.underlying27 HI.out.1 HI.out.2.1 HI.out.2.2.1 HI.out.2.2.2 rfl (by decide) _ _ _ rfl (HB.out.row.alloc _) ⟨wr.heap.size, 0, none⟩ 1 1 (lsC x) rfl rfl ?c1 ?c2 ?c3 ?c4 ?c5 ?_)
          | go_in)
        case c1 =>
          intro j u hj
          match j, hj with
          | 0, hj => simp at hj; subst hj; simp [Addr.add]
          | 1, hj => simp at hj; subst hj; simp [Addr.add]
          | 2, hj => simp at hj; subst hj; simp [Addr.add]
        case c2 => intro u hu; simp at hu; rcases hu with rfl | rfl | rfl <;> rfl
        case c3 => have := HLN.out; have := HL.out; unfold maxLen; omega
        case c4 => have := HLN.out; have := HL.out; omega
        case c5 => have := HB.out.bel.size; simp; omega
        intro o' w2 hown' hgrow' _
        have HB2 := Lib.hid (HB.out.put hown' hgrow')
        clear hown' hgrow'
        go_wp2
        go_roundw
        case rel => exact ⟨k + 1, by omega, by simp, Lib.hid (by rw [HN.out]; exact HB2.out)⟩
        case measure => simp [intOf]; omega
    · have hkl : k = L.length := by omega
      subst hkl
      obtain ⟨a, cap, rfl⟩ := hr.slice
      rw [List.take_length] at HB
      obtain ⟨a2, c2, rfl⟩ := HB.out.slice
      have HF : RPost _ _ _ _ _ _ := ⟨_, Lib.hid (ref_store h.out HB.out)⟩
      have f1 := bears_free hr.ty 1
      clear hr hkn hk
      go_wp2
      first
        | exact bodyPost_ret (v := .tuple #[]) (results_none rfl _ _ _) rfl ⟨rfl, HF⟩
        | (go_end0; exact ⟨rfl, HF⟩)
        | (go_end0; exact ⟨rfl, HF.out⟩)
        | (go_end0; exact HF)
theorem insL_split (l : Ls) : ∀ L : List Ls, insL l L = (L.takeWhile fun x => blt x.p l.p) ++ l :: (L.dropWhile fun x => blt x.p l.p)
  | [] => rfl
  | x :: L => by
    unfold insL
    cases h : blt x.p l.p
    · simp [h]
    · simp [h, insL_split l L]
/-- how many stand ahead -/
def cut (l : Ls) (L : List Ls) : Nat := (L.takeWhile fun x => blt x.p l.p).length
theorem takeW_cut (f : Ls → Bool) (L : List Ls) : L.takeWhile f = L.take (L.takeWhile f).length ∧ L.dropWhile f = L.drop (L.takeWhile f).length := by
  induction L with
  | nil => exact ⟨rfl, rfl⟩
  | cons x L ih =>
    cases h : f x
    · simp [h]
    · simp only [List.takeWhile_cons, List.dropWhile_cons, h, if_true, List.length_cons, List.take_succ_cons, List.drop_succ_cons]
      exact ⟨by rw [← ih.1], ih.2⟩
theorem insL_cut (l : Ls) (L : List Ls) : insL l L = L.take (cut l L) ++ l :: L.drop (cut l L) := by
  rw [insL_split, (takeW_cut _ L).1, (takeW_cut _ L).2]
  rfl
theorem cut_le (l : Ls) (L : List Ls) : cut l L ≤ L.length := (List.takeWhile_sublist _).length_le
theorem cut_below (l : Ls) : ∀ (L : List Ls) (k : Nat) (x : Ls), L[k]? = some x → k < cut l L → blt x.p l.p = true
  | y :: L, 0, x, h, hk => by
    simp only [List.getElem?_cons_zero, Option.some.injEq] at h
    subst h
    cases e : blt y.p l.p
    · simp [cut, e] at hk
    · rfl
  | y :: L, k + 1, x, h, hk => by
    cases e : blt y.p l.p
    · simp [cut, e] at hk
    · exact cut_below l L k x (by simpa using h) (by simpa [cut, e] using hk)
theorem cut_at (l : Ls) : ∀ (L : List Ls) (x : Ls), L[cut l L]? = some x → blt x.p l.p = false
  | y :: L, x, h => by
    cases e : blt y.p l.p
    · simp [cut, e] at h
      rw [← h]; exact e
    · simp only [cut, List.takeWhile_cons, e, if_true, List.length_cons, List.getElem?_cons_succ] at h
      exact cut_at l L x h
set_option maxHeartbeats 4000000 in
set_option maxRecDepth 100000 in
theorem rgrant_any {w0 : World} (p : Nat) (len : Int) (v : Value) (L0 : List Ls) (q : ByteArray) (c n : Int) (w : World) (hL : L0.length ≤ 4398046510000) (h : Hid (RefSt w0 w p len v L0)) :
    Calls Try.prog 10 #[.pointer (some ⟨p, 0, none⟩), .string q, .int .i64 c, .int .i64 n] w fun e w' => e = .returned (.tuple #[]) ∧ RPost w0 w p len (grantL L0 q c (mom n)) w' := by
  obtain ⟨i0, hi, hz0, hz1, hz2⟩ := info_parts infoLs
  have HI := Lib.hid (And.intro hi (And.intro hz0 (And.intro hz1 hz2)))
  have hL2 := Nat.le_trans (length_dropL L0 q) hL
  go_enter Try.func10, Try.ntmps10
  go_wp2_with (fail)
  refine (rdrop_any p len v L0 q _ hL h).mono ?_
  rintro e w1 ⟨rfl, v1, H1⟩
  obtain ⟨l, hl⟩ : ∃ l : Ls, l = ⟨q, c, mom n⟩ := ⟨_, rfl⟩
  obtain ⟨L, hLd⟩ : ∃ L, L = dropL L0 q := ⟨_, rfl⟩
  have HG : Hid (grantL L0 q c (mom n) = L.take (cut l L) ++ l :: L.drop (cut l L)) := Lib.hid (by rw [← insL_cut, hl, hLd]; rfl)
  rw [← hLd] at H1 hL2
  have HR1 : Hid (RefSt w0 w1 p len v1 L) := Lib.hid H1.out.1
  have HF1 : Hid (RF w w1 p) := Lib.hid H1.out.2
  have HCL := Lib.hid (cut_le l L)
  have hLi : (L.length : Int) ≤ 9223372036854775807 := by omega
  have HL := Lib.hid hL2
  have hlq : l.p = q := by rw [hl]
  have HLQ := Lib.hid (And.intro hl hlq)
  obtain ⟨m, hm⟩ : ∃ m, m = cut l L := ⟨_, rfl⟩
  rw [← hm] at HG HCL
  have HM := Lib.hid hm
  clear H1 hLd hL hL2 hi hz0 hz1 hz2 h hl hlq hm
  go_wp2
  go_loopw [8, 9] (fun o i wr => ∃ k, k ≤ m ∧ i = .int .i64 k ∧ Hid (Bld w1 wr o (L.take k))) (fun _ i _ => L.length - (intOf i).toNat)
  case atStart => exact ⟨0, Nat.zero_le _, rfl, Lib.hid (bld_nil w1)⟩
  case round =>
    obtain ⟨k, hk, rfl, HB⟩ := hrel
    have hr := HR1.out.below HB.out.bel
    have c1 := hr.c1
    by_cases hkm : k < m
    · have hkn : k < L.length := by have := HCL.out; omega
      obtain ⟨x, hx⟩ : ∃ x, L[k]? = some x := ⟨_, List.getElem?_eq_getElem hkn⟩
      obtain ⟨g, cap, rfl, d0, d1, d2⟩ := hr.cells hx
      have hkn' : (k : Int) < L.length := by omega
      have hlt : Op.bytesLess x.p.toList q.toList = true := by
        rw [Lib.toList_data, Lib.toList_data, bytesLess_lt]
        have := cut_below l L k x hx (by rw [← HM.out]; exact hkm)
        rw [HLQ.out.2] at this
        exact this
      have HN := Lib.hid (show L.take (k + 1) = L.take k ++ [x] by rw [List.take_add_one, hx]; rfl)
      have HLN := Lib.hid (show (L.take k).length ≤ L.length by simp; omega)
      obtain ⟨O, hO⟩ : ∃ O, O = L.take k := ⟨_, rfl⟩
      rw [← hO] at HB HN HLN
      clear hr hx hO
      go_wp2_with (first
        | (at_builtin; refine wpList_append_own _ rfl _ _ 27 rfl w1.heap.size 41 i0 (.agg #[.string ⟨#[]⟩, .int .i64 0, .int .i64 0]) 3 32 Try.underlying27 HI.out.1 HI.out.2.1 HI.out.2.2.1 HI.out.2.2.2 rfl (by decide) _ _ _ rfl (HB.out.row.alloc _) ⟨wr.heap.size, 0, none⟩ 1 1 (lsC x) rfl rfl ?c1 ?c2 ?c3 ?c4 ?c5 ?_)
        | go_in)
      case c1 =>
        intro j u hj
        match j, hj with
        | 0, hj => simp at hj; subst hj; simp [Addr.add]
        | 1, hj => simp at hj; subst hj; simp [Addr.add]
        | 2, hj => simp at hj; subst hj; simp [Addr.add]
      case c2 => intro u hu; simp at hu; rcases hu with rfl | rfl | rfl <;> rfl
      case c3 => have := HLN.out; have := HL.out; unfold maxLen; omega
      case c4 => have := HLN.out; have := HL.out; omega
      case c5 => have := HB.out.bel.size; simp; omega
      intro o' w2 hown' hgrow' _
      have HB2 := Lib.hid (HB.out.put hown' hgrow')
      clear hown' hgrow'
      go_wp2
      go_roundw
      case rel => exact ⟨k + 1, by omega, by simp, Lib.hid (by rw [HN.out]; exact HB2.out)⟩
      case measure => simp [intOf]; have := HCL.out; omega
    · have hkl : k = m := by omega
      subst hkl
      have f1 := bears_free hr.ty 1
      obtain ⟨O, hO⟩ : ∃ O, O = L.take k := ⟨_, rfl⟩
      rw [← hO] at HB
      have HO := Lib.hid (And.intro hO (show O.length ≤ L.length by rw [hO]; simp; omega))
      clear hO hkm hk
      by_cases hkn : k < L.length
      case' pos =>
        obtain ⟨x, hx⟩ : ∃ x, L[k]? = some x := ⟨_, List.getElem?_eq_getElem hkn⟩
        obtain ⟨g, cap, rfl, d0, d1, d2⟩ := hr.cells hx
        have hkn' : (k : Int) < L.length := by omega
        have hlt : Op.bytesLess x.p.toList q.toList = false := by
          rw [Lib.toList_data, Lib.toList_data, bytesLess_lt]
          have := cut_at l L x (by rw [← HM.out]; exact hx)
          rw [HLQ.out.2] at this
          exact this
        clear hr hx
        go_upto_region 6 with (fail)
        clear d0 d1 d2 hkn' hlt hkn
      case' neg =>
        obtain ⟨a, cap, rfl⟩ := hr.slice
        have hkn2 : decide ((k : Int) < (L.length : Int)) = false := by simp; omega
        have hkn3 : decide (k < L.length) = false := by simp; omega
        clear hr
        go_upto_region 6 with (fail)
        clear hkn2 hkn3 hkn
      all_goals
        go_wp2_with (first
          | (go_at_call 21; refine (clamp_mom n _).mono ?_; rintro e w2 ⟨rfl, rfl⟩)
          | (at_builtin; refine wpList_append_own _ rfl _ _ 27 rfl w1.heap.size 41 i0 (.agg #[.string ⟨#[]⟩, .int .i64 0, .int .i64 0]) 3 32 Try.underlying27 HI.out.1 HI.out.2.1 HI.out.2.2.1 HI.out.2.2.2 rfl (by decide) _ _ _ rfl (HB.out.row.alloc _) ⟨wr.heap.size, 0, none⟩ 1 1 (lsC ⟨q, c, mom n⟩) rfl rfl ?c1 ?c2 ?c3 ?c4 ?c5 ?_)
          | go_in)
        case c1 =>
          intro j u hj
          match j, hj with
          | 0, hj => simp at hj; subst hj; simp [Addr.add]
          | 1, hj => simp at hj; subst hj; simp [Addr.add]
          | 2, hj => simp at hj; subst hj; simp [Addr.add]
        case c2 => intro u hu; simp at hu; rcases hu with rfl | rfl | rfl <;> rfl
        case c3 => have := HO.out.2; have := HL.out; unfold maxLen; omega
        case c4 => have := HO.out.2; have := HL.out; omega
        case c5 => have := HB.out.bel.size; simp; omega
        intro o' w2 hown' hgrow' _
        have HB2 : Hid (Bld w1 w2 o' (O ++ [l] ++ (L.drop k).take 0)) := Lib.hid (by rw [HLQ.out.1, List.take_zero, List.append_nil]; exact HB.out.put hown' hgrow')
        clear hown' hgrow' c1 f1
        go_wp2
        go_loopw [8, 9] (fun o i wr => ∃ j, k + j ≤ L.length ∧ i = .int .i64 ((k + j : Nat) : Int) ∧ Hid (Bld w1 wr o (O ++ [l] ++ (L.drop k).take j))) (fun _ i _ => L.length - (intOf i).toNat)
        case atStart => exact ⟨0, by have := HCL.out; omega, by simp, HB2⟩
        case round =>
          obtain ⟨j, hj, rfl, HB3⟩ := hrel
          clear HB2
          have hr := HR1.out.below HB3.out.bel
          have c1 := hr.c1
          obtain ⟨i, hi⟩ : ∃ i, i = k + j := ⟨_, rfl⟩
          rw [← hi]
          obtain ⟨O3, hO3⟩ : ∃ O3, O3 = O ++ [l] ++ (L.drop k).take j := ⟨_, rfl⟩
          have HI3 := Lib.hid (And.intro hi (And.intro hO3 (show O3.length ≤ L.length + 1 by
            rw [hO3, HO.out.1]
            simp
            omega)))
          rw [← hO3] at HB3
          by_cases hin : i < L.length
          · obtain ⟨x, hx⟩ : ∃ x, L[i]? = some x := ⟨_, List.getElem?_eq_getElem hin⟩
            obtain ⟨g, cap, e1, d0, d1, d2⟩ := hr.cells hx
            rw [e1] at c1
            have hin' : (i : Int) < L.length := by omega
            have hN := Lib.hid (show O ++ [l] ++ (L.drop k).take (j + 1) = O3 ++ [x] by
              rw [hO3, List.take_add_one, List.getElem?_drop, ← hi, hx]
              simp)
            clear hr hx hO3 hi hj e1
            go_wp2_with (first
              | (at_builtin; refine wpList_append_own _ rfl _ _ 27 rfl w1.heap.size 41 i0 (.agg #[.string ⟨#[]⟩, .int .i64 0, .int .i64 0]) 3 32 Try.underlying27 HI.out.1 HI.out.2.1 HI.out.2.2.1 HI.out.2.2.2 rfl (by decide) _ _ _ rfl (HB3.out.row.alloc _) ⟨_, 0, none⟩ 1 1 (lsC x) rfl rfl ?c1 ?c2 ?c3 ?c4 ?c5 ?_)
              | go_in)
            case c1 =>
              intro j u hj
              match j, hj with
              | 0, hj => simp at hj; subst hj; simp [Addr.add]
              | 1, hj => simp at hj; subst hj; simp [Addr.add]
              | 2, hj => simp at hj; subst hj; simp [Addr.add]
            case c2 => intro u hu; simp at hu; rcases hu with rfl | rfl | rfl <;> rfl
            case c3 => have := HI3.out.2.2; have := HL.out; unfold maxLen; omega
            case c4 => have := HI3.out.2.2; have := HL.out; omega
            case c5 => have := HB3.out.bel.size; simp; omega
            intro o' w3 hown' hgrow' _
            have HB4 := Lib.hid (HB3.out.put hown' hgrow')
            clear hown' hgrow'
            go_wp2
            go_roundw
            case rel => exact ⟨j + 1, by have := HI3.out.1; omega, by have := HI3.out.1; simp; omega, Lib.hid (by rw [hN.out]; exact HB4.out)⟩
            case measure => simp [intOf]; omega
          · have hil : i = L.length := by omega
            have hdr : O3 = grantL L0 q c (mom n) := by
              rw [HG.out, hO3, HO.out.1, List.take_of_length_le (l := L.drop k) (i := j) (by rw [List.length_drop]; omega)]
              simp
            rw [hdr] at HB3
            obtain ⟨a2, c2, rfl⟩ := HB3.out.slice
            have hF := ref_store HR1.out HB3.out
            have HF : RPost w0 w p len (grantL L0 q c (mom n)) _ := ⟨_, Lib.hid ⟨hF.1, HF1.out.trans hF.2⟩⟩
            have f1 := bears_free hr.ty 1
            obtain ⟨a3, c3, e3⟩ := hr.slice
            rw [e3] at c1
            have hin2 : decide ((i : Int) < (L.length : Int)) = false := by simp; omega
            have hin3 : decide (i < L.length) = false := by simp; omega
            clear hr hin hi hO3 hj hil hdr hF e3
            go_wp2
            first
              | exact bodyPost_ret (v := .tuple #[]) (results_none rfl _ _ _) rfl ⟨rfl, HF⟩
              | (go_end0; exact ⟨rfl, HF⟩)
              | (go_end0; exact HF)
end Go.Proofs.Ytabnhiehmheocaa
