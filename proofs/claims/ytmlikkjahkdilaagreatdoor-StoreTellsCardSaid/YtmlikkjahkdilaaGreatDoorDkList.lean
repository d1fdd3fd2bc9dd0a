/- Package disk: List, whatever is held. -/
import Derived.Test.YtmlikkjahkdilaaGreatDoorDkCrash
import Derived.Test.YtmlikkjahkdilaaGreatDoorSortStrD
import Derived.Test.YtmlikkjahkdilaaGreatDoorDiskList0
import Derived.Laws.MakeOwn
namespace Go.Proofs.YtmlikkjahkdilaaGreatDoor
open Go.RowKit Go.Maps

theorem perm_of_mem : ∀ (l1 l2 : List ByteArray), l1.Nodup → l2.Nodup → (∀ a, a ∈ l1 ↔ a ∈ l2) → l1.Perm l2
  | [], l2, _, _, h => by
    cases l2 with
    | nil => exact List.Perm.nil
    | cons b l => exact absurd ((h b).2 (by simp)) (by simp)
  | a :: l, l2, h1, h2, h => by
    obtain ⟨s, t, rfl⟩ := List.append_of_mem ((h a).1 (by simp))
    obtain ⟨ha, hl⟩ := List.nodup_cons.1 h1
    have h3 := (List.perm_middle (a := a) (l₁ := s) (l₂ := t)).nodup_iff.1 h2
    obtain ⟨ha2, hl2⟩ := List.nodup_cons.1 h3
    refine ((perm_of_mem l (s ++ t) hl hl2 fun b => ?_).cons a).trans List.perm_middle.symm
    constructor
    · intro hb
      have hne : b ≠ a := fun e => ha (e ▸ hb)
      have := (h b).1 (List.mem_cons_of_mem _ hb)
      rw [List.mem_append, List.mem_cons] at this
      rw [List.mem_append]
      rcases this with k | k | k
      · exact .inl k
      · exact absurd k hne
      · exact .inr k
    · intro hb
      have hne : b ≠ a := fun e => ha2 (e ▸ hb)
      have : b ∈ a :: l := (h b).2 (by rw [List.mem_append, List.mem_cons]; rw [List.mem_append] at hb; exact hb.elim .inl (fun k => .inr (.inr k)))
      exact (List.mem_cons.1 this).resolve_left hne
theorem sorted_names {xs ys : List ByteArray} (hp : ys.Perm xs) (hs : xs.Pairwise fun x y => blt x y = true) : (ys.map tb).mergeSort (fun x y => decide (x ≤ y)) = xs.map tb := by
  have h1 := List.mergeSort_perm (ys.map tb) (fun x y => decide (x ≤ y))
  have h2 : ((ys.map tb).mergeSort fun x y => decide (x ≤ y)).Pairwise fun a b => decide (a ≤ b) = true := by
    refine List.pairwise_mergeSort (le := fun x y => decide (x ≤ y)) (fun a b c h k => ?_) (fun a b => ?_) _
    · simp only [decide_eq_true_eq] at *
      exact List.le_trans h k
    · simp only [Bool.or_eq_true, decide_eq_true_eq]
      exact List.le_total a b
  refine List.Perm.eq_of_pairwise (le := fun a b : List UInt8 => decide (a ≤ b) = true) (fun a b _ _ hab hba => ?_) h2 ?_ (h1.trans (hp.map _))
  · simp only [decide_eq_true_eq] at *
    exact List.le_antisymm hab hba
  · refine List.Pairwise.map _ (fun a b h => ?_) hs
    simp only [blt, decide_eq_true_eq] at *
    exact List.le_of_lt h
theorem names_nodup {L : Fs} (h : SrtF L) (f : Fl → Bool) : (namesF (L.filter f)).Nodup := by
  refine List.Pairwise.map _ (fun a b hab e => ?_) (h.filter f)
  rw [e, blt_irrefl] at hab
  cases hab
/-- where a round of List stands -/
structure LsAt (w wr : World) (L : Fs) (left : Lit → Bool) (v : Value) (k : Nat) (ys : List ByteArray) : Prop where
  bel : Below w.heap.size w wr
  row : wr.ownsRow w.heap.size 9 1 v k (ys.map Value.string)
  nd : ys.Nodup
  mem : ∀ q, q ∈ ys ↔ ∃ x ∈ L, x.n = q ∧ left (sk x.n) = false
  only : ∀ kl, left kl = true → ∃ x ∈ L, kl = sk x.n
theorem LsAt.perm {w wr : World} {L : Fs} {left : Lit → Bool} {v : Value} {k : Nat} {ys : List ByteArray} (hs : SrtF L) (h : LsAt w wr L left v k ys) : ys.Perm (namesF (Ld L left)) := by
  refine perm_of_mem _ _ h.nd (names_nodup hs _) fun q => ?_
  rw [h.mem, namesF, List.mem_map]
  constructor
  · rintro ⟨x, h1, h2, h3⟩
    exact ⟨x, List.mem_filter.2 ⟨h1, by simp [h3]⟩, h2⟩
  · rintro ⟨x, h1, h2⟩
    obtain ⟨h3, h4⟩ := List.mem_filter.1 h1
    exact ⟨x, h3, h2, by simpa using h4⟩
theorem LsAt.len {w wr : World} {L : Fs} {left : Lit → Bool} {v : Value} {k : Nat} {ys : List ByteArray} (hs : SrtF L) (h : LsAt w wr L left v k ys) : k ≤ L.length := by
  have h1 := h.row.1
  simp only [List.length_map, Nat.mul_one] at h1
  have := (h.perm hs).length_eq
  rw [namesF, List.length_map] at this
  have := List.length_filter_le (fun x : Fl => !left (sk x.n)) L
  unfold Ld at *
  omega
/-- a name more -/
theorem ls_step {w wr w3 : World} {L : Fs} {left : Lit → Bool} {v v' : Value} {k : Nat} {ys : List ByteArray} {q d : ByteArray} (h : LsAt w wr L left v k ys) (hd : getF L q = some d) (hl : left (sk q) = true) (hb : Below w.heap.size w w3) (hrow : w3.ownsRow w.heap.size 9 1 v' (k + 1) (ys.map Value.string ++ [.string q])) : LsAt w w3 L (next left q) v' (k + 1) (ys ++ [q]) := by
  have hnew : q ∉ ys := fun hm => by
    obtain ⟨y, hy, e, hf⟩ := (h.mem q).1 hm
    rw [e, hl] at hf
    cases hf
  refine ⟨hb, by simpa using hrow, ?_, fun r => ?_, fun kl hk => h.only kl (by unfold next at hk; cases k : left kl <;> simp_all)⟩
  · rw [List.nodup_append]
    refine ⟨h.nd, by simp, fun a ha b hb e => ?_⟩
    simp only [List.mem_singleton] at hb
    subst e
    exact hnew (hb ▸ ha)
  · rw [List.mem_append, h.mem, List.mem_singleton]
    constructor
    · rintro (⟨y, hy, e, h2⟩ | e)
      · refine ⟨y, hy, e, ?_⟩
        rw [next_at, h2, ite_self]
      · exact ⟨⟨q, d⟩, getF_mem hd, e.symm, by rw [next_at, if_pos rfl]⟩
    · rintro ⟨y, hy, e, h2⟩
      rw [next_at] at h2
      by_cases ey : y.n = q
      · exact .inr (by rw [← e, ey])
      · rw [if_neg ey] at h2
        exact .inl ⟨y, hy, e, h2⟩
theorem infoStr : (Tryz.prog.info? 9).map (fun i => (i.zero, i.size, i.bytes)) = some (some (.string ⟨#[]⟩), 1, 16) := by kernel_rfl
/-- the list that comes out -/
structure LsRow (w w' : World) (v : Value) (ys : List ByteArray) : Prop where
  sl : ∃ a c, v = .slice a ys.length c ∧ ∀ j s, ys[j]? = some s → ∃ g, a = some ⟨g, 0, none⟩ ∧ w.heap.size ≤ g ∧ w'.cell? ⟨g, j, none⟩ = some (.string s)
theorem ls_row {w w' : World} {B k : Nat} {v : Value} {ys : List ByteArray} (hB : w.heap.size ≤ B) (h : w'.ownsRow B 9 1 v k (ys.map Value.string)) : LsRow w w' v ys := by
  have hl := h.1
  simp only [List.length_map, Nat.mul_one] at hl
  rcases h.2 with ⟨h1, h0⟩ | ⟨g, cap, cur, h1, hb, _⟩
  · exact ⟨none, 0, by rw [h1, hl, h0], fun j s hj => by have := (List.getElem?_eq_some_iff.1 hj).1; omega⟩
  · subst h1
    refine ⟨_, _, by rw [hl], fun j s hj => ⟨g, rfl, by omega, ?_⟩⟩
    have hjl := (List.getElem?_eq_some_iff.1 hj).1
    rw [h.cellAt j (by omega)]
    simp [hj]
theorem ls_kept {w wr w1 : World} {r : Nat} {v : Value} {k : Nat} {ys : List ByteArray} (h : wr.ownsRow w.heap.size 9 1 v k (ys.map Value.string)) (hr : ¬ ∃ cs e, wr.heap[r]? = some (.cells cs e (0, 0))) (hg : wr.grownBy w1 (some r)) : w1.ownsRow w.heap.size 9 1 v k (ys.map Value.string) := by
  refine h.kept hg (.inr fun e => ?_)
  rcases h.2 with ⟨h1, _⟩ | ⟨g, cap, cur, h1, _, hb, _⟩
  · rw [h1] at e; cases e
  · rw [h1] at e
    injection e with e
    simp only at e
    subst e
    exact hr ⟨cur, _, hb⟩
theorem ranges_no {w : World} {b r n : Nat} {D : DataW Unit} {left : Lit → Bool} {cnt : Nat} (h : w.ranges Tryz.prog 9 hdr b r n D left cnt) : ¬ ∃ cs e, w.heap[r]? = some (.cells cs e (0, 0)) := by
  obtain ⟨es, clock, since, seen, c0, _, _, _, _, hr, _⟩ := h
  rintro ⟨cs, e, k⟩
  rw [k] at hr
  cases hr
theorem below_row {w w' : World} {B k sz : Nat} {e : TypeId} {v : Value} {xs : List Value} (h : w.ownsRow B e sz v k xs) (hb : Below w.heap.size w w') : w'.ownsRow B e sz v k xs :=
  h.kept (row := none) ⟨hb.os, hb.tape, hb.output, hb.size, fun i hi _ => hb.block i hi⟩ (by cases h : v.ownBlock <;> simp)
theorem nm_all {L : Fs} (h : NmF L) {q d : ByteArray} (hd : getF L q = some d) : q.size ≤ 64 := h _ (getF_mem hd)
set_option maxRecDepth 100000 in
set_option maxHeartbeats 4000000 in
theorem list_some {B : Nat} {w : World} {p m n : Nat} {cp used : Int} {last chg : Value} {G : Hv} {L : Fs} (hk : DiskAt w p cp last chg (.map (some m)) used) (h : FsR B w m n G L) (hn : n ≤ 8796093022206) (hL : L.length ≤ 8796093022206) (hnm : NmF L) :
    Calls Tryz.prog 16 #[.pointer (some ⟨p, 0, none⟩)] w fun e w' => ∃ v, e = .returned v ∧ Hid (LsRow w w' v (namesF L) ∧ Below w.heap.size w w') := by
  obtain ⟨D, ho, h2⟩ := h.gf
  have HH := Lib.hid h
  have H2 := Lib.hid h2
  have HA := Lib.hid (lf_all h h2)
  have HO := Lib.hid (only_F h ho h2)
  have HLN := Lib.hid (And.intro hL hnm)
  obtain ⟨i0, hi, hz0, hz1, hz2⟩ := info_parts infoStr
  have hsz : Maps.size D ≤ n := ho.size_le
  obtain ⟨wm, hmk, hrow0, hgm⟩ := run_make_own (P := Tryz.prog) w w.heap.size 36 9 i0 (.string ⟨#[]⟩) 1 Tryz.underlying36 hi hz0 hz1 .i64 .i64 (Maps.size D) (by rw [hz2]; omega) (by unfold maxLen; omega) (Nat.le_refl _)
  have hln := fun ty => World.ownsMap.len ho Tryz.underlying62 ty
  have hbm : Below w.heap.size w wm := ⟨hgm.os, hgm.tape, hgm.output, hgm.size, fun i hi => hgm.block i hi (by simp)⟩
  have c3 := hk.c3
  have hom : FM wm m n D := fm_tch ho (tch_below (fun _ => False) hbm) (fun e => e)
  have d3 : wm.cell? ⟨p, 3, none⟩ = some (.map (some m)) := (hk.tch (tch_below (fun _ => False) hbm) (fun e => e)).c3
  have HM0 := Lib.hid (And.intro hrow0 hbm)
  clear h h2 hn hL hnm hk hsz hgm hbm hrow0
  go_enter Tryz.func16, Tryz.ntmps16
  go_wp2_with (first
    | (at_range; refine wpList_range_own _ rfl _ 62 rfl 9 76 strLaw Tryz.underlying62 hdr m n _ rfl hom ?_; intro w0 hrg0 hg0 hs0)
    | go_in)
  go_frame
  have HA0 : Hid (LsAt w w0 L (Maps.has D) (.slice (some ⟨w.heap.size, 0, none⟩) 0 (Maps.size D)) 0 []) := Lib.hid (by
    refine ⟨HM0.out.2.grown hg0 HM0.out.2.size (fun j hj => by cases hj), HM0.out.1.kept hg0 (.inr (by simp [Value.ownBlock])), List.nodup_nil, fun q => ⟨fun h => absurd h (by simp), ?_⟩, HO.out⟩
    rintro ⟨x, hx, rfl, hl⟩
    have := (H2.out x.n).1
    rw [HH.out.has, mem_getF HH.out.srt hx, hl] at this
    cases this)
  obtain ⟨r, hr⟩ : ∃ r, r = wm.heap.size := ⟨_, rfl⟩
  have HR : Hid (w.heap.size ≤ r) := Lib.hid (by rw [hr]; exact HM0.out.2.size)
  rw [← hr] at hrg0 ⊢
  clear hg0 hs0 hr hmk hln c3 d3 hom ho HM0 HA
  go_loopw [3, 4] (fun v _ wr => ∃ (left : Lit → Bool) (cnt k : Nat) (ys : List ByteArray), wr.ranges Tryz.prog 9 hdr m r n D left cnt ∧ Hid (LsAt w wr L left v k ys))
    (fun _ _ wr => wr.rangeLeft m r)
  case atStart => exact ⟨_, _, _, _, hrg0, HA0⟩
  case round =>
    obtain ⟨left, cnt, k, ys, hrg, HL⟩ := hrel
    clear HA0
    go_wp2_with (first
      | (at_next; refine nextS _ rfl _ rfl hdr m r n _ _ _ rfl hrg ?_ ?_)
      | go_in)
    · intro hc0 hl0
      have hpm := HL.out.perm HH.out.srt
      rw [ld_done L hl0] at hpm
      have hs := sorted_names hpm (names_rise HH.out.srt)
      have hk := HL.out.len HH.out.srt
      have hrow := HL.out.row
      have HB := Lib.hid HL.out.bel
      have hkk : k < 4611686018427387904 := by have := HLN.out.1; omega
      clear hpm hk
      go_wp2_with (fail)
      refine (sort_row w.heap.size k _ ys _ _ hkk hrow hs).mono ?_
      rintro e w2 ⟨rfl, hrow2, ht⟩
      have HX : Hid (LsRow w w2 u3 (namesF L) ∧ Below w.heap.size w w2) := Lib.hid ⟨ls_row (Nat.le_refl _) hrow2, ⟨ht.os.trans HB.out.os, ht.tape.trans HB.out.tape, ht.output.trans HB.out.output, Nat.le_trans HB.out.size ht.size, fun i hi => (ht.block i (Nat.lt_of_lt_of_le hi HB.out.size) (fun e => by have := (hrow.lt i e.symm).1; omega)).trans (HB.out.block i hi)⟩⟩
      clear hrow hrow2 ht
      go_wp2
      go_ret
      exact ⟨_, rfl, HX⟩
    · intro x cv kl y y2 w1 cnt1 hkx hlx hcy hat hrg1 hlt hg1 hs1 hen
      obtain ⟨d, hd, rfl, hgx, _⟩ := entry_F (y := (y, y2)) HH.out H2.out HL.out.only hkx hlx hcy hat
      have hb1 : Below w.heap.size w w1 := HL.out.bel.grown hg1 HL.out.bel.size (fun j hj => by cases hj; exact HR.out)
      have hrow1 : w1.ownsRow w.heap.size 9 1 u3 k (ys.map Value.string) := ls_kept HL.out.row (ranges_no hrg) hg1
      have hkL := HL.out.len HH.out.srt
      have HX := Lib.hid (And.intro hd (And.intro hlx (And.intro hb1 (And.intro hrow1 (Nat.le_trans hkL HLN.out.1)))))
      have HM : Hid (cnt1 < cnt) := Lib.hid hlt
      have HRL := Lib.hid hrg.left_eq
      have hxs : x.size ≤ 64 := nm_all HLN.out.2 hd
      have HRG1 := Lib.hid hrg1
      clear hkx hlx hcy hat hs1 hrg hlt hg1 hd hgx hb1 hkL hrow1
      go_wp2_with (fail)
      refine (clone_any x _ (by omega)).mono ?_
      rintro e w2 ⟨rfl, hb2⟩
      have HR2 := Lib.hid (below_row HX.out.2.2.2.1 hb2)
      have HB2 := Lib.hid (HX.out.2.2.1.trans (hb2.mono HX.out.2.2.1.size))
      have HRG2 := Lib.hid (hrg1.kept (row := none) (w' := w2) ⟨hb2.os, hb2.tape, hb2.output, hb2.size, fun i hi _ => hb2.block i hi⟩ (by simp) (by simp))
      clear hb2 hrg1
      go_wp2_with (first
        | (at_builtin; refine wpList_append_own _ rfl _ _ 36 rfl w.heap.size 9 i0 (.string ⟨#[]⟩) 1 16 Tryz.underlying36 hi hz0 hz1 hz2 rfl (by decide) _ _ _ rfl (HR2.out.alloc _) ⟨w2.heap.size, 0, none⟩ 1 1 [.string x] rfl rfl ?c1 ?c2 ?c3 ?c4 ?c5 ?_)
        | go_in)
      case c1 =>
        intro j u hj
        match j, hj with
        | 0, hj => simp at hj; subst hj; simp [Addr.add]
      case c2 => first | rfl | (intro u hu; simp at hu; subst hu; rfl)
      case c3 => have := HX.out.2.2.2.2; unfold maxLen; omega
      case c4 => have := HX.out.2.2.2.2; omega
      case c5 => have := HB2.out.size; simp; omega
      intro v' w3 hown' hgrow' _
      have HF := Lib.hid (ls_step HL.out HX.out.1 HX.out.2.1 ((HB2.out.alloc HB2.out.size _).grown hgrow' (HB2.out.alloc HB2.out.size _).size (fun j hj => (HR2.out.lt j hj).1)) hown')
      have hrg3 := (HRG2.out.alloc _).kept hgrow' (fun e => by
        have hb := row_at HR2.out e.symm
        exact map_apart (m := m) (hb) HRG2.out.owns rfl) (fun e => ranges_no HRG2.out (by obtain ⟨cs, hb⟩ := row_at HR2.out e.symm; exact ⟨cs, _, hb⟩))
      clear hown' hgrow'
      go_wp2
      go_roundw
      case rel => exact ⟨_, cnt1, _, _, hrg3, HF⟩
      case measure => rw [hrg3.left_eq, HRL.out]; exact HM.out
/-- the names of all files, rising -/
theorem list_K {w0 w : World} {p : Nat} {S : Nat → Prop} {cp : Int} {n : Nat} {L : Fs} {cs : List Chg} (h : Hid (DK w0 w p S cp n L cs)) (hn : n ≤ 8796093022206) (hL : (held L cs).length ≤ 8796093022206) :
    Calls Tryz.prog 16 #[.pointer (some ⟨p, 0, none⟩)] w fun e w' => ∃ v, e = .returned v ∧ Hid (LsRow w w' v (namesF (held L cs)) ∧ Below w.heap.size w w') := by
  obtain ⟨last, chg, hel, hk, _, _, hmp⟩ := h.out.m.st
  have hnm := nm_held h.out.m.nm cs h.out.m.ok
  rcases hmp with ⟨rfl, rfl, rfl, hhel⟩ | ⟨l, m, V, U, rfl, rfl, hl, hm, sl, sm, lm, rv, ru, apt⟩
  · rcases hhel with rfl | ⟨m, rfl, _, hg⟩
    · refine (dlist_empty p _ _ _ _ w hk).mono ?_
      rintro e w' ⟨⟨a, c, rfl⟩, hb⟩
      exact ⟨_, rfl, Lib.hid ⟨⟨a, c, rfl, fun j s hj => by simp [held, namesF] at hj⟩, hb⟩⟩
    · exact list_some (B := 0) hk (G := fun _ => none) (L := []) ⟨hg, (fun _ _ h => by simp [getF] at h), fun _ _ => rfl, (fun _ _ _ _ _ h => by cases h), List.Pairwise.nil⟩ hn (by simp) (fun _ h => by cases h)
  · exact list_some hk hm hn hL hnm
end Go.Proofs.YtmlikkjahkdilaaGreatDoor
