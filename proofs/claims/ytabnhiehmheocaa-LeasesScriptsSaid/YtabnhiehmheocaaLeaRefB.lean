/- The reference's table of leases: Renew, Due. -/
import Derived.Test.YtabnhiehmheocaaLeaRef
namespace Go.Proofs.Ytabnhiehmheocaa
open Go.RowKit Go.Maps

theorem cellsL_set : ∀ (L : List Ls) (k : Nat) (x : Ls) (t : Int), L[k]? = some x → cellsL (L.set k ⟨x.p, x.c, t⟩) = (cellsL L).set (k * 3 + 2) (.int .i64 t)
  | [], _, _, _, h => by simp at h
  | y :: L, 0, x, t, h => by
    simp only [List.getElem?_cons_zero, Option.some.injEq] at h
    subst h
    simp [cellsL]
  | y :: L, k + 1, x, t, h => by
    have ih := cellsL_set L k x t (by simpa using h)
    have e : (k + 1) * 3 + 2 = (k * 3 + 2) + 1 + 1 + 1 := by omega
    rw [List.set_cons_succ, cellsL, List.flatMap_cons, ← cellsL, ih, e]
    simp [cellsL]
/-- one lease is heard of -/
theorem RefSt.hear {w0 w : World} {q g cap : Nat} {len : Int} {L : List Ls} (h : RefSt w0 w q len (.slice (some ⟨g, 0, none⟩) L.length cap) L) {k : Nat} {x : Ls} (hk : L[k]? = some x) (t : Int) :
    RefSt w0 (w.setCell ⟨g, k * 3 + 2, none⟩ (.int .i64 t)) q len (.slice (some ⟨g, 0, none⟩) (L.set k ⟨x.p, x.c, t⟩).length cap) (L.set k ⟨x.p, x.c, t⟩) := by
  have hg := h.row.lt g rfl
  have hqg : ¬ q = g := fun e => by
    obtain ⟨cs, k⟩ := h.ty
    rcases h.row.2 with ⟨e2, _⟩ | ⟨g', cap', cur, e2, _, hg', _⟩
    · cases e2
    · injection e2 with e2 _ _
      injection e2 with e2
      injection e2 with e2 _
      rw [← e2, ← e, k] at hg'
      injection hg' with hg'
      injection hg' with _ e3
      exact absurd e3 (by decide)
  have e : (w.setCell ⟨g, k * 3 + 2, none⟩ (.int .i64 t)).heap[q]? = w.heap[q]? := Below.heap_setCell _ _ _ _ hqg
  refine ⟨h.bel.setCell (p := ⟨g, k * 3 + 2, none⟩) hg.1 _, h.lo, by obtain ⟨cs, k⟩ := h.ty; exact ⟨cs, e.trans k⟩, (cell_eq e 0).trans h.c0, ?_, ?_⟩
  · rw [List.length_set]; exact (cell_eq e 1).trans h.c1
  · rw [cellsL_set L k x t hk, List.length_set]
    exact (h.row.stored _ _).1
/-- the leases once the first k were looked at -/
def renTo (L : List Ls) (c t : Int) (k : Nat) : List Ls := renewL (L.take k) c t ++ L.drop k
theorem renTo_len (L : List Ls) (c t : Int) (k : Nat) : (renTo L c t k).length = L.length := by
  unfold renTo
  rw [List.length_append, length_renewL, List.length_take, List.length_drop]
  omega
theorem renTo_zero (L : List Ls) (c t : Int) : renTo L c t 0 = L := by simp [renTo, renewL]
theorem renTo_all (L : List Ls) (c t : Int) {k : Nat} (h : L.length ≤ k) : renTo L c t k = renewL L c t := by
  unfold renTo
  rw [List.take_of_length_le h, List.drop_eq_nil_of_le h, List.append_nil]
theorem renTo_at (L : List Ls) (c t : Int) (k : Nat) {x : Ls} (h : L[k]? = some x) : (renTo L c t k)[k]? = some x := by
  have hk := (List.getElem?_eq_some_iff.1 h).1
  unfold renTo
  rw [List.getElem?_append_right (by rw [length_renewL, List.length_take]; omega), length_renewL, List.length_take, List.getElem?_drop]
  rw [show k + (k - min k L.length) = k by omega]
  exact h
theorem renTo_next (L : List Ls) (c t : Int) (k : Nat) {x : Ls} (h : L[k]? = some x) : renTo L c t (k + 1) = if x.c = c then (renTo L c t k).set k ⟨x.p, x.c, t⟩ else renTo L c t k := by
  have hk := (List.getElem?_eq_some_iff.1 h).1
  have hd : L.drop k = x :: L.drop (k + 1) := by
    rw [List.drop_eq_getElem_cons hk]
    congr 1
    exact (List.getElem?_eq_some_iff.1 h).2
  have hl : (renewL (L.take k) c t).length = k := by rw [length_renewL, List.length_take]; omega
  unfold renTo
  rw [List.take_add_one, h]
  have e : renewL (L.take k ++ (some x).toList) c t = renewL (L.take k) c t ++ [if x.c = c then { x with h := t } else x] := by
    unfold renewL
    rw [List.map_append]
    rfl
  rw [e, hd, List.append_assoc]
  by_cases hc : x.c = c
  · rw [if_pos hc, if_pos hc, List.set_append_right _ _ (by omega), hl, Nat.sub_self]
    rfl
  · rw [if_neg hc, if_neg hc]
    rfl
theorem row_bears {w : World} {B k sz b : Nat} {e : TypeId} {v : Value} {xs : List Value} (h : w.ownsRow B e sz v k xs) (hb : v.ownBlock = some b) : Bears w b e := by
  rcases h.2 with ⟨rfl, _⟩ | ⟨g, cap, cur, rfl, _, hg, _⟩
  · simp [Value.ownBlock] at hb
  · simp [Value.ownBlock] at hb
    subst hb
    exact ⟨cur, hg⟩
theorem RefSt.drew {w0 w : World} {q : Nat} {len : Int} {v : Value} {L : List Ls} (h : RefSt w0 w q len v L) : RefSt w0 w.drew q len v L := ⟨h.bel.drew, h.lo, h.ty, h.c0, h.c1, h.row.drew⟩
set_option maxHeartbeats 4000000 in
set_option maxRecDepth 100000 in
theorem rrenew_any {w0 : World} (p : Nat) (len : Int) (v : Value) (L : List Ls) (c n : Int) (w : World) (hL : L.length ≤ 4398046510000) (h : Hid (RefSt w0 w p len v L)) :
    Calls Try.prog 12 #[.pointer (some ⟨p, 0, none⟩), .int .i64 c, .int .i64 n] w fun e w' => e = .returned (.tuple #[]) ∧ RPost w0 w p len (renewL L c (mom n)) w' := by
  have hLi : (L.length : Int) ≤ 9223372036854775807 := by omega
  go_enter Try.func12, Try.ntmps12
  go_wp2
  go_loopw [6] (fun i wr => ∃ k, k ≤ L.length ∧ i = .int .i64 k ∧ ∃ o, Hid (RefSt w0 wr p len o (renTo L c (mom n) k) ∧ RF w wr p)) (fun i _ => L.length - (intOf i).toNat)
  case atStart => exact ⟨0, Nat.zero_le _, rfl, v, Lib.hid ⟨by rw [renTo_zero]; exact h.out, RF.refl _ _⟩⟩
  case round =>
    obtain ⟨k, hk, rfl, o, HR⟩ := hrel
    by_cases hkn : k < L.length
    · obtain ⟨x, hx⟩ : ∃ x, L[k]? = some x := ⟨_, List.getElem?_eq_getElem hkn⟩
      have hkn' : (k : Int) < L.length := by omega
      obtain ⟨M, hM⟩ : ∃ M, M = renTo L c (mom n) k := ⟨_, rfl⟩
      have hx2 : M[k]? = some x := by rw [hM]; exact renTo_at L c (mom n) k hx
      have hnx := renTo_next L c (mom n) k hx
      have hlen : M.length = L.length := by rw [hM]; exact renTo_len _ _ _ _
      rw [← hM] at HR hnx
      obtain ⟨g, cap, rfl, d0, d1, d2⟩ := HR.out.1.cells hx2
      have HX2 := Lib.hid hx2
      have c1 := HR.out.1.c1
      have f2 := HR.out.1.row.frozenAt (k * 3 + 2)
      rw [hlen] at c1
      have HLN := Lib.hid hlen
      clear hx hx2 hM hlen
      by_cases hc : x.c = c
      · have HN : Hid (renTo L c (mom n) (k + 1) = M.set k ⟨x.p, x.c, mom n⟩) := Lib.hid (by rw [hnx, if_pos hc])
        have hcc : (x.c == c) = true := by simpa using hc
        clear hnx hc
        have HH : Hid (RefSt w0 (wr.setCell ⟨g, k * 3 + 2, none⟩ (.int .i64 (mom n))) p len (.slice (some ⟨g, 0, none⟩) (M.set k ⟨x.p, x.c, mom n⟩).length cap) (M.set k ⟨x.p, x.c, mom n⟩) ∧ RF w (wr.setCell ⟨g, k * 3 + 2, none⟩ (.int .i64 (mom n))) p) := Lib.hid (by
          refine ⟨HR.out.1.hear HX2.out (mom n), HR.out.2.trans ⟨by simp, fun b hb hn he => Below.heap_setCell _ _ _ _ (fun e => he ?_)⟩⟩
          obtain ⟨cs, hc⟩ := row_bears HR.out.1.row rfl
          exact ⟨cs, by rw [e]; exact hc⟩)
        go_upto_region 4 with (fail)
        go_region_with (go_at_call 21; refine (clamp_mom n _).mono ?_; rintro e w2 ⟨rfl, rfl⟩)
        all_goals
          go_wp2
          go_roundw
        all_goals first
          | exact ⟨k + 1, by omega, by simp, _, by rw [HN.out]; exact Lib.hid ⟨HH.out.1.drew, ⟨HH.out.2.size, HH.out.2.block⟩⟩⟩
          | exact ⟨k + 1, by omega, by simp, _, by rw [HN.out]; exact HH⟩
          | (simp [intOf]; omega)
      · have HN : Hid (renTo L c (mom n) (k + 1) = M) := Lib.hid (by rw [hnx, if_neg hc])
        have hcc : (x.c == c) = false := by simpa using hc
        clear hnx hc
        go_wp2
        go_roundw
        case rel => exact ⟨k + 1, by omega, by simp, _, by rw [HN.out]; exact HR⟩
        case measure => simp [intOf]; omega
    · obtain rfl : k = L.length := by omega
      have HF : RPost w0 w p len (renewL L c (mom n)) wr := ⟨o, Lib.hid (by rw [← renTo_all L c (mom n) (Nat.le_refl _)]; exact HR.out)⟩
      have c1 := HR.out.1.c1
      obtain ⟨a, cap, rfl⟩ := HR.out.1.slice
      rw [renTo_len] at c1
      clear HR
      go_wp2
      first
        | exact bodyPost_ret (v := .tuple #[]) (results_none rfl _ _ _) rfl ⟨rfl, HF⟩
        | (go_end0; exact ⟨rfl, HF⟩)
        | (go_end0; exact HF)
theorem infoStr2 : (Try.prog.info? 9).map (fun i => (i.zero, i.size, i.bytes)) = some (some (.string ⟨#[]⟩), 1, 16) := by kernel_rfl
theorem dueL_take {L : List Ls} {T : Int} {k : Nat} {x : Ls} (h : L[k]? = some x) : dueL (L.take (k + 1)) T = dueL (L.take k) T ++ (if x.h ≤ T then [x.p] else []) := by
  unfold dueL
  rw [List.take_add_one, h, List.filter_append, List.map_append]
  by_cases e : x.h ≤ T <;> simp [e]
structure DueR (w wr : World) (o : Value) (m : Nat) (ys : List ByteArray) : Prop where
  bel : Below w.heap.size w wr
  row : wr.ownsRow w.heap.size 9 1 o m (ys.map Value.string)
theorem DueR.drew {w wr : World} {o : Value} {m : Nat} {ys : List ByteArray} (h : DueR w wr o m ys) : DueR w wr.drew o m ys := ⟨h.bel.drew, h.row.drew⟩
set_option maxHeartbeats 4000000 in
set_option maxRecDepth 100000 in
theorem rdue_any {w0 : World} (p : Nat) (len : Int) (v : Value) (L : List Ls) (n : Int) (w : World) (hL : L.length ≤ 4398046510000) (h : Hid (RefSt w0 w p len v L)) :
    Calls Try.prog 18 #[.pointer (some ⟨p, 0, none⟩), .int .i64 n] w fun e w' => ∃ v k, e = .returned v ∧ k = (dueL L (mom n - lenT len)).length ∧ w'.ownsRow w.heap.size 9 1 v k ((dueL L (mom n - lenT len)).map Value.string) ∧ Below w.heap.size w w' := by
  have hLi : (L.length : Int) ≤ 9223372036854775807 := by omega
  obtain ⟨i0, hi, hz0, hz1, hz2⟩ := info_parts infoStr2
  have hb1 := mom_b n
  have hb2 := lenT_b len
  have hw1 : wrap64 (mom n - lenT len) = mom n - lenT len := IntWalk.wrap64_in _ ⟨by omega, by omega⟩
  have hw3 : IntKind.i64.wrap (mom n - lenT len) = mom n - lenT len := IntWalk.i64_in _ (by omega)
  clear hb1 hb2
  generalize hT : mom n - lenT len = T at *
  go_enter Try.func18, Try.ntmps18
  go_wp2
  go_loopw [5, 6] (fun o i wr => ∃ (k m : Nat), k ≤ L.length ∧ i = .int .i64 k ∧ Hid (Below w.heap.size w wr ∧ wr.ownsRow w.heap.size 9 1 o m ((dueL (L.take k) T).map Value.string) ∧ m = (dueL (L.take k) T).length)) (fun _ i _ => L.length - (intOf i).toNat)
  case atStart => exact ⟨0, 0, Nat.zero_le _, rfl, Lib.hid ⟨Below.refl _ _, World.ownsRow_nil _ _ _ _, rfl⟩⟩
  case round =>
    obtain ⟨k, m, hk, rfl, HB⟩ := hrel
    have hr := h.out.below HB.out.1
    have c0 := hr.c0
    have c1 := hr.c1
    by_cases hkn : k < L.length
    · obtain ⟨x, hx⟩ : ∃ x, L[k]? = some x := ⟨_, List.getElem?_eq_getElem hkn⟩
      obtain ⟨g, cap, rfl, d0, d1, d2⟩ := hr.cells hx
      have hkn' : (k : Int) < L.length := by omega
      have hnx := dueL_take (T := T) hx
      have hmk : m ≤ L.length := by
        have h1 := HB.out.2.2
        have h2 := length_dueL (L.take k) T
        rw [List.length_take] at h2
        omega
      have HMK := Lib.hid hmk
      have HL := Lib.hid hL
      clear hx hr
      have HQ : DueR w wr u5 m (dueL (L.take k) T) := ⟨HB.out.1, HB.out.2.1⟩
      have HM := Lib.hid HB.out.2.2
      go_upto_region 5 with (fail)
      clear hL hmk HB
      have hS0 : wr.drew.cell? ⟨p, 0, none⟩ = some (.int .i64 len) ∧ wr.drew.cell? ⟨p, 1, none⟩ = some (.slice (some ⟨g, 0, none⟩) L.length cap) ∧ wr.drew.cell? ⟨g, k * 3 + 2, none⟩ = some (.int .i64 x.h) ∧ DueR w wr.drew u5 m (dueL (L.take k) T) := ⟨c0, c1, d2, HQ.drew⟩
      have HC := Lib.hid (And.intro c1 d0)
      clear c0 c1 d2 d0 d1 HQ
      by_cases hd : x.h ≤ T
      · have hdd : decide (x.h ≤ T) = true := by simpa using hd
        rw [if_pos hd] at hnx
        have HN := Lib.hid hnx
        clear hnx hd
        go_region_held3 (fun w' => w'.cell? ⟨p, 0, none⟩ = some (.int .i64 len) ∧ w'.cell? ⟨p, 1, none⟩ = some (.slice (some ⟨g, 0, none⟩) L.length cap) ∧ w'.cell? ⟨g, k * 3 + 2, none⟩ = some (.int .i64 x.h) ∧ DueR w w' u5 m (dueL (L.take k) T)) (assumption)
          (first
            | (go_at_call 21; with_reducible refine (clamp_mom n _).mono ?_; rintro e w2 ⟨rfl, rfl⟩)
            | (go_at_call 21; with_reducible refine (clamp_len len _).mono ?_; rintro e w2 ⟨rfl, rfl⟩))
        all_goals
          have HD := hS0.2.2.2
          have c1 : wr.drew.cell? ⟨p, 1, none⟩ = some (.slice (some ⟨g, 0, none⟩) L.length cap) := HC.out.1
          have d0 : wr.drew.cell? ⟨g, k * 3, none⟩ = some (.string x.p) := HC.out.2
          clear hS0
          obtain ⟨wd, hwd⟩ : ∃ wd, wd = wr.drew := ⟨_, rfl⟩
          rw [← hwd] at HD c1 d0 ⊢
          clear hwd
          have HR1 := Lib.hid HD
          clear HD
          go_wp2_with (first
            | (at_builtin; refine wpList_append_own _ rfl _ _ 42 rfl w.heap.size 9 i0 (.string ⟨#[]⟩) 1 16 Try.underlying42 hi hz0 hz1 hz2 rfl (by decide) _ _ _ rfl (HR1.out.row.alloc _) ⟨wd.heap.size, 0, none⟩ 1 1 [.string x.p] rfl rfl ?c1 ?c2 ?c3 ?c4 ?c5 ?_)
            | go_in)
          case c1 =>
            intro j u hj
            match j, hj with
            | 0, hj => simp at hj; subst hj; simp [Addr.add]
          case c2 => first | rfl | (intro u hu; simp at hu; subst hu; rfl)
          case c3 => have := HMK.out; have := HL.out; unfold maxLen; omega
          case c4 => have := HMK.out; have := HL.out; omega
          case c5 => have := HR1.out.bel.size; simp; omega
          intro o' w2 hown' hgrow' _
          have HB2 : Hid (Below w.heap.size w w2 ∧ w2.ownsRow w.heap.size 9 1 o' (m + 1) ((dueL (L.take (k + 1)) T).map Value.string) ∧ m + 1 = (dueL (L.take (k + 1)) T).length) := Lib.hid (by
            rw [HN.out]
            refine ⟨(HR1.out.bel.alloc HR1.out.bel.size _).grown hgrow' (HR1.out.bel.alloc HR1.out.bel.size _).size (fun j hj => (HR1.out.row.lt j hj).1), by simpa using hown', ?_⟩
            rw [List.length_append, ← HM.out]
            rfl)
          clear hown' hgrow'
          go_wp2
          go_roundw
          case rel => exact ⟨k + 1, m + 1, by omega, by simp, HB2⟩
          case measure => simp [intOf]; omega
      · have hdd : decide (x.h ≤ T) = false := by simpa using hd
        rw [if_neg hd, List.append_nil] at hnx
        have HN := Lib.hid hnx
        clear hnx hd
        go_region_held3 (fun w' => w'.cell? ⟨p, 0, none⟩ = some (.int .i64 len) ∧ w'.cell? ⟨p, 1, none⟩ = some (.slice (some ⟨g, 0, none⟩) L.length cap) ∧ w'.cell? ⟨g, k * 3 + 2, none⟩ = some (.int .i64 x.h) ∧ DueR w w' u5 m (dueL (L.take k) T)) (assumption)
          (first
            | (go_at_call 21; with_reducible refine (clamp_mom n _).mono ?_; rintro e w2 ⟨rfl, rfl⟩)
            | (go_at_call 21; with_reducible refine (clamp_len len _).mono ?_; rintro e w2 ⟨rfl, rfl⟩))
        all_goals
          have HB2 : Hid (Below w.heap.size w wr.drew ∧ wr.drew.ownsRow w.heap.size 9 1 u5 m ((dueL (L.take (k + 1)) T).map Value.string) ∧ m = (dueL (L.take (k + 1)) T).length) := Lib.hid (by
            rw [HN.out]
            exact ⟨hS0.2.2.2.bel, hS0.2.2.2.row, HM.out⟩)
          clear hS0
          go_wp2
          go_roundw
          case rel => exact ⟨k + 1, m, by omega, by simp, HB2⟩
          case measure => simp [intOf]; omega
    · obtain rfl : k = L.length := by omega
      rw [List.take_length] at HB
      have HF := Lib.hid HB.out
      obtain ⟨a, cap, rfl⟩ := hr.slice
      obtain ⟨a2, cap2, rfl⟩ : ∃ a cap, u5 = .slice a m cap := by
        rcases HB.out.2.1.2 with ⟨h1, h0⟩ | ⟨g, cap, cur, h1, _⟩
        · exact ⟨none, 0, by rw [h1, h0]⟩
        · exact ⟨_, _, h1⟩
      clear hr HB
      go_wp2
      go_ret
      exact ⟨_, m, rfl, HF.out.2.2, HF.out.2.1, HF.out.1⟩
end Go.Proofs.Ytabnhiehmheocaa
