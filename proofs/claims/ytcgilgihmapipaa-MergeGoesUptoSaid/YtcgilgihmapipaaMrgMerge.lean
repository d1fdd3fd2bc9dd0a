/- Merging: merge.Merge. -/
import Derived.Test.YtcgilgihmapipaaMrgCopy
import Derived.Maps.AppendAt
namespace Go.Proofs.Ytcgilgihmapipaa
open Go.RowKit Go.Shelf
attribute [local go_sem] Oper.semAt_some

theorem infoPair : (Try.prog.info? 34).map (fun i => (i.zero, i.size, i.bytes)) = some (some (.agg #[.string ⟨#[]⟩, .string ⟨#[]⟩]), 2, 32) := by kernel_rfl
/-- the cells of pairs -/
def prC (R : Rn) (xs : List It) : List Value := xs.flatMap fun x => [.string (R.K x.1 x.2), .string (R.V x.1 x.2)]
theorem prC_snoc (R : Rn) (pre : List It) (x : It) : prC R (pre ++ [x]) = prC R pre ++ [.string (R.K x.1 x.2), .string (R.V x.1 x.2)] := by simp [prC]
theorem merged_in (F : Fence) (n : Nat) (h35 : F.fn 18) (hro : F.round = none) (v : Value) (hv : v.oneCell' = true) (w : World) :
    CallsIn F n Try.prog 18 #[v] w fun e w' => e = .returned (.func (.func 24) #[] #[.pointer (some ⟨w.heap.size, 0, none⟩)]) ∧ w' = w.alloc (.cells #[v] 22) := by
  refine callsIn_of_wp Try.func18 rfl h35 ?_ hro
  simp only [Try.ntmps18, List.size_toArray, List.length_cons, List.length_nil, Nat.reduceAdd, Nat.reduceSub, Array.replicate_succ, Array.replicate_zero, List.push_toArray, List.append_toArray, List.nil_append, List.cons_append]
  gi_wp2
  go_ret
  exact ⟨rfl, rfl⟩
theorem below_undrew {W w2 : World} (h : Below W.drew.heap.size W.drew w2) : Below W.heap.size W w2 := ⟨h.os, h.tape, h.output, h.size, h.block⟩
theorem below_grown {W w2 : World} (h : Below W.heap.size W w2) : W.grownBy w2 none := ⟨h.os, h.tape, h.output, h.size, fun k hk _ => h.block k hk⟩
theorem own_below2 {W w2 : World} {n₀ k sz : Nat} {e : TypeId} {v : Value} {xs : List Value} (hcl : Below W.heap.size W w2) (hrow : W.ownsRow n₀ e sz v k xs) : w2.ownsRow n₀ e sz v k xs :=
  hrow.kept (below_grown hcl) (by
    rcases hrow.2 with ⟨rfl, _⟩ | ⟨g, cap, cur, rfl, _, _, _⟩
    · exact .inl rfl
    · exact .inr (by simp [Value.ownBlock]))
theorem boxed_kp {B n₀ b : Nat} {t : TypeId} {v : Value} {W W' : World} (h : Boxed W b t v) (k : Kp n₀ W W') (h1 : t ≠ 65) (h2 : t ≠ 67) : Boxed W' b t v := by
  have hb : W.heap[b]? = _ := h
  refine (k.block b (Array.getElem?_eq_some_iff.1 hb).1 (.inr ⟨?_, ?_⟩)).trans hb
  · rintro ⟨cs, hc⟩; rw [hb] at hc; simp at hc; exact h1 hc.2
  · rintro ⟨cs, hc⟩; rw [hb] at hc; simp at hc; exact h2 hc.2
theorem own_kp {n₀ n₁ k sz : Nat} {t : TypeId} {v : Value} {xs : List Value} {W W' : World} (h : W.ownsRow n₀ t sz v k xs) (kp : Kp n₁ W W') (h1 : t ≠ 65) (h2 : t ≠ 67) : W'.ownsRow n₀ t sz v k xs := by
  refine ⟨h.1, ?_⟩
  rcases h.2 with hn | ⟨g, cap, cur, rfl, hb, hg, rest⟩
  · exact .inl hn
  · refine .inr ⟨g, cap, cur, rfl, hb, (kp.block g (Array.getElem?_eq_some_iff.1 hg).1 (.inr ⟨?_, ?_⟩)).trans hg, rest⟩
    · rintro ⟨cs, hc⟩; rw [hg] at hc; simp at hc; exact h1 hc.2
    · rintro ⟨cs, hc⟩; rw [hg] at hc; simp at hc; exact h2 hc.2
/-- what the body of a round leaves -/
theorem mrg_tail {W w2 w1 : World} {n₀ B : Nat} {T e : TypeId} {v v' : Value} {k m : Nat} {xs ys : List Value} {tmp : Obj}
    (hcl : Below W.heap.size W w2) (hv : Boxed W B T v) (hT : T ≠ e) (hTs : T ≠ 65 ∧ T ≠ 67) (hes : e ≠ 65 ∧ e ≠ 67)
    (hrow : W.ownsRow n₀ e 2 v k xs) (hn₀ : n₀ ≤ W.heap.size) (hB : n₀ ≤ B) (hown' : w1.ownsRow n₀ e 2 v' m ys) (hgrow : (w2.alloc tmp).grownBy w1 v.ownBlock) :
    Boxed w1 B T v ∧ KeepsOthers W (w1.setCell ⟨B, 0, none⟩ v') ∧ Below n₀ W (w1.setCell ⟨B, 0, none⟩ v') ∧ Boxed (w1.setCell ⟨B, 0, none⟩ v') B T v' ∧ (w1.setCell ⟨B, 0, none⟩ v').ownsRow n₀ e 2 v' m ys ∧ KpB n₀ W (w1.setCell ⟨B, 0, none⟩ v') := by
  have hg := below_grown hcl
  have hv2 := hv.kept hg (by simp)
  have hr2 := own_below2 hcl hrow
  obtain ⟨a1, a2, a3, a4, a5⟩ := hv2.appended hT hr2 (Nat.le_trans hn₀ hcl.size) hB hown' hgrow
  have hbel := (hcl.mono hn₀).trans a5
  refine ⟨a1, (KeepsOthers.of_grownBy hg (fun _ _ e => by cases e)).trans a4, hbel, a2, a3, hbel.size, fun j hj hn => ?_⟩
  rcases hn with hn | hn
  · exact hbel.block j hn
  · have hjb : W.heap[B]? = _ := hv
    have hne : j ≠ B := by
      rintro rfl
      rcases hn with ⟨cs, hc⟩ | ⟨cs, hc⟩
      · rw [hjb] at hc; simp at hc; exact hTs.1 hc.2
      · rw [hjb] at hc; simp at hc; exact hTs.2 hc.2
    refine (Below.heap_setCell _ _ _ _ hne).trans ?_
    refine (hgrow.block j (by have := hcl.size; simp; omega) ?_).trans ?_
    · intro ej
      rcases hrow.2 with ⟨rfl, _⟩ | ⟨g, cap, cur, rfl, _, hgb, _⟩
      · simp [Value.ownBlock] at ej
      · simp [Value.ownBlock] at ej
        subst ej
        rcases hn with ⟨cs, hc⟩ | ⟨cs, hc⟩
        · rw [hgb] at hc; simp at hc; exact hes.1 hc.2
        · rw [hgb] at hc; simp at hc; exact hes.2 hc.2
    · exact (Below.heap_alloc _ _ _ (by have := hcl.size; omega)).trans (hcl.block j hj)
theorem stepIn_app18 {F : Fence} {n : Nat} {P : Program} {w : World} {ops : Array Oper} {o : Oper} {a : Act} {K : Act → World → Prop} {Q : Exit → Act → World → Prop} {E : Prop}
    (hg : o.guard = none) (s x : Operand) (t : TypeId) (hop : o.op = Op.call { callee := Callee.builtin Builtin.append, args := #[s, x], argTypes := #[t, t] })
    (base : Nat) (e : TypeId) (i : TypeInfo) (z : Value) (size bytes : Nat) (h1 : P.underlying t = some (.slice e)) (h2 : P.info? e = some i) (h3 : i.zero = some z) (h4 : i.size = size) (h5 : i.bytes = bytes) (h6 : z.cells.size = size) (h7 : 0 < size)
    (v : Value) (k : Nat) (xs : List Value) (hs : a.eval s = v) (hown : w.ownsRow base e size v k xs) (ad : Addr) (m c : Nat) (news : List Value) (hx : a.eval x = .slice (some ad) m c) (hn : news.length = m * size)
    (hc : ∀ j u, news[j]? = some u → w.cell? (ad.add j) = some u) (h1c : ∀ u ∈ news, u.oneCell' = true) (b1 : k + m ≤ maxLen) (b2 : (k + m) * bytes ≤ 140737488355328) (b3 : base ≤ w.heap.size)
    (hK : ∀ v' w', w'.ownsRow base e size v' (k + m) (xs ++ news) → w.grownBy w' v.ownBlock → (v' = .slice none 0 0 ↔ v = .slice none 0 0 ∧ m = 0) → K (a.put o.dst v') w') :
    if Region.wanted o (yielded ops a.tmps) = true then Oper.wpIn F n P o a w K Q else E := by
  have hw : Region.wanted o (yielded ops a.tmps) = true := by simp [Region.wanted, hg]
  rw [if_pos hw]
  obtain ⟨v', w', hrun, r1, r2, r3⟩ := run_append_own (P := P) w base t o.type e i z size bytes h1 h2 h3 h4 h5 h6 h7 v k xs hown ad m c news hn hc h1c b1 b2 b3
  unfold Oper.wpIn
  refine ⟨?_, ?_⟩
  · simp [Oper.about, hop, resolve, Target.leads, Sem.run_pure]
  · rw [Oper.semAt_plain F _ _ (by rw [hop]; intro c hc'; cases hc')]
    simp [execOp, hop, resolve, invoke, builtin, hs, hx, hrun, Result.andThen]
    exact hK v' w' r1 r2 r3
set_option maxRecDepth 100000 in
set_option maxHeartbeats 16000000 in
theorem merge_any (R : Rn) (ord : It → Int) (HO : Hid (OrdOk R ord)) (HOI : Hid (OrdInj R ord)) (hln : Hid (∀ i, i < R.n → R.ln i ≤ 4398046511104)) (hrn : R.n ≤ 1099511627776) (htot : tot R (fun _ => 0) ≤ 1099511627776) (hsz : ∀ i p, (R.K i p).size ≤ 140737488351232 ∧ (R.V i p).size ≤ 140737488351232) (A : Option Addr) (cap : Nat) (w : World) (hR : RnAt R w.heap.size w) (hH : HdAt R w.heap.size A w) :
    Calls Try.prog 15 #[.slice A R.n cap] w fun e w' => ∃ v, e = .returned v ∧ w'.ownsRow w.heap.size 34 2 v (mrgL R ord).length (prC R (mrgL R ord)) ∧ Below w.heap.size w w' := by
  obtain ⟨i0, hi, hz0, hz1, hz2⟩ := info_parts infoPair
  have hmlen : (mrgL R ord).length ≤ 1099511627776 := Nat.le_trans (mrg_len R ord _ _) htot
  refine (callsIn_wide (n := 3)).1 ?_
  refine callsIn_of_wp_marks Try.func15 rfl trivial ?_ rfl
  simp only [Try.ntmps15, List.size_toArray, List.length_cons, List.length_nil, Nat.reduceAdd, Nat.reduceSub, Array.replicate_succ, Array.replicate_zero, List.push_toArray, List.append_toArray, List.nil_append, List.cons_append]
  gi_wp2
  refine ⟨trivial, ?_⟩
  refine (merged_in Fence.wide (3 - 1) trivial rfl (.slice A R.n cap) rfl _).mono ?_
  rintro e w' ⟨rfl, rfl⟩
  gi_wp2
  have bO := Boxed.new w 32 (.slice none 0 0)
  have bS := Boxed.new (w.alloc (.cells #[.slice none 0 0] 32)) 22 (.slice A R.n cap)
  rw [World.size_alloc] at bS
  have hB0 : Below w.heap.size w ((w.alloc (.cells #[.slice none 0 0] 32)).alloc (.cells #[.slice A R.n cap] 22)) := ((Below.refl _ w).alloc (Nat.le_refl _) _).alloc (by simp) _
  have hR1 : RnAt R w.heap.size ((w.alloc (.cells #[.slice none 0 0] 32)).alloc (.cells #[.slice A R.n cap] 22)) := fun i hi p hp => by
    obtain ⟨h1, h2, h3⟩ := hR i hi p hp
    exact ⟨h1, (hB0.cell (p := ⟨R.bk i, _, none⟩) h1).trans h2, (hB0.cell (p := ⟨R.bk i, _, none⟩) h1).trans h3⟩
  have hH1 : HdAt R w.heap.size A ((w.alloc (.cells #[.slice none 0 0] 32)).alloc (.cells #[.slice A R.n cap] 22)) := fun i hi => by
    obtain ⟨b, off, a, e, h1, h2, h3⟩ := hH i hi
    exact ⟨b, off, a, e, h1, (hB0.cell (p := ⟨b, _, none⟩) h1).trans h2, h3⟩
  have h1 : 1 ≤ 3 := by omega
  refine range_T rfl h1 (gf := 24) (lb := #[.pointer (some ⟨w.heap.size + 1, 0, none⟩)]) rfl trivial (enters_of Try.func24 (by kernel_rfl) rfl)
    (merged1_T (3 - 1) (by omega) R ord HO HOI hln hrn w.heap.size (w.heap.size + 1) cap A _ (by simp; omega) hR1 hH1 (by simp) bS.cell) (fun h => h.others) (fun h k => h.trans k) (kpB_put (by simp; omega)) (Below.refl _ _) (fun _ => rfl)
    (fun pre W => (∃ v, Boxed W w.heap.size 32 v ∧ W.ownsRow w.heap.size 34 2 v pre.length (prC R pre) ∧ True) ∧ Below w.heap.size w W)
    (fun _ _ _ => False)
    (OwnFrom.and (Own.from (holdsRow_own w.heap.size w.heap.size 32 34 2 (fun pre : List It => pre.length) (fun pre => prC R pre) (fun (_ : List It) _ => True)) _) (ownFrom_below (Nat.le_refl _) (by simp; omega)))
    ?keep (fun _ _ _ _ _ h _ _ => h.elim)
    ⟨⟨_, bO.alloc _, World.ownsRow_nil _ _ _ _, trivial⟩, hB0⟩
    (fun x a' W => ∃ q, a' = { tmps := #[.slice A R.n cap, undef, .slice none 0 0, .pointer (some ⟨w.heap.size, 0, none⟩), .pointer (some ⟨q, 0, none⟩), .slice A R.n cap, .func (.func 24) #[] #[.pointer (some ⟨w.heap.size + 1, 0, none⟩)], .agg #[.string (R.K x.1 x.2), .string (R.V x.1 x.2)], undef, undef, undef, undef, undef, undef], defers := [] } ∧ W.heap[q]? = some (.cells #[.string (R.K x.1 x.2), .string (R.V x.1 x.2)] 34 (0, 0)))
    ?ax ?assign ?body ?done ?stop
  case keep =>
    rintro s X Y ⟨⟨v, hv, hr, _⟩, hb⟩ hk
    exact ⟨⟨v, boxed_kp (B := 0) hv hk (by decide) (by decide), own_kp hr hk (by decide) (by decide), trivial⟩, hb.trans (hk.below hb.size)⟩
  case ax =>
    rintro x a' s X Y row ⟨q, e, hq⟩ hg hr
    refine ⟨q, e, (hg.block q (Array.getElem?_eq_some_iff.1 hq).1 (fun e' => ?_)).trans hq⟩
    obtain ⟨_, o, ho, hc⟩ := hr q e'.symm
    rw [hq] at ho
    cases ho
    cases hc
  case assign =>
    rintro l pre x W K ⟨⟨v, hv, hrow, _⟩, hB⟩ hK
    simp only [prEnc]
    have hK' := hK { tmps := #[.slice A R.n cap, undef, .slice none 0 0, .pointer (some ⟨w.heap.size, 0, none⟩), .pointer (some ⟨W.heap.size, 0, none⟩), .slice A R.n cap, .func (.func 24) #[] #[.pointer (some ⟨w.heap.size + 1, 0, none⟩)], .agg #[.string (R.K x.1 x.2), .string (R.V x.1 x.2)], undef, undef, undef, undef, undef, undef], defers := [] } (W.alloc (.cells #[.string (R.K x.1 x.2), .string (R.V x.1 x.2)] 34)) (KeepsOthers.alloc _ _) ⟨by simp, fun k hk _ => Below.heap_alloc _ _ _ (by omega)⟩ ⟨⟨v, hv.alloc _, hrow.alloc _, trivial⟩, hB.alloc hB.size _⟩ ⟨W.heap.size, rfl, World.alloc_heap_new W _⟩
    clear hK
    gi_wp2
    exact hK'
  case body =>
    rintro l pre x a' W ⟨⟨v, hv, hrow, _⟩, hB⟩ ⟨q, rfl, hq⟩ hpx
    have hd0 : W.cell? ⟨q, 0, none⟩ = some (.string (R.K x.1 x.2)) := by simp [World.cell?, hq]
    have hd1 : W.cell? ⟨q, 1, none⟩ = some (.string (R.V x.1 x.2)) := by simp [World.cell?, hq]
    have hvc := hv.cell
    have hpl : pre.length + 1 ≤ (mrgL R ord).length := by have := hpx.length_le; simpa using this
    have k3 : pre.length + 1 ≤ maxLen := by unfold maxLen; omega
    have k4 : (pre.length + 1) * 32 ≤ 140737488355328 := by omega
    gi_wp2
    refine wpIn_region_any (by kernel_rfl) ?_
    change wpAnyIn _ _ _ _ _ _ _ _ _ (World.drew _)
    refine wpAnyIn_ready (rs := [0,1]) (by kernel_rfl) (by simp) ?_
    refine AllReadyIn.cons rfl (fun K hK => ?_) (AllReadyIn.cons rfl (fun K hK => ?_) AllReadyIn.nil)
    · go_simp
      refine hK _ _ ?_
      clear hK K
      refine wpAnyIn_ready (rs := [1]) (by kernel_rfl) (by simp) ?_
      refine AllReadyIn.cons rfl (fun K hK => ?_) AllReadyIn.nil
      go_simp
      refine hK _ _ ?_
      clear hK K
      refine wpAnyIn_ready (rs := [2]) (by kernel_rfl) (by simp) ?_
      refine AllReadyIn.cons rfl (fun K hK => ?_) AllReadyIn.nil
      go_simp
      refine ⟨trivial, ?_⟩
      refine (CallsIn.inRound l (callsIn_wide.2 (copyOf_any _ _ _ (hsz _ _).1 (hsz _ _).2))).mono ?_
      rintro e w2 ⟨rfl, hcl0⟩
      have hcl := below_undrew hcl0
      refine hK _ _ ?_
      clear hK K
      have hvc2 := (hv.kept (below_grown (show Below W.heap.size W w2 from hcl)) (by simp)).cell
      have hvc3 := fun o => ((hv.kept (below_grown (show Below W.heap.size W w2 from hcl)) (by simp)).alloc o).cell
      refine wpAnyIn_ready (rs := [3]) (by kernel_rfl) (by simp) ?_
      refine AllReadyIn.cons rfl (fun K hK => ?_) AllReadyIn.nil
      go_simp
      refine hK _ _ ?_
      clear hK K
      refine wpAnyIn_ready (rs := [4]) (by kernel_rfl) (by simp) ?_
      refine AllReadyIn.cons rfl (fun K hK => ?_) AllReadyIn.nil
      have hcl' : Below W.heap.size W w2 := hcl
      have hrow2 := own_below2 hcl' hrow
      refine stepIn_app18 rfl (.tmp 8) (.tmp 11) 32 rfl w.heap.size 34 i0 _ 2 32 Try.underlying32 hi hz0 hz1 hz2 rfl (by decide) v pre.length _ rfl (hrow2.alloc _) ⟨w2.heap.size, 0, none⟩ 1 1 [.string (R.K x.1 x.2), .string (R.V x.1 x.2)] rfl rfl (item_new _ _ _ _) (by simp [Value.oneCell']) k3 k4 (by have := hB.size; have := hcl.size; simp at this ⊢; omega) ?_
      intro v' w1 hown' hgrow _
      obtain ⟨g', cap', rfl, _, _⟩ := hown'.form (by omega)
      obtain ⟨hv1, t1, t2, t3, t4, t5⟩ := mrg_tail hcl' hv (by decide) ⟨by decide, by decide⟩ ⟨by decide, by decide⟩ hrow hB.size (Nat.le_refl _) hown' hgrow
      have hc1 := hv1.cell
      have hf1 := hv1.frozen
      refine hK _ _ ?_
      clear hK K
      refine wpAnyIn_ready (rs := [5]) (by kernel_rfl) (by simp) ?_
      refine AllReadyIn.cons rfl (fun K hK => ?_) AllReadyIn.nil
      go_simp
      refine hK _ _ ?_
      clear hK K
      refine wpAnyIn_done (by kernel_rfl) ?_ _
      exact ⟨t1, t5, ⟨_, t3, by rw [List.length_append, prC_snoc]; exact t4, trivial⟩, hB.trans t2⟩

    · go_simp
      refine hK _ _ ?_
      clear hK K
      refine wpAnyIn_ready (rs := [0,2]) (by kernel_rfl) (by simp) ?_
      refine AllReadyIn.cons rfl (fun K hK => ?_) (AllReadyIn.cons rfl (fun K hK => ?_) AllReadyIn.nil)
      · go_simp
        refine hK _ _ ?_
        clear hK K
        refine wpAnyIn_ready (rs := [2]) (by kernel_rfl) (by simp) ?_
        refine AllReadyIn.cons rfl (fun K hK => ?_) AllReadyIn.nil
        go_simp
        refine ⟨trivial, ?_⟩
        refine (CallsIn.inRound l (callsIn_wide.2 (copyOf_any _ _ _ (hsz _ _).1 (hsz _ _).2))).mono ?_
        rintro e w2 ⟨rfl, hcl0⟩
        have hcl := below_undrew hcl0
        refine hK _ _ ?_
        clear hK K
        have hvc2 := (hv.kept (below_grown (show Below W.heap.size W w2 from hcl)) (by simp)).cell
        have hvc3 := fun o => ((hv.kept (below_grown (show Below W.heap.size W w2 from hcl)) (by simp)).alloc o).cell
        refine wpAnyIn_ready (rs := [3]) (by kernel_rfl) (by simp) ?_
        refine AllReadyIn.cons rfl (fun K hK => ?_) AllReadyIn.nil
        go_simp
        refine hK _ _ ?_
        clear hK K
        refine wpAnyIn_ready (rs := [4]) (by kernel_rfl) (by simp) ?_
        refine AllReadyIn.cons rfl (fun K hK => ?_) AllReadyIn.nil
        have hcl' : Below W.heap.size W w2 := hcl
        have hrow2 := own_below2 hcl' hrow
        refine stepIn_app18 rfl (.tmp 8) (.tmp 11) 32 rfl w.heap.size 34 i0 _ 2 32 Try.underlying32 hi hz0 hz1 hz2 rfl (by decide) v pre.length _ rfl (hrow2.alloc _) ⟨w2.heap.size, 0, none⟩ 1 1 [.string (R.K x.1 x.2), .string (R.V x.1 x.2)] rfl rfl (item_new _ _ _ _) (by simp [Value.oneCell']) k3 k4 (by have := hB.size; have := hcl.size; simp at this ⊢; omega) ?_
        intro v' w1 hown' hgrow _
        obtain ⟨g', cap', rfl, _, _⟩ := hown'.form (by omega)
        obtain ⟨hv1, t1, t2, t3, t4, t5⟩ := mrg_tail hcl' hv (by decide) ⟨by decide, by decide⟩ ⟨by decide, by decide⟩ hrow hB.size (Nat.le_refl _) hown' hgrow
        have hc1 := hv1.cell
        have hf1 := hv1.frozen
        refine hK _ _ ?_
        clear hK K
        refine wpAnyIn_ready (rs := [5]) (by kernel_rfl) (by simp) ?_
        refine AllReadyIn.cons rfl (fun K hK => ?_) AllReadyIn.nil
        go_simp
        refine hK _ _ ?_
        clear hK K
        refine wpAnyIn_done (by kernel_rfl) ?_ _
        exact ⟨t1, t5, ⟨_, t3, by rw [List.length_append, prC_snoc]; exact t4, trivial⟩, hB.trans t2⟩

      · go_simp
        refine ⟨trivial, ?_⟩
        refine (CallsIn.inRound l (callsIn_wide.2 (copyOf_any _ _ _ (hsz _ _).1 (hsz _ _).2))).mono ?_
        rintro e w2 ⟨rfl, hcl0⟩
        have hcl := below_undrew hcl0
        refine hK _ _ ?_
        clear hK K
        have hvc2 := (hv.kept (below_grown (show Below W.heap.size W w2 from hcl)) (by simp)).cell
        have hvc3 := fun o => ((hv.kept (below_grown (show Below W.heap.size W w2 from hcl)) (by simp)).alloc o).cell
        refine wpAnyIn_ready (rs := [0,3]) (by kernel_rfl) (by simp) ?_
        refine AllReadyIn.cons rfl (fun K hK => ?_) (AllReadyIn.cons rfl (fun K hK => ?_) AllReadyIn.nil)
        · go_simp
          refine hK _ _ ?_
          clear hK K
          refine wpAnyIn_ready (rs := [3]) (by kernel_rfl) (by simp) ?_
          refine AllReadyIn.cons rfl (fun K hK => ?_) AllReadyIn.nil
          go_simp
          refine hK _ _ ?_
          clear hK K
          refine wpAnyIn_ready (rs := [4]) (by kernel_rfl) (by simp) ?_
          refine AllReadyIn.cons rfl (fun K hK => ?_) AllReadyIn.nil
          have hcl' : Below W.heap.size W w2 := hcl
          have hrow2 := own_below2 hcl' hrow
          refine stepIn_app18 rfl (.tmp 8) (.tmp 11) 32 rfl w.heap.size 34 i0 _ 2 32 Try.underlying32 hi hz0 hz1 hz2 rfl (by decide) v pre.length _ rfl (hrow2.alloc _) ⟨w2.heap.size, 0, none⟩ 1 1 [.string (R.K x.1 x.2), .string (R.V x.1 x.2)] rfl rfl (item_new _ _ _ _) (by simp [Value.oneCell']) k3 k4 (by have := hB.size; have := hcl.size; simp at this ⊢; omega) ?_
          intro v' w1 hown' hgrow _
          obtain ⟨g', cap', rfl, _, _⟩ := hown'.form (by omega)
          obtain ⟨hv1, t1, t2, t3, t4, t5⟩ := mrg_tail hcl' hv (by decide) ⟨by decide, by decide⟩ ⟨by decide, by decide⟩ hrow hB.size (Nat.le_refl _) hown' hgrow
          have hc1 := hv1.cell
          have hf1 := hv1.frozen
          refine hK _ _ ?_
          clear hK K
          refine wpAnyIn_ready (rs := [5]) (by kernel_rfl) (by simp) ?_
          refine AllReadyIn.cons rfl (fun K hK => ?_) AllReadyIn.nil
          go_simp
          refine hK _ _ ?_
          clear hK K
          refine wpAnyIn_done (by kernel_rfl) ?_ _
          exact ⟨t1, t5, ⟨_, t3, by rw [List.length_append, prC_snoc]; exact t4, trivial⟩, hB.trans t2⟩

        · go_simp
          refine hK _ _ ?_
          clear hK K
          refine wpAnyIn_ready (rs := [0]) (by kernel_rfl) (by simp) ?_
          refine AllReadyIn.cons rfl (fun K hK => ?_) AllReadyIn.nil
          go_simp
          refine hK _ _ ?_
          clear hK K
          refine wpAnyIn_ready (rs := [4]) (by kernel_rfl) (by simp) ?_
          refine AllReadyIn.cons rfl (fun K hK => ?_) AllReadyIn.nil
          have hcl' : Below W.heap.size W w2 := hcl
          have hrow2 := own_below2 hcl' hrow
          refine stepIn_app18 rfl (.tmp 8) (.tmp 11) 32 rfl w.heap.size 34 i0 _ 2 32 Try.underlying32 hi hz0 hz1 hz2 rfl (by decide) v pre.length _ rfl (hrow2.alloc _) ⟨w2.heap.size, 0, none⟩ 1 1 [.string (R.K x.1 x.2), .string (R.V x.1 x.2)] rfl rfl (item_new _ _ _ _) (by simp [Value.oneCell']) k3 k4 (by have := hB.size; have := hcl.size; simp at this ⊢; omega) ?_
          intro v' w1 hown' hgrow _
          obtain ⟨g', cap', rfl, _, _⟩ := hown'.form (by omega)
          obtain ⟨hv1, t1, t2, t3, t4, t5⟩ := mrg_tail hcl' hv (by decide) ⟨by decide, by decide⟩ ⟨by decide, by decide⟩ hrow hB.size (Nat.le_refl _) hown' hgrow
          have hc1 := hv1.cell
          have hf1 := hv1.frozen
          refine hK _ _ ?_
          clear hK K
          refine wpAnyIn_ready (rs := [5]) (by kernel_rfl) (by simp) ?_
          refine AllReadyIn.cons rfl (fun K hK => ?_) AllReadyIn.nil
          go_simp
          refine hK _ _ ?_
          clear hK K
          refine wpAnyIn_done (by kernel_rfl) ?_ _
          exact ⟨t1, t5, ⟨_, t3, by rw [List.length_append, prC_snoc]; exact t4, trivial⟩, hB.trans t2⟩




  case done =>
    rintro D W hD ⟨⟨v, hv, hrow, _⟩, hB⟩ hK2
    have hc := hv.cell
    gi_wp2
    refine ⟨by simp, .inl ⟨_, _, rfl, run_takeDeferred hK2, ?_⟩⟩
    exact ⟨_, results_tmp rfl _ _ _, v, rfl, ownsRow_putObj hrow _ hK2 rfl, hB.trans (belowK_b (w := w) (Nat.le_refl _) W D _ _ (by simp at hD; omega) hK2 rfl rfl)⟩
  case stop =>
    rintro D co pre W _ hp h
    exact h.elim
end Go.Proofs.Ytcgilgihmapipaa
