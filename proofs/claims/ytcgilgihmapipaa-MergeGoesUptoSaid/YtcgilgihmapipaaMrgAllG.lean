/- The iterator that merge.All hands back, which ranges over an iterator itself. -/
import Derived.Test.YtcgilgihmapipaaMrgMerge
import Derived.Test.YtcgilgihmapipaaRangeN
namespace Go.Proofs.Ytcgilgihmapipaa
open Go.RowKit Go.Shelf
attribute [local go_sem] Oper.semAt_some

/-- what a round's body pays -/
structure KpO (B0 N : Nat) (A B : World) : Prop where
  size : A.heap.size ≤ B.heap.size
  same : ∀ k, k < A.heap.size → (k < B0 ∨ Bears A k 65 ∨ Bears A k 67 ∨ Bears A k 52) → B.heap[k]? = A.heap[k]?
  rest : ∀ k o, N ≤ k → A.heap[k]? = some o → o.isCells = false → B.heap[k]? = some o
theorem KpO.kpB {B0 N : Nat} {A B : World} (h : KpO B0 N A B) : KpB B0 A B := ⟨h.size, fun k hk hn => h.same k hk (by rcases hn with h | h | h; exact .inl h; exact .inr (.inl h); exact .inr (.inr (.inl h)))⟩
theorem bears_same {A B : World} {k : Nat} {e : TypeId} (h : Bears A k e) (s : B.heap[k]? = A.heap[k]?) : Bears B k e := by
  obtain ⟨cs, hc⟩ := h
  exact ⟨cs, s.trans hc⟩
theorem KpO.trans {B0 N : Nat} {A B C : World} (h : KpO B0 N A B) (k : KpO B0 N B C) : KpO B0 N A C :=
  ⟨Nat.le_trans h.size k.size, fun j hj hn => by
    have e := h.same j hj hn
    refine (k.same j (Nat.lt_of_lt_of_le hj h.size) ?_).trans e
    rcases hn with hn | hn | hn | hn
    · exact .inl hn
    · exact .inr (.inl (bears_same hn e))
    · exact .inr (.inr (.inl (bears_same hn e)))
    · exact .inr (.inr (.inr (bears_same hn e))), fun j o hj ho hc => k.rest j o hj (h.rest j o hj ho hc) hc⟩
theorem KpO.below {B0 N : Nat} {A B : World} (h : Below A.heap.size A B) : KpO B0 N A B :=
  ⟨h.size, fun k hk _ => h.block k hk, fun k o _ ho _ => (h.block k (Array.getElem?_eq_some_iff.1 ho).1).trans ho⟩
/-- what the iterator may do between two rounds -/
structure KpT (B0 N : Nat) (A B : World) : Prop where
  os : B.os = A.os
  tape : B.tape = A.tape
  output : B.output = A.output
  size : A.heap.size ≤ B.heap.size
  block : ∀ k o, A.heap[k]? = some o → (k < B0 ∨ ((k < N ∨ o.isCells = true) ∧ ¬ Bears A k 65 ∧ ¬ Bears A k 67)) → B.heap[k]? = some o
theorem KpT.of {B0 N : Nat} {A B : World} (h : Kp B0 A B) : KpT B0 N A B :=
  ⟨h.os, h.tape, h.output, h.size, fun k o ho hn => (h.block k (Array.getElem?_eq_some_iff.1 ho).1 (by rcases hn with hn | hn; exact .inl hn; exact .inr hn.2)).trans ho⟩
theorem KpT.grown {B0 N M : Nat} {A B : World} {row : Option Nat} (hB : B0 ≤ M) (hN : N ≤ M) (h : A.grownBy B row) (hr : ∀ r, row = some r → M ≤ r ∧ ∃ o : Obj, A.heap[r]? = some o ∧ o.isCells = false) : KpT B0 N A B :=
  ⟨h.os, h.tape, h.output, h.size, fun k o ho hn => (h.block k (Array.getElem?_eq_some_iff.1 ho).1 (fun e => by
    obtain ⟨h1, o', h2, h3⟩ := hr k e.symm
    rw [ho] at h2
    cases h2
    rcases hn with hn | ⟨hn | hn, _⟩
    · omega
    · omega
    · rw [h3] at hn; cases hn)).trans ho⟩
theorem KpT.keepAt {B0 s : Nat} {A B : World} (h : KpT B0 (s + 2) A B) : KeepsAt s A B := fun k o hk ho hc => h.block k o ho (.inr ⟨.inl (by omega), bears_not ho hc, bears_not ho hc⟩)
theorem KpT.refl (B0 N : Nat) (A : World) : KpT B0 N A A := ⟨rfl, rfl, rfl, Nat.le_refl _, fun _ _ h _ => h⟩
/-- where no depth is asked the figures are all one -/
theorem round_any {m m' l l' : Nat} {P : Program} {f : FuncId} {tmps : Array Value} {assign body : Code} {w : World} {R : Ending → World → Prop}
    (h : RoundIn Fence.wide m P l f tmps assign body w R) : RoundIn (Fence.wide.inRound l') m' P l f tmps assign body w R := ⟨h.1, fun c cs _ => h.2 c cs (fun d h => by cases h)⟩
set_option maxRecDepth 100000 in
set_option maxHeartbeats 16000000 in
theorem all1_N (n : Nat) (hn : 6 ≤ n) (R : Rn) (ord : It → Int) (HO : Hid (OrdOk R ord)) (HOI : Hid (OrdInj R ord)) (hln : Hid (∀ i, i < R.n → R.ln i ≤ 4398046511104)) (hrn : R.n ≤ 1099511627776) (hsz : Hid (∀ i p, (R.K i p).size ≤ 140737488351232 ∧ (R.V i p).size ≤ 140737488351232)) (B0 rb cap : Nat) (A : Option Addr) (w : World) (hB0 : B0 ≤ w.heap.size) (hR : RnAt R B0 w) (hH : HdAt R B0 A w) (hrb : rb < w.heap.size) (hbox : w.cell? ⟨rb, 0, none⟩ = some (.slice A R.n cap)) :
    SeqN Fence.wide n Try.prog 17 #[.pointer (some ⟨rb, 0, none⟩)] (prEnc R) (KpO B0) (KpT B0) (mrgL R ord) w := by
  intro l J Jx W hW hlW hJT hJxT hY h0
  have hbw := (hW.cell (p := ⟨rb, 0, none⟩) hrb).trans hbox
  obtain ⟨N, hN⟩ : ∃ N, N = W.heap.size := ⟨_, rfl⟩
  have hBN : B0 ≤ N := by rw [hN]; exact Nat.le_trans hB0 hW.size
  rw [← hN] at hJT hJxT hY
  refine callsIn_of_wp_marks Try.func17 rfl trivial ?_ rfl
  simp only [Try.ntmps17, List.size_toArray, List.length_cons, List.length_nil, Nat.reduceAdd, Nat.reduceSub, Array.replicate_succ, Array.replicate_zero, List.push_toArray, List.append_toArray, List.nil_append, List.cons_append]
  have hrbW : rb < W.heap.size := Nat.lt_of_lt_of_le hrb hW.size
  have hbw1 : ∀ o, (W.alloc o).cell? ⟨rb, 0, none⟩ = some (.slice A R.n cap) := fun o => (((Below.refl W.heap.size W).alloc (Nat.le_refl _) o).cell (p := ⟨rb, 0, none⟩) hrbW).trans hbw
  gi_wp2
  refine ⟨trivial, fun _ => by omega, ?_⟩
  refine (merged_in Fence.wide (n - 1) trivial rfl (.slice A R.n cap) rfl _).mono ?_
  rintro e w' ⟨rfl, rfl⟩
  gi_wp2
  obtain ⟨o1, ho1⟩ : ∃ o, o = Obj.cells #[.func (.yield l) #[] #[]] 52 := ⟨_, rfl⟩
  obtain ⟨o2, ho2⟩ : ∃ o, o = Obj.cells #[.slice A R.n cap] 22 := ⟨_, rfl⟩
  have bY := Boxed.new W 52 (.func (.yield l) #[] #[])
  have bS := Boxed.new (W.alloc (.cells #[.func (.yield l) #[] #[]] 52)) 22 (.slice A R.n cap)
  rw [World.size_alloc] at bS
  have bY2 := bY.alloc (.cells #[.slice A R.n cap] 22)
  have hbel : Below W.heap.size W ((W.alloc (.cells #[.func (.yield l) #[] #[]] 52)).alloc (.cells #[.slice A R.n cap] 22)) := ((Below.refl _ W).alloc (Nat.le_refl _) _).alloc (by simp) _
  obtain ⟨V, hV⟩ : ∃ V, V = ((W.alloc (.cells #[.func (.yield l) #[] #[]] 52)).alloc (.cells #[.slice A R.n cap] 22)) := ⟨_, rfl⟩
  have hVs : V.heap.size = N + 2 := by rw [hV, hN]; simp
  rw [← hV] at bY2 bS hbel ⊢
  rw [← hN] at bY2 bS hbel ⊢
  clear bY hbw1 ho1 ho2
  have hRV : RnAt R B0 V := fun i hi p hp => by
    obtain ⟨h1, h2, h3⟩ := hR i hi p hp
    have hb := hW.trans (hbel.mono (by rw [hN]; exact hW.size))
    exact ⟨h1, (hb.cell (p := ⟨R.bk i, _, none⟩) (show R.bk i < w.heap.size by omega)).trans h2, (hb.cell (p := ⟨R.bk i, _, none⟩) (show R.bk i < w.heap.size by omega)).trans h3⟩
  have hHV : HdAt R B0 A V := fun i hi => by
    obtain ⟨b, off, a, e, h1, h2, h3⟩ := hH i hi
    have hb := hW.trans (hbel.mono (by rw [hN]; exact hW.size))
    exact ⟨b, off, a, e, h1, (hb.cell (p := ⟨b, _, none⟩) (show b < w.heap.size by omega)).trans h2, h3⟩
  have hj0 : J [] V := hJT _ _ _ h0 (KpT.of ((kp_below (B := B0) (by rw [hN] at hbel; exact hbel)).down (Nat.le_refl _)))
  have h1 : 1 ≤ n := by omega
  have HVS := Lib.hid hVs
  clear hN hV hlW hbw hrbW h0 hbel
  refine range_N rfl h1 (gf := 24) (lb := #[.pointer (some ⟨N + 1, 0, none⟩)]) rfl trivial (enters_of Try.func24 (by kernel_rfl) rfl)
    (merged1_T (n - 1) (by omega) R ord HO HOI hln hrn B0 (N + 1) cap A V (by omega) hRV hHV (by omega) bS.cell).toN (fun h => KeepsAt.of h.others) (fun h k => h.trans k) (fun X o o' ho hc hw => kpB_put (w := V) (by omega) X _ o o' (by omega) ho hc hw) (Below.refl _ _) (fun _ => rfl)
    (fun pre X => J pre X ∧ Boxed X N 52 (.func (.yield l) #[] #[]))
    (fun c pre X => c = .ret ∧ Jx pre X)
    (fun s X Y row hs hg hr => ⟨hJT s X Y hs.1 (KpT.grown (M := V.heap.size) (by omega) (by omega) hg hr), hs.2.kept hg (fun e => by
      obtain ⟨_, o, ho, hc⟩ := hr N e.symm
      have h9 : X.heap[N]? = _ := hs.2
      rw [ho] at h9
      cases h9
      cases hc)⟩)
    (fun s X Y hs hk => ⟨hJT s X Y hs.1 (KpT.of hk), boxed_kp (B := 0) hs.2 hk (by decide) (by decide)⟩)
    (fun c s X Y row hs hg hr => ⟨hs.1, hJxT s X Y hs.2 (KpT.grown (M := V.heap.size) (by omega) (by omega) hg hr)⟩)
    (fun c s X Y hs hk => ⟨hs.1, hJxT s X Y hs.2 (KpT.of hk)⟩)
    ⟨hj0, bY2⟩
    (fun x a' X => ∃ q, a' = { tmps := #[.func (.yield l) #[] #[], .pointer (some ⟨rb, 0, none⟩), .pointer (some ⟨N, 0, none⟩), .pointer (some ⟨q, 0, none⟩), .slice A R.n cap, .func (.func 24) #[] #[.pointer (some ⟨N + 1, 0, none⟩)], .agg #[.string (R.K x.1 x.2), .string (R.V x.1 x.2)], undef, undef, undef, undef, undef], defers := [] } ∧ X.heap[q]? = some (.cells #[.string (R.K x.1 x.2), .string (R.V x.1 x.2)] 34 (0, 0)))
    ?ax ?assign ?body ?done ?stop
  case ax =>
    rintro x a' s X Y row ⟨q, e, hq⟩ hg hr
    refine ⟨q, e, (hg.block q (Array.getElem?_eq_some_iff.1 hq).1 (fun e' => ?_)).trans hq⟩
    obtain ⟨_, o, ho, hc⟩ := hr q e'.symm
    rw [hq] at ho
    cases ho
    cases hc
  case assign =>
    rintro l' pre x X K ⟨hj, hb⟩ hK
    simp only [prEnc]
    have hal : Below X.heap.size X (X.alloc (.cells #[.string (R.K x.1 x.2), .string (R.V x.1 x.2)] 34)) := (Below.refl _ _).alloc (Nat.le_refl _) _
    have hK' := hK { tmps := #[.func (.yield l) #[] #[], .pointer (some ⟨rb, 0, none⟩), .pointer (some ⟨N, 0, none⟩), .pointer (some ⟨X.heap.size, 0, none⟩), .slice A R.n cap, .func (.func 24) #[] #[.pointer (some ⟨N + 1, 0, none⟩)], .agg #[.string (R.K x.1 x.2), .string (R.V x.1 x.2)], undef, undef, undef, undef, undef], defers := [] } (X.alloc (.cells #[.string (R.K x.1 x.2), .string (R.V x.1 x.2)] 34)) (KeepsAt.of (KeepsOthers.alloc _ _)) ⟨by simp, fun k hk _ => Below.heap_alloc _ _ _ (by omega)⟩ ⟨hJT _ _ _ hj (KpT.of ((kp_below hal).down (Nat.le_refl _))), hb.alloc _⟩ ⟨X.heap.size, rfl, World.alloc_heap_new X _⟩
    clear hK
    gi_wp2
    exact hK'
  case body =>
    rintro l' pre x a' X ⟨hj, hb⟩ ⟨q, rfl, hq⟩ hpx
    have hd0 : X.cell? ⟨q, 0, none⟩ = some (.string (R.K x.1 x.2)) := by simp [World.cell?, hq]
    have hd1 : X.cell? ⟨q, 1, none⟩ = some (.string (R.V x.1 x.2)) := by simp [World.cell?, hq]
    have hvc := hb.cell
    gi_wp2
    refine wpIn_region_any (by kernel_rfl) ?_
    change wpAnyIn _ _ _ _ _ _ _ _ _ (World.drew _)
    refine wpAnyIn_ready (rs := [0,1]) (by kernel_rfl) (by simp) ?_
    refine AllReadyIn.cons rfl (fun K hK => ?_) (AllReadyIn.cons rfl (fun K hK => ?_) AllReadyIn.nil)
    · go_simp
      refine hK _ _ ?_
      clear hK K
      refine wpAnyIn_ready (rs := [1]) (by kernel_rfl) (by simp) ?_
      refine AllReadyIn.cons rfl (fun K hK => ?_) AllReadyIn.nil
      go_simp
      refine hK _ _ ?_
      clear hK K
      refine wpAnyIn_ready (rs := [2]) (by kernel_rfl) (by simp) ?_
      refine AllReadyIn.cons rfl (fun K hK => ?_) AllReadyIn.nil
      go_simp
      refine ⟨trivial, fun _ => by omega, ?_⟩
      refine (CallsIn.inRound l' (callsIn_wide.2 (copyOf_any _ _ _ (hsz.out _ _).1 (hsz.out _ _).2))).mono ?_
      rintro e w2 ⟨rfl, hcl0⟩
      have hcl := below_undrew hcl0
      refine hK _ _ ?_
      clear hK K
      have hb2 := hb.kept (below_grown (show Below X.heap.size X w2 from hcl)) (by simp)
      have hvc2 := hb2.cell
      have hj2 := hJT _ _ _ hj (KpT.of ((kp_below (show Below X.heap.size X w2 from hcl)).down (Nat.le_refl _)))
      obtain ⟨fn, tmps, assign, body, hy, hR'⟩ := hY pre x w2 hj2 hpx
      simp only [prEnc] at hy
      refine wpAnyIn_ready (rs := [3]) (by kernel_rfl) (by simp) ?_
      refine AllReadyIn.cons rfl (fun K hK => ?_) AllReadyIn.nil
      go_simp
      refine ⟨by simp [Fence.wide, Fence.inRound], ?_⟩
      refine (round_any hR').mono ?_
      have hbb : KpO B0 N X w2 := KpO.below hcl
      rintro e W3 (⟨rfl, hj3, hk3⟩ | ⟨rfl, hj3, hk3⟩)
      · refine hK _ _ ?_
        clear hK K
        refine wpAnyIn_ready (rs := [4]) (by kernel_rfl) (by simp) ?_
        refine AllReadyIn.cons rfl (fun K hK => ?_) AllReadyIn.nil
        go_simp
        refine hK _ _ ?_
        clear hK K
        refine wpAnyIn_done (by kernel_rfl) ?_ _
        gi_wp2
        have hkk := hbb.trans hk3
        exact ⟨fun k o hk ho hc => hkk.rest k o (by omega) ho hc, hkk.kpB, hj3, by
          have h9 := hkk.same N hb.lt (.inr (.inr (.inr ⟨_, hb⟩)))
          exact h9.trans hb⟩
      · refine hK _ _ ?_
        clear hK K
        refine wpAnyIn_ready (rs := [4]) (by kernel_rfl) (by simp) ?_
        refine AllReadyIn.cons rfl (fun K hK => ?_) AllReadyIn.nil
        go_simp
        refine hK _ _ ?_
        clear hK K
        refine wpAnyIn_done (by kernel_rfl) ?_ _
        gi_wp2
        have hkk := hbb.trans hk3
        exact ⟨fun k o hk ho hc => hkk.rest k o (by omega) ho hc, hkk.kpB, rfl, hj3⟩
    · go_simp
      refine hK _ _ ?_
      clear hK K
      refine wpAnyIn_ready (rs := [0,2]) (by kernel_rfl) (by simp) ?_
      refine AllReadyIn.cons rfl (fun K hK => ?_) (AllReadyIn.cons rfl (fun K hK => ?_) AllReadyIn.nil)
      · go_simp
        refine hK _ _ ?_
        clear hK K
        refine wpAnyIn_ready (rs := [2]) (by kernel_rfl) (by simp) ?_
        refine AllReadyIn.cons rfl (fun K hK => ?_) AllReadyIn.nil
        go_simp
        refine ⟨trivial, fun _ => by omega, ?_⟩
        refine (CallsIn.inRound l' (callsIn_wide.2 (copyOf_any _ _ _ (hsz.out _ _).1 (hsz.out _ _).2))).mono ?_
        rintro e w2 ⟨rfl, hcl0⟩
        have hcl := below_undrew hcl0
        refine hK _ _ ?_
        clear hK K
        have hb2 := hb.kept (below_grown (show Below X.heap.size X w2 from hcl)) (by simp)
        have hvc2 := hb2.cell
        have hj2 := hJT _ _ _ hj (KpT.of ((kp_below (show Below X.heap.size X w2 from hcl)).down (Nat.le_refl _)))
        obtain ⟨fn, tmps, assign, body, hy, hR'⟩ := hY pre x w2 hj2 hpx
        simp only [prEnc] at hy
        refine wpAnyIn_ready (rs := [3]) (by kernel_rfl) (by simp) ?_
        refine AllReadyIn.cons rfl (fun K hK => ?_) AllReadyIn.nil
        go_simp
        refine ⟨by simp [Fence.wide, Fence.inRound], ?_⟩
        refine (round_any hR').mono ?_
        have hbb : KpO B0 N X w2 := KpO.below hcl
        rintro e W3 (⟨rfl, hj3, hk3⟩ | ⟨rfl, hj3, hk3⟩)
        · refine hK _ _ ?_
          clear hK K
          refine wpAnyIn_ready (rs := [4]) (by kernel_rfl) (by simp) ?_
          refine AllReadyIn.cons rfl (fun K hK => ?_) AllReadyIn.nil
          go_simp
          refine hK _ _ ?_
          clear hK K
          refine wpAnyIn_done (by kernel_rfl) ?_ _
          gi_wp2
          have hkk := hbb.trans hk3
          exact ⟨fun k o hk ho hc => hkk.rest k o (by omega) ho hc, hkk.kpB, hj3, by
            have h9 := hkk.same N hb.lt (.inr (.inr (.inr ⟨_, hb⟩)))
            exact h9.trans hb⟩
        · refine hK _ _ ?_
          clear hK K
          refine wpAnyIn_ready (rs := [4]) (by kernel_rfl) (by simp) ?_
          refine AllReadyIn.cons rfl (fun K hK => ?_) AllReadyIn.nil
          go_simp
          refine hK _ _ ?_
          clear hK K
          refine wpAnyIn_done (by kernel_rfl) ?_ _
          gi_wp2
          have hkk := hbb.trans hk3
          exact ⟨fun k o hk ho hc => hkk.rest k o (by omega) ho hc, hkk.kpB, rfl, hj3⟩
      · go_simp
        refine ⟨trivial, fun _ => by omega, ?_⟩
        refine (CallsIn.inRound l' (callsIn_wide.2 (copyOf_any _ _ _ (hsz.out _ _).1 (hsz.out _ _).2))).mono ?_
        rintro e w2 ⟨rfl, hcl0⟩
        have hcl := below_undrew hcl0
        refine hK _ _ ?_
        clear hK K
        have hb2 := hb.kept (below_grown (show Below X.heap.size X w2 from hcl)) (by simp)
        have hvc2 := hb2.cell
        have hj2 := hJT _ _ _ hj (KpT.of ((kp_below (show Below X.heap.size X w2 from hcl)).down (Nat.le_refl _)))
        obtain ⟨fn, tmps, assign, body, hy, hR'⟩ := hY pre x w2 hj2 hpx
        simp only [prEnc] at hy
        refine wpAnyIn_ready (rs := [0]) (by kernel_rfl) (by simp) ?_
        refine AllReadyIn.cons rfl (fun K hK => ?_) AllReadyIn.nil
        go_simp
        refine hK _ _ ?_
        clear hK K
        refine wpAnyIn_ready (rs := [3]) (by kernel_rfl) (by simp) ?_
        refine AllReadyIn.cons rfl (fun K hK => ?_) AllReadyIn.nil
        go_simp
        refine ⟨by simp [Fence.wide, Fence.inRound], ?_⟩
        refine (round_any hR').mono ?_
        have hbb : KpO B0 N X w2 := KpO.below hcl
        rintro e W3 (⟨rfl, hj3, hk3⟩ | ⟨rfl, hj3, hk3⟩)
        · refine hK _ _ ?_
          clear hK K
          refine wpAnyIn_ready (rs := [4]) (by kernel_rfl) (by simp) ?_
          refine AllReadyIn.cons rfl (fun K hK => ?_) AllReadyIn.nil
          go_simp
          refine hK _ _ ?_
          clear hK K
          refine wpAnyIn_done (by kernel_rfl) ?_ _
          gi_wp2
          have hkk := hbb.trans hk3
          exact ⟨fun k o hk ho hc => hkk.rest k o (by omega) ho hc, hkk.kpB, hj3, by
            have h9 := hkk.same N hb.lt (.inr (.inr (.inr ⟨_, hb⟩)))
            exact h9.trans hb⟩
        · refine hK _ _ ?_
          clear hK K
          refine wpAnyIn_ready (rs := [4]) (by kernel_rfl) (by simp) ?_
          refine AllReadyIn.cons rfl (fun K hK => ?_) AllReadyIn.nil
          go_simp
          refine hK _ _ ?_
          clear hK K
          refine wpAnyIn_done (by kernel_rfl) ?_ _
          gi_wp2
          have hkk := hbb.trans hk3
          exact ⟨fun k o hk ho hc => hkk.rest k o (by omega) ho hc, hkk.kpB, rfl, hj3⟩
  case done =>
    rintro D X hD ⟨hj, _⟩ hK2
    have hj2 := hJT _ _ _ hj (KpT.grown (M := V.heap.size) (by omega) (by omega) (grownBy_putObj' X D (.deferred none)) (fun r e => by cases e; exact ⟨hD, _, hK2, rfl⟩))
    gi_wp2
    refine ⟨by simp, .inl ⟨_, _, rfl, run_takeDeferred hK2, ?_⟩⟩
    exact ⟨_, results_none rfl _ _ _, ⟨_, rfl⟩, .inl hj2⟩
  case stop =>
    rintro D c pre X hD hp ⟨rfl, hj⟩ hK2
    have hj2 := hJxT _ _ _ hj (KpT.grown (M := V.heap.size) (by omega) (by omega) (grownBy_putObj' X D (.deferred none)) (fun r e => by cases e; exact ⟨hD, _, hK2, rfl⟩))
    gi_wp2
    refine ⟨by simp, .inl ⟨_, _, rfl, run_takeDeferred hK2, ?_⟩⟩
    exact ⟨_, results_none rfl _ _ _, ⟨_, rfl⟩, .inr ⟨pre, hp, hj2⟩⟩
end Go.Proofs.Ytcgilgihmapipaa
