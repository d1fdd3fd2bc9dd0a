/- Merging: the iterator over several runs. -/
import Derived.Test.YtcgilgihmapipaaMrgSrc
import Derived.Test.YtcgilgihmapipaaRangeT
import Derived.RangeFuncBox
import Derived.RangeFuncNested
import Derived.RangeFuncBound
import Derived.RangeFuncCalls
import Derived.RangeFuncLeaves
import Derived.Shelf.Abstract
import Derived.Shelf.RegionOpen
import Derived.OwnWalkIn
import Derived.TacticsInMore
import Derived.LoopNIn
import Derived.LoopIn
import Derived.Sort.LoopGhostIn
namespace Go.Proofs.Ytcgilgihmapipaa
open Go.RowKit Go.Shelf
attribute [local go_sem] Oper.semAt_some

/-- what a round must keep for the iterator: what lay ahead of all, and the heap -/
structure KpB (B0 : Nat) (W W' : World) : Prop where
  size : W.heap.size ≤ W'.heap.size
  same : ∀ k, k < W.heap.size → (k < B0 ∨ Bears W k 65 ∨ Bears W k 67) → W'.heap[k]? = W.heap[k]?
theorem KpB.refl (B0 : Nat) (W : World) : KpB B0 W W := ⟨Nat.le_refl _, fun _ _ _ => rfl⟩
theorem KpB.trans {B0 : Nat} {X Y Z : World} (h : KpB B0 X Y) (k : KpB B0 Y Z) : KpB B0 X Z :=
  ⟨Nat.le_trans h.size k.size, fun j hj hn => by
    have e := h.same j hj hn
    refine (k.same j (Nat.lt_of_lt_of_le hj h.size) ?_).trans e
    rcases hn with hn | ⟨cs, hc⟩ | ⟨cs, hc⟩
    · exact .inl hn
    · exact .inr (.inl ⟨cs, e.trans hc⟩)
    · exact .inr (.inr ⟨cs, e.trans hc⟩)⟩
theorem kpB_put {B0 : Nat} {w : World} (hn : B0 ≤ w.heap.size) (W : World) (l : Nat) (o o' : Obj) (hl : w.heap.size ≤ l) (h : W.heap[l]? = some o) (h1 : o.isCells = false) (_ : o.isWalk = false) : KpB B0 W (W.putObj l o') :=
  ⟨by simp, fun k hk hn2 => World.putObj_heap_other (by
    rintro rfl
    rcases hn2 with hn2 | ⟨cs, hc⟩ | ⟨cs, hc⟩
    · omega
    · rw [h] at hc; cases hc; cases h1
    · rw [h] at hc; cases hc; cases h1)⟩
theorem bears_not {A : World} {k : Nat} {o : Obj} {e : TypeId} (hk : A.heap[k]? = some o) (ho : o.isCells = false) : ¬ Bears A k e := by
  rintro ⟨cs, hc⟩
  rw [hk] at hc
  cases hc
  cases ho
theorem Kp.others {B : Nat} {A A' : World} (h : Kp B A A') : KeepsOthers A A' :=
  ⟨h.size, fun k o hk ho => (h.block k (Array.getElem?_eq_some_iff.1 hk).1 (.inr ⟨bears_not hk ho, bears_not hk ho⟩)).trans hk⟩
theorem HpAt.setOther {R : Rn} {B hp g c fb i : Nat} {l : List It} {W : World} {u : Value} (h : HpAt R B hp l W) (ha : W.cell? ⟨hp, 0, none⟩ = some (.slice (some ⟨g, 0, none⟩) l.length c)) (hf : fb ≠ hp) (hg : fb ≠ g) : HpAt R B hp l (W.setCell ⟨fb, i, none⟩ u) := by
  obtain ⟨v, h1, h2⟩ := h.row
  have e0 : W.cell? ⟨hp, 0, none⟩ = some v := by simp [World.cell?, h1]
  rw [ha] at e0
  injection e0 with e0
  subst e0
  exact ⟨h.le, _, (Below.heap_setCell _ _ _ _ (fun e => hf e.symm)).trans h1, h2.kept (row := some fb) ⟨rfl, rfl, rfl, by simp [World.setCell], fun k _ hne => Below.heap_setCell _ _ _ _ (fun e => hne (by rw [e]))⟩ (.inr (by simpa [Value.ownBlock] using fun e => hg e.symm))⟩
theorem Kp.down {B B' : Nat} {A A' : World} (h : Kp B' A A') (hB : B ≤ B') : Kp B A A' := ⟨h.os, h.tape, h.output, h.size, fun k hk hn => h.block k hk (by
  rcases hn with hn | hn
  · exact .inl (by omega)
  · exact .inr hn)⟩
theorem RnAt.kpB {R : Rn} {B0 : Nat} {W W' : World} (h : RnAt R B0 W) (hB : B0 ≤ W.heap.size) (k : KpB B0 W W') : RnAt R B0 W' := fun i hi p hp => by
  obtain ⟨h1, h2, h3⟩ := h i hi p hp
  have e := k.same (R.bk i) (by omega) (.inl h1)
  exact ⟨h1, (World.cell?_of_block (a := ⟨R.bk i, _, none⟩) e).trans h2, (World.cell?_of_block (a := ⟨R.bk i, _, none⟩) e).trans h3⟩
theorem RnAt.up {R : Rn} {B B' : Nat} {W : World} (h : RnAt R B W) (hB : B ≤ B') : RnAt R B' W := fun i hi p hp => by
  obtain ⟨h1, h2, h3⟩ := h i hi p hp
  exact ⟨by omega, h2, h3⟩
theorem HpAt.kpB {R : Rn} {B B0 hp : Nat} {l : List It} {W W' : World} (h : HpAt R B hp l W) (k : KpB B0 W W') : HpAt R B hp l W' := by
  obtain ⟨v, h1, h2⟩ := h.row
  refine ⟨h.le, v, (k.same hp h.lt (.inr (.inl ⟨_, h1⟩))).trans h1, ?_⟩
  refine ⟨h2.1, ?_⟩
  rcases h2.2 with hn | ⟨g, cap, cur, rfl, hb, hg, rest⟩
  · exact .inl hn
  · exact .inr ⟨g, cap, cur, rfl, hb, (k.same g (Array.getElem?_eq_some_iff.1 hg).1 (.inr (.inr ⟨cur, hg⟩))).trans hg, rest⟩
/-- what is handed to a round -/
def prEnc (R : Rn) (x : It) : Array Value := #[.agg #[.string (R.K x.1 x.2), .string (R.V x.1 x.2)]]
set_option maxRecDepth 100000 in
set_option maxHeartbeats 16000000 in
theorem merged1_T (n : Nat) (hn : 1 ≤ n) (R : Rn) (ord : It → Int) (HO : Hid (OrdOk R ord)) (HOI : Hid (OrdInj R ord)) (hln : Hid (∀ i, i < R.n → R.ln i ≤ 4398046511104)) (hrn : R.n ≤ 1099511627776) (B0 rb cap : Nat) (A : Option Addr) (w : World) (hB0 : B0 ≤ w.heap.size) (hR : RnAt R B0 w) (hH : HdAt R B0 A w) (hrb : rb < w.heap.size) (hbox : w.cell? ⟨rb, 0, none⟩ = some (.slice A R.n cap)) :
    SeqT Fence.wide n Try.prog 24 #[.pointer (some ⟨rb, 0, none⟩)] (prEnc R) (KpB B0) (Kp B0) (mrgL R ord) w := by
  intro l J Jx W hW hJT hY h0
  have hbw := (hW.cell (p := ⟨rb, 0, none⟩) hrb).trans hbox
  have HCP : Hid (∀ i, i < R.n → R.ln i ≤ R.cp i) := Lib.hid (fun i hi => by obtain ⟨b, off, a, e, h1, h2, h3, h4⟩ := hH i hi; exact h4)
  have hRW : RnAt R W.heap.size W := fun i hi p hp => by
    obtain ⟨h1, h2, h3⟩ := hR i hi p hp
    have := hW.size
    exact ⟨by omega, (hW.cell (p := ⟨R.bk i, _, none⟩) (show R.bk i < w.heap.size by omega)).trans h2, (hW.cell (p := ⟨R.bk i, _, none⟩) (show R.bk i < w.heap.size by omega)).trans h3⟩
  have hHW : HdAt R W.heap.size A W := fun i hi => by
    obtain ⟨b, off, a, e, h1, h2, h3⟩ := hH i hi
    have := hW.size
    exact ⟨b, off, a, e, by omega, (hW.cell (p := ⟨b, _, none⟩) (show b < w.heap.size by omega)).trans h2, h3⟩
  have hsrc := sources_any R ord HO hln hrn A cap W hRW hHW
  refine callsIn_of_wp Try.func24 rfl trivial ?_ rfl
  simp only [Try.ntmps24, List.size_toArray, List.length_cons, List.length_nil, Nat.reduceAdd, Nat.reduceSub, Array.replicate_succ, Array.replicate_zero, List.push_toArray, List.append_toArray, List.nil_append, List.cons_append]
  gi_wp2
  refine ⟨trivial, ?_⟩
  refine (callsIn_wide.2 hsrc).mono ?_
  rintro e w2 ⟨hp, l0, rfl, hp0, hh0, hat0, hb2⟩
  obtain ⟨Bs, hBs⟩ : ∃ Bs, Bs = W.heap.size := ⟨_, rfl⟩
  rw [← hBs] at hat0 hb2
  have hB0s : B0 ≤ Bs := by rw [hBs]; exact Nat.le_trans hB0 hW.size
  have hRW0 : RnAt R B0 W := fun i hi p hp => by
    obtain ⟨h1, h2, h3⟩ := hR i hi p hp
    exact ⟨h1, (hW.cell (p := ⟨R.bk i, _, none⟩) (show R.bk i < w.heap.size by omega)).trans h2, (hW.cell (p := ⟨R.bk i, _, none⟩) (show R.bk i < w.heap.size by omega)).trans h3⟩
  have hB2 : Below W.heap.size W w2 := by rw [← hBs]; exact hb2
  have hK2 : Kp B0 W w2 := (kp_below hB2).down (Nat.le_refl _)
  have HINV : Hid (∃ (pre : List It) (l0 : List It) (pos : Nat → Nat), mrgL R ord = pre ++ mrg R ord (tot R pos) pos ∧ tot R pos ≤ tot R (fun _ => 0) ∧ l0.Perm (itemsP R pos) ∧ HeapO l0.length (ordL ord l0) ∧ HpAt R Bs hp l0 w2 ∧ RnAt R B0 w2 ∧ Bs ≤ w2.heap.size ∧ J pre w2) := Lib.hid ⟨[], l0, fun _ => 0, rfl, Nat.le_refl _, hp0, hh0, hat0, rnAt_kp hRW0 (Nat.le_trans hB0 hW.size) hK2, by rw [hBs]; exact hb2.size, hJT _ _ _ h0 hK2⟩
  have HC := Lib.hid (And.intro hB0s (And.intro hJT hY))
  clear hp0 hh0 hat0 hb2 hBs hB0s hRW0 hB2 hK2 hJT hY h0 hsrc hHW hRW hbw hR hH hbox
  gi_wp2
  gi_loopg [] (tot R (fun _ => 0)) (fun gk wr => Hid (∃ (pre : List It) (l0 : List It) (pos : Nat → Nat), mrgL R ord = pre ++ mrg R ord (tot R pos) pos ∧ tot R pos ≤ gk ∧ l0.Perm (itemsP R pos) ∧ HeapO l0.length (ordL ord l0) ∧ HpAt R Bs hp l0 wr ∧ RnAt R B0 wr ∧ Bs ≤ wr.heap.size ∧ J pre wr))
  case atStart => exact HINV
  case round =>
    clear HINV
    obtain ⟨pre, l0, pos, h1, h2, h3, h4, h5, h6, h7, h8⟩ := hrel.out
    cases l0 with
    | nil =>
      obtain ⟨ar, c, c0, c1, hc, _⟩ := h5.cells
      have hend := mrg_end (ord := ord) (items_none h3) (tot R pos)
      rw [hend, List.append_nil] at h1
      have HE := Lib.hid (And.intro h1 h8)
      clear h1 h2 h3 h4 h5 h6 h7 h8 hend hrel hc
      gi_wp2
      go_end0
      exact ⟨⟨_, rfl⟩, .inl (by rw [HE.out.1]; exact HE.out.2)⟩
    | cons x t =>
      obtain ⟨hx2, hbest⟩ := top_best h3 h4
      obtain ⟨ar, c, c0, c1, hc, hxs⟩ := h5.cells
      obtain ⟨g, rfl, hBg, hg, hgh, hbg, y0, y1, hf⟩ := hxs 0 x rfl
      obtain ⟨hbk, kx, vx⟩ := h6 x.1 hbest.1 x.2 (by rw [hx2]; exact hbest.2.1)
      simp only [Nat.zero_mul, Nat.zero_add] at y0 y1
      obtain ⟨N, hN⟩ : ∃ N, N = (x :: t).length := ⟨_, rfl⟩
      rw [← hN] at c0
      have hN0 : (0 : Int) < (N : Int) := by rw [hN, List.length_cons]; omega
      have hN1 : 0 < N := by omega
      have hln0 : 0 < R.ln x.1 - x.2 := by have := hbest.2.1; omega
      have hln1 : (0 : Int) < ((R.ln x.1 - x.2 : Nat) : Int) := by omega
      have HS := Lib.hid (And.intro h1 (And.intro h2 (And.intro h3 (And.intro h4 (And.intro h5 (And.intro h6 (And.intro h7 h8)))))))
      have HX := Lib.hid (And.intro hx2 (And.intro hbest (And.intro hN (And.intro hg (And.intro hgh hBg)))))
      have hgw : g < wr.heap.size := hg
      have hbw : R.bk x.1 < wr.heap.size := by have := HC.out.1; omega
      obtain ⟨m, hm⟩ : ∃ m, m = R.ln x.1 - x.2 := ⟨_, rfl⟩
      obtain ⟨cp, hcp⟩ : ∃ m, m = R.cp x.1 - x.2 := ⟨_, rfl⟩
      obtain ⟨bk, hbkk⟩ : ∃ m, m = R.bk x.1 := ⟨_, rfl⟩
      obtain ⟨po, hpo⟩ : ∃ m, m = R.of x.1 + x.2 * 2 := ⟨_, rfl⟩
      rw [← hm, ← hcp, ← hbkk, ← hpo] at y0
      rw [← hbkk, ← hpo] at kx vx
      rw [← hm] at hln0 hln1
      rw [← hbkk] at hbw
      have HM := Lib.hid (And.intro hm (And.intro hcp (And.intro hbkk hpo)))
      clear h1 h2 h3 h4 h5 h6 h7 h8 hx2 hbest hN hg hgh hBg hf hbg hc hxs hm hcp hbkk hpo hbk hrel c1
      have hyw : ∀ o, YieldAt Fence.wide (n - 1) Try.prog l #[.agg #[.string (R.K x.1 x.2), .string (R.V x.1 x.2)]] (wr.alloc o) fun e W' => (e = .returned (.bool true) ∧ J (pre ++ [x]) W' ∧ KpB B0 (wr.alloc o) W') ∨ (e = .returned (.bool false) ∧ Jx (pre ++ [x]) W') := fun o => by
        obtain ⟨h1, h2, h3, h4, h5, h6, h7, h8⟩ := HS.out
        refine HC.out.2.2 pre x _ (HC.out.2.1 _ _ _ h8 ((kp_below ((Below.refl _ _).alloc (Nat.le_refl _) _)).down (Nat.le_refl _))) ?_
        rw [h1, mrg_step HOI.out HX.out.2.1]
        have ex : x = (x.1, pos x.1) := by rw [← HX.out.1]
        rw [← ex]
        exact ⟨_, by rw [List.append_assoc]; rfl⟩
      obtain ⟨fn, tmps, assign, body, hy, hR'⟩ := hyw (.cells #[.slice (some ⟨bk, po, none⟩) m cp, .int .i64 (x.1 : Int)] 67)
      clear hyw
      gi_wp2
      refine hR'.mono ?_
      rintro e W3 (⟨rfl, hJ3, hk3⟩ | ⟨rfl, hJx3⟩)
      · obtain ⟨fb, hfb⟩ : ∃ fb, fb = wr.heap.size := ⟨_, rfl⟩
        have hbox : (wr.alloc (.cells #[.slice (some ⟨bk, po, none⟩) m cp, .int .i64 (x.1 : Int)] 67)).heap[fb]? = some (.cells #[.slice (some ⟨bk, po, none⟩) m cp, .int .i64 (x.1 : Int)] 67 (0, 0)) := by rw [hfb]; exact World.alloc_heap_new wr _
        have hb3 : W3.heap[fb]? = some (.cells #[.slice (some ⟨bk, po, none⟩) m cp, .int .i64 (x.1 : Int)] 67 (0, 0)) := (hk3.same fb (Array.getElem?_eq_some_iff.1 hbox).1 (.inr (.inr ⟨_, hbox⟩))).trans hbox
        have f0 : W3.cell? ⟨fb, 0, none⟩ = some (.slice (some ⟨bk, po, none⟩) m cp) := by simp [World.cell?, hb3]
        have f1 : W3.cell? ⟨fb, 1, none⟩ = some (.int .i64 (x.1 : Int)) := by simp [World.cell?, hb3]
        have f2 : W3.frozen? ⟨fb, 0, none⟩ = false := by simp [World.frozen?, hb3]
        obtain ⟨i1, i2, i3, i4, i5, i6, i7, i8⟩ := HS.out
        obtain ⟨o1, o2, o3, o4, o5, o6⟩ := HX.out
        obtain ⟨e1, e2, e3, e4⟩ := HM.out
        have hal : Below wr.heap.size wr (wr.alloc (.cells #[.slice (some ⟨bk, po, none⟩) m cp, .int .i64 (x.1 : Int)] 67)) := (Below.refl _ _).alloc (Nat.le_refl _) _
        have hp3 : HpAt R Bs hp (x :: t) W3 := (i5.below hal).kpB hk3
        have hpw : hp < wr.heap.size := i5.lt
        have c03 : W3.cell? ⟨hp, 0, none⟩ = some (.slice (some ⟨g, 0, none⟩) (x :: t).length c) := by
          have e := hk3.same hp (by have := hal.size; omega) (.inr (.inl (i5.below hal).bears))
          rw [← o3, ← c0]
          exact (World.cell?_of_block (a := ⟨hp, 0, none⟩) e).trans (hal.cell (p := ⟨hp, 0, none⟩) hpw)
        have hKset : ∀ u, Kp B0 W3 (W3.setCell ⟨fb, 0, none⟩ u) := fun u => kp_set (a := ⟨fb, 0, none⟩) (show B0 ≤ fb by have := HC.out.1; omega) (.inr ⟨_, hb3⟩)
        have hR3 : RnAt R B0 W3 := (rnAt_kp i6 (by have := HC.out.1; omega) ((kp_below (B := B0) hal).down (Nat.le_refl _))).kpB (by have := HC.out.1; have := hal.size; omega) hk3
        have hcell4 : ∀ u, HpAt R Bs hp (x :: t) (W3.setCell ⟨fb, 0, none⟩ u) := fun u => hp3.setOther c03 (by omega) (by omega)
        have hsz3 : Bs ≤ W3.heap.size := by have := hk3.size; have := hal.size; omega
        have H4 := Lib.hid (And.intro hcell4 (And.intro hKset (And.intro hR3 (And.intro hJ3 hsz3))))
        have hm1 : 1 ≤ m := by omega
        have hmc : m ≤ cp := by have := HCP.out x.1 o2.1; omega
        have hmc1 : ¬ m < 1 := by omega
        have hmi : ¬ (m : Int) < 1 := by omega
        have HF := Lib.hid (And.intro hfb (And.intro hb3 hm1))
        rw [← hfb]
        clear hbox hb3 i1 i2 i3 i4 i5 i6 i7 i8 o1 o2 o3 o4 o5 o6 e1 e2 e3 e4 hal hp3 hpw c03 hKset hR3 hcell4 hsz3 hJ3 hk3 c0 y0 y1 kx vx hy hR' hfb
        have HR4 : ∀ u, Hid (RnAt R B0 (W3.setCell ⟨fb, 0, none⟩ u)) := fun u => Lib.hid (rnAt_kp H4.out.2.2.1 (by have := HC.out.1; have := H4.out.2.2.2.2; omega) (H4.out.2.1 u))
        have HJ4 : ∀ u, Hid (J (pre ++ [x]) (W3.setCell ⟨fb, 0, none⟩ u)) := fun u => Lib.hid (HC.out.2.1 _ _ _ H4.out.2.2.2.1 (H4.out.2.1 u))
        have hlen : (x :: t).length ≤ 4398046511104 := by
          have h3 := HS.out.2.2.1.length_eq
          have h4 := items_len R pos
          omega
        by_cases hm2 : 1 < m
        · have hrp := replace_any R Bs hp ord HO hln x t (x.1, x.2 + 1) (W3.setCell ⟨fb, 0, none⟩ (.slice (some ⟨bk, po + 2, none⟩) (m - 1) (cp - 1))) hlen ⟨HX.out.2.1.1, by have := HM.out.1; show x.2 + 1 < R.ln x.1; omega⟩ (items_valid HS.out.2.2.1) (by have := H4.out.2.2.2.2; simp [World.setCell]; omega) ((HR4 _).out.up HC.out.1) (H4.out.1 _) HS.out.2.2.2.1
          have ea : R.of x.1 + (x.2 + 1) * 2 = po + 2 := by have := HM.out.2.2.2; omega
          have eb : R.ln x.1 - (x.2 + 1) = m - 1 := by have := HM.out.1; omega
          have ec : R.cp x.1 - (x.2 + 1) = cp - 1 := by have := HM.out.2.1; omega
          simp only [ea, eb, ec, ← HM.out.2.2.1] at hrp
          have hz : ¬ cp - 1 = 0 := by omega
          have hz2 : 0 < m - 1 := by omega
          have hz3 : (0 : Int) < ((m - 1 : Nat) : Int) := by omega
          have hz4 : ¬ cp ≤ 1 := by omega
          have HR4' := HR4 (.slice (some ⟨bk, po + 2, none⟩) (m - 1) (cp - 1))
          have HJ4' := HJ4 (.slice (some ⟨bk, po + 2, none⟩) (m - 1) (cp - 1))
          clear HR4 HJ4 ea eb ec hlen
          gi_wp2
          refine ⟨trivial, ?_⟩
          refine (callsIn_wide.2 hrp).mono ?_
          rintro e w5 ⟨rfl, l', hp', hh', ha', hk'⟩
          clear hrp f0 f1 f2
          have HN2 : Hid (∃ (pre : List It) (l0 : List It) (pos' : Nat → Nat), mrgL R ord = pre ++ mrg R ord (tot R pos') pos' ∧ tot R pos' ≤ tot R pos - 1 ∧ l0.Perm (itemsP R pos') ∧ HeapO l0.length (ordL ord l0) ∧ HpAt R Bs hp l0 w5 ∧ RnAt R B0 w5 ∧ Bs ≤ w5.heap.size ∧ J pre w5) := Lib.hid (by
            obtain ⟨i1, i2, i3, i4, i5, i6, i7, i8⟩ := HS.out
            obtain ⟨o1, o2, o3, o4, o5, o6⟩ := HX.out
            obtain ⟨e1, e2, e3, e4⟩ := HM.out
            have hst := items_step (t := t) o2.1 o2.2.1 (by rw [← o1]; exact i3)
            have ht := tot_bump o2.1 o2.2.1
            refine ⟨pre ++ [x], l', bump pos x.1, ?_, by omega, ?_, hh', ha', rnAt_kp HR4'.out (by have := HC.out.1; have := H4.out.2.2.2.2; simp [World.setCell]; omega) (hk'.down HC.out.1), Nat.le_trans (by have := H4.out.2.2.2.2; simpa [World.setCell] using this) hk'.size, HC.out.2.1 _ _ _ HJ4'.out (hk'.down HC.out.1)⟩
            · rw [i1, mrg_step HOI.out o2]
              have ex : (x.1, pos x.1) = x := by rw [← o1]
              rw [ex]
              simp
            · exact hp'.trans ((by rw [o1]; exact (hst.1 (by have := HM.out.1; omega)) : (((x.1, x.2 + 1) : It) :: t).Perm (itemsP R (bump pos x.1)))))
          have htp : tot R pos - 1 < gk := by
            have := tot_bump HX.out.2.1.1 HX.out.2.1.2.1
            have := HS.out.2.1
            omega
          clear hp' hh' ha' hk'
          gi_wp2
          gi_roundg (tot R pos - 1)
          case measure => exact htp
          case rel => exact HN2
        · have hz : m - 1 = 0 := by omega
          have hz2 : ¬ 0 < m - 1 := by omega
          have hz3 : ¬ (0 : Int) < ((m - 1 : Nat) : Int) := by omega
          have hdr := fun u => drop_any R Bs hp ord HO hln x t (W3.setCell ⟨fb, 0, none⟩ u) hlen (items_valid HS.out.2.2.1) (by have := H4.out.2.2.2.2; simp [World.setCell]; omega) ((HR4 _).out.up HC.out.1) (H4.out.1 _) HS.out.2.2.2.1
          have HDR := Lib.hid hdr
          have HR5 := Lib.hid HR4
          have HJ5 := Lib.hid HJ4
          clear hdr HR4 HJ4 hlen
          by_cases hc1 : cp = 1
          · have hc2 : cp - 1 = 0 := by omega
            gi_wp2
            refine ⟨trivial, ?_⟩
            refine (callsIn_wide.2 (HDR.out _)).mono ?_
            rintro e w5 ⟨rfl, l', hp', hh', ha', hk'⟩
            clear f0 f1 f2
            have HR4 := HR5.out (.slice (some ⟨bk, po, none⟩) 0 0)
            have HJ4 := HJ5.out (.slice (some ⟨bk, po, none⟩) 0 0)
            have HN2 : Hid (∃ (pre : List It) (l0 : List It) (pos' : Nat → Nat), mrgL R ord = pre ++ mrg R ord (tot R pos') pos' ∧ tot R pos' ≤ tot R pos - 1 ∧ l0.Perm (itemsP R pos') ∧ HeapO l0.length (ordL ord l0) ∧ HpAt R Bs hp l0 w5 ∧ RnAt R B0 w5 ∧ Bs ≤ w5.heap.size ∧ J pre w5) := Lib.hid (by
              obtain ⟨i1, i2, i3, i4, i5, i6, i7, i8⟩ := HS.out
              obtain ⟨o1, o2, o3, o4, o5, o6⟩ := HX.out
              obtain ⟨e1, e2, e3, e4⟩ := HM.out
              have hst := items_step (t := t) o2.1 o2.2.1 (by rw [← o1]; exact i3)
              have ht := tot_bump o2.1 o2.2.1
              refine ⟨pre ++ [x], l', bump pos x.1, ?_, by omega, ?_, hh', ha', rnAt_kp HR4.out (by have := HC.out.1; have := H4.out.2.2.2.2; simp [World.setCell]; omega) (hk'.down HC.out.1), Nat.le_trans (by have := H4.out.2.2.2.2; simpa [World.setCell] using this) hk'.size, HC.out.2.1 _ _ _ HJ4.out (hk'.down HC.out.1)⟩
              · rw [i1, mrg_step HOI.out o2]
                have ex : (x.1, pos x.1) = x := by rw [← o1]
                rw [ex]
                simp
              · exact hp'.trans (hst.2 (by have := HM.out.1; omega)))
            have htp : tot R pos - 1 < gk := by
              have := tot_bump HX.out.2.1.1 HX.out.2.1.2.1
              have := HS.out.2.1
              omega
            clear hp' hh' ha' hk'
            gi_wp2
            gi_roundg (tot R pos - 1)
            case measure => exact htp
            case rel => exact HN2
          · have hc2 : ¬ cp - 1 = 0 := by omega
            gi_wp2
            refine ⟨trivial, ?_⟩
            refine (callsIn_wide.2 (HDR.out _)).mono ?_
            rintro e w5 ⟨rfl, l', hp', hh', ha', hk'⟩
            clear f0 f1 f2
            have HR4 := HR5.out (.slice (some ⟨bk, po + 2, none⟩) 0 (cp - 1))
            have HJ4 := HJ5.out (.slice (some ⟨bk, po + 2, none⟩) 0 (cp - 1))
            have HN2 : Hid (∃ (pre : List It) (l0 : List It) (pos' : Nat → Nat), mrgL R ord = pre ++ mrg R ord (tot R pos') pos' ∧ tot R pos' ≤ tot R pos - 1 ∧ l0.Perm (itemsP R pos') ∧ HeapO l0.length (ordL ord l0) ∧ HpAt R Bs hp l0 w5 ∧ RnAt R B0 w5 ∧ Bs ≤ w5.heap.size ∧ J pre w5) := Lib.hid (by
              obtain ⟨i1, i2, i3, i4, i5, i6, i7, i8⟩ := HS.out
              obtain ⟨o1, o2, o3, o4, o5, o6⟩ := HX.out
              obtain ⟨e1, e2, e3, e4⟩ := HM.out
              have hst := items_step (t := t) o2.1 o2.2.1 (by rw [← o1]; exact i3)
              have ht := tot_bump o2.1 o2.2.1
              refine ⟨pre ++ [x], l', bump pos x.1, ?_, by omega, ?_, hh', ha', rnAt_kp HR4.out (by have := HC.out.1; have := H4.out.2.2.2.2; simp [World.setCell]; omega) (hk'.down HC.out.1), Nat.le_trans (by have := H4.out.2.2.2.2; simpa [World.setCell] using this) hk'.size, HC.out.2.1 _ _ _ HJ4.out (hk'.down HC.out.1)⟩
              · rw [i1, mrg_step HOI.out o2]
                have ex : (x.1, pos x.1) = x := by rw [← o1]
                rw [ex]
                simp
              · exact hp'.trans (hst.2 (by have := HM.out.1; omega)))
            have htp : tot R pos - 1 < gk := by
              have := tot_bump HX.out.2.1.1 HX.out.2.1.2.1
              have := HS.out.2.1
              omega
            clear hp' hh' ha' hk'
            gi_wp2
            gi_roundg (tot R pos - 1)
            case measure => exact htp
            case rel => exact HN2
      · have HJX := Lib.hid hJx3
        clear hJx3 c0 y0 y1 kx vx hy hR'
        gi_wp2
        refine bodyPost_ret (results_none rfl _ _ _) rfl ?_
        refine ⟨⟨_, rfl⟩, .inr ⟨pre ++ [x], ?_, HJX.out⟩⟩
        obtain ⟨h1, h2, h3, h4, h5, h6, h7, h8⟩ := HS.out
        rw [h1, mrg_step HOI.out HX.out.2.1]
        have ex : x = (x.1, pos x.1) := by rw [← HX.out.1]
        rw [← ex]
        exact ⟨_, by rw [List.append_assoc]; rfl⟩
end Go.Proofs.Ytcgilgihmapipaa
