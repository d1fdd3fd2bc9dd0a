/- MergeGoes is true for all runs and every stop: what the iterator gives, gone over whole or in part, is what the document's merge gives. Its condition: what it reads is of bulk at most 1048576. -/
import Derived.Test.YtcgilgihmapipaaMrgSpeak
import Derived.Test.YtcgilgihmapipaaMrgRuns
import Derived.Test.YtcgilgihmapipaaMrgGoB
import Derived.Sort.QuietIn

import Derived.Test.YtcgilgihmapipaaLawEnd

import Derived.Test.YtcgilgihmapipaaPlainKit

namespace Go.Proofs.Ytcgilgihmapipaa.fnMergeGoes
open Go.ChangeShapes Go.WideShapes Go.ChangeAt Go.RowKit Go.WideMaps Go.WideElems
open Go.ChangeMaps (open_string)

attribute [local go_sem] Oper.semAt_some
theorem argAt_up {R : Rn} {B B' : Nat} {A : Option Addr} {W : World} (h : ArgAt R B A W) (hb : B ≤ B') : ArgAt R B' A W :=
  ⟨fun i hi => by
    obtain ⟨b, off, a, e, h1, h2, h3⟩ := h.1 i hi
    exact ⟨b, off, a, e, by omega, h2, h3⟩, fun i hi p hp => by
    obtain ⟨h1, h2, h3⟩ := h.2 i hi p hp
    exact ⟨by omega, h2, h3⟩⟩
def kk (R : Rn) (l : List It) (j : Nat) : ByteArray := R.K (l.getD j (0, 0)).1 (l.getD j (0, 0)).2
def vv (R : Rn) (l : List It) (j : Nat) : ByteArray := R.V (l.getD j (0, 0)).1 (l.getD j (0, 0)).2
theorem prC_prN (R : Rn) (l : List It) : prC R l = prN (kk R l) (vv R l) l.length := by
  have e : l = (List.range l.length).map fun j => l.getD j (0, 0) := by
    refine List.ext_getElem (by simp) fun i h1 h2 => ?_
    simp [h1]
  unfold prC prN
  conv => lhs; rw [e]
  rw [List.flatMap_map]
  rfl
theorem pr_some {R R2 : Rn} {W : World} {B : Nat} {a : Option Addr} {c : Nat} {P L : List It} (hK : R2.K = R.K) (hV : R2.V = R.V) (hp : P <+: L) (h : W.ownsRow B 34 2 (.slice a P.length c) P.length (prC R2 P)) : PrAt W W.heap.size a P.length (kk R L) (vv R L) := by
  have e : prC R2 P = prC R P := by unfold prC; rw [hK, hV]
  rw [e, prC_prN] at h
  obtain ⟨A', c', e2, hr⟩ := prAt_own h
  injection e2 with e3 e4 e5
  subst e3
  obtain ⟨T, rfl⟩ := hp
  intro j hj
  obtain ⟨b, off, h1, h2, h3, h4⟩ := hr j hj
  have g : (P ++ T).getD j (0, 0) = P.getD j (0, 0) := by rw [List.getD_eq_getElem?_getD, List.getD_eq_getElem?_getD, List.getElem?_append_left hj]
  have g1 : kk R (P ++ T) j = kk R P j := by unfold kk; rw [g]
  have g2 : vv R (P ++ T) j = vv R P j := by unfold vv; rw [g]
  exact ⟨b, off, h1, h2, by rw [g1]; exact h3, by rw [g2]; exact h4⟩
set_option maxRecDepth 100000 in
set_option maxHeartbeats 16000000 in
theorem walk (stop : Int) (A : Option Addr) (cap : Nat) (R : Rn) (w : World) (hst : -9223372036854775808 ≤ stop ∧ stop ≤ 9223372036854775807) (hn : R.n ≤ 1048576) (hln : ∀ i, i < R.n → R.ln i ≤ 1048576) (htot : tot R (fun _ => 0) ≤ 1048576) (hsz : ∀ i p, (R.K i p).size ≤ 1048576 ∧ (R.V i p).size ≤ 1048576) (hA : ArgAt R w.heap.size A w) :
    Calls Try.prog 3 #[.slice A R.n cap, .int .i64 stop] w fun e w' => e = .returned (.bool true) ∧ Below w.heap.size w w' := by
  have HSZ := Lib.hid hsz
  have HLN := Lib.hid hln
  have HTOT := Lib.hid htot
  have HN := Lib.hid hn
  have HA0 := Lib.hid hA
  clear hsz hln htot hn hA
  obtain ⟨ord, ho⟩ : ∃ ord, ord = ordR R := ⟨_, rfl⟩
  have HO : Hid (OrdOk R ord) := Lib.hid (by rw [ho]; exact ord_ok R)
  have HOI : Hid (OrdInj R ord) := Lib.hid (by rw [ho]; exact ord_inj R)
  obtain ⟨N, hN⟩ : ∃ N, N = R.n := ⟨_, rfl⟩
  obtain ⟨L, hL⟩ : ∃ L, L = mrgL R ord := ⟨_, rfl⟩
  have HL := Lib.hid hL
  have HNN := Lib.hid hN
  have hLl : Hid (L.length ≤ 1048576) := Lib.hid (by rw [hL]; exact Nat.le_trans (mrg_len R ord _ _) HTOT.out)
  rw [← hN]
  clear ho hN hL
  refine (callsIn_wide (n := 16)).1 ?_
  refine callsIn_of_wp_marks Try.func3 rfl trivial ?_ rfl
  simp only [Try.ntmps3, List.size_toArray, List.length_cons, List.length_nil, Nat.reduceAdd, Nat.reduceSub, Array.replicate_succ, Array.replicate_zero, List.push_toArray, List.append_toArray, List.nil_append, List.cons_append]
  gi_wp2
  refine ⟨trivial, ?_⟩
  refine (callsIn_wide.2 (speaks19_any _)).mono ?_
  rintro e w1 ⟨rfl, hb1⟩
  have hW1 : Below w.heap.size w (w.alloc (.cells #[.int .i64 stop] 3)) := (Below.refl _ _).alloc (Nat.le_refl _) _
  have hb01 : Below w.heap.size w w1 := hW1.trans (hb1.mono hW1.size)
  have hstb : Boxed w1 w.heap.size 3 (.int .i64 stop) := (hb1.block _ (by simp)).trans (Boxed.new w 3 (.int .i64 stop))
  obtain ⟨b3, hb3⟩ : ∃ b, b = w.heap.size := ⟨_, rfl⟩
  rw [← hb3] at hstb
  have HB01 := Lib.hid (And.intro hb01 hb3)
  have HST := Lib.hid hstb
  have HA1 := Lib.hid (argAt_up (HA0.out.below hb01) hb01.size)
  clear hb1 hW1 hb01 hstb
  rw [← hb3]
  clear hb3
  gi_wp2
  refine ⟨trivial, ?_⟩
  have hcp := copied_any R A cap w1 HN.out HLN.out HA1.out
  rw [← HNN.out] at hcp
  refine (callsIn_wide.2 hcp).mono ?_
  rintro e w2 ⟨va, vb, ha, hb, rfl, hG⟩
  clear hcp
  obtain ⟨A1, c1, rfl, hH1, hR1⟩ := own_forms (by exact HNN.out) hG.ra hG.pa
  obtain ⟨A2, c2, rfl, hH2, hR2⟩ := own_forms (by exact HNN.out) hG.rb hG.pb
  have HBG := Lib.hid hG.bel
  have HI1 : Hid (ArgAt (withR R ha) w2.heap.size A1 w2) := Lib.hid ⟨hH1, hR1⟩
  have HI2 : Hid (ArgAt (withR R hb) w2.heap.size A2 w2) := Lib.hid ⟨hH2, hR2⟩
  clear hG hH1 hR1 hH2 hR2
  obtain ⟨n, hn⟩ : ∃ n, n = L.length := ⟨_, rfl⟩
  have Hn := Lib.hid hn
  clear hn
  have hm2 : Calls Try.prog 7 #[.slice A2 N c2] w2 fun e w' => ∃ v, e = .returned v ∧ w'.ownsRow w2.heap.size 51 2 v n (prN (kk R L) (vv R L) n) ∧ Below w2.heap.size w2 w' := by
    have h := rmerge_any (withR R hb) ord HO HOI (Lib.hid (fun i hi => Nat.le_trans (HLN.out i hi) (by omega))) (by have := HN.out; show R.n ≤ _; omega) (by have := HTOT.out; show tot R (fun _ => 0) ≤ _; omega) A2 c2 w2 HI2.out.2 HI2.out.1
    rw [mrgL_with, ← HL.out, prC_with, prC_prN, ← Hn.out] at h
    have e : (withR R hb).n = N := HNN.out.symm
    rw [e] at h
    exact h
  gi_wp2
  refine ⟨trivial, ?_⟩
  refine (callsIn_wide.2 hm2).mono ?_
  rintro e w3 ⟨v3, rfl, ho3, hb23⟩
  obtain ⟨A3, c3, rfl, hr3⟩ := prAt_own ho3
  have HR3 := Lib.hid hr3
  have HC3 : Hid (n ≤ c3) := Lib.hid (by
    rcases ho3.2 with ⟨e, h0⟩ | ⟨g, cp, cur, e, _, _, h, _⟩
    · omega
    · injection e with _ _ e3
      omega)
  have HB23 := Lib.hid hb23
  clear ho3 hb23 hr3 hm2
  have hal := all_any (withR R ha) A1 c1 w3 (by have := HN.out; show R.n ≤ _; omega) HLN.out HSZ.out (argAt_up (HI1.out.below HB23.out) HB23.out.size)
  rw [show (withR R ha).n = N from HNN.out.symm] at hal
  gi_wp2
  refine ⟨trivial, ?_⟩
  refine (callsIn_wide.2 hal).mono ?_
  rintro e w4 ⟨rb, gr, ha2, rfl, HAL⟩
  clear hal
  obtain ⟨A4, c4, e4, hH4, hR4⟩ := own_forms (R := withR R ha) (h := ha2) (W := w4) (n := N) (e := 32) (eE := 34) HNN.out (by
    have h9 := HAL.out.row
    have e : ((List.range N).map fun i => if i < N then ha2 i else Value.slice none 0 0) = (List.range N).map ha2 := List.map_congr_left fun i hi => by rw [if_pos (List.mem_range.1 hi)]
    rw [e] at h9
    exact h9) HAL.out.pa
  injection e4 with e41 e42 e43
  subst e41 e43
  have HI4 : Hid (HdAt (withR (withR R ha) ha2) w4.heap.size (some ⟨gr, 0, none⟩) w4 ∧ RnAt (withR (withR R ha) ha2) w4.heap.size w4) := Lib.hid ⟨hH4, hR4⟩
  have HBX4 := Lib.hid HAL.out.box
  have HB34 := Lib.hid HAL.out.bel
  clear hH4 hR4 HAL e42
  obtain ⟨i0, hi, hz0, hz1, hz2⟩ := info_parts infoPair
  gi_wp2
  obtain ⟨R2, hR2⟩ : ∃ R2, R2 = withR (withR R ha) ha2 := ⟨_, rfl⟩
  have hL2 : mrgL R2 ord = L := by rw [hR2, mrgL_with, mrgL_with]; exact HL.out.symm
  have hn2 : R2.n = N := by rw [hR2]; exact HNN.out.symm
  have hK2 : R2.K = R.K := by rw [hR2]; rfl
  have hV2 : R2.V = R.V := by rw [hR2]; rfl
  have hl2 : R2.ln = R.ln := by rw [hR2]; rfl
  have HO2 : Hid (OrdOk R2 ord) := by rw [hR2]; exact HO
  have HOI2 : Hid (OrdInj R2 ord) := by rw [hR2]; exact HOI
  have HT2 : Hid (tot R2 (fun _ => 0) ≤ 1048576) := by rw [hR2]; exact HTOT
  rw [← hR2] at HI4
  clear hR2 HO HOI HTOT
  obtain ⟨H, hH⟩ : ∃ H, H = w4.heap.size := ⟨_, rfl⟩
  obtain ⟨w5, hw5⟩ : ∃ w5, w5 = ((w4.alloc (.cells #[.slice none 0 0] 32)).alloc (.cells #[.slice none 0 0] 32)) := ⟨_, rfl⟩
  have hsz5 : w5.heap.size = H + 2 := by rw [hw5, hH]; simp
  have hb45 : Below H w4 w5 := by rw [hw5, hH]; exact ((Below.refl _ w4).alloc (Nat.le_refl _) _).alloc (by simp) _
  have hG0 : GS R2 w4 w5 H (H + 2) H (H + 1) (.slice none 0 0) [] [] none := by
    have z1 := (Boxed.new w4 32 (.slice none 0 0)).alloc (.cells #[.slice none 0 0] 32)
    have z2 := Boxed.new (w4.alloc (.cells #[.slice none 0 0] 32)) 32 (.slice none 0 0)
    rw [World.size_alloc] at z2
    rw [← hw5, ← hH] at z1 z2
    exact ⟨⟨_, z1, World.ownsRow_nil _ _ _ _⟩, ⟨z2, World.ownsRow_nil _ _ _ _, (fun j e => by cases e)⟩, hb45, (fun k e => by cases e), by omega, by omega, by omega, by omega⟩
  rw [← hw5, ← hH]
  have HG0 := Lib.hid hG0
  have HI5 : Hid (HdAt R2 H (some ⟨gr, 0, none⟩) w5 ∧ RnAt R2 H w5) := by
    have hH4 := HI4.out.1
    have hR4 := HI4.out.2
    rw [← hH] at hH4 hR4
    exact Lib.hid (ArgAt.below ⟨hH4, hR4⟩ hb45)
  have HBX5 : Hid (rb < w5.heap.size ∧ w5.cell? ⟨rb, 0, none⟩ = some (.slice (some ⟨gr, 0, none⟩) N N)) := Lib.hid ⟨by have := HBX4.out.lt; omega, (hb45.cell (p := ⟨rb, 0, none⟩) (by have := HBX4.out.lt; show rb < H; omega)).trans HBX4.out.cell⟩
  have HSTX : Hid (∀ X, Below H w4 X → X.cell? ⟨b3, 0, none⟩ = some (.int .i64 stop)) := Lib.hid fun X hX => by
    have h1 := HST.out.lt
    have s1 := HBG.out.size
    have s2 := HB23.out.size
    have s3 := HB34.out.size
    have hb : Below w1.heap.size w1 X := HBG.out.trans ((HB23.out.trans ((HB34.out.trans (hX.mono (by omega))).mono s2)).mono s1)
    exact (hb.cell (p := ⟨b3, 0, none⟩) h1).trans HST.out.cell
  have H5 := Lib.hid (And.intro hsz5 hH)
  have hsq := Lib.hid (And.intro hK2 (And.intro hV2 hl2))
  have hln2 : Hid (∀ i, i < R2.n → R2.ln i ≤ 4398046511104) := Lib.hid fun i hi => by rw [hl2]; exact Nat.le_trans (HLN.out i (by have := HNN.out; omega)) (by omega)
  have hsz2 : Hid (∀ i p, (R2.K i p).size ≤ 140737488351232 ∧ (R2.V i p).size ≤ 140737488351232) := Lib.hid fun i p => by rw [hK2, hV2]; exact ⟨Nat.le_trans (HSZ.out i p).1 (by omega), Nat.le_trans (HSZ.out i p).2 (by omega)⟩
  have hrn2 : R2.n ≤ 1099511627776 := by have := HN.out; have := HNN.out; omega
  have hN2 := Lib.hid hn2
  have HL2 := Lib.hid hL2
  clear hw5 hsz5 hb45 hG0 hH hK2 hV2 hl2 hn2 hL2
  have hseq := all1_N (16 - 1) (by omega) R2 ord HO2 HOI2 hln2 hrn2 hsz2 H rb N (some ⟨gr, 0, none⟩) w5 (by have := H5.out.1; omega) HI5.out.2 HI5.out.1 HBX5.out.1 (by rw [hN2.out]; exact HBX5.out.2)
  rw [HL2.out] at hseq
  refine range_N rfl (by omega) (gf := 17) (lb := #[.pointer (some ⟨rb, 0, none⟩)]) rfl trivial (enters_of Try.func17 (by kernel_rfl) rfl)
    hseq (fun h => KpT.keepAt h) (fun h k => h.trans k) (fun X o o' ho hc _ => kpO_put (by have := H5.out.1; omega) X o o' ho hc) (Below.refl _ _) (fun _ => rfl)
    (fun pre X => GS R2 w4 X H (H + 2) H (H + 1) (.slice none 0 0) [] pre none ∧ (stop < 0 ∨ (pre.length : Int) ≤ stop))
    (fun c s X => c = .exit 0 ∧ ∃ pre x, s = pre ++ [x] ∧ (pre.length : Int) = stop ∧ GS R2 w4 X H (H + 2) H (H + 1) (.slice none 0 0) [] pre none)
    (fun s X Y row hs hg hr => ⟨hs.1.grown (Q := w5.heap.size) (by have := H5.out.1; omega) (fun k e => by cases e) hg hr, hs.2⟩)
    (fun s X Y hs hk => ⟨hs.1.T (fun k e => by cases e) hk, hs.2⟩)
    (fun c s X Y row hs hg hr => by
      obtain ⟨e1, pre, x, e2, e3, h⟩ := hs
      exact ⟨e1, pre, x, e2, e3, h.grown (Q := w5.heap.size) (by have := H5.out.1; omega) (fun k e => by cases e) hg hr⟩)
    (fun c s X Y hs hk => by
      obtain ⟨e1, pre, x, e2, e3, h⟩ := hs
      exact ⟨e1, pre, x, e2, e3, h.T (fun k e => by cases e) hk⟩)
    ⟨HG0.out, by rcases Int.lt_or_le stop 0 with h | h; exact .inl h; exact .inr h⟩
    (fun x a' X => ∃ q, a' = { tmps := #[.slice A N cap, .int .i64 stop, undef, .pointer (some ⟨b3, 0, none⟩), .bool false, .slice A1 N c1, .slice A2 N c2, .slice A3 n c3, .func (.func 17) #[] #[.pointer (some ⟨rb, 0, none⟩)], .pointer (some ⟨H, 0, none⟩), .pointer (some ⟨H + 1, 0, none⟩), .pointer (some ⟨q, 0, none⟩), undef, undef, .bool true, .bool false, .tuple #[.slice A1 N c1, .slice A2 N c2], .slice A N cap, .tuple #[.slice A1 N c1, .slice A2 N c2], .slice A1 N c1, .slice A2 N c2, .slice A2 N c2, .slice A3 n c3, .slice A1 N c1, .func (.func 17) #[] #[.pointer (some ⟨rb, 0, none⟩)], .func (.func 17) #[] #[.pointer (some ⟨rb, 0, none⟩)], .agg #[.string (R2.K x.1 x.2), .string (R2.V x.1 x.2)], undef, undef, undef, undef, undef, undef, undef, undef, undef, undef, undef, undef, undef, undef, undef, undef, undef, undef, undef, undef, undef, undef, undef, undef, undef, undef, undef, undef, undef, undef, undef, undef, undef, undef], defers := [] } ∧ X.heap[q]? = some (.cells #[.string (R2.K x.1 x.2), .string (R2.V x.1 x.2)] 34 (0, 0)))
    ?ax ?assign ?body ?done ?stop
  case ax =>
    rintro x a' s X Y row ⟨q, e, hq⟩ hg hr
    refine ⟨q, e, (hg.block q (Array.getElem?_eq_some_iff.1 hq).1 (fun e' => ?_)).trans hq⟩
    obtain ⟨_, o, ho, hc⟩ := hr q e'.symm
    rw [hq] at ho
    cases ho
    cases hc
  case assign =>
    rintro l' pre x X K ⟨hj, hs⟩ hK
    simp only [prEnc]
    have hK' := hK { tmps := #[.slice A N cap, .int .i64 stop, undef, .pointer (some ⟨b3, 0, none⟩), .bool false, .slice A1 N c1, .slice A2 N c2, .slice A3 n c3, .func (.func 17) #[] #[.pointer (some ⟨rb, 0, none⟩)], .pointer (some ⟨H, 0, none⟩), .pointer (some ⟨H + 1, 0, none⟩), .pointer (some ⟨X.heap.size, 0, none⟩), undef, undef, .bool true, .bool false, .tuple #[.slice A1 N c1, .slice A2 N c2], .slice A N cap, .tuple #[.slice A1 N c1, .slice A2 N c2], .slice A1 N c1, .slice A2 N c2, .slice A2 N c2, .slice A3 n c3, .slice A1 N c1, .func (.func 17) #[] #[.pointer (some ⟨rb, 0, none⟩)], .func (.func 17) #[] #[.pointer (some ⟨rb, 0, none⟩)], .agg #[.string (R2.K x.1 x.2), .string (R2.V x.1 x.2)], undef, undef, undef, undef, undef, undef, undef, undef, undef, undef, undef, undef, undef, undef, undef, undef, undef, undef, undef, undef, undef, undef, undef, undef, undef, undef, undef, undef, undef, undef, undef, undef, undef, undef], defers := [] } (X.alloc (.cells #[.string (R2.K x.1 x.2), .string (R2.V x.1 x.2)] 34)) (KeepsAt.of (KeepsOthers.alloc _ _)) (KpO.below ((Below.refl _ _).alloc (Nat.le_refl _) _)) ⟨hj.grown (Q := X.heap.size) hj.m2 (fun k e => by cases e) (World.grownBy_alloc X _ none) (fun r e => by cases e), hs⟩ ⟨X.heap.size, rfl, World.alloc_heap_new X _⟩
    clear hK
    gi_wp2
    exact hK'
  case body =>
    rintro l' pre x a' X ⟨hj, hs⟩ ⟨q, rfl, hq⟩ hpx
    have hd0 : X.cell? ⟨q, 0, none⟩ = some (.string (R2.K x.1 x.2)) := by simp [World.cell?, hq]
    have hd1 : X.cell? ⟨q, 1, none⟩ = some (.string (R2.V x.1 x.2)) := by simp [World.cell?, hq]
    obtain ⟨v, hv, hrow⟩ := hj.a
    obtain ⟨a9, c9, rfl⟩ := row_form hrow
    have hvc := hv.cell
    have hstc := HSTX.out X hj.bel
    have hpl : pre.length + 1 ≤ L.length := by have := hpx.length_le; simpa using this
    have hLb := hLl.out
    by_cases hstop : (pre.length : Int) = stop
    · have h1 : ((pre.length : Int) == stop) = true := by simpa using hstop
      have HQ : Hid (∃ pre' x', pre ++ [x] = pre' ++ [x'] ∧ (pre'.length : Int) = stop ∧ GS R2 w4 X H (H + 2) H (H + 1) (.slice none 0 0) [] pre' none) := Lib.hid ⟨pre, x, rfl, hstop, hj⟩
      clear hs hstop hj hv hrow hq hpx hpl
      gi_wp2
      exact ⟨KeepsAt.refl _ _, KpO.refl _ _ _, rfl, HQ.out⟩
    · have h1 : ((pre.length : Int) == stop) = false := by simpa using hstop
      have hs' : stop < 0 ∨ ((pre ++ [x]).length : Int) ≤ stop := by
        rcases hs with hs | hs
        · exact .inl hs
        · refine .inr ?_
          rw [List.length_append]
          simp
          omega
      have HS' := Lib.hid hs'
      have k3 : pre.length + 1 ≤ maxLen := by unfold maxLen; omega
      have k4 : (pre.length + 1) * 32 ≤ 140737488355328 := by omega
      have HJ := Lib.hid (And.intro hj (And.intro hv hrow))
      have hm2 := hj.m2
      clear hs hs' hstop hpx hpl hq
      gi_wp2_with (gi_at_builtin; refine wpListIn_append_own _ rfl _ _ 32 rfl (H + 2) 34 i0 _ 2 32 Try.underlying32 hi hz0 hz1 hz2 rfl (by decide) _ _ _ rfl (hrow.alloc _) ⟨X.heap.size, 0, none⟩ 1 1 [.string (R2.K x.1 x.2), .string (R2.V x.1 x.2)] rfl rfl (item_new _ _ _ _) (by simp [Value.oneCell']) k3 k4 (by simp; omega) ?_; intro v' w6 hown' hgrow _; obtain ⟨g', cap', rfl, _, _⟩ := hown'.form (by omega); obtain ⟨t1, t2, t3, t4⟩ := HJ.out.1.tail (s := w5.heap.size) HJ.out.2.1 HJ.out.2.2 hown' hgrow; have hc1 := t1.cell; have hf1 := t1.frozen)
      exact ⟨t4, t3 _, t2, HS'.out⟩
  case done =>
    rintro D X hD ⟨hj, hs⟩ hK2
    gi_wp2
    have hPL : L <+: L := List.prefix_refl L
    have hDX : D < X.heap.size := (Array.getElem?_eq_some_iff.1 hK2).1
    obtain ⟨v9, hv9, hr9⟩ := hj.a
    obtain ⟨a9, c9, rfl⟩ := row_form hr9
    have hHM := hj.m2
    have hHb := hj.bel
    have hG2 : GS R2 w4 X H X.heap.size (H + 1) H (.slice a9 (L).length c9) (L) [] (some D) :=
      ⟨⟨_, hj.o.1, World.ownsRow_nil _ _ _ _⟩, ⟨hv9, hr9.mono (by omega), (fun j e => (hr9.lt j e).2)⟩, hj.bel, (fun k e => by cases e; exact hK2), by omega, Nat.le_refl _, by omega, by omega⟩
    have HG2 := Lib.hid hG2
    have hAX : ArgAt R2 H (some ⟨gr, 0, none⟩) X := by
      have hH4 := HI4.out.1
      have hR4 := HI4.out.2
      rw [← H5.out.2] at hH4 hR4
      exact ArgAt.below ⟨hH4, hR4⟩ hHb
    have hrbH : rb < H := by have := HBX4.out.lt; have := H5.out.2; omega
    have hseq2 := all1_N (16 - 1) (by omega) R2 ord HO2 HOI2 hln2 hrn2 hsz2 H rb N (some ⟨gr, 0, none⟩) X (by omega) hAX.2 hAX.1 (by omega) (by rw [hN2.out]; exact (hHb.cell (p := ⟨rb, 0, none⟩) hrbH).trans HBX4.out.cell)
    rw [HL2.out] at hseq2
    have HHD := Lib.hid (And.intro hDX (And.intro hHM (And.intro hHb hD)))
    clear hv9 hr9 hj hG2 hAX hHM hHb hseq hDX hD hK2
    refine range_N rfl (by omega) (gf := 17) (lb := #[.pointer (some ⟨rb, 0, none⟩)]) rfl trivial (enters_of Try.func17 (by kernel_rfl) rfl)
      hseq2 (fun h => KpT.keepAt h) (fun h k => h.trans k) (fun Y o o' ho hc _ => kpO_put (by have := HHD.out.2.1; omega) Y o o' ho hc) (Below.refl _ _) (fun _ => rfl)
      (fun pre Y => GS R2 w4 Y H X.heap.size (H + 1) H (.slice a9 (L).length c9) (L) pre (some D))
      (fun _ _ _ => False)
      (fun s Y Z row hs hg hr => hs.grown (Q := X.heap.size) (Nat.le_refl _) (fun k e => by cases e; exact HHD.out.1) hg hr)
      (fun s Y Z hs hk => hs.T (fun k e => by cases e; have := HHD.out.1; omega) hk)
      (fun c s Y Z row hs _ _ => hs)
      (fun c s Y Z hs _ => hs)
      HG2.out
      (fun x a' Y => ∃ q, a' = { tmps := #[.slice A N cap, .int .i64 stop, undef, .pointer (some ⟨b3, 0, none⟩), .bool false, .slice A1 N c1, .slice A2 N c2, .slice A3 n c3, .func (.func 17) #[] #[.pointer (some ⟨rb, 0, none⟩)], .pointer (some ⟨H, 0, none⟩), .pointer (some ⟨H + 1, 0, none⟩), undef, .pointer (some ⟨q, 0, none⟩), undef, .bool true, .bool false, .tuple #[.slice A1 N c1, .slice A2 N c2], .slice A N cap, .tuple #[.slice A1 N c1, .slice A2 N c2], .slice A1 N c1, .slice A2 N c2, .slice A2 N c2, .slice A3 n c3, .slice A1 N c1, .func (.func 17) #[] #[.pointer (some ⟨rb, 0, none⟩)], .func (.func 17) #[] #[.pointer (some ⟨rb, 0, none⟩)], undef, undef, undef, undef, undef, undef, undef, undef, undef, .func (.func 17) #[] #[.pointer (some ⟨rb, 0, none⟩)], .agg #[.string (R2.K x.1 x.2), .string (R2.V x.1 x.2)], undef, undef, undef, undef, undef, undef, undef, undef, undef, undef, undef, undef, undef, undef, undef, undef, undef, undef, undef, undef, undef, undef, undef, undef], defers := [] } ∧ Y.heap[q]? = some (.cells #[.string (R2.K x.1 x.2), .string (R2.V x.1 x.2)] 34 (0, 0)))
      ?ax2 ?assign2 ?body2 ?done2 ?stop2
    case ax2 =>
      rintro x a' s Y Z row ⟨q, e, hq⟩ hg hr
      refine ⟨q, e, (hg.block q (Array.getElem?_eq_some_iff.1 hq).1 (fun e' => ?_)).trans hq⟩
      obtain ⟨_, o, ho, hc⟩ := hr q e'.symm
      rw [hq] at ho
      cases ho
      cases hc
    case assign2 =>
      rintro l' pre x Y K hj hK
      simp only [prEnc]
      have hK' := hK { tmps := #[.slice A N cap, .int .i64 stop, undef, .pointer (some ⟨b3, 0, none⟩), .bool false, .slice A1 N c1, .slice A2 N c2, .slice A3 n c3, .func (.func 17) #[] #[.pointer (some ⟨rb, 0, none⟩)], .pointer (some ⟨H, 0, none⟩), .pointer (some ⟨H + 1, 0, none⟩), undef, .pointer (some ⟨Y.heap.size, 0, none⟩), undef, .bool true, .bool false, .tuple #[.slice A1 N c1, .slice A2 N c2], .slice A N cap, .tuple #[.slice A1 N c1, .slice A2 N c2], .slice A1 N c1, .slice A2 N c2, .slice A2 N c2, .slice A3 n c3, .slice A1 N c1, .func (.func 17) #[] #[.pointer (some ⟨rb, 0, none⟩)], .func (.func 17) #[] #[.pointer (some ⟨rb, 0, none⟩)], undef, undef, undef, undef, undef, undef, undef, undef, undef, .func (.func 17) #[] #[.pointer (some ⟨rb, 0, none⟩)], .agg #[.string (R2.K x.1 x.2), .string (R2.V x.1 x.2)], undef, undef, undef, undef, undef, undef, undef, undef, undef, undef, undef, undef, undef, undef, undef, undef, undef, undef, undef, undef, undef, undef, undef, undef], defers := [] } (Y.alloc (.cells #[.string (R2.K x.1 x.2), .string (R2.V x.1 x.2)] 34)) (KeepsAt.of (KeepsOthers.alloc _ _)) (KpO.below ((Below.refl _ _).alloc (Nat.le_refl _) _)) (hj.grown (Q := Y.heap.size) hj.m2 (fun k e => (Array.getElem?_eq_some_iff.1 (hj.d k e)).1) (World.grownBy_alloc Y _ none) (fun r e => by cases e)) ⟨Y.heap.size, rfl, World.alloc_heap_new Y _⟩
      clear hK
      gi_wp2
      exact hK'
    case body2 =>
      rintro l' pre x a' Y hj ⟨q, rfl, hq⟩ hpx
      have hd0 : Y.cell? ⟨q, 0, none⟩ = some (.string (R2.K x.1 x.2)) := by simp [World.cell?, hq]
      have hd1 : Y.cell? ⟨q, 1, none⟩ = some (.string (R2.V x.1 x.2)) := by simp [World.cell?, hq]
      obtain ⟨v, hv, hrow⟩ := hj.a
      have hvc := hv.cell
      have hpl : pre.length + 1 ≤ L.length := by have := hpx.length_le; simpa using this
      have hLb := hLl.out
      have k3 : pre.length + 1 ≤ maxLen := by unfold maxLen; omega
      have k4 : (pre.length + 1) * 32 ≤ 140737488355328 := by omega
      have HJ := Lib.hid (And.intro hj (And.intro hv hrow))
      have hm2 := hj.m2
      clear hpx hpl hq
      gi_wp2_with (gi_at_builtin; refine wpListIn_append_own _ rfl _ _ 32 rfl X.heap.size 34 i0 _ 2 32 Try.underlying32 hi hz0 hz1 hz2 rfl (by decide) _ _ _ rfl (hrow.alloc _) ⟨Y.heap.size, 0, none⟩ 1 1 [.string (R2.K x.1 x.2), .string (R2.V x.1 x.2)] rfl rfl (item_new _ _ _ _) (by simp [Value.oneCell']) k3 k4 (by simp; omega) ?_; intro v' w6 hown' hgrow _; obtain ⟨g', cap', rfl, _, _⟩ := hown'.form (by omega); obtain ⟨t1, t2, t3, t4⟩ := HJ.out.1.tail (s := X.heap.size) HJ.out.2.1 HJ.out.2.2 hown' hgrow; have hc1 := t1.cell; have hf1 := t1.frozen)
      exact ⟨t4, t3 _, t2⟩
    case done2 =>
      rintro D2 Y hD2 hj hK3
      obtain ⟨v2, hv2, hr2⟩ := hj.a
      obtain ⟨a2, c2', rfl⟩ := row_form hr2
      obtain ⟨k1, k2, k3⟩ := hj.o
      have hbl := hj.bel
      have s1 := HBG.out.size
      have s2 := HB23.out.size
      have s3 := HB34.out.size
      have sH := H5.out.2
      have sY := hbl.size
      have hb3Y : Below w3.heap.size w3 Y := HB34.out.trans (hbl.mono (by omega))
      have hbY : Below w.heap.size w Y := HB01.out.1.trans ((HBG.out.trans ((HB23.out.trans (hb3Y.mono s2)).mono s1)).mono HB01.out.1.size)
      have hpa := pr_some hsq.out.1 hsq.out.2.1 (List.prefix_refl L) hr2
      have hps := pr_some hsq.out.1 hsq.out.2.1 hPL k2
      have hpw : PrAt Y Y.heap.size A3 n (kk R L) (vv R L) := fun j hj => by
        obtain ⟨b, off, e1, e2, e3⟩ := (HR3.out.below hb3Y) j hj
        exact ⟨b, off, e1, by have := hb3Y.size; omega, e3⟩
      have hc10 := hv2.cell
      have hc9 := k1.cell
      have hstc := HSTX.out Y hbl
      have hdd := hj.d D rfl
      rw [← Hn.out] at hc10 hpa
      rw [← Hn.out] at hc9 hps
      have HLE : Hid ((n) ≤ n) := Lib.hid (by exact Nat.le_refl _)
      have HPA := Lib.hid hpa
      have HPS := Lib.hid hps
      have HPW := Lib.hid hpw
      have HBY := Lib.hid (And.intro hbY (And.intro hdd (And.intro hK3 hD2)))
      have hn3 := HC3.out
      have HQA : Hid (∀ q m, CallsIn Fence.wide m Try.prog 9 #[.slice a2 n c2', .slice A3 n c3] (Y.drewN q) fun e w'' => e = .returned (.bool true) ∧ ∃ k, w'' = Y.drewN k) := Lib.hid fun q m =>
        callsIn_wide.2 ((same_prs a2 A3 n c2' c3 (kk R L) (vv R L) (Y.drewN q) Y.heap.size Y.heap.size (by have := hLl.out; have := Hn.out; omega) HPA.out HPW.out).mono fun e w'' ⟨e1, k, e2⟩ => ⟨e1, q + k, by rw [e2, World.drewN_drewN]⟩)
      have HQS : Hid (∀ q m, CallsIn Fence.wide m Try.prog 9 #[.slice a9 (n) c9, .slice A3 (n) c3] (Y.drewN q) fun e w'' => e = .returned (.bool true) ∧ ∃ k, w'' = Y.drewN k) := Lib.hid fun q m =>
        callsIn_wide.2 ((same_prs a9 A3 (n) c9 c3 (kk R L) (vv R L) (Y.drewN q) Y.heap.size Y.heap.size (by have := hLl.out; have := Hn.out; have := HLE.out; omega) HPS.out (fun j hj => HPW.out j (by have := HLE.out; omega))).mono fun e w'' ⟨e1, k, e2⟩ => ⟨e1, q + k, by rw [e2, World.drewN_drewN]⟩)
      have hlc : ((n : Nat) : Int) ≤ (c3 : Int) := by have := HLE.out; omega
      have hnl : n ≤ 1048576 := by have := hLl.out; have := Hn.out; omega
      clear hj hv2 hr2 k1 k2 k3 hbl s1 s2 s3 sH sY hb3Y hbY hpa hps hpw hdd hK3 hD2 hseq2
      have hcond : decide ((0 : Int) ≤ stop) = false ∨ (decide ((0 : Int) ≤ stop) = true ∧ decide (stop < (n : Int)) = false) := by
        have := Hn.out
        rcases hs with h | h
        · exact .inl (decide_eq_false (by omega))
        · by_cases h0 : stop < 0
          · exact .inl (decide_eq_false (by omega))
          · exact .inr ⟨decide_eq_true (by omega), decide_eq_false (by omega)⟩
      rcases hcond with d0 | ⟨d0, d1⟩
      all_goals
        gi_wp2_with (fail)
        refine wpIn_region_quiet_lit rfl (by kernel_rfl) (by kernel_rfl) ?_
        clear hPL hz0 hz1 hz2 hi hrn2 hst hstc hnl hn3
        with_reducible refine wpQuietIn_step ?ask (fun K hK => ?_)
        case ask => exact fun _ _ _ _ => trivial
        go_simp
        with_reducible refine hK _ ?_
        clear hK K
        with_reducible refine wpQuietIn_step ?ask (fun K hK => ?_)
        case ask => exact fun _ _ _ _ => trivial
        go_simp
        with_reducible refine hK _ ?_
        clear hK K
        with_reducible refine wpQuietIn_step ?ask (fun K hK => ?_)
        case ask => exact fun _ _ _ _ => trivial
        go_simp
        apply Exists.intro
        refine ⟨fun _ => HQA.out _ _, hK _ ?_⟩
        clear hK K
        with_reducible refine wpQuietIn_step ?ask (fun K hK => ?_)
        case ask => exact fun _ _ _ _ => trivial
        go_simp
        with_reducible refine hK _ ?_
        clear hK K
        with_reducible refine wpQuietIn_step ?ask (fun K hK => ?_)
        case ask => exact fun _ _ _ _ => trivial
        go_simp
        with_reducible refine hK _ ?_
        clear hK K
        with_reducible refine wpQuietIn_step ?ask (fun K hK => ?_)
        case ask => exact fun _ _ _ _ => trivial
        go_simp
        with_reducible refine hK _ ?_
        clear hK K
        with_reducible refine wpQuietIn_step ?ask (fun K hK => ?_)
        case ask => exact fun _ _ _ _ => trivial
        go_simp
        with_reducible refine hK _ ?_
        clear hK K
        with_reducible refine wpQuietIn_step ?ask (fun K hK => ?_)
        case ask => exact fun _ _ _ _ => trivial
        go_simp
        with_reducible refine hK _ ?_
        clear hK K
        with_reducible refine wpQuietIn_step ?ask (fun K hK => ?_)
        case ask => exact fun _ _ _ _ => trivial
        go_simp
        apply Exists.intro
        refine ⟨fun _ => HQS.out _ _, hK _ ?_⟩
        clear hK K
        with_reducible refine wpQuietIn_step ?ask (fun K hK => ?_)
        case ask => exact fun _ _ _ _ => trivial
        go_simp
        with_reducible refine hK _ ?_
        clear hK K
        with_reducible refine wpQuietIn_step ?ask (fun K hK => ?_)
        case ask => exact fun _ _ _ _ => trivial
        go_simp
        with_reducible refine hK _ ?_
        clear hK K
        refine wpQuietIn_nil ?_
        intro _ hw'
        obtain ⟨nq, hw''⟩ := hw'
        subst hw''
        gi_wp2
        have hDD : D ≠ D2 := by have := HHD.out.1; have := HBY.out.2.2.2; omega
        have hw5w : w.heap.size ≤ D := by
          have q1 := HHD.out.2.2.2
          have q2 := H5.out.1
          have q3 := H5.out.2
          have q4 := HB01.out.1.size
          have q5 := HBG.out.size
          have q6 := HB23.out.size
          have q7 := HB34.out.size
          omega
        have e1 : (Y.drewN nq).heap[D2]? = some (.deferred (some [])) := HBY.out.2.2.1
        have e2 : ((Y.drewN nq).putObj D2 (.deferred none)).heap[D]? = some (.deferred (some [])) := (World.putObj_heap_other hDD).trans HBY.out.2.1
        have b0 : Below w.heap.size w (Y.drewN nq) := ⟨HBY.out.1.os, HBY.out.1.tape, HBY.out.1.output, HBY.out.1.size, HBY.out.1.block⟩
        refine ⟨by simp, .inl ⟨_, _, rfl, run_takeDeferred e1, by simp, .inl ⟨_, _, rfl, run_takeDeferred e2, ?_⟩⟩⟩
        exact ⟨_, results_tmp rfl _ _ _, rfl, (b0.trans (belowK_b (w := w) (Nat.le_refl _) _ D2 _ (.deferred none) (by have := HHD.out.1; have := HBY.out.2.2.2; omega) e1 rfl rfl)).trans (belowK_b (w := w) (Nat.le_refl _) _ D _ (.deferred none) hw5w e2 rfl rfl)⟩
    case stop2 =>
      rintro D2 c pre Y _ hp h
      exact h.elim
  case stop =>
    rintro D c s X hD hp ⟨rfl, pst, x, rfl, hst1, hj⟩ hK2
    subst hst1
    have hp2 : pst <+: L := (List.prefix_append pst [x]).trans hp
    have hpl1 : pst.length + 1 ≤ L.length := by have := hp.length_le; simpa using this
    gi_wp2
    have hPL : pst <+: L := hp2
    have hDX : D < X.heap.size := (Array.getElem?_eq_some_iff.1 hK2).1
    obtain ⟨v9, hv9, hr9⟩ := hj.a
    obtain ⟨a9, c9, rfl⟩ := row_form hr9
    have hHM := hj.m2
    have hHb := hj.bel
    have hG2 : GS R2 w4 X H X.heap.size (H + 1) H (.slice a9 (pst).length c9) (pst) [] (some D) :=
      ⟨⟨_, hj.o.1, World.ownsRow_nil _ _ _ _⟩, ⟨hv9, hr9.mono (by omega), (fun j e => (hr9.lt j e).2)⟩, hj.bel, (fun k e => by cases e; exact hK2), by omega, Nat.le_refl _, by omega, by omega⟩
    have HG2 := Lib.hid hG2
    have hAX : ArgAt R2 H (some ⟨gr, 0, none⟩) X := by
      have hH4 := HI4.out.1
      have hR4 := HI4.out.2
      rw [← H5.out.2] at hH4 hR4
      exact ArgAt.below ⟨hH4, hR4⟩ hHb
    have hrbH : rb < H := by have := HBX4.out.lt; have := H5.out.2; omega
    have hseq2 := all1_N (16 - 1) (by omega) R2 ord HO2 HOI2 hln2 hrn2 hsz2 H rb N (some ⟨gr, 0, none⟩) X (by omega) hAX.2 hAX.1 (by omega) (by rw [hN2.out]; exact (hHb.cell (p := ⟨rb, 0, none⟩) hrbH).trans HBX4.out.cell)
    rw [HL2.out] at hseq2
    have HHD := Lib.hid (And.intro hDX (And.intro hHM (And.intro hHb hD)))
    clear hv9 hr9 hj hG2 hAX hHM hHb hseq hDX hD hK2
    refine range_N rfl (by omega) (gf := 17) (lb := #[.pointer (some ⟨rb, 0, none⟩)]) rfl trivial (enters_of Try.func17 (by kernel_rfl) rfl)
      hseq2 (fun h => KpT.keepAt h) (fun h k => h.trans k) (fun Y o o' ho hc _ => kpO_put (by have := HHD.out.2.1; omega) Y o o' ho hc) (Below.refl _ _) (fun _ => rfl)
      (fun pre Y => GS R2 w4 Y H X.heap.size (H + 1) H (.slice a9 (pst).length c9) (pst) pre (some D))
      (fun _ _ _ => False)
      (fun s Y Z row hs hg hr => hs.grown (Q := X.heap.size) (Nat.le_refl _) (fun k e => by cases e; exact HHD.out.1) hg hr)
      (fun s Y Z hs hk => hs.T (fun k e => by cases e; have := HHD.out.1; omega) hk)
      (fun c s Y Z row hs _ _ => hs)
      (fun c s Y Z hs _ => hs)
      HG2.out
      (fun x a' Y => ∃ q, a' = { tmps := #[.slice A N cap, .int .i64 (pst.length : Int), undef, .pointer (some ⟨b3, 0, none⟩), .bool false, .slice A1 N c1, .slice A2 N c2, .slice A3 n c3, .func (.func 17) #[] #[.pointer (some ⟨rb, 0, none⟩)], .pointer (some ⟨H, 0, none⟩), .pointer (some ⟨H + 1, 0, none⟩), undef, .pointer (some ⟨q, 0, none⟩), undef, .bool true, .bool false, .tuple #[.slice A1 N c1, .slice A2 N c2], .slice A N cap, .tuple #[.slice A1 N c1, .slice A2 N c2], .slice A1 N c1, .slice A2 N c2, .slice A2 N c2, .slice A3 n c3, .slice A1 N c1, .func (.func 17) #[] #[.pointer (some ⟨rb, 0, none⟩)], .func (.func 17) #[] #[.pointer (some ⟨rb, 0, none⟩)], undef, undef, undef, undef, undef, undef, undef, undef, undef, .func (.func 17) #[] #[.pointer (some ⟨rb, 0, none⟩)], .agg #[.string (R2.K x.1 x.2), .string (R2.V x.1 x.2)], undef, undef, undef, undef, undef, undef, undef, undef, undef, undef, undef, undef, undef, undef, undef, undef, undef, undef, undef, undef, undef, undef, undef, undef], defers := [] } ∧ Y.heap[q]? = some (.cells #[.string (R2.K x.1 x.2), .string (R2.V x.1 x.2)] 34 (0, 0)))
      ?ax2 ?assign2 ?body2 ?done2 ?stop2
    case ax2 =>
      rintro x a' s Y Z row ⟨q, e, hq⟩ hg hr
      refine ⟨q, e, (hg.block q (Array.getElem?_eq_some_iff.1 hq).1 (fun e' => ?_)).trans hq⟩
      obtain ⟨_, o, ho, hc⟩ := hr q e'.symm
      rw [hq] at ho
      cases ho
      cases hc
    case assign2 =>
      rintro l' pre x Y K hj hK
      simp only [prEnc]
      have hK' := hK { tmps := #[.slice A N cap, .int .i64 (pst.length : Int), undef, .pointer (some ⟨b3, 0, none⟩), .bool false, .slice A1 N c1, .slice A2 N c2, .slice A3 n c3, .func (.func 17) #[] #[.pointer (some ⟨rb, 0, none⟩)], .pointer (some ⟨H, 0, none⟩), .pointer (some ⟨H + 1, 0, none⟩), undef, .pointer (some ⟨Y.heap.size, 0, none⟩), undef, .bool true, .bool false, .tuple #[.slice A1 N c1, .slice A2 N c2], .slice A N cap, .tuple #[.slice A1 N c1, .slice A2 N c2], .slice A1 N c1, .slice A2 N c2, .slice A2 N c2, .slice A3 n c3, .slice A1 N c1, .func (.func 17) #[] #[.pointer (some ⟨rb, 0, none⟩)], .func (.func 17) #[] #[.pointer (some ⟨rb, 0, none⟩)], undef, undef, undef, undef, undef, undef, undef, undef, undef, .func (.func 17) #[] #[.pointer (some ⟨rb, 0, none⟩)], .agg #[.string (R2.K x.1 x.2), .string (R2.V x.1 x.2)], undef, undef, undef, undef, undef, undef, undef, undef, undef, undef, undef, undef, undef, undef, undef, undef, undef, undef, undef, undef, undef, undef, undef, undef], defers := [] } (Y.alloc (.cells #[.string (R2.K x.1 x.2), .string (R2.V x.1 x.2)] 34)) (KeepsAt.of (KeepsOthers.alloc _ _)) (KpO.below ((Below.refl _ _).alloc (Nat.le_refl _) _)) (hj.grown (Q := Y.heap.size) hj.m2 (fun k e => (Array.getElem?_eq_some_iff.1 (hj.d k e)).1) (World.grownBy_alloc Y _ none) (fun r e => by cases e)) ⟨Y.heap.size, rfl, World.alloc_heap_new Y _⟩
      clear hK
      gi_wp2
      exact hK'
    case body2 =>
      rintro l' pre x a' Y hj ⟨q, rfl, hq⟩ hpx
      have hd0 : Y.cell? ⟨q, 0, none⟩ = some (.string (R2.K x.1 x.2)) := by simp [World.cell?, hq]
      have hd1 : Y.cell? ⟨q, 1, none⟩ = some (.string (R2.V x.1 x.2)) := by simp [World.cell?, hq]
      obtain ⟨v, hv, hrow⟩ := hj.a
      have hvc := hv.cell
      have hpl : pre.length + 1 ≤ L.length := by have := hpx.length_le; simpa using this
      have hLb := hLl.out
      have k3 : pre.length + 1 ≤ maxLen := by unfold maxLen; omega
      have k4 : (pre.length + 1) * 32 ≤ 140737488355328 := by omega
      have HJ := Lib.hid (And.intro hj (And.intro hv hrow))
      have hm2 := hj.m2
      clear hpx hpl hq
      gi_wp2_with (gi_at_builtin; refine wpListIn_append_own _ rfl _ _ 32 rfl X.heap.size 34 i0 _ 2 32 Try.underlying32 hi hz0 hz1 hz2 rfl (by decide) _ _ _ rfl (hrow.alloc _) ⟨Y.heap.size, 0, none⟩ 1 1 [.string (R2.K x.1 x.2), .string (R2.V x.1 x.2)] rfl rfl (item_new _ _ _ _) (by simp [Value.oneCell']) k3 k4 (by simp; omega) ?_; intro v' w6 hown' hgrow _; obtain ⟨g', cap', rfl, _, _⟩ := hown'.form (by omega); obtain ⟨t1, t2, t3, t4⟩ := HJ.out.1.tail (s := X.heap.size) HJ.out.2.1 HJ.out.2.2 hown' hgrow; have hc1 := t1.cell; have hf1 := t1.frozen)
      exact ⟨t4, t3 _, t2⟩
    case done2 =>
      rintro D2 Y hD2 hj hK3
      obtain ⟨v2, hv2, hr2⟩ := hj.a
      obtain ⟨a2, c2', rfl⟩ := row_form hr2
      obtain ⟨k1, k2, k3⟩ := hj.o
      have hbl := hj.bel
      have s1 := HBG.out.size
      have s2 := HB23.out.size
      have s3 := HB34.out.size
      have sH := H5.out.2
      have sY := hbl.size
      have hb3Y : Below w3.heap.size w3 Y := HB34.out.trans (hbl.mono (by omega))
      have hbY : Below w.heap.size w Y := HB01.out.1.trans ((HBG.out.trans ((HB23.out.trans (hb3Y.mono s2)).mono s1)).mono HB01.out.1.size)
      have hpa := pr_some hsq.out.1 hsq.out.2.1 (List.prefix_refl L) hr2
      have hps := pr_some hsq.out.1 hsq.out.2.1 hPL k2
      have hpw : PrAt Y Y.heap.size A3 n (kk R L) (vv R L) := fun j hj => by
        obtain ⟨b, off, e1, e2, e3⟩ := (HR3.out.below hb3Y) j hj
        exact ⟨b, off, e1, by have := hb3Y.size; omega, e3⟩
      have hc10 := hv2.cell
      have hc9 := k1.cell
      have hstc := HSTX.out Y hbl
      have hdd := hj.d D rfl
      rw [← Hn.out] at hc10 hpa
      skip
      have HLE : Hid ((pst.length) ≤ n) := Lib.hid (by have := Hn.out; omega)
      have HPA := Lib.hid hpa
      have HPS := Lib.hid hps
      have HPW := Lib.hid hpw
      have HBY := Lib.hid (And.intro hbY (And.intro hdd (And.intro hK3 hD2)))
      have hn3 := HC3.out
      have HQA : Hid (∀ q m, CallsIn Fence.wide m Try.prog 9 #[.slice a2 n c2', .slice A3 n c3] (Y.drewN q) fun e w'' => e = .returned (.bool true) ∧ ∃ k, w'' = Y.drewN k) := Lib.hid fun q m =>
        callsIn_wide.2 ((same_prs a2 A3 n c2' c3 (kk R L) (vv R L) (Y.drewN q) Y.heap.size Y.heap.size (by have := hLl.out; have := Hn.out; omega) HPA.out HPW.out).mono fun e w'' ⟨e1, k, e2⟩ => ⟨e1, q + k, by rw [e2, World.drewN_drewN]⟩)
      have HQS : Hid (∀ q m, CallsIn Fence.wide m Try.prog 9 #[.slice a9 (pst.length) c9, .slice A3 (pst.length) c3] (Y.drewN q) fun e w'' => e = .returned (.bool true) ∧ ∃ k, w'' = Y.drewN k) := Lib.hid fun q m =>
        callsIn_wide.2 ((same_prs a9 A3 (pst.length) c9 c3 (kk R L) (vv R L) (Y.drewN q) Y.heap.size Y.heap.size (by have := hLl.out; have := Hn.out; have := HLE.out; omega) HPS.out (fun j hj => HPW.out j (by have := HLE.out; omega))).mono fun e w'' ⟨e1, k, e2⟩ => ⟨e1, q + k, by rw [e2, World.drewN_drewN]⟩)
      have hlc : ((pst.length : Nat) : Int) ≤ (c3 : Int) := by have := HLE.out; omega
      have hnl : n ≤ 1048576 := by have := hLl.out; have := Hn.out; omega
      clear hj hv2 hr2 k1 k2 k3 hbl s1 s2 s3 sH sY hb3Y hbY hpa hps hpw hdd hK3 hD2 hseq2
      have d0 : decide ((0 : Int) ≤ (pst.length : Int)) = true := decide_eq_true (by omega)
      have d1 : decide ((pst.length : Int) < (n : Int)) = true := decide_eq_true (by have := Hn.out; omega)
      have d2 : pst.length < n := by have := Hn.out; omega
      all_goals
        gi_wp2_with (fail)
        refine wpIn_region_quiet_lit rfl (by kernel_rfl) (by kernel_rfl) ?_
        clear hPL hz0 hz1 hz2 hi hrn2 hst hstc hnl hn3
        with_reducible refine wpQuietIn_step ?ask (fun K hK => ?_)
        case ask => exact fun _ _ _ _ => trivial
        go_simp
        with_reducible refine hK _ ?_
        clear hK K
        with_reducible refine wpQuietIn_step ?ask (fun K hK => ?_)
        case ask => exact fun _ _ _ _ => trivial
        go_simp
        with_reducible refine hK _ ?_
        clear hK K
        with_reducible refine wpQuietIn_step ?ask (fun K hK => ?_)
        case ask => exact fun _ _ _ _ => trivial
        go_simp
        apply Exists.intro
        refine ⟨fun _ => HQA.out _ _, hK _ ?_⟩
        clear hK K
        with_reducible refine wpQuietIn_step ?ask (fun K hK => ?_)
        case ask => exact fun _ _ _ _ => trivial
        go_simp
        with_reducible refine hK _ ?_
        clear hK K
        with_reducible refine wpQuietIn_step ?ask (fun K hK => ?_)
        case ask => exact fun _ _ _ _ => trivial
        go_simp
        with_reducible refine hK _ ?_
        clear hK K
        with_reducible refine wpQuietIn_step ?ask (fun K hK => ?_)
        case ask => exact fun _ _ _ _ => trivial
        go_simp
        with_reducible refine hK _ ?_
        clear hK K
        with_reducible refine wpQuietIn_step ?ask (fun K hK => ?_)
        case ask => exact fun _ _ _ _ => trivial
        go_simp
        with_reducible refine hK _ ?_
        clear hK K
        with_reducible refine wpQuietIn_step ?ask (fun K hK => ?_)
        case ask => exact fun _ _ _ _ => trivial
        go_simp
        with_reducible refine hK _ ?_
        clear hK K
        with_reducible refine wpQuietIn_step ?ask (fun K hK => ?_)
        case ask => exact fun _ _ _ _ => trivial
        go_simp
        apply Exists.intro
        refine ⟨fun _ => HQS.out _ _, hK _ ?_⟩
        clear hK K
        with_reducible refine wpQuietIn_step ?ask (fun K hK => ?_)
        case ask => exact fun _ _ _ _ => trivial
        go_simp
        with_reducible refine hK _ ?_
        clear hK K
        with_reducible refine wpQuietIn_step ?ask (fun K hK => ?_)
        case ask => exact fun _ _ _ _ => trivial
        go_simp
        with_reducible refine hK _ ?_
        clear hK K
        refine wpQuietIn_nil ?_
        intro _ hw'
        obtain ⟨nq, hw''⟩ := hw'
        subst hw''
        gi_wp2
        have hDD : D ≠ D2 := by have := HHD.out.1; have := HBY.out.2.2.2; omega
        have hw5w : w.heap.size ≤ D := by
          have q1 := HHD.out.2.2.2
          have q2 := H5.out.1
          have q3 := H5.out.2
          have q4 := HB01.out.1.size
          have q5 := HBG.out.size
          have q6 := HB23.out.size
          have q7 := HB34.out.size
          omega
        have e1 : (Y.drewN nq).heap[D2]? = some (.deferred (some [])) := HBY.out.2.2.1
        have e2 : ((Y.drewN nq).putObj D2 (.deferred none)).heap[D]? = some (.deferred (some [])) := (World.putObj_heap_other hDD).trans HBY.out.2.1
        have b0 : Below w.heap.size w (Y.drewN nq) := ⟨HBY.out.1.os, HBY.out.1.tape, HBY.out.1.output, HBY.out.1.size, HBY.out.1.block⟩
        refine ⟨by simp, .inl ⟨_, _, rfl, run_takeDeferred e1, by simp, .inl ⟨_, _, rfl, run_takeDeferred e2, ?_⟩⟩⟩
        exact ⟨_, results_tmp rfl _ _ _, rfl, (b0.trans (belowK_b (w := w) (Nat.le_refl _) _ D2 _ (.deferred none) (by have := HHD.out.1; have := HBY.out.2.2.2; omega) e1 rfl rfl)).trans (belowK_b (w := w) (Nat.le_refl _) _ D _ (.deferred none) hw5w e2 rfl rfl)⟩
    case stop2 =>
      rintro D2 c pre Y _ hp h
      exact h.elim

set_option maxRecDepth 100000 in
theorem contractUpto (H : Type) (enc : TypeId × Value → H) (W : World) (base : Nat) (args : Array Value) (ds gs : List (DataW H)) (before : List MemPlace)
    (hval : ∀ (j : Nat) t v, Try.f3.params[j]? = some t → args[j]? = some v → Value.okWide Try.prog W .any base t v)
    (hW : DataW.Whole enc Try.prog Try.f3.params.toList Rows.mergeGoesSpec.vars false W args.toList ds gs before)
    (hz : (DataW.weightsEach Try.prog (Try.f3.params.toList ++ []) (ds ++ gs)).all (· ≤ reachBytes) = true) (hk : Rows.uptoSmall H (ds ++ gs) = true) :
    Calls Try.prog 3 args W fun e W' => ∃ v, e = .returned v ∧ Rows.mergeGoesSpec.post enc Try.prog Try.f3 false true false false W args v W' := by
  have hW' := hW
  obtain ⟨p, q, hA0, hV, rfl, hfz, hnd⟩ := hW
  have hA : DataW.TrodAll enc Try.prog W 0 (fun _ => true) true Try.f3.params.toList args.toList ds p := hA0
  rw [Try.params3] at hA hval hz
  obtain ⟨v0, vs0, d0, ds0, p0, q0, hargs, rfl, rfl, h0, r0⟩ := trodAll_cons hA
  obtain ⟨v1, vs1, d1, ds1, p1, q1, rfl, rfl, rfl, h1, r1⟩ := trodAll_cons r0
  obtain ⟨rfl, rfl, rfl⟩ := trodAll_nil r1
  obtain rfl : args = #[v0, v1] := by cases args; simp_all
  obtain ⟨rfl, rfl⟩ := trodVars_none hV
  have hk1 : Rows.uptoBulk d0 ≤ 1048576 := by have h := of_decide_eq_true hk; simp only [List.append_nil, List.cons_append, List.nil_append, Rows.uptoBulkAll] at h; omega
  obtain ⟨A, cap, R, rfl, hn, hln, htot, hsz, hAt⟩ := open_runs (hval 0 22 v0 rfl rfl) h0 hk1
  obtain ⟨x1, rfl, rfl, rfl, w1⟩ := open_int Try.underlying3 (hval 1 3 v1 rfl rfl) h1
  have b1 := i64_of_wf w1
  clear hA0
  refine (walk x1 A cap R W b1 hn hln htot hsz hAt).mono fun e W' ⟨he, hb⟩ => ?_
  subst he
  exact ⟨_, rfl, law_end hW' rfl rfl hb laidOut (by kernel_rfl) (by kernel_rfl) Try.underlying4⟩

theorem reads (os : Os) {H : Type} (enc : TypeId × Value → H) : ∃ places, DataW.whole enc Try.prog ((World.holding Try.prog os ⟨#[], #[], []⟩).forCall (fun _ _ => 0) ⟨#[], #[.slice none 0 0, .int .i64 0], []⟩).memory Try.f3.params.toList Rows.mergeGoesSpec.vars false [Value.slice none 0 0, Value.int .i64 0] 8 = some ([.nil, .lit (.int .i64 0)], [], places) :=
  ⟨[], by kernel_rfl⟩

set_option maxRecDepth 100000 in
theorem lifted (os : Os) (started : os.Started) (H : Type) (enc : TypeId × Value → H) (F : Stop.Interp) :
    ReturnsInHanded {} Try.checked os 3 .any ((Rows.OpenSpec.upto Rows.mergeGoesSpec).preRow enc Try.prog Try.f3 Rows.mergeGoesUptoRow.domain false Rows.mergeGoesUptoRow.laid) (((Rows.OpenSpec.upto Rows.mergeGoesSpec).at F).post enc Try.prog Try.f3 false true false false) := by
  obtain ⟨places, hx⟩ := reads os enc
  have laid_met : laidMet Try.prog Rows.mergeGoesUptoRow.laid ((World.holding Try.prog os ⟨#[], #[], []⟩).forCall (fun _ _ => 0) ⟨#[], #[.slice none 0 0, .int .i64 0], []⟩).memory := ⟨[], rfl, List.nodup_nil, fun _ _ h => by cases h⟩
  refine returnsInHanded_of_row (C := Try.checked) (s := Rows.OpenSpec.upto Rows.mergeGoesSpec) own started (by kernel_rfl) Try.func3
    (witness_row_at (enc := enc) (C := Try.checked) false (World.holding Try.prog os ⟨#[], #[], []⟩) #[.slice none 0 0, .int .i64 0] rfl (by kernel_rfl) (by kernel_rfl) (by kernel_rfl)
      (OpenSpec.preRow_of_cond 8 hx (by kernel_rfl) (fun k hk => by cases hk; kernel_rfl) (by kernel_rfl) laid_met)) ?_
  intro W base args ds gs before hval hW _ hcond hz _ _ _
  exact contractUpto H enc W base args ds gs before hval hW hz (hcond _ rfl)

theorem said : Rows.MergeGoesUptoSaid :=
  OpenClaim.holds_of_cond 3 Try.f3 rfl rfl rfl rfl rfl rfl rfl ⟨rfl, rfl, rfl, rfl, rfl⟩ rfl rfl rfl rfl rfl (by kernel_rfl) Try.func3 (by kernel_rfl)
    (of_decide_eq_true (by kernel_rfl)) (by unfold Func.isWrapper; first | (rw [if_pos (by decide +kernel)]; kernel_rfl) | (rw [if_neg (by decide +kernel)]; exact ⟨rfl, rfl⟩))
    (fun os started H enc _ F => by rw [OpenClaim.pre_eq_preRow]; exact lifted os started H enc F)

end Go.Proofs.Ytcgilgihmapipaa.fnMergeGoes
