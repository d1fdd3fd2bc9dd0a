/- Merging: the law's copies of the runs, for the program and for the reference. -/
import Derived.Deep.Upon
import Derived.Test.YtcgilgihmapipaaMrgRefs
namespace Go.Proofs.Ytcgilgihmapipaa
open Go.RowKit

theorem infoSlA : (Try.prog.info? 32).map (fun i => (i.zero, i.size, i.bytes)) = some (some (.slice none 0 0), 1, 24) := by kernel_rfl
theorem infoSlR : (Try.prog.info? 27).map (fun i => (i.zero, i.size, i.bytes)) = some (some (.slice none 0 0), 1, 24) := by kernel_rfl
/-- the argument's runs can be read: headers and pairs -/
def ArgAt (R : Rn) (B : Nat) (A : Option Addr) (W : World) : Prop := HdAt R B A W ∧ RnAt R B W
theorem ArgAt.below {R : Rn} {B : Nat} {A : Option Addr} {W W' : World} (h : ArgAt R B A W) (hb : Below B W W') : ArgAt R B A W' :=
  ⟨fun i hi => by
    obtain ⟨b, off, a, e, h1, h2, h3⟩ := h.1 i hi
    exact ⟨b, off, a, e, h1, (hb.cell (p := ⟨b, _, none⟩) h1).trans h2, h3⟩, fun i hi p hp => by
    obtain ⟨h1, h2, h3⟩ := h.2 i hi p hp
    exact ⟨h1, (hb.cell (p := ⟨R.bk i, _, none⟩) h1).trans h2, (hb.cell (p := ⟨R.bk i, _, none⟩) h1).trans h3⟩⟩
/-- behind some runs: the two rows of headers, and each copy's row -/
structure CopG (R : Rn) (w wr : World) (B ka kb : Nat) (va vb : Value) (ha hb : Nat → Value) : Prop where
  ra : wr.ownsRow B 32 1 va ka ((List.range ka).map ha)
  rb : wr.ownsRow B 27 1 vb kb ((List.range kb).map hb)
  pa : ∀ i, i < ka → wr.ownsRow B 34 2 (ha i) (R.ln i) (prN (R.K i) (R.V i) (R.ln i))
  pb : ∀ i, i < kb → wr.ownsRow B 51 2 (hb i) (R.ln i) (prN (R.K i) (R.V i) (R.ln i))
  bel : Below B w wr
theorem CopG.below {R : Rn} {w wr w' : World} {B ka kb : Nat} {va vb : Value} {ha hb : Nat → Value} (h : CopG R w wr B ka kb va vb ha hb) (hB : B ≤ wr.heap.size) (k : Below wr.heap.size wr w') : CopG R w w' B ka kb va vb ha hb :=
  ⟨own_below2 k h.ra, own_below2 k h.rb, fun i hi => own_below2 k (h.pa i hi), fun i hi => own_below2 k (h.pb i hi), h.bel.trans (k.mono hB)⟩
theorem map_put (ha : Nat → Value) (k : Nat) (v : Value) : (List.range (k + 1)).map (fun i => if i = k then v else ha i) = (List.range k).map ha ++ [v] := by
  rw [List.range_succ, List.map_append]
  congr 1
  · exact List.map_congr_left (fun i hi => by have := List.mem_range.1 hi; rw [if_neg (by omega)])
  · simp
theorem CopG.stepA {R : Rn} {w wr w' : World} {B ka kb : Nat} {va vb v1 va' : Value} {ha hb : Nat → Value} {o : Obj} (h : CopG R w wr B ka kb va vb ha hb) (hB : B ≤ wr.heap.size) (h1 : wr.ownsRow B 34 2 v1 (R.ln ka) (prN (R.K ka) (R.V ka) (R.ln ka)))
    (hg : (wr.alloc o).grownBy w' va.ownBlock) (hown : w'.ownsRow B 32 1 va' (ka + 1) ((List.range ka).map ha ++ [v1])) : CopG R w w' B (ka + 1) kb va' vb (fun i => if i = ka then v1 else ha i) hb := by
  have hra := h.ra.alloc o
  refine ⟨by rw [map_put]; exact hown, (h.rb.alloc o).kept hg (rows_apart2 hra (h.rb.alloc o) (by decide)), fun i hi => ?_, fun i hi => ((h.pb i hi).alloc o).kept hg (rows_apart2 hra ((h.pb i hi).alloc o) (by decide)), (h.bel.alloc hB o).grown hg (by simp; omega) (fun j ej => (hra.lt j ej).1)⟩
  by_cases e : i = ka
  · subst e
    simp only [if_true]
    exact (h1.alloc o).kept hg (rows_apart2 hra (h1.alloc o) (by decide))
  · simp only [if_neg e]
    have hp := (h.pa i (by omega)).alloc o
    exact hp.kept hg (rows_apart2 hra hp (by decide))
theorem CopG.stepB {R : Rn} {w wr w' : World} {B ka kb : Nat} {va vb v1 vb' : Value} {ha hb : Nat → Value} {o : Obj} (h : CopG R w wr B ka kb va vb ha hb) (hB : B ≤ wr.heap.size) (h1 : wr.ownsRow B 51 2 v1 (R.ln kb) (prN (R.K kb) (R.V kb) (R.ln kb)))
    (hg : (wr.alloc o).grownBy w' vb.ownBlock) (hown : w'.ownsRow B 27 1 vb' (kb + 1) ((List.range kb).map hb ++ [v1])) : CopG R w w' B ka (kb + 1) va vb' ha (fun i => if i = kb then v1 else hb i) := by
  have hrb := h.rb.alloc o
  refine ⟨(h.ra.alloc o).kept hg (rows_apart2 hrb (h.ra.alloc o) (by decide)), by rw [map_put]; exact hown, fun i hi => ((h.pa i hi).alloc o).kept hg (rows_apart2 hrb ((h.pa i hi).alloc o) (by decide)), fun i hi => ?_, (h.bel.alloc hB o).grown hg (by simp; omega) (fun j ej => (hrb.lt j ej).1)⟩
  by_cases e : i = kb
  · subst e
    simp only [if_true]
    exact (h1.alloc o).kept hg (rows_apart2 hrb (h1.alloc o) (by decide))
  · simp only [if_neg e]
    have hp := (h.pb i (by omega)).alloc o
    exact hp.kept hg (rows_apart2 hrb hp (by decide))
theorem wpList_append_nothing {P : Program} (w : World) {ops : Array Oper} {rest : List Oper} {o : Oper} {a : Act} {Q : Exit → Act → World → Prop} (hgd : o.guard = none) (s x : Operand) (t : TypeId)
    (ho : o.op = .call { callee := .builtin .append, args := #[s, x], argTypes := #[t, t] })
    (e : TypeId) (i : TypeInfo) (ht : P.underlying t = some (.slice e)) (hi : P.info? e = some i) (base : Option Addr) (sLen sCap : Nat) (hle : sLen ≤ sCap) (hs : a.eval s = .slice base sLen sCap)
    (ao : Option Addr) (m c : Nat) (hm : m = 0) (hx : a.eval x = .slice ao m c) (h : ∀ u, Hid (u = Value.slice base sLen sCap) → wpList P ops Q rest (a.put o.dst u) w) : wpList P ops Q (o :: rest) a w := by
  subst hm
  have hS : Src P i.size t (.slice ao 0 c) 0 [] w := by
    cases ao with
    | none => exact Src.ofNil w ht c
    | some ad => exact Src.ofSlice w ht ad 0 c [] (by simp) (by simp) (by simp)
  have hr := run_append_nothing (P := P) w t t o.type e i ht hi base sLen sCap hle _ hS
  refine wpList_plain hgd fun K hK' => ?_
  unfold Oper.wp
  simp [execOp, ho, resolve, invoke, builtin, hs, hx, hr, Result.andThen]
  exact hK' _ _ (h _ (Lib.hid rfl))
theorem one_new (w : World) (u : Value) (t : TypeId) : ∀ j y, [u][j]? = some y → (w.alloc (.cells #[u] t)).cell? ((⟨w.heap.size, 0, none⟩ : Addr).add j) = some y := by
  intro j y hj
  match j, hj with
  | 0, hj => simp at hj; subst hj; simp [Addr.add]
theorem prN_one (k v : Nat → ByteArray) (n : Nat) : ∀ y ∈ prN k v n, y.oneCell' = true := by
  intro y hy
  obtain ⟨i, _, hi⟩ := List.mem_flatMap.1 hy
  simp at hi
  rcases hi with rfl | rfl <;> rfl
theorem prAt_add {W : World} {B n b o : Nat} {k v : Nat → ByteArray} (h : PrAt W B (some ⟨b, o, none⟩) n k v) (j : Nat) (u : Value) (hj : (prN k v n)[j]? = some u) : W.cell? ((⟨b, o, none⟩ : Addr).add j) = some u := by
  have hl := (List.getElem?_eq_some_iff.1 hj).1
  rw [prN_len] at hl
  rw [Addr.add_lit]
  obtain ⟨b', o', e, _, c0, c1⟩ := h (j / 2) (by omega)
  injection e with e
  injection e with e1 e2
  subst e1 e2
  obtain ⟨g0, g1⟩ := prN_get k v n (j / 2) (by omega)
  rcases Nat.mod_two_eq_zero_or_one j with hm | hm
  · have ej : j / 2 * 2 = j := by omega
    rw [ej] at c0 g0
    rw [hj] at g0
    injection g0 with g0
    rw [g0]
    exact c0
  · have ej : j / 2 * 2 + 1 = j := by omega
    have ej2 : o + j / 2 * 2 + 1 = o + j := by omega
    rw [ej] at g1
    rw [ej2] at c1
    rw [hj] at g1
    injection g1 with g1
    rw [g1]
    exact c1
set_option maxRecDepth 100000 in
set_option maxHeartbeats 16000000 in
theorem copied_any (R : Rn) (A : Option Addr) (cap : Nat) (w : World) (hrn : R.n ≤ 1048576) (hln : ∀ i, i < R.n → R.ln i ≤ 1048576) (hA : ArgAt R w.heap.size A w) :
    Calls Try.prog 6 #[.slice A R.n cap] w fun e w' => ∃ va vb ha hb, e = .returned (.tuple #[va, vb]) ∧ CopG R w w' w.heap.size R.n R.n va vb ha hb := by
  obtain ⟨i0, hi, hz0, hz1, hz2⟩ := info_parts infoSlA
  obtain ⟨i1, hi', hz0', hz1', hz2'⟩ := info_parts infoSlR
  obtain ⟨i2, hi2, hz02, hz12, hz22⟩ := info_parts infoPair
  obtain ⟨B, hB⟩ : ∃ B, B = w.heap.size := ⟨_, rfl⟩
  obtain ⟨N, hN⟩ : ∃ N, N = R.n := ⟨_, rfl⟩
  rw [← hB] at hA ⊢
  rw [← hN] at hrn ⊢
  have HA := Lib.hid hA
  have HB := Lib.hid hB
  have HN := Lib.hid hN
  have HLN := Lib.hid hln
  clear hA hB hN hln
  go_enter Try.func6, Try.ntmps6
  go_wp2
  go_loopw [4, 5, 6] (fun va vb iv wr => ∃ k : Nat, k ≤ N ∧ iv = .int .i64 (k : Int) ∧ Hid (∃ ha hb, CopG R w wr B k k va vb ha hb)) (fun _ _ iv _ => N - (intOf iv).toNat)
  case atStart => exact ⟨0, Nat.zero_le _, rfl, Lib.hid ⟨fun _ => .bool true, fun _ => .bool true, World.ownsRow_nil _ _ _ _, World.ownsRow_nil _ _ _ _, fun i hi => absurd hi (Nat.not_lt_zero _), fun i hi => absurd hi (Nat.not_lt_zero _), Below.refl _ _⟩⟩
  case round =>
    obtain ⟨k, hk, rfl, HI⟩ := hrel
    by_cases hlt : k < N
    · obtain ⟨ha, hb, HG⟩ := HI.out
      have HG := Lib.hid HG
      have hBr : B ≤ wr.heap.size := by have := HG.out.bel.size; have := HB.out; omega
      obtain ⟨b, off, a, rfl, hbb, hc, hae, hcp⟩ := HA.out.1 k (by have := HN.out; omega)
      have hlk := HLN.out k (by have := HN.out; omega)
      have hprs : ∀ W, Below B w W → PrAt W B a (R.ln k) (R.K k) (R.V k) := fun W hW j hj => by
        obtain ⟨h1, h2, h3⟩ := HA.out.2 k (by have := HN.out; omega) j hj
        exact ⟨R.bk k, R.of k, hae (by omega), h1, (hW.cell (p := ⟨R.bk k, _, none⟩) h1).trans h2, (hW.cell (p := ⟨R.bk k, _, none⟩) h1).trans h3⟩
      have HPRS := Lib.hid hprs
      have HAE := Lib.hid hae
      have HC0 : Hid (∀ W, Below B w W → W.cell? ⟨b, off + k, none⟩ = some (.slice a (R.ln k) (R.cp k))) := Lib.hid (fun W hW => (hW.cell (p := ⟨b, off + k, none⟩) hbb).trans hc)
      have hc1 : ∀ o, (wr.alloc o).cell? ⟨b, off + k, none⟩ = some (.slice a (R.ln k) (R.cp k)) := fun o => HC0.out _ (HG.out.bel.alloc hBr o)
      have hl0 : (wr.alloc (.cells #[] 34)).ownsRow B 34 2 (.slice (some ⟨wr.heap.size, 0, none⟩) 0 0) 0 [] := World.ownsRow_lit wr #[] 0 hBr (by unfold maxLen; omega) rfl
      have k5 : k + 1 ≤ maxLen := by unfold maxLen; omega
      have k6 : (k + 1) * 24 ≤ 140737488355328 := by omega
      clear hprs hae hcp HI hc
      by_cases h0 : R.ln k = 0
      · have hv1 : (wr.alloc (.cells #[] 34)).ownsRow B 34 2 (.slice (some ⟨wr.heap.size, 0, none⟩) 0 0) (R.ln k) (prN (R.K k) (R.V k) (R.ln k)) := by rw [h0]; exact hl0
        have hb3 : Below wr.heap.size wr (wr.alloc (.cells #[] 34)) := (Below.refl _ _).alloc (Nat.le_refl _) _
        have h00 := Lib.hid h0
        clear h0
        go_wp2_with (at_builtin; refine wpList_append_nothing _ rfl _ _ 32 rfl 34 i2 Try.underlying32 hi2 (some ⟨wr.heap.size, 0, none⟩) 0 0 (Nat.le_refl _) rfl a (R.ln k) (R.cp k) h00.out rfl ?_)
        intro u hu
        have hu := hu.out
        subst hu
        have HV1 := Lib.hid hv1
        have HG3 := Lib.hid (HG.out.below hBr hb3)
        have hB3 : B ≤ (wr.alloc (.cells #[] 34)).heap.size := Nat.le_trans hBr hb3.size
        have hone : (Value.slice (some ⟨wr.heap.size, 0, none⟩) 0 0).oneCell' = true := rfl
        have hown := HG3.out.ra
        clear hv1 hb3 hl0
        have hn1 := one_new (wr.alloc (.cells #[] 34)) (.slice (some ⟨wr.heap.size, 0, none⟩) 0 0) 32
        have en1 : (wr.alloc (.cells #[] 34)).heap.size = wr.heap.size + 1 := by simp
        rw [en1] at hn1
        clear en1
        go_wp2_with (at_builtin; refine wpList_append_own _ rfl _ _ 22 rfl B 32 i0 _ 1 24 Try.underlying22 hi hz0 hz1 hz2 rfl (by decide) _ _ _ rfl (hown.alloc _) ⟨wr.heap.size + 1, 0, none⟩ 1 1 [(.slice (some ⟨wr.heap.size, 0, none⟩) 0 0)] rfl rfl hn1 (by intro y hy; rw [show y = (.slice (some ⟨wr.heap.size, 0, none⟩) 0 0) by simpa using hy]; exact hone) k5 k6 (by simp; omega) ?_)
        intro va' w4 hown' hg4 _
        have HG4 := Lib.hid (HG3.out.stepA hB3 HV1.out hg4 hown')
        have hB4 : B ≤ w4.heap.size := by have := HG4.out.bel.size; have := HB.out; omega
        have hc4 := HC0.out w4 HG4.out.bel
        have hrefs := refs_any a (R.ln k) (R.cp k) (R.K k) (R.V k) w4 (by omega) (fun j hj => by
          obtain ⟨b', o', e, h1, h2⟩ := HPRS.out w4 HG4.out.bel j hj
          exact ⟨b', o', e, by omega, h2⟩)
        clear hn1 hown hown' hg4 hone
        go_wp2_with (fail)
        refine hrefs.mono ?_
        rintro e w5 ⟨v2, rfl, ho2, hb5⟩
        have HV2 := Lib.hid (ho2.mono hB4)
        have HG5 := Lib.hid (HG4.out.below hB4 hb5)
        have hB5 : B ≤ w5.heap.size := Nat.le_trans hB4 hb5.size
        obtain ⟨A2, c2, hve, _⟩ := prAt_own HV2.out
        have hone : v2.oneCell' = true := by rw [hve]; rfl
        subst hve
        have hown := HG5.out.rb
        clear ho2 hb5 hrefs hc4
        go_wp2_with (at_builtin; refine wpList_append_own _ rfl _ _ 24 rfl B 27 i1 _ 1 24 Try.underlying24 hi' hz0' hz1' hz2' rfl (by decide) _ _ _ rfl (hown.alloc _) ⟨w5.heap.size, 0, none⟩ 1 1 [.slice A2 (R.ln k) c2] rfl rfl (one_new _ _ _) (by intro y hy; rw [show y = .slice A2 (R.ln k) c2 by simpa using hy]; rfl) k5 k6 (by simp; omega) ?_)
        intro vb' w6 hown' hg6 _
        have HG6 : Hid (∃ ha hb, CopG R w w6 B (k + 1) (k + 1) va' vb' ha hb) := Lib.hid ⟨_, _, HG5.out.stepB hB5 HV2.out hg6 hown'⟩
        clear hown hown' hg6 hone
        go_wp2
        go_roundw
        case rel => exact ⟨k + 1, by omega, by first | rfl | go_num, HG6⟩
        case measure => simp [intOf]; omega
      · have haa := HAE.out (by omega)
        subst haa
        have k3 : 0 + R.ln k ≤ maxLen := by unfold maxLen; omega
        have k4 : (0 + R.ln k) * 32 ≤ 140737488355328 := by omega
        have hpr := HPRS.out wr HG.out.bel
        have hcs : ∀ j u, (prN (R.K k) (R.V k) (R.ln k))[j]? = some u → (wr.alloc (.cells #[] 34)).cell? ((⟨R.bk k, R.of k, none⟩ : Addr).add j) = some u := fun j u hj => by
          refine (((Below.refl wr.heap.size wr).alloc (Nat.le_refl _) _).cell (p := (⟨R.bk k, R.of k, none⟩ : Addr).add j) ?_).trans (prAt_add hpr j u hj)
          obtain ⟨_, _, e, hlt', _⟩ := hpr 0 (by omega)
          injection e with e
          injection e with e
          rw [Addr.add_lit]
          show R.bk k < wr.heap.size
          omega
        have ho1 := prN_one (R.K k) (R.V k) (R.ln k)
        clear hpr
        go_wp2_with (at_builtin; refine wpList_append_own _ rfl _ _ 32 rfl B 34 i2 _ 2 32 Try.underlying32 hi2 hz02 hz12 hz22 rfl (by decide) _ _ _ rfl hl0 ⟨R.bk k, R.of k, none⟩ (R.ln k) (R.cp k) (prN (R.K k) (R.V k) (R.ln k)) rfl (prN_len _ _ _) hcs ho1 k3 k4 (by simp; omega) ?_)
        intro v1 w3 hown1 hg1 _
        have hv1 : w3.ownsRow B 34 2 v1 (R.ln k) (prN (R.K k) (R.V k) (R.ln k)) := by simpa using hown1
        have hb3 : Below wr.heap.size wr w3 := ((Below.refl wr.heap.size wr).alloc (Nat.le_refl _) _).grown hg1 (by simp) (fun j ej => by simp [Value.ownBlock] at ej; omega)
        clear hl0 hcs ho1 hown1 hg1 hc1 k3 k4
        have HV1 := Lib.hid hv1
        have HG3 := Lib.hid (HG.out.below hBr hb3)
        have hB3 : B ≤ w3.heap.size := Nat.le_trans hBr hb3.size
        obtain ⟨A1, c1, hve, _⟩ := prAt_own HV1.out
        have hone : v1.oneCell' = true := by rw [hve]; rfl
        subst hve
        have hown := HG3.out.ra
        clear hv1 hb3
        go_wp2_with (at_builtin; refine wpList_append_own _ rfl _ _ 22 rfl B 32 i0 _ 1 24 Try.underlying22 hi hz0 hz1 hz2 rfl (by decide) _ _ _ rfl (hown.alloc _) ⟨w3.heap.size, 0, none⟩ 1 1 [.slice A1 (R.ln k) c1] rfl rfl (one_new _ _ _) (by intro y hy; rw [show y = .slice A1 (R.ln k) c1 by simpa using hy]; rfl) k5 k6 (by simp; omega) ?_)
        intro va' w4 hown' hg4 _
        have HG4 := Lib.hid (HG3.out.stepA hB3 HV1.out hg4 hown')
        have hB4 : B ≤ w4.heap.size := by have := HG4.out.bel.size; have := HB.out; omega
        have hc4 := HC0.out w4 HG4.out.bel
        have hrefs := refs_any (some ⟨R.bk k, R.of k, none⟩) (R.ln k) (R.cp k) (R.K k) (R.V k) w4 (by omega) (fun j hj => by
          obtain ⟨b', o', e, h1, h2⟩ := HPRS.out w4 HG4.out.bel j hj
          exact ⟨b', o', e, by omega, h2⟩)
        clear hown hown' hg4 hone
        go_wp2_with (fail)
        refine hrefs.mono ?_
        rintro e w5 ⟨v2, rfl, ho2, hb5⟩
        have HV2 := Lib.hid (ho2.mono hB4)
        have HG5 := Lib.hid (HG4.out.below hB4 hb5)
        have hB5 : B ≤ w5.heap.size := Nat.le_trans hB4 hb5.size
        obtain ⟨A2, c2, hve, _⟩ := prAt_own HV2.out
        have hone : v2.oneCell' = true := by rw [hve]; rfl
        subst hve
        have hown := HG5.out.rb
        clear ho2 hb5 hrefs hc4
        go_wp2_with (at_builtin; refine wpList_append_own _ rfl _ _ 24 rfl B 27 i1 _ 1 24 Try.underlying24 hi' hz0' hz1' hz2' rfl (by decide) _ _ _ rfl (hown.alloc _) ⟨w5.heap.size, 0, none⟩ 1 1 [.slice A2 (R.ln k) c2] rfl rfl (one_new _ _ _) (by intro y hy; rw [show y = .slice A2 (R.ln k) c2 by simpa using hy]; rfl) k5 k6 (by simp; omega) ?_)
        intro vb' w6 hown' hg6 _
        have HG6 : Hid (∃ ha hb, CopG R w w6 B (k + 1) (k + 1) va' vb' ha hb) := Lib.hid ⟨_, _, HG5.out.stepB hB5 HV2.out hg6 hown'⟩
        clear hown hown' hg6 hone
        go_wp2
        go_roundw
        case rel => exact ⟨k + 1, by omega, by first | rfl | go_num, HG6⟩
        case measure => simp [intOf]; omega
    · obtain rfl : k = N := by omega
      go_wp2
      go_ret2
      obtain ⟨ha, hb, h⟩ := HI.out
      exact ⟨_, _, ha, hb, rfl, h⟩
end Go.Proofs.Ytcgilgihmapipaa
