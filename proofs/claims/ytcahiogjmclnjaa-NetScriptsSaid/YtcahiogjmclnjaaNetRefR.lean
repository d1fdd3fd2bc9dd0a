/- The reference's net: Drop, Double, Send, Deliver, Part, Parted. -/
import Derived.Test.YtcahiogjmclnjaaNetRefQ
namespace Go.Proofs.Ytcahiogjmclnjaa
open Go.RowKit
section
variable {w0 : World} {q : Nat} {N sent : Int} {L : List Letr} {S : Int → Int → Bool}
theorem rdrop_no (k : Int) (w : World) (hk : ¬ (0 ≤ k ∧ k < (L.length : Int))) (hL : L.length ≤ 65536) (h : Hid (RNt w0 w q N sent L S)) :
    Calls Try.prog 12 #[.pointer (some ⟨q, 0, none⟩), .int .i64 k] w (RNP w0 w q N sent L S (.int .i64 2)) := by
  obtain ⟨hb0, v, hR⟩ := h.out
  obtain ⟨a', c', hv⟩ := hR.is_slice
  subst hv
  have c2 := hR.c2
  obtain ⟨m, hm⟩ : ∃ m, m = L.length := ⟨_, rfl⟩
  rw [← hm] at c2 hk hL
  clear hR hm
  by_cases h0 : k < 0
  · go_enter Try.func12, Try.ntmps12
    go_wp2
    go_ret
    exact rnp_same h
  · have h1 : (m : Int) ≤ k := by omega
    go_enter Try.func12, Try.ntmps12
    go_wp2
    go_ret
    exact rnp_same h
theorem rdrop_yes (k : Nat) (w : World) (hk : k < L.length) (hL : L.length ≤ 65536) (h : Hid (RNt w0 w q N sent L S)) :
    Calls Try.prog 12 #[.pointer (some ⟨q, 0, none⟩), .int .i64 k] w (RNP w0 w q N sent (L.eraseIdx k) S (.int .i64 0)) := by
  obtain ⟨hb0, v, hR⟩ := h.out
  obtain ⟨a', c', hv⟩ := hR.is_slice
  subst hv
  have c2 := hR.c2
  have HK := Lib.hid (And.intro hk hL)
  obtain ⟨m, hm⟩ : ∃ m, m = L.length := ⟨_, rfl⟩
  rw [← hm] at c2
  have hk1 : ¬ (m : Int) ≤ (k : Int) := by omega
  have hk2 : ¬ m ≤ k := by omega
  have hk3 : decide (m ≤ k) = false := by simpa using hk2
  clear hR hm hk hL
  go_enter Try.func12, Try.ntmps12
  go_wp2_with (fail)
  refine (rtake_any k w HK.out.1 HK.out.2 h).mono ?_
  rintro e w' ⟨rfl, H⟩
  obtain ⟨_, v1, hR1⟩ := h.out
  have H2 : Hid (RNt w0 w' q N sent (L.eraseIdx k) S ∧ RFr w w') := Lib.hid ⟨H.out.1, fun b hl hn1 _ => H.out.2.1.block b hl (fun e => hn1 (by rw [e]; exact hR1.ty))⟩
  clear hR1
  go_wp2
  go_ret
  exact ⟨rfl, H2⟩
theorem rdouble_no (k : Int) (w : World) (hk : ¬ (0 ≤ k ∧ k < (L.length : Int))) (hL : L.length ≤ 65536) (h : Hid (RNt w0 w q N sent L S)) :
    Calls Try.prog 14 #[.pointer (some ⟨q, 0, none⟩), .int .i64 k] w (RNP w0 w q N sent L S (.int .i64 2)) := by
  obtain ⟨hb0, v, hR⟩ := h.out
  obtain ⟨a', c', hv⟩ := hR.is_slice
  subst hv
  have c2 := hR.c2
  obtain ⟨m, hm⟩ : ∃ m, m = L.length := ⟨_, rfl⟩
  rw [← hm] at c2 hk hL
  clear hR hm
  by_cases h0 : k < 0
  · go_enter Try.func14, Try.ntmps14
    go_wp2
    go_ret
    exact rnp_same h
  · have h1 : (m : Int) ≤ k := by omega
    go_enter Try.func14, Try.ntmps14
    go_wp2
    go_ret
    exact rnp_same h
theorem rdouble_full (k : Nat) (w : World) (hk : k < L.length) (hL : L.length ≤ 65536) (hf : 65536 ≤ L.length) (h : Hid (RNt w0 w q N sent L S)) :
    Calls Try.prog 14 #[.pointer (some ⟨q, 0, none⟩), .int .i64 k] w (RNP w0 w q N sent L S (.int .i64 40)) := by
  obtain ⟨hb0, v, hR⟩ := h.out
  obtain ⟨a', c', hv⟩ := hR.is_slice
  subst hv
  have c2 := hR.c2
  obtain ⟨m, hm⟩ : ∃ m, m = L.length := ⟨_, rfl⟩
  rw [← hm] at c2 hf
  have hk1 : ¬ (m : Int) ≤ (k : Int) := by omega
  have hk2 : ¬ m ≤ k := by omega
  have hk3 : decide (m ≤ k) = false := by simpa using hk2
  have hf1 : (65536 : Int) ≤ (m : Int) := by omega
  clear hR hm hk hL
  go_enter Try.func14, Try.ntmps14
  go_wp2
  go_ret
  exact rnp_same h
/-- behind an append to the list -/
theorem rapp_fin {w w1 w2 : World} {v : Value} {l : Letr} {a' : Option Addr} {c' : Nat} {r : Value} (hb : Below w0.heap.size w0 w) (h : RN w w0.heap.size q N sent v L S) (h1 : Tch w w1 (fun i => i = q)) (k : RN w1 w0.heap.size q N sent v L S)
    (hf : Fly w2 39 4 w0.heap.size (.slice a' (L.length + 1) c') (L.length + 1) (cellsOf L ++ cellsL l)) (hg : w1.grownBy w2 v.ownBlock) :
    w2.cell? ⟨q, 2, none⟩ = some v ∧ w2.frozen? ⟨q, 2, none⟩ = false ∧ Hid (RN (w2.setCell ⟨q, 2, none⟩ (.slice a' (L.length + 1) c')) w0.heap.size q N sent (.slice a' (L.length + 1) c') (L ++ [l]) S ∧ RNP w0 w q N sent (L ++ [l]) S r (.returned r) (w2.setCell ⟨q, 2, none⟩ (.slice a' (L.length + 1) c'))) := by
  have hap := k.apart
  have eq2 : w2.heap[q]? = w1.heap[q]? := hg.block q k.ty.lt (fun e => hap q e.symm rfl)
  have k2 : ∀ (e : TypeId), True := fun _ => trivial
  have hty2 : Bears w2 q 53 := by obtain ⟨cs, q1⟩ := k.ty; exact ⟨cs, eq2.trans q1⟩
  have hf' : Fly w2 39 4 w0.heap.size (.slice a' (L.length + 1) c') (L ++ [l]).length (cellsOf (L ++ [l])) := by
    rw [← cells_more]
    simpa using hf
  have hap2 : ∀ b, (Value.slice a' (L.length + 1) c').ownBlock = some b → ¬ b = q := fun b hb => bears_apart (hf.ty b hb) hty2 (by decide)
  have hR2 : RN (w2.setCell ⟨q, 2, none⟩ (.slice a' (L.length + 1) c')) w0.heap.size q N sent (.slice a' (L.length + 1) c') (L ++ [l]) S :=
    ⟨k.lo, bears_set _ hty2, (World.cell?_setCell_other _ _ _ _ (by simp)).trans ((cell_eq eq2 0).trans k.c0), (World.cell?_setCell_other _ _ _ _ (by simp)).trans ((cell_eq eq2 1).trans k.c1), World.cell?_setCell_same _ _ _ ((cell_eq eq2 2).trans k.c2),
      hf'.same (fun b hb => Below.heap_setCell _ _ _ _ (hap2 b hb)), fun a b ha hb => (World.cell?_setCell_other _ _ _ _ (by intro e; injection e with _ e _; omega)).trans ((cell_eq eq2 _).trans (k.cut a b ha hb))⟩
  have t2 : Tch w w2 (fun i => i = q ∨ some i = v.ownBlock) := (Tch.mono h1 (fun i _ e => .inl e)).then (tch_grown hg) (fun i _ e => .inr e)
  exact ⟨(cell_eq eq2 2).trans k.c2, free_of hty2 2, Lib.hid ⟨hR2, rnp_tch hb h hR2 (t2.then (tch_set _ _ _) (fun i _ e => .inl e))⟩⟩
set_option maxRecDepth 100000 in
set_option maxHeartbeats 4000000 in
theorem rdouble_yes (k : Nat) (l : Letr) (w : World) (hk : L[k]? = some l) (hL : L.length < 65536) (h : Hid (RNt w0 w q N sent L S)) :
    Calls Try.prog 14 #[.pointer (some ⟨q, 0, none⟩), .int .i64 k] w (RNP w0 w q N sent (L ++ [l]) S (.int .i64 0)) := by
  obtain ⟨i0, hi, hz0, hz1, hz2⟩ := info_parts infoRL
  obtain ⟨hb0, v, hR⟩ := h.out
  have hkl := (List.getElem?_eq_some_iff.1 hk).1
  obtain ⟨g, o, cap, rfl, hgs, e0, e1, e2, e3⟩ := hR.cell hk
  have HR := Lib.hid hR
  have HB := Lib.hid hb0
  have c2 := hR.c2
  have hk1 : ¬ (L.length : Int) ≤ (k : Int) := by omega
  have hk2 : ¬ L.length ≤ k := by omega
  have hk3 : decide (L.length ≤ k) = false := by simpa using hk2
  have hf1 : ¬ (65536 : Int) ≤ (L.length : Int) := by omega
  have k1 : (k : Int) < L.length := by omega
  have hf0 : Fly (w.drew.alloc (.cells #[.int .i64 l.id, .int .i64 l.a, .int .i64 l.b, .string l.s] 39)) 39 4 w0.heap.size (.slice (some ⟨g, o, none⟩) L.length cap) L.length (cellsOf L) :=
    hR.fly.same (fun b hb => Below.heap_alloc w.drew _ b (hR.fly.lt b hb).2)
  have c2a : ∀ o1, (w.alloc o1).cell? ⟨q, 2, none⟩ = some (.slice (some ⟨g, o, none⟩) L.length cap) := fun o1 => (((Below.refl _ w).alloc (Nat.le_refl _) o1).cell (p := ⟨q, 2, none⟩) hR.ty.lt).trans c2
  have HLb := Lib.hid (And.intro hL hb0.size)
  have hqw : ¬ q = w.heap.size := by have := hR.ty.lt; omega
  have hqw' : ¬ w.heap.size = q := fun e => hqw e.symm
  have ff := free_of hR.ty 2
  have hbl : Below w.heap.size w (w.drew.alloc (.cells #[.int .i64 l.id, .int .i64 l.a, .int .i64 l.b, .string l.s] 39)) := (Below.refl _ w).drew.alloc (Nat.le_refl _) _
  have HBL := Lib.hid hbl
  clear hR hb0 hk hkl hL hbl hgs
  go_enter Try.func14, Try.ntmps14
  go_upto_region 5 with (fail)
  go_region_law (refine step_append_fly rfl (.tmp 26) (.tmp 34) 49 rfl 39 i0 (.agg #[.int .i64 0, .int .i64 0, .int .i64 0, .string ⟨#[]⟩]) 4 40 w0.heap.size L.length Try.underlying49 hi hz0 hz1 hz2 rfl (by decide) (.slice (some ⟨g, o, none⟩) L.length cap) (cellsOf L) rfl hf0 ⟨w.heap.size, 0, none⟩ 1 (cellsL l) rfl rfl (by
      intro j u hj
      match j, hj with
      | 0, hj => simp [cellsL] at hj; subst hj; simp [Addr.add]
      | 1, hj => simp [cellsL] at hj; subst hj; simp [Addr.add]
      | 2, hj => simp [cellsL] at hj; subst hj; simp [Addr.add]
      | 3, hj => simp [cellsL] at hj; subst hj; simp [Addr.add]) (by intro u hu; simp [cellsL] at hu; rcases hu with rfl | rfl | rfl | rfl <;> rfl) (by have := HLb.out.1; unfold maxLen; omega) (by have := HLb.out.1; omega) (by have := HLb.out.2; simp; omega) ?_; intro a' c' w' hf2 hg2 ho2; obtain ⟨d2, d3, HF⟩ := rapp_fin (r := .int .i64 0) HB.out HR.out (tch_below _ HBL.out) (HR.out.below HBL.out) hf2 hg2; clear hf2 hg2 ho2)
  all_goals (go_wp2; go_ret; exact HF.out.2)
/-- behind the letter that is sent -/
theorem rsend_fin {w w1 wb w2 : World} {v : Value} {l : Letr} {a1 a4 : Option Addr} {c1 c4 m : Nat} {x : Int} (hm : m = L.length) (hb : Below w0.heap.size w0 w) (h : RN w w0.heap.size q N sent v L S) (t1 : Tch w w1 (fun i => i = q)) (k : RN w1 w0.heap.size q N x (.slice a1 m c1) L S)
    (hbl : Below w1.heap.size w1 wb) (hf : Fly w2 39 4 w0.heap.size (.slice a4 (m + 1) c4) (m + 1) (cellsOf L ++ cellsL l)) (hg : wb.grownBy w2 (Value.slice a1 m c1).ownBlock) :
    w2.cell? ⟨q, 2, none⟩ = some (.slice a1 m c1) ∧ w2.frozen? ⟨q, 2, none⟩ = false ∧ Hid (RN (w2.setCell ⟨q, 2, none⟩ (.slice a4 (m + 1) c4)) w0.heap.size q N x (.slice a4 (m + 1) c4) (L ++ [l]) S ∧ RNP w0 w q N x (L ++ [l]) S (.tuple #[.int .i64 x, .int .i64 0]) (.returned (.tuple #[.int .i64 x, .int .i64 0])) (w2.setCell ⟨q, 2, none⟩ (.slice a4 (m + 1) c4))) := by
  subst hm
  have hb1 : Below w0.heap.size w0 w1 := t1.from hb (fun i e => by rw [e]; exact h.lo)
  obtain ⟨q1, q2, q3⟩ := rapp_fin (r := .tuple #[.int .i64 x, .int .i64 0]) hb1 k (tch_below _ hbl) (k.below hbl) hf hg
  refine ⟨q1, q2, Lib.hid ⟨q3.out.1, rfl, Lib.hid ⟨q3.out.2.2.out.1, fun b hl hn1 hn2 => ?_⟩⟩⟩
  have hbq : ¬ b = q := fun e => hn1 (by rw [e]; exact h.ty)
  have e1 := t1.block b hl hbq
  exact (q3.out.2.2.out.2 b (by have := t1.size; omega) (fun ⟨cs, z⟩ => hn1 ⟨cs, e1.symm.trans z⟩) (fun ⟨cs, z⟩ => hn2 ⟨cs, e1.symm.trans z⟩)).trans e1
set_option maxRecDepth 100000 in
set_option maxHeartbeats 4000000 in
theorem rsend_yes (a b : Int) (s : ByteArray) (w : World) (hs : s.size ≤ 1048576) (hL : L.length < 65536) (hsn : 0 ≤ sent ∧ sent ≤ 9223372036854775806) (ha : nodeB N a = true) (hb : nodeB N b = true) (h : Hid (RNt w0 w q N sent L S)) :
    Calls Try.prog 8 #[.pointer (some ⟨q, 0, none⟩), .int .i64 a, .int .i64 b, .string s] w (RNP w0 w q N (sent + 1) (L ++ [⟨sent + 1, a, b, s⟩]) S (.tuple #[.int .i64 (sent + 1), .int .i64 0])) := by
  obtain ⟨i0, hi, hz0, hz1, hz2⟩ := info_parts infoRL
  obtain ⟨hb0, v, hR⟩ := h.out
  obtain ⟨a', c', hv⟩ := hR.is_slice
  have HR := Lib.hid hR
  have HB := Lib.hid hb0
  have c0 := hR.c0
  have c1 := hR.c1
  have c2 := hR.c2
  have ff := free_of hR.ty
  have f1 := ff 1
  have f2 := ff 2
  have hna := node_any (w := w) (N := N) a c0
  have hnb := node_any (w := w) (N := N) b c0
  rw [ha] at hna
  rw [hb] at hnb
  obtain ⟨m, hm⟩ : ∃ m, m = L.length := ⟨_, rfl⟩
  have HM := Lib.hid hm
  rw [hv, ← hm] at c2
  have hf1 : decide ((65536 : Int) ≤ (m : Int)) = false := decide_eq_false (by omega)
  have hw1 : wrap64 (sent + 1) = sent + 1 := IntWalk.wrap64_in _ ⟨by omega, by omega⟩
  have hsz : decide ((1048576 : Int) < (s.size : Int)) = false := decide_eq_false (by omega)
  obtain ⟨w1, hw⟩ : ∃ w1, w1 = w.setCell ⟨q, 1, none⟩ (.int .i64 (sent + 1)) := ⟨_, rfl⟩
  have hR1 : RN w1 w0.heap.size q N (sent + 1) v L S := by rw [hw]; exact hR.setSent (sent + 1)
  have t1 : Tch w w1 (fun i => i = q) := by rw [hw]; exact tch_set w ⟨q, 1, none⟩ _
  have hb1 : Below w0.heap.size w0 w1 := t1.from hb0 (fun i e => by rw [e]; exact hR.lo)
  have d1 := hR1.c1
  have d2 := hR1.c2
  rw [hv, ← hm] at d2
  have g2 := free_of hR1.ty 2
  have hlt1 := hR1.ty.lt
  have hq1 : ¬ q = w1.heap.size := by omega
  have hq1' : ¬ w1.heap.size = q := by omega
  have hf0 : Fly (w1.drew.alloc (.cells #[.int .i64 (sent + 1), .int .i64 a, .int .i64 b, .string s] 39)) 39 4 w0.heap.size v L.length (cellsOf L) :=
    hR1.fly.same (fun b hb => Below.heap_alloc w1.drew _ b (hR1.fly.lt b hb).2)
  have hbl : Below w1.heap.size w1 (w1.drew.alloc (.cells #[.int .i64 (sent + 1), .int .i64 a, .int .i64 b, .string s] 39)) := (Below.refl _ w1).drew.alloc (Nat.le_refl _) _
  have HLb := Lib.hid (And.intro hL hb1.size)
  have HX := Lib.hid (And.intro hR1 (And.intro t1 (And.intro hbl hf0)))
  have HW := Lib.hid hw
  rw [hv, ← hm] at HX
  clear hR hb0 hL hbl hf0 t1 hb1 hw hR1 ff hm hlt1 hsn ha hb hs
  clear hv
  go_enter Try.func8, Try.ntmps8
  go_wp2_with (fail)
  refine hna.mono ?_
  rintro e w' ⟨rfl, rfl⟩
  go_wp2_with (fail)
  refine hnb.mono ?_
  rintro e w' ⟨rfl, rfl⟩
  clear hna hnb
  go_upto_region 8 with (fail)
  rw [← HW.out]
  have d2a : ∀ o1, (w1.alloc o1).cell? ⟨q, 2, none⟩ = some (.slice a' m c') := fun o1 => (((Below.refl _ w1).alloc (Nat.le_refl _) o1).cell (p := ⟨q, 2, none⟩) HX.out.1.ty.lt).trans d2
  have d1a : ∀ o1, (w1.alloc o1).cell? ⟨q, 1, none⟩ = some (.int .i64 (sent + 1)) := fun o1 => (((Below.refl _ w1).alloc (Nat.le_refl _) o1).cell (p := ⟨q, 1, none⟩) HX.out.1.ty.lt).trans d1
  clear c0 c1 c2 f1 f2 hf1 hw1 hsz
  go_region_law (refine step_append_fly rfl (.tmp 40) (.tmp 49) 49 rfl 39 i0 (.agg #[.int .i64 0, .int .i64 0, .int .i64 0, .string ⟨#[]⟩]) 4 40 w0.heap.size m Try.underlying49 hi hz0 hz1 hz2 rfl (by decide) (.slice a' m c') (cellsOf L) rfl HX.out.2.2.2 ⟨w1.heap.size, 0, none⟩ 1 (cellsL ⟨sent + 1, a, b, s⟩) rfl rfl (by
      intro j u hj
      match j, hj with
      | 0, hj => simp [cellsL] at hj; subst hj; simp [Addr.add]
      | 1, hj => simp [cellsL] at hj; subst hj; simp [Addr.add]
      | 2, hj => simp [cellsL] at hj; subst hj; simp [Addr.add]
      | 3, hj => simp [cellsL] at hj; subst hj; simp [Addr.add]) (by intro u hu; simp [cellsL] at hu; rcases hu with rfl | rfl | rfl | rfl <;> rfl) (by have := HLb.out.1; have := HM.out; unfold maxLen; omega) (by have := HLb.out.1; have := HM.out; omega) (by have := HLb.out.2; simp; omega) ?_; intro a4 c4 w' hf2 hg2 ho2; obtain ⟨k2, k3, HF⟩ := rsend_fin HM.out HB.out HR.out HX.out.2.1 HX.out.1 HX.out.2.2.1 hf2 hg2; clear hf2 hg2 ho2)
  all_goals
    have e1 := HF.out.1.c1
    go_wp2
    go_ret2
    exact HF.out.2
end
end Go.Proofs.Ytcahiogjmclnjaa
