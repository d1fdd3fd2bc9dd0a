/- Package attempts: an attempt begins. -/
import Derived.Test.YtapnlofklgknmaaAtmNew
namespace Go.Proofs.Ytapnlofklgknmaa
open Go.RowKit

theorem infoAtt : (Try.prog.info? 73).map (fun i => (i.zero, i.size, i.bytes)) = some (some (.agg #[.int .i64 0, .int .i64 0, .int .i64 0]), 3, 24) := by kernel_rfl
def begT (t : Tk) (nd now : Int) : Tk := { t with A := t.A ++ [⟨0, nd, now⟩] }
theorem begT_lv (t : Tk) (nd now : Int) : (begT t nd now).lv = t.lv + 1 := by simp [begT, Tk.lv, lvA, rn1]
theorem begT_fi (t : Tk) (nd now : Int) : (begT t nd now).fi = t.fi := by
  have h : rn1 ⟨0, nd, now⟩ = true := rfl
  simp only [begT, Tk.fi, fiA, List.findIdx_append]
  split
  · rfl
  · rename_i hn
    have := List.findIdx_le_length (xs := t.A) (p := rn1)
    simp [List.findIdx_cons, h]
    omega
def setTk (b : Bd) (i : Nat) (t : Tk) : Bd := { b with T := updN b.T i t }
theorem opn_same {T T' : Nat → Tk} (h : ∀ i, (T' i).wi = (T i).wi) (a k : Nat) : opn T' a k = opn T a k := by
  unfold opn
  congr 1
  funext i
  rw [h]
theorem rawB_beg (hs : Nat → Value) (b : Bd) (i : Nat) (nd now : Int) (v : Value) :
    (⟨b.m, b.n, updN (rawB hs b).R i { (rawB hs b).R i with h := v, lv := (((b.T i).lv + 1 : Nat) : Int) }, updN (fun i => (b.T i).A) i ((b.T i).A ++ [⟨0, nd, now⟩]), b.lim, b.pat, (b.om : Int), (b.orr : Int), b.dead⟩ : Raw) = rawB (updN hs i v) (setTk b i (begT (b.T i) nd now)) := by
  have hw : ∀ j, ((setTk b i (begT (b.T i) nd now)).T j).wi = (b.T j).wi := fun j => by
    show (updN b.T i _ j).wi = _
    exact upd_off b.T Tk.wi i j _ rfl
  have e1 : (setTk b i (begT (b.T i) nd now)).om = b.om := opn_same hw _ _
  have e2 : (setTk b i (begT (b.T i) nd now)).orr = b.orr := opn_same hw _ _
  unfold rawB
  simp only [e1, e2]
  congr 1
  · funext j
    show updN _ i _ j = TkR.mk (updN hs i v j) _ _ _ _
    by_cases e : j = i
    · subst e
      simp only [updN_same, setTk, begT_fi, begT_lv]
      rfl
    · simp only [updN_other _ _ e, setTk]
  · funext j
    show updN _ i _ j = (updN b.T i _ j).A
    by_cases e : j = i
    · subst e
      simp only [updN_same]
      rfl
    · simp only [updN_other _ _ e]
theorem lv_le (t : Tk) : t.lv ≤ t.A.length := List.countP_le_length
set_option maxRecDepth 100000 in
set_option maxHeartbeats 4000000 in
theorem begin_any {B p tb : Nat} {w : World} {hs : Nat → Value} {b : Bd} (h : Hid (RawAt B w p tb (rawB hs b))) (hB : B ≤ w.heap.size) (i : Nat) (hi : i < b.n) (hl : (b.T i).A.length < 4398046511104) (nd now : Int) :
    Calls Try.prog 34 #[.pointer (some ⟨tb, i * 5, none⟩), .int .i64 nd, .int .i64 now] w fun e w' => e = .returned (.int .i64 (((b.T i).A.length + 1 : Nat) : Int)) ∧ Hid (∃ hs', RawAt B w' p tb (rawB hs' (setTk b i (begT (b.T i) nd now)))) ∧ Hid (AF w w' ∧ Below B w w') := by
  obtain ⟨i0, hi0, hz0, hz1, hz2⟩ := info_parts infoAtt
  have c0 : w.cell? ⟨tb, i * 5, none⟩ = some (hs i) := h.out.t0 i hi
  have ho : w.ownsRow B 73 3 (hs i) (b.T i).A.length (atC (b.T i).A) := h.out.at' i hi
  have f0 := bears_free h.out.tt (i * 5)
  obtain ⟨L, hL⟩ : ∃ L, L = (b.T i).A.length := ⟨_, rfl⟩
  rw [← hL] at ho hl ⊢
  have hBx : Below w.heap.size w (w.alloc (.cells #[.int .i64 0, .int .i64 nd, .int .i64 now] 73)) := (Below.refl _ _).alloc (Nat.le_refl _) _
  have hRA := h.out.below hBx
  have hx := World.news_of_block (heap_alloc_new w (.cells #[.int .i64 0, .int .i64 nd, .int .i64 now] 73))
  have hown := ho.alloc (.cells #[.int .i64 0, .int .i64 nd, .int .i64 now] 73)
  have k5 : L + 1 ≤ maxLen := by unfold maxLen; omega
  have k6 : (L + 1) * 24 ≤ 140737488355328 := by omega
  have hone : ∀ y ∈ [Value.int .i64 0, .int .i64 nd, .int .i64 now], y.oneCell' = true := by
    intro y hy
    simp only [List.mem_cons, List.not_mem_nil, or_false] at hy
    rcases hy with rfl | rfl | rfl <;> rfl
  have HRA := Lib.hid hRA
  have HL := Lib.hid hL
  have HBx := Lib.hid hBx
  have HH := h
  clear hBx hRA ho hL h
  go_enter Try.func34, Try.ntmps34
  go_wp2_with (at_builtin; refine wpList_append_lies _ rfl _ _ 61 rfl B 73 i0 _ 3 24 Try.underlying61 hi0 hz0 hz1 hz2 rfl (by decide) _ _ _ rfl hown ⟨w.heap.size, 0, none⟩ 1 1 [.int .i64 0, .int .i64 nd, .int .i64 now] rfl rfl hx hone (by decide) k5 k6 (by simp; omega) (w.heap.size + 1) (by simp) ?_)
  intro g cap w1 hown' hgr hat hlt
  clear hx hone hown
  have hadd : RawAt B (w1.setCell ⟨tb, i * 5, none⟩ (.slice (some ⟨g, 0, none⟩) (L + 1) cap)) p tb { rawB hs b with R := updN (rawB hs b).R i { (rawB hs b).R i with h := .slice (some ⟨g, 0, none⟩) (L + 1) cap }, A := updN (rawB hs b).A i ((rawB hs b).A i ++ [⟨0, nd, now⟩]) } := by
    have h9 := HRA.out.addA (i := i) (g := g) (c := cap) (a := ⟨0, nd, now⟩) hi hgr (by rw [show ((rawB hs b).A i).length = L from HL.out.symm]; exact hown') (hat.imp (fun e => e) (fun e => by rw [e]; simp))
    rw [show ((rawB hs b).A i).length = L from HL.out.symm] at h9
    exact h9
  have c0' : w1.cell? ⟨tb, i * 5, none⟩ = some (hs i) ∧ w1.frozen? ⟨tb, i * 5, none⟩ = false := by
    have e : w1.heap[tb]? = (w.alloc (.cells #[.int .i64 0, .int .i64 nd, .int .i64 now] 73)).heap[tb]? := hgr.block tb HRA.out.tt.lt (fun e2 => bears_apart HRA.out.tt (own_bears (HRA.out.at' i hi) e2.symm) (by decide) rfl)
    exact ⟨(cell_eq e _).trans (HRA.out.t0 i hi), (frozen_eq e _).trans (bears_free HRA.out.tt _)⟩
  obtain ⟨d0, df0⟩ := c0'
  have d2 : (w1.setCell ⟨tb, i * 5, none⟩ (.slice (some ⟨g, 0, none⟩) (L + 1) cap)).cell? ⟨tb, i * 5 + 2, none⟩ = some (.int .i64 ((b.T i).lv : Int)) := by
    have h9 := hadd.t2 i hi
    simp only [updN_same] at h9
    exact h9
  have df2 := bears_free hadd.tt (i * 5 + 2)
  have hset := hadd.setLv i (((b.T i).lv + 1 : Nat) : Int)
  have hlv := lv_le (b.T i)
  have hw1 : IntKind.i64.wrap (((b.T i).lv : Int) + 1) = ((b.T i).lv : Int) + 1 := IntWalk.i64_in _ (by have := HL.out; omega)
  have hw2 : wrap64 (((b.T i).lv : Int) + 1) = ((b.T i).lv : Int) + 1 := IntWalk.wrap64_in _ ⟨by omega, by have := HL.out; omega⟩
  have ec : (((b.T i).lv + 1 : Nat) : Int) = ((b.T i).lv : Int) + 1 := by omega
  have d3 : ((w1.setCell ⟨tb, i * 5, none⟩ (.slice (some ⟨g, 0, none⟩) (L + 1) cap)).setCell ⟨tb, i * 5 + 2, none⟩ (.int .i64 (((b.T i).lv : Int) + 1))).cell? ⟨tb, i * 5, none⟩ = some (.slice (some ⟨g, 0, none⟩) (L + 1) cap) := by
    have h9 := hset.t0 i hi
    simp only [updN_same, ec] at h9
    exact h9
  have hfin : (∃ hs', RawAt B ((w1.setCell ⟨tb, i * 5, none⟩ (.slice (some ⟨g, 0, none⟩) (L + 1) cap)).setCell ⟨tb, i * 5 + 2, none⟩ (.int .i64 (((b.T i).lv : Int) + 1))) p tb (rawB hs' (setTk b i (begT (b.T i) nd now)))) := by
    refine ⟨updN hs i (.slice (some ⟨g, 0, none⟩) (L + 1) cap), ?_⟩
    rw [← rawB_beg, ← ec]
    have e9 : updN (updN (rawB hs b).R i { (rawB hs b).R i with h := .slice (some ⟨g, 0, none⟩) (L + 1) cap }) i { updN (rawB hs b).R i { (rawB hs b).R i with h := .slice (some ⟨g, 0, none⟩) (L + 1) cap } i with lv := (((b.T i).lv + 1 : Nat) : Int) } = updN (rawB hs b).R i { (rawB hs b).R i with h := .slice (some ⟨g, 0, none⟩) (L + 1) cap, lv := (((b.T i).lv + 1 : Nat) : Int) } := by
      rw [updN_same]
      funext j
      by_cases e : j = i
      · subst e; simp only [updN_same]
      · simp only [updN_other _ _ e]
    have h9 := hset
    rw [show ({ rawB hs b with R := updN (rawB hs b).R i { (rawB hs b).R i with h := .slice (some ⟨g, 0, none⟩) (L + 1) cap }, A := updN (rawB hs b).A i ((rawB hs b).A i ++ [⟨0, nd, now⟩]) } : Raw).R = updN (rawB hs b).R i { (rawB hs b).R i with h := .slice (some ⟨g, 0, none⟩) (L + 1) cap } from rfl, e9] at h9
    exact h9
  have haf : AF w ((w1.setCell ⟨tb, i * 5, none⟩ (.slice (some ⟨g, 0, none⟩) (L + 1) cap)).setCell ⟨tb, i * 5 + 2, none⟩ (.int .i64 (((b.T i).lv : Int) + 1))) ∧ Below B w ((w1.setCell ⟨tb, i * 5, none⟩ (.slice (some ⟨g, 0, none⟩) (L + 1) cap)).setCell ⟨tb, i * 5 + 2, none⟩ (.int .i64 (((b.T i).lv : Int) + 1))) := by
    refine ⟨fun c e hb h1 h2 h3 => ?_, ?_⟩
    · have hn : ¬ c = tb := fun e2 => bears_apart hb HH.out.tt h2 e2
      have hlt := hb.lt
      have hb2 : Bears (w.alloc (.cells #[.int .i64 0, .int .i64 nd, .int .i64 now] 73)) c e := by
        obtain ⟨cs, k⟩ := hb
        exact ⟨cs, (HBx.out.block c hlt).trans k⟩
      rw [set_block _ _ _ hn, set_block _ _ _ hn, hgr.block c hb2.lt (fun e2 => bears_apart hb2 (own_bears (HRA.out.at' i hi) e2.symm) h3 rfl), HBx.out.block c hlt]
    · have h1 : Below B w w1 := ((HBx.out).mono hB).grown hgr (by have := HBx.out.size; omega) (fun k e => ((HRA.out.at' i hi).lt k e).1)
      exact (h1.setCell (p := ⟨tb, i * 5, none⟩) HH.out.ht _).setCell (p := ⟨tb, i * 5 + 2, none⟩) HH.out.ht _
  have HF := Lib.hid hfin
  have HAF := Lib.hid haf
  clear hfin haf hset hadd hown' hgr hat hlt ec
  go_wp2
  go_ret
  exact ⟨by first | rfl | go_num, HF, HAF⟩
end Go.Proofs.Ytapnlofklgknmaa
