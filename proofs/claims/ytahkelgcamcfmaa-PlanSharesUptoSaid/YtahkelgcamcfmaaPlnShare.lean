/- Package plan: Share, as a function of how far each task is from each worker. -/
import Derived.Test.YtahkelgcamcfmaaPlnPlc
import Derived.Test.YtahkelgcamcfmaaPlnClone
import Derived.Test.YtahkelgcamcfmaaPlnMath
namespace Go.Proofs.Ytahkelgcamcfmaa
open Go.RowKit

def pkI (f : Nat → Int) (L : List Nat) : Int := (pckN (fun q => f (L.getD q 0)) L.length).1
def pkN (f : Nat → Int) (L : List Nat) : Nat := (pkI f L).toNat
theorem pk_some (f : Nat → Int) (L : List Nat) (h : L ≠ []) : pkI f L = (pkN f L : Int) ∧ pkN f L < L.length := by
  obtain ⟨m, hm, e⟩ := pckN_pos (fun q => f (L.getD q 0)) L.length (List.length_pos_iff.2 h)
  have e1 : pkI f L = (m : Int) := by unfold pkI; rw [e]
  unfold pkN
  rw [e1]
  exact ⟨by simp, by simpa using hm⟩
/-- the tasks that are left behind k workers, in their order -/
def lft (F : Nat → Nat → Int) (n : Nat) : Nat → List Nat
  | 0 => List.range n
  | k + 1 => (lft F n k).eraseIdx (pkN (F k) (lft F n k))
/-- what the worker k takes -/
def gotN (F : Nat → Nat → Int) (n k : Nat) : Int := if lft F n k = [] then -1 else ((lft F n k).getD (pkN (F k) (lft F n k)) 0 : Int)
def gotL (F : Nat → Nat → Int) (n k : Nat) : List Value := (List.range k).map fun j => .int .i64 (gotN F n j)
theorem gotL_succ (F : Nat → Nat → Int) (n k : Nat) : gotL F n (k + 1) = gotL F n k ++ [.int .i64 (gotN F n k)] := by unfold gotL; rw [List.range_succ, List.map_append]; rfl
theorem gotL_len (F : Nat → Nat → Int) (n k : Nat) : (gotL F n k).length = k := by simp [gotL]
theorem lft_mem (F : Nat → Nat → Int) (n : Nat) : ∀ k j, j ∈ lft F n k → j < n
  | 0, j, h => by simpa [lft] using h
  | k + 1, j, h => lft_mem F n k j (List.mem_of_mem_eraseIdx h)
theorem lft_len (F : Nat → Nat → Int) (n : Nat) : ∀ k, (lft F n k).length ≤ n
  | 0 => by simp [lft]
  | k + 1 => by
    have := lft_len F n k
    show ((lft F n k).eraseIdx _).length ≤ n
    rw [List.length_eraseIdx]
    split <;> omega
/-- behind k workers -/
structure SH (B : Nat) (w0 w : World) (T : Nat → Tsk) (F : Nat → Nat → Int) (n m gs gn cn k : Nat) (L : List Nat) (vl : Value) : Prop where
  left : w.ownsRow B 30 2 vl L.length (clT T L)
  num : w.ownsRow B 3 1 (.slice (some ⟨gn, 0, none⟩) L.length cn) L.length (clI L)
  sh : w.ownsRow B 3 1 (.slice (some ⟨gs, 0, none⟩) m m) m (gotL F n k ++ noughts k m)
  ne : ¬ gn = gs
  bel : Below B w0 w
theorem own_sole {w w' : World} {B g n sz : Nat} {e : TypeId} {v : Value} {xs : List Value} (h : w.ownsRow B e sz v n xs) (hs : Sole w w' g) (hne : v.ownBlock ≠ some g) : w'.ownsRow B e sz v n xs := by
  refine ⟨h.1, ?_⟩
  rcases h.2 with hn | ⟨g', cap, cur, rfl, hb, hgg, rest⟩
  · exact .inl hn
  · refine .inr ⟨g', cap, cur, rfl, hb, ?_, rest⟩
    rw [hs.block g' (fun e => hne (by rw [e]; rfl))]
    exact hgg
theorem sole_bel {w0 w w' : World} {B g : Nat} (h : Below B w0 w) (hs : Sole w w' g) (hg : B ≤ g) : Below B w0 w' :=
  ⟨hs.os.trans h.os, hs.tape.trans h.tape, hs.output.trans h.output, by rw [hs.size]; exact h.size, fun k hk => (hs.block k (by omega)).trans (h.block k hk)⟩
theorem own_type_apart {W : World} {b b' sz sz' n n' g : Nat} {e e' : TypeId} {v v' : Value} {xs xs' : List Value} (h : W.ownsRow b e sz v n xs) (h' : W.ownsRow b' e' sz' v' n' xs') (hne : e ≠ e') (hg : v.ownBlock = some g) : v'.ownBlock ≠ some g := by
  rcases rows_apart5 h h' hne with k | k
  · rw [k]; simp
  · rw [← hg]; exact k
section
variable {B : Nat} {w0 w w' : World} {T : Nat → Tsk} {F : Nat → Nat → Int} {n m gs gn cn k : Nat} {L : List Nat} {vl : Value}
theorem SH.below (h : SH B w0 w T F n m gs gn cn k L vl) (hb : Below w.heap.size w w') (hB : B ≤ w.heap.size) : SH B w0 w' T F n m gs gn cn k L vl :=
  ⟨own_below h.left hb, own_below h.num hb, own_below h.sh hb, h.ne, h.bel.trans (hb.mono hB)⟩
/-- a worker's share is written down -/
theorem SH.write (h : SH B w0 w T F n m gs gn cn k L vl) (hk : k < m) (x : Int) (hx : gotN F n k = x) : SH B w0 (w.setCell ⟨gs, k, none⟩ (.int .i64 x)) T F n m gs gn cn (k + 1) L vl := by
  have hs := h.sh.stored k (.int .i64 x)
  have hg := hs.2
  refine ⟨h.left.kept hg (rows_apart5 h.sh h.left (by decide)), h.num.kept hg (.inr (by simp only [Value.ownBlock]; intro e; exact h.ne (Option.some.inj e))), ?_, h.ne, h.bel.setCell (own_row h.sh).2.1 _⟩
  have := hs.1
  rw [set_snoc hk _ (gotL_len F n k), ← hx, ← gotL_succ] at this
  rw [← hx]
  exact this
/-- a task is taken out of the list -/
theorem SH.cutL {g c i : Nat} (h : SH B w0 w T F n m gs gn cn k L (.slice (some ⟨g, 0, none⟩) L.length c)) (hi : i < L.length) (hr : RowAt w' 30 2 g 0 c (clT T (L.eraseIdx i))) (hs : Sole w w' g) :
    w'.ownsRow B 30 2 (.slice (some ⟨g, 0, none⟩) (L.length - 1) c) (L.length - 1) (clT T (L.eraseIdx i)) ∧ w'.ownsRow B 3 1 (.slice (some ⟨gn, 0, none⟩) L.length cn) L.length (clI L) ∧ w'.ownsRow B 3 1 (.slice (some ⟨gs, 0, none⟩) m m) m (gotL F n k ++ noughts k m) ∧ Below B w0 w' := by
  obtain ⟨_, h1, h2, h3, _⟩ := own_row h.left
  have hl : (L.eraseIdx i).length = L.length - 1 := by rw [List.length_eraseIdx, if_pos hi]
  exact ⟨row_own hr h1 (by omega) h3 (by rw [clT_length, hl]), own_sole h.num hs (own_type_apart h.left h.num (by decide) rfl), own_sole h.sh hs (own_type_apart h.left h.sh (by decide) rfl), sole_bel h.bel hs h1⟩
end
set_option maxRecDepth 100000 in
set_option maxHeartbeats 8000000 in
theorem share_any (A : Option Addr) (n cap : Nat) (T : Nat → Tsk) (A2 : Option Addr) (m c2 : Nat) (pa pb : Nat → Nat) (w : World) (hn : n ≤ 1048576) (hm : m ≤ 1048576) (F : Nat → Nat → Int) (hF : F = fun k j => (T j).far (pa k) (pb k))
    (hA : (A = none ∧ n = 0 ∧ cap = 0) ∨ ∃ g, A = some ⟨g, 0, none⟩) (hT : Tks w w.heap.size A n T) (hS : SlOf w w.heap.size A2 m fun i => .complex .f64 (pa i) (pb i)) :
    Calls Try.prog 8 #[.slice A n cap, .slice A2 m c2] w fun e w' => ∃ v', e = .returned v' ∧ w'.ownsRow w.heap.size 3 1 v' m (gotL F n m) ∧ Below w.heap.size w w' := by
  have hcl : Calls Try.prog 13 #[.slice A n cap] w fun e w' => ∃ v', e = .returned v' ∧ w'.ownsRow w.heap.size 30 2 v' n (clT T (List.range n)) ∧ Below w.heap.size w w' := by
    rcases hA with ⟨rfl, rfl, rfl⟩ | ⟨g, rfl⟩
    · refine (clone_nil w).mono ?_
      rintro e w' ⟨rfl, rfl⟩
      exact ⟨_, rfl, World.ownsRow_nil _ _ _ _, Below.refl _ _⟩
    · refine clone_some g n cap (clT T (List.range n)) w (by rw [clT_length]; simp) hn (fun j u hj => ?_) (clT_one T _)
      have hjl : j < n * 2 := by
        have := (List.getElem?_eq_some_iff.1 hj).1
        rwa [clT_length, List.length_range] at this
      obtain ⟨_, g', o, e, _, k0, k1⟩ := hT (j / 2) (by omega)
      injection e with e
      injection e with e1 e2
      subst e1 e2
      have hat := clT_get T (List.range n) (j / 2) (j / 2) (List.getElem?_range (by omega)) (j % 2) (Nat.mod_lt _ (by decide))
      rw [show j / 2 * 2 + j % 2 = j by omega, hj] at hat
      rw [Nat.zero_add] at k0 k1
      have c : j % 2 = 0 ∨ j % 2 = 1 := by omega
      rcases c with c | c
      · rw [c] at hat
        rw [show j = j / 2 * 2 by omega, k0]
        exact hat.symm
      · rw [c] at hat
        rw [show j = j / 2 * 2 + 1 by omega, k1]
        exact hat.symm
  have hmk := make64 m hm
  have HF := Lib.hid hF
  have HS := Lib.hid hS
  have HT := Lib.hid (show ∀ j, j < n → Held w w.heap.size (T j) from fun j hj => (hT j hj).1)
  obtain ⟨B, hB⟩ : ∃ B, B = w.heap.size := ⟨_, rfl⟩
  have HB := Lib.hid hB
  rw [← hB] at hcl ⊢
  clear hA hT hS hF hB
  go_enter Try.func8, Try.ntmps8
  go_wp2_with (fail)
  refine hcl.mono ?_
  rintro e w1 ⟨vl, rfl, ho1, hb1⟩
  have hpl := places_any A n cap w1 hn
  have HO1 := Lib.hid ho1
  have HB1 := Lib.hid hb1
  clear ho1 hb1 hcl
  go_wp2_with (fail)
  refine hpl.mono ?_
  rintro e w2 ⟨rfl, ho2, hb2⟩
  have HO2 := Lib.hid ho2
  have HB2 := Lib.hid hb2
  clear ho2 hb2 hpl
  go_wp2_with (fail)
  clear hmk
  have hB1 : B ≤ w1.heap.size := by have := HB1.out.size; have := HB.out; omega
  have hB2 : B ≤ w2.heap.size := Nat.le_trans hB1 HB2.out.size
  have hmx : m ≤ maxLen := by unfold maxLen; omega
  have HI0 : Hid (SH B w (w2.alloc (.cells (madeCells #[.int .i64 0] m) 3)) T F n m w2.heap.size w1.heap.size n 0 (lft F n 0) vl) := Lib.hid (by
    have h1 := own_below (own_below HO1.out HB2.out) ((Below.refl w2.heap.size w2).alloc (Nat.le_refl _) (.cells (madeCells #[.int .i64 0] m) 3))
    have h2 := (own_below HO2.out ((Below.refl w2.heap.size w2).alloc (Nat.le_refl _) (.cells (madeCells #[.int .i64 0] m) 3))).mono hB1
    have hl : (lft F n 0).length = n := by simp [lft]
    have hlt : w1.heap.size < w2.heap.size := by
      have := (own_row HO2.out).1.lt
      exact this
    refine ⟨?_, ?_, made_own m B w2 hB2 hmx, by omega, (HB1.out.trans (HB2.out.mono hB1)).alloc hB2 _⟩
    · rw [hl]; exact h1
    · rw [hl]; exact h2)
  obtain ⟨gs, hgs⟩ : ∃ gs, gs = w2.heap.size := ⟨_, rfl⟩
  obtain ⟨gn, hgn⟩ : ∃ gn, gn = w1.heap.size := ⟨_, rfl⟩
  have HL0 := Lib.hid (show (lft F n 0).length = n by simp [lft])
  rw [← hgs, ← hgn] at HI0 ⊢
  clear hgs hgn
  go_loopw [5, 6, 20] (fun lv nv iv wr => ∃ k : Nat, k ≤ m ∧ iv = .int .i64 (k : Int) ∧ ∃ cn, nv = .slice (some ⟨gn, 0, none⟩) (lft F n k).length cn ∧ Hid (SH B w wr T F n m gs gn cn k (lft F n k) lv)) (fun _ _ iv _ => m - (intOf iv).toNat)
  case atStart => exact ⟨0, Nat.zero_le _, rfl, n, by rw [HL0.out], HI0⟩
  case round =>
    obtain ⟨k, hkm, rfl, cn, rfl, HI⟩ := hrel
    by_cases hlt : k < m
    · have hbw : Below w.heap.size w wr := by have := HI.out.bel; rw [HB.out] at this; exact this
      obtain ⟨g2, o2, rfl, hg2, c1⟩ := HS.out.below hbw k hlt
      have hBr : B ≤ wr.heap.size := by have := HI.out.bel.size; rw [HB.out]; exact this
      obtain ⟨L, hL⟩ : ∃ L, L = lft F n k := ⟨_, rfl⟩
      have hLn : L.length ≤ n := by rw [hL]; exact lft_len F n k
      have hLm : ∀ j, j ∈ L → j < n := fun j hj => lft_mem F n k j (by rw [← hL]; exact hj)
      have HLE := Lib.hid hL
      have hgot : gotN F n k = if L = [] then -1 else (L.getD (pkN (F k) L) 0 : Int) := by rw [hL]; rfl
      have hnext : lft F n (k + 1) = L.eraseIdx (pkN (F k) L) := by rw [hL]; rfl
      rw [← hL] at HI ⊢
      obtain ⟨al, cl, rfl⟩ := own_form HI.out.left
      have hpick : Calls Try.prog 11 #[.slice al L.length cl, .complex .f64 (pa k) (pb k)] wr fun e w' => e = .returned (.int .i64 (pkI (F k) L)) ∧ Below wr.heap.size wr w' := by
        have := pick_any al L.length cl (fun q => T (L.getD q 0)) (pa k) (pb k) wr (by omega) (fun q => F k (L.getD q 0)) (by rw [HF.out]) (fun q hq => by
          have hmem : L.getD q 0 < n := hLm _ (by rw [List.getD_eq_getElem?_getD, List.getElem?_eq_getElem hq]; exact List.getElem_mem hq)
          refine ⟨((HT.out _ hmem).below hbw).up hbw.size, ?_⟩
          obtain ⟨g, c', e, _, _⟩ := HI.out.left.form (by omega)
          injection e with e _ ec
          subst e
          have hq1 : L[q]? = some (L.getD q 0) := by rw [List.getD_eq_getElem?_getD, List.getElem?_eq_getElem hq]; rfl
          have k := fun r (hr : r < 2) => (HI.out.left.cellAt (q * 2 + r) (by omega)).trans (clT_get T L q _ hq1 r hr)
          have k0 := k 0 (by omega)
          have k1 := k 1 (by omega)
          exact ⟨g, 0, rfl, lt_of_cell' k0, by rw [Nat.zero_add]; exact k0, by rw [Nat.zero_add]; exact k1⟩)
        exact this
      have HP := Lib.hid hpick
      clear hpick hbw hL hLm
      by_cases hL0 : L = []
      · have hp : pkI (F k) L = -1 := by rw [hL0]; rfl
        rw [hp] at HP
        have HG := Lib.hid (show gotN F n k = -1 by rw [hgot, if_pos hL0])
        have HN := Lib.hid (show lft F n (k + 1) = L by rw [hnext, hL0]; rfl)
        clear hp hgot hnext hL0
        go_wp2_with (fail)
        refine HP.out.mono ?_
        rintro e w5 ⟨rfl, hb5⟩
        have HI5 := Lib.hid (HI.out.below hb5 hBr)
        have hc0 := HI5.out.sh.cellAt k (by omega)
        have z1 : w5.cell? ⟨gs, k, none⟩ = some (.int .i64 0) := by
          rw [hc0, List.getElem?_append_right (by rw [gotL_len]; omega), gotL_len, Nat.sub_self]
          unfold noughts
          rw [List.getElem?_replicate, if_pos (by omega)]
        have z2 := HI5.out.sh.frozenAt k
        have HW := Lib.hid (HI5.out.write hlt (-1) HG.out)
        clear hb5 hc0 HP HI
        go_wp2
        go_roundw
        case rel => exact ⟨k + 1, by omega, by first | rfl | go_num, cn, by rw [HN.out], by rw [HN.out]; exact HW⟩
        case measure => simp [intOf]; omega
      · obtain ⟨hp, hpl⟩ := pk_some (F k) L hL0
        rw [hp] at HP
        have hgot2 : gotN F n k = (L.getD (pkN (F k) L) 0 : Int) := by rw [hgot, if_neg hL0]
        obtain ⟨q, hq⟩ : ∃ q, q = pkN (F k) L := ⟨_, rfl⟩
        rw [← hq] at HP hgot2 hnext hpl
        have HG := Lib.hid hgot2
        have HN := Lib.hid hnext
        obtain ⟨g, c', e, _, _⟩ := HI.out.left.form (by omega)
        injection e with e _ ec
        subst e ec
        clear hp hgot hgot2 hnext hq
        have hpos : 0 < L.length := by omega
        go_wp2_with (fail)
        refine HP.out.mono ?_
        rintro e w5 ⟨rfl, hb5⟩
        have HI5 := Lib.hid (HI.out.below hb5 hBr)
        have hc0 := HI5.out.sh.cellAt k (by omega)
        have z1 : w5.cell? ⟨gs, k, none⟩ = some (.int .i64 0) := by
          rw [hc0, List.getElem?_append_right (by rw [gotL_len]; omega), gotL_len, Nat.sub_self]
          unfold noughts
          rw [List.getElem?_replicate, if_pos (by omega)]
        have z2 := HI5.out.sh.frozenAt k
        obtain ⟨x, hx⟩ : ∃ x, x = L.getD q 0 := ⟨_, rfl⟩
        have z3 : w5.cell? ⟨gn, q, none⟩ = some (.int .i64 (x : Int)) := (HI5.out.num.cellAt q (by omega)).trans (by rw [clI_get L q x (by rw [hx, List.getD_eq_getElem?_getD, List.getElem?_eq_getElem hpl]; rfl)])
        have HW := Lib.hid (HI5.out.write hlt (x : Int) (by rw [HG.out, hx]))
        have z4 := HI5.out.ne
        clear hb5 hc0 HP HI hx
        have hd1 := delete_T g 0 cl q T L (w5.setCell ⟨gs, k, none⟩ (.int .i64 (x : Int))) hpl (own_row HW.out.left).2.2.1 (own_row HW.out.left).2.2.2.1 (own_row HW.out.left).1
        go_wp2_with (fail)
        refine hd1.mono ?_
        rintro e w7 ⟨rfl, hr7, hs7⟩
        obtain ⟨q1, q2, q3, q4⟩ := HW.out.cutL hpl hr7 hs7
        have H7 := Lib.hid (And.intro q1 (And.intro q3 q4))
        have hd2 := delete_I gn 0 cn q L w7 hpl (own_row q2).2.2.1 (own_row q2).2.2.2.1 (own_row q2).1
        have HQ2 := Lib.hid q2
        clear hd1 hr7 hs7 q1 q2 q3 q4
        go_wp2_with (fail)
        refine hd2.mono ?_
        rintro e w8 ⟨rfl, hr8, hs8⟩
        have HL8 := Lib.hid (show (L.eraseIdx q).length = L.length - 1 by rw [List.length_eraseIdx, if_pos hpl])
        have HF8 : Hid (SH B w w8 T F n m gs gn cn (k + 1) (L.eraseIdx q) (.slice (some ⟨g, 0, none⟩) (L.length - 1) cl)) := Lib.hid (by
          obtain ⟨q1, q3, q4⟩ := H7.out
          obtain ⟨_, hg1, hg2, hg3, _⟩ := own_row HQ2.out
          refine ⟨?_, ?_, own_sole q3 hs8 (by simp only [Value.ownBlock]; intro e; exact z4 (Option.some.inj e).symm), z4, sole_bel q4 hs8 hg1⟩
          · rw [HL8.out]
            exact own_sole q1 hs8 (own_type_apart HQ2.out q1 (by decide) rfl)
          · rw [HL8.out]
            exact row_own hr8 hg1 (by omega) hg3 (by rw [clI_length, HL8.out]))
        have hb1 : 0 + (L.length - 1) ≤ 1048576 := by omega
        clear hd2 hr8 hs8 z1 z2 z3
        go_wp2
        go_roundw
        case rel => exact ⟨k + 1, by omega, by first | rfl | go_num, cn, by rw [HN.out, HL8.out], by rw [HN.out]; exact HF8⟩
        case measure => simp [intOf]; omega
    · obtain rfl : k = m := by omega
      go_wp2
      go_ret
      exact ⟨_, rfl, by have := HI.out.sh; simpa [noughts] using this, HI.out.bel⟩
end Go.Proofs.Ytahkelgcamcfmaa
