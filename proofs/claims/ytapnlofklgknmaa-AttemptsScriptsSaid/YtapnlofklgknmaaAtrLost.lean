/- The reference's board of attempts: Lost. -/
import Derived.Test.YtapnlofklgknmaaAtrRep
namespace Go.Proofs.Ytapnlofklgknmaa
open Go.RowKit

def numAt (L : List Tr) (f : Int) (a : Int) : Bool := match L[f.toNat]? with | some u => decide (u.k = a) | none => false
def okL (m : Nat) (L : List Tr) (x a : Int) : Bool := decide (0 ≤ x) && (decide (x < (m : Int)) && (decide (0 ≤ fstI (wonP x) L) && numAt L (fstI (wonP x) L) a))
def losR (m : Nat) (L : List Tr) (x a : Int) : List Tr := if okL m L x a then (L.modify (fstI (wonP x) L).toNat (stTr 4)).modify (fstI (wonP x) L).toNat (wTr false) else L
section
variable {B : Nat} {w : World} {p : Nat} {m : Nat} {R lim pat : Int} {L : List Tr} {v : Value}
set_option maxHeartbeats 8000000 in
theorem rlost_any (h : Hid (RB B w p m R lim pat L v)) (hl : L.length ≤ 4398046511104) (x a : Int) :
    Calls Try.prog 18 #[.pointer (some ⟨p, 0, none⟩), .int .i64 x, .int .i64 a] w fun e w' => e = .returned (.bool (okL m L x a)) ∧ RB B w' p m R lim pat (losR m L x a) v ∧ RF w w' ∧ Below B w w' := by
  obtain ⟨ad, c, rfl⟩ := h.out.form
  obtain ⟨N, hN⟩ : ∃ N, N = L.length := ⟨_, rfl⟩
  have HN := Lib.hid hN
  have c4 := h.out.cells.2.2.2.2
  have c0 := h.out.cells.1
  obtain ⟨y, hy⟩ : ∃ y, y = okL m L x a := ⟨_, rfl⟩
  obtain ⟨L2, hL2⟩ : ∃ L2, L2 = losR m L x a := ⟨_, rfl⟩
  have hw := rwin_any h hl x
  have hge := fst_ge (wonP x) L
  obtain ⟨f, hf⟩ : ∃ f, f = fstI (wonP x) L := ⟨_, rfl⟩
  have HY := Lib.hid (And.intro hy (And.intro hL2 hf))
  rw [← hy, ← hL2]
  rw [← hf] at hw hge
  rw [← hN] at c4 hl hge
  have HW := Lib.hid hw
  clear hN hy hL2 hf hw
  have hfalse : okL m L x a = false → y = false ∧ L2 = L := fun e => ⟨HY.out.1.trans e, by rw [HY.out.2.1]; unfold losR; rw [e]; rfl⟩
  have HF := Lib.hid hfalse
  clear hfalse
  go_enter Try.func18, Try.ntmps18
  go_wp2_with (fail)
  refine HW.out.mono ?_
  rintro e w' ⟨rfl, rfl⟩
  by_cases h0 : x < 0
  · obtain ⟨rfl, rfl⟩ := HF.out (by unfold okL; rw [decide_eq_false (by omega : ¬ 0 ≤ x)]; rfl)
    go_wp2
    go_ret
    exact ⟨rfl, h.out, rf_refl w, Below.refl _ _⟩
  · by_cases h1 : (m : Int) ≤ x
    · obtain ⟨rfl, rfl⟩ := HF.out (by unfold okL; rw [decide_eq_false (by omega : ¬ x < (m : Int)), Bool.false_and, Bool.and_false])
      go_wp2
      go_ret
      exact ⟨rfl, h.out, rf_refl w, Below.refl _ _⟩
    · by_cases h2 : f < 0
      · obtain ⟨rfl, rfl⟩ := HF.out (by unfold okL; rw [← HY.out.2.2, decide_eq_false (by omega : ¬ 0 ≤ f), Bool.false_and, Bool.and_false, Bool.and_false])
        go_wp2
        go_ret
        exact ⟨rfl, h.out, rf_refl w, Below.refl _ _⟩
      · obtain ⟨i, rfl⟩ : ∃ i : Nat, f = (i : Int) := ⟨f.toNat, by omega⟩
        have hil : i < N := by omega
        have hiL : i < L.length := by have := HN.out; omega
        obtain ⟨g, rfl, t0, t1, _, _, t4, t5⟩ := h.out.try' i hiL
        have hk : okL m L x a = decide (L[i].k = a) := by
          unfold okL numAt
          rw [← HY.out.2.2, decide_eq_true (by omega : 0 ≤ x), decide_eq_true (by omega : x < (m : Int)), decide_eq_true (by omega : (0 : Int) ≤ (i : Int)), Int.toNat_natCast, List.getElem?_eq_getElem hiL]
          rfl
        obtain ⟨Kk, hK⟩ : ∃ Kk, Kk = L[i].k := ⟨_, rfl⟩
        rw [← hK] at t1 hk
        clear hK
        by_cases e2 : Kk = a
        · rw [decide_eq_true e2] at hk
          obtain rfl : y = true := HY.out.1.trans hk
          have hL2 : L2 = (L.modify i (stTr 4)).modify i (wTr false) := by
            rw [HY.out.2.1]
            unfold losR
            rw [hk, ← HY.out.2.2, Int.toNat_natCast]
            rfl
          have HL2 := Lib.hid hL2
          clear hk hL2
          subst e2
          have hst := rb_set (u := .int .i64 4) (q := 4) (f := stTr 4) h.out (by decide) (fun _ => rfl) i hiL
          have hlm : (L.modify i (stTr 4)).length = L.length := List.length_modify ..
          have hrb2 := hst.1
          rw [← hlm] at hrb2
          have hwn := rb_set (u := .bool false) (q := 5) (f := wTr false) hrb2 (by decide) (fun _ => rfl) i (by omega)
          have z1 := hst.2.2.2
          have z2 := hwn.2.2.2
          have d4 := hst.1.cells.2.2.2.2
          rw [← HN.out] at d4
          have hgp : ¬ g = p := fun eg => by
            subst eg
            exact bears_apart (own_bears h.out.row rfl) (own_bears h.out.box rfl) (by decide) rfl
          have hpg : ¬ p = g := fun eg => hgp eg.symm
          have HB := Lib.hid (show RB B ((w.setCell ⟨g, i * 6 + 4, none⟩ (.int .i64 4)).setCell ⟨g, i * 6 + 5, none⟩ (.bool false)) p m R lim pat L2 (.slice (some ⟨g, 0, none⟩) L.length c) ∧ RF w ((w.setCell ⟨g, i * 6 + 4, none⟩ (.int .i64 4)).setCell ⟨g, i * 6 + 5, none⟩ (.bool false)) ∧ Below B w ((w.setCell ⟨g, i * 6 + 4, none⟩ (.int .i64 4)).setCell ⟨g, i * 6 + 5, none⟩ (.bool false)) from by
            refine ⟨?_, rf_trans hst.2.1 hwn.2.1, hst.2.2.1.trans hwn.2.2.1⟩
            rw [HL2.out]
            have q1 := hwn.1
            rw [List.length_modify] at q1
            exact q1)
          clear hst hwn hrb2 hlm
          go_wp2
          go_ret
          exact ⟨rfl, HB.out⟩
        · obtain ⟨rfl, rfl⟩ := HF.out (by rw [hk, decide_eq_false e2])
          have e4 : (Kk == a) = false := by simpa using e2
          have e5 : (Kk != a) = true := by simpa using e2
          clear hk
          go_wp2
          go_ret
          exact ⟨rfl, h.out, rf_refl w, Below.refl _ _⟩
end
end Go.Proofs.Ytapnlofklgknmaa
