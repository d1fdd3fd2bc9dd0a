/- The reference's board of attempts: Report. -/
import Derived.Test.YtapnlofklgknmaaAtrGone
namespace Go.Proofs.Ytapnlofklgknmaa
open Go.RowKit

def repP (x a : Int) (u : Tr) : Bool := decide (u.t = x) && (decide (u.k = a) && decide (u.st = 0))
def okR (L : List Tr) (x a how : Int) : Bool := decide (1 ≤ how ∧ how ≤ 3) && decide (L.findIdx (repP x a) < L.length)
def repR (L : List Tr) (x a how : Int) : List Tr := if okR L x a how then (L.modify (L.findIdx (repP x a)) (stTr how)).modify (L.findIdx (repP x a)) (wTr (decide (how = 1) && !wonL L x)) else L
theorem rf_refl (w : World) : RF w w := fun _ _ _ _ _ => rfl
section
variable {B : Nat} {w : World} {p : Nat} {M R lim pat : Int} {L : List Tr} {v : Value}
set_option maxHeartbeats 8000000 in
theorem rrep_any (h : Hid (RB B w p M R lim pat L v)) (hl : L.length ≤ 4398046511104) (x a how : Int) :
    Calls Try.prog 14 #[.pointer (some ⟨p, 0, none⟩), .int .i64 x, .int .i64 a, .int .i64 how] w fun e w' => e = .returned (.bool (okR L x a how)) ∧ RB B w' p M R lim pat (repR L x a how) v ∧ RF w w' ∧ Below B w w' := by
  obtain ⟨ad, c, rfl⟩ := h.out.form
  obtain ⟨N, hN⟩ : ∃ N, N = L.length := ⟨_, rfl⟩
  have HN := Lib.hid hN
  have c4 := h.out.cells.2.2.2.2
  obtain ⟨y, hy⟩ : ∃ y, y = okR L x a how := ⟨_, rfl⟩
  obtain ⟨L2, hL2⟩ : ∃ L2, L2 = repR L x a how := ⟨_, rfl⟩
  have HY := Lib.hid (And.intro hy hL2)
  rw [← hy, ← hL2]
  rw [← hN] at c4 hl
  clear hN hy hL2
  have hfalse : okR L x a how = false → y = false ∧ L2 = L := fun e => ⟨HY.out.1.trans e, by rw [HY.out.2]; unfold repR; rw [e]; rfl⟩
  have HF := Lib.hid hfalse
  clear hfalse
  by_cases h1 : how < 1
  · obtain ⟨rfl, rfl⟩ := HF.out (by unfold okR; rw [decide_eq_false (by omega)]; rfl)
    go_enter Try.func14, Try.ntmps14
    go_wp2
    go_ret
    exact ⟨rfl, h.out, rf_refl w, Below.refl _ _⟩
  · by_cases h3 : 3 < how
    · obtain ⟨rfl, rfl⟩ := HF.out (by unfold okR; rw [decide_eq_false (by omega)]; rfl)
      go_enter Try.func14, Try.ntmps14
      go_wp2
      go_ret
      exact ⟨rfl, h.out, rf_refl w, Below.refl _ _⟩
    · go_enter Try.func14, Try.ntmps14
      go_wp2
      go_loopw [9] (fun iv wr => ∃ i : Nat, i ≤ N ∧ iv = .int .i64 (i : Int) ∧ Hid (∀ j (hj : j < L.length), j < i → repP x a L[j] = false) ∧ wr = w) (fun iv _ => N - (intOf iv).toNat)
      case atStart => exact ⟨0, Nat.zero_le _, rfl, Lib.hid (fun j _ h0 => absurd h0 (Nat.not_lt_zero _)), rfl⟩
      case round =>
        obtain ⟨i, hi, rfl, HI, rfl⟩ := hrel
        by_cases hil : i < N
        · have hiL : i < L.length := by have := HN.out; omega
          obtain ⟨g, rfl, t0, t1, _, _, t4, t5⟩ := h.out.try' i hiL
          have hP : repP x a L[i] = (decide (L[i].t = x) && (decide (L[i].k = a) && decide (L[i].st = 0))) := rfl
          have HNX := Lib.hid (show repP x a L[i] = false → ∀ j (hj : j < L.length), j < i + 1 → repP x a L[j] = false from fun hf j hj h0 => by
            by_cases e : j < i
            · exact HI.out j hj e
            · obtain rfl : j = i := by omega
              exact hf)
          obtain ⟨X, hX⟩ : ∃ X, X = L[i].t := ⟨_, rfl⟩
          obtain ⟨Kk, hK⟩ : ∃ Kk, Kk = L[i].k := ⟨_, rfl⟩
          obtain ⟨S, hS⟩ : ∃ S, S = L[i].st := ⟨_, rfl⟩
          rw [← hX, ← hK, ← hS] at hP
          rw [← hX] at t0
          rw [← hK] at t1
          rw [← hS] at t4
          have HP := Lib.hid hP
          have hi1 : i + 1 ≤ N := hil
          clear hX hK hS hP
          by_cases e1 : X = x
          · by_cases e2 : Kk = a
            · by_cases e3 : S = 0
              · have hidx : L.findIdx (repP x a) = i := (List.findIdx_eq hiL).2 ⟨by rw [HP.out, decide_eq_true e1, decide_eq_true e2, decide_eq_true e3]; rfl, fun j hj => HI.out j (by omega) hj⟩
                have hok : okR L x a how = true := by
                  unfold okR
                  rw [hidx, decide_eq_true hiL, decide_eq_true (by omega : 1 ≤ how ∧ how ≤ 3)]
                  rfl
                have hL2 : L2 = (L.modify i (stTr how)).modify i (wTr (decide (how = 1) && !wonL L x)) := by
                  rw [HY.out.2]
                  unfold repR
                  rw [hok, hidx]
                  rfl
                have HL2 := Lib.hid hL2
                obtain rfl : y = true := HY.out.1.trans hok
                subst e1 e2 e3
                clear hidx hok hL2 HNX HI HP HF HY
                go_wp2_with (fail)
                refine (rwin_any h (by have := HN.out; omega) X).mono ?_
                rintro e w' ⟨rfl, rfl⟩
                have hst := rb_set (u := .int .i64 how) (q := 4) (f := stTr how) h.out (by decide) (fun _ => rfl) i hiL
                have hlm : (L.modify i (stTr how)).length = L.length := List.length_modify ..
                have hrb2 := hst.1
                rw [← hlm] at hrb2
                have hwn := fun b => rb_set (u := .bool b) (q := 5) (f := wTr b) hrb2 (by decide) (fun _ => rfl) i (by omega)
                have z1 := hst.2.2.2
                have z2 := (hwn true).2.2.2
                have d4 := hst.1.cells.2.2.2.2
                have d5 := (RB.try' hrb2 i (by omega))
                have HST := Lib.hid hst
                have HWN := Lib.hid hwn
                rw [← HN.out] at d4
                obtain ⟨_, e9, _, _, _, _, _, d5⟩ := d5
                injection e9 with e9
                injection e9 with e9 _ _
                subst e9
                obtain ⟨f, hf⟩ : ∃ f, f = fstI (wonP X) L := ⟨_, rfl⟩
                have HWL := Lib.hid (show wonL L X = decide (0 ≤ f) by unfold wonL; rw [hf])
                rw [← hf]
                have hgp : ¬ g = p := fun eg => by
                  subst eg
                  exact bears_apart (own_bears h.out.row rfl) (own_bears h.out.box rfl) (by decide) rfl
                have hpg : ¬ p = g := fun eg => hgp eg.symm
                have HFIN := fun b => (show (decide (how = 1) && !wonL L X) = b → RB B ((wr.setCell ⟨g, i * 6 + 4, none⟩ (.int .i64 how)).setCell ⟨g, i * 6 + 5, none⟩ (.bool b)) p M R lim pat L2 (.slice (some ⟨g, 0, none⟩) L.length c) ∧ RF wr ((wr.setCell ⟨g, i * 6 + 4, none⟩ (.int .i64 how)).setCell ⟨g, i * 6 + 5, none⟩ (.bool b)) ∧ Below B wr ((wr.setCell ⟨g, i * 6 + 4, none⟩ (.int .i64 how)).setCell ⟨g, i * 6 + 5, none⟩ (.bool b)) from fun hb => by
                  have q := HWN.out b
                  refine ⟨?_, rf_trans HST.out.2.1 q.2.1, HST.out.2.2.1.trans q.2.2.1⟩
                  rw [HL2.out, hb]
                  have q1 := q.1
                  rw [List.length_modify] at q1
                  exact q1)
                by_cases ho : how = 1
                · subst ho
                  have HB := Lib.hid (HFIN (!decide (0 ≤ fstI (wonP X) L)) (by unfold wonL; rfl))
                  clear HFIN HST HWN
                  go_wp2
                  go_ret
                  exact ⟨rfl, HB.out⟩
                · have HB := Lib.hid (HFIN false (by rw [decide_eq_false ho]; rfl))
                  have ho2 : (how == 1) = false := by simpa using ho
                  clear HFIN HST HWN
                  go_wp2
                  go_ret
                  exact ⟨rfl, HB.out⟩
              · have HN2 := Lib.hid (HNX.out (by rw [HP.out, decide_eq_true e1, decide_eq_true e2, decide_eq_false e3]; rfl))
                have e4 : (S == 0) = false := by simpa using e3
                subst e1 e2
                clear HNX HI HP
                go_wp2
                go_roundw
                case rel => exact ⟨i + 1, hi1, by first | rfl | go_num, HN2, by first | rfl | trivial⟩
                case measure => simp [intOf]; omega
            · have HN2 := Lib.hid (HNX.out (by rw [HP.out, decide_eq_true e1, decide_eq_false e2]; rfl))
              have e4 : (Kk == a) = false := by simpa using e2
              subst e1
              clear HNX HI HP
              go_wp2
              go_roundw
              case rel => exact ⟨i + 1, hi1, by first | rfl | go_num, HN2, by first | rfl | trivial⟩
              case measure => simp [intOf]; omega
          · have HN2 := Lib.hid (HNX.out (by rw [HP.out, decide_eq_false e1]; rfl))
            have e4 : (X == x) = false := by simpa using e1
            clear HNX HI HP
            go_wp2
            go_roundw
            case rel => exact ⟨i + 1, hi1, by first | rfl | go_num, HN2, by first | rfl | trivial⟩
            case measure => simp [intOf]; omega
        · have hnone : ¬ L.findIdx (repP x a) < L.length := fun hlt => by
            have := List.findIdx_getElem (w := hlt)
            rw [HI.out _ hlt (by have := HN.out; omega)] at this
            cases this
          obtain ⟨rfl, rfl⟩ := HF.out (by unfold okR; rw [decide_eq_false hnone, Bool.and_false])
          go_wp2
          go_ret
          exact ⟨rfl, h.out, rf_refl _, Below.refl _ _⟩
end
end Go.Proofs.Ytapnlofklgknmaa
