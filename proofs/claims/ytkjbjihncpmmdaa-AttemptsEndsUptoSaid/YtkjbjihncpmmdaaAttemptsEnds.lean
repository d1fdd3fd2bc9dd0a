/- AttemptsEnds is true for all numbers of tasks and all failures: whoever does what is ready comes to the end, each task won once. Its condition: what it reads is of bulk at most 1048576. -/
import Derived.Test.YtkjbjihncpmmdaaAtmEI
import Derived.Test.YtkjbjihncpmmdaaSlices
import Derived.Deep.CutBlock
import Derived.Deep.DeepCutAuto

import Derived.Test.YtkjbjihncpmmdaaLawEnd

import Derived.Test.YtkjbjihncpmmdaaPlainKit

namespace Go.Proofs.Ytkjbjihncpmmdaa.fnAttemptsEnds
open Go.ChangeShapes Go.WideShapes Go.ChangeAt Go.RowKit Go.WideMaps Go.WideElems
open Go.ChangeMaps (open_string)

theorem bulk_one {H : Type} (d : DataW H) : 1 ≤ Rows.uptoBulk d := by
  cases d with
  | lit l => cases l <;> simp only [Rows.uptoBulk] <;> omega
  | _ => simp only [Rows.uptoBulk] <;> omega
theorem bulk_len {H : Type} : ∀ l : List (DataW H), l.length ≤ Rows.uptoBulkAll l
  | [] => by simp
  | d :: l => by
    have h1 := bulk_one d
    have h2 := bulk_len l
    simp only [List.length_cons, Rows.uptoBulkAll]
    omega
def E0 (W w : World) (p : Nat) (b : Bd) (m n won i : Nat) : Prop := AB W w p b ∧ EI b m n won i
set_option maxRecDepth 100000 in
set_option maxHeartbeats 16000000 in
theorem walk (x0 x1 : Int) (A : Option Addr) (len cap : Nat) (zs : List Int) (W : World) (hlen : len ≤ 1048576) (hS : SlOf W W.heap.size A len (fun i => .int .i64 (zs.getD i 0))) :
    Calls Try.prog 4 #[.int .i64 x0, .int .i64 x1, .slice A len cap] W fun e w' => e = .returned (.bool true) ∧ Below W.heap.size W w' := by
  have HS := Lib.hid hS
  clear hS
  go_enter Try.func4, Try.ntmps4
  go_wp2_with (fail)
  refine (speaks22_any _).mono ?_
  rintro e w1 ⟨rfl, hb1⟩
  have HB1 := Lib.hid hb1
  clear hb1
  go_upto_region 3 with (fail)
  go_cut [30] (fun s wx => (∃ t : Bool, s = .bool t ∧ (t = false → (0 ≤ x0 ∧ x0 ≤ 50) ∧ (0 ≤ x1 ∧ x1 ≤ 50))) ∧ w1 = wx)
  case first =>
    by_cases h1 : x0 < 0
    · have d1 : decide (x0 < 0) = true := decide_eq_true h1
      clear h1
      go_wp2
      go_meet
      exact ⟨⟨true, rfl, fun h => by cases h⟩, rfl⟩
    · have d1 : decide (x0 < 0) = false := decide_eq_false h1
      by_cases h2 : 50 < x0
      · have d2 : decide (50 < x0) = true := decide_eq_true h2
        clear h1 h2
        go_wp2
        go_meet
        exact ⟨⟨true, rfl, fun h => by cases h⟩, rfl⟩
      · have d2 : decide (50 < x0) = false := decide_eq_false h2
        by_cases h3 : x1 < 0
        · have d3 : decide (x1 < 0) = true := decide_eq_true h3
          clear h1 h2 h3
          go_wp2
          go_meet
          exact ⟨⟨true, rfl, fun h => by cases h⟩, rfl⟩
        · have d3 : decide (x1 < 0) = false := decide_eq_false h3
          have h4 := Lib.hid (show (0 ≤ x0 ∧ x0 ≤ 50) ∧ 0 ≤ x1 by omega)
          clear h1 h2 h3
          cases d4 : decide (50 < x1)
          · have h5 := Lib.hid (of_decide_eq_false d4)
            go_wp2
            go_meet
            exact ⟨⟨false, rfl, fun _ => ⟨h4.out.1, h4.out.2, by have := h5.out; omega⟩⟩, rfl⟩
          · go_wp2
            go_meet
            exact ⟨⟨true, rfl, fun h => by cases h⟩, rfl⟩
  case rest =>
    obtain ⟨⟨tt, rfl, htt⟩, rfl⟩ := hcut
    have HT := Lib.hid htt
    clear htt
    go_upto_if 30 with (fail)
    go_cut [0, 1] (fun a b wx => (∃ m r : Nat, m ≤ 50 ∧ r ≤ 50 ∧ a = .int .i64 (m : Int) ∧ b = .int .i64 (r : Int)) ∧ w1 = wx)
    case first =>
      cases tt
      · have ht := Lib.hid (HT.out rfl)
        clear HT
        go_wp2
        go_meet
        exact ⟨⟨x0.toNat, x1.toNat, by have := ht.out; omega, by have := ht.out; omega, by rw [Int.toNat_of_nonneg ht.out.1.1], by rw [Int.toNat_of_nonneg ht.out.2.1]⟩, rfl⟩
      · clear HT
        go_wp2
        go_meet
        exact ⟨⟨3, 2, by omega, by omega, rfl, rfl⟩, rfl⟩
    case rest =>
      obtain ⟨⟨m, r, hm, hr, rfl, rfl⟩, rfl⟩ := hcut
      have hei := ei_new m r hm hr
      go_wp2_with (fail)
      refine (new_any (w0 := W) (m : Int) (r : Int) 1 9 (by decide) w1 HB1.out).mono ?_
      rintro e w2 ⟨p, rfl, h2⟩
      have hmn : m ≤ m + r := Nat.le_add_right _ _
      obtain ⟨n, hn⟩ : ∃ n, n = m + r := ⟨_, rfl⟩
      have H3 : Hid (E0 W w2 p (newB (m : Int) (r : Int) 1 9) m n 0 0) := by rw [hn]; exact Lib.hid ⟨h2.out.1, hei⟩
      have hnI : (m : Int) + (r : Int) = (n : Int) := by omega
      have hn1 : n ≤ 100 := by omega
      have hw1 : wrap64 ((m : Int) + (r : Int)) = (n : Int) := by rw [hnI]; exact IntWalk.wrap64_in _ ⟨by omega, by omega⟩
      have hw2 : IntKind.i64.wrap ((m : Int) + (r : Int)) = (n : Int) := by rw [hnI]; exact IntWalk.i64_in _ (by omega)
      have hw3 : IntKind.i64.wrap ((n : Int) + (len : Int)) = ((n + len : Nat) : Int) := by rw [IntWalk.i64_in _ (by omega)]; omega
      have hw4 : wrap64 ((n : Int) + (len : Int)) = ((n + len : Nat) : Int) := by rw [IntWalk.wrap64_in _ ⟨by omega, by omega⟩]; omega
      have HW := Lib.hid (And.intro hw1 (And.intro hw2 (And.intro hw3 hw4)))
      clear h2 hei hnI hn
      go_wp2
      go_loopw [8, 9] (fun vw vi wr => ∃ (won i f : Nat) (b : Bd), i ≤ n + len ∧ vw = .int .i64 (won : Int) ∧ vi = .int .i64 (i : Int) ∧ i = won + f ∧ f ≤ len ∧ Hid (E0 W wr p b m n won i)) (fun _ vi _ => n + len - (intOf vi).toNat)
      case atStart => exact ⟨0, 0, 0, _, Nat.zero_le _, rfl, rfl, rfl, Nat.zero_le _, H3⟩
      case round =>
        clear hw1 hw2 hw3 hw4
        obtain ⟨won, i, f, b, hi, rfl, rfl, hif, hf, HR⟩ := hrel
        clear H3
        have hwn0 : won ≤ n := by have := HR.out.2.cnt; omega
        have HIF := Lib.hid (And.intro hif hf)
        clear hif hf
        by_cases hlt : i < n + len
        · obtain ⟨tb, hs, hraw⟩ := HR.out.1.raw
          have HRY := Lib.hid (ready_any (Lib.hid hraw) HR.out.1.nn HR.out.1.pat 1 (i : Int))
          clear hraw
          obtain ⟨hw1, hw2, hw3, hw4⟩ := HW.out
          go_wp2_with (fail)
          refine HRY.out.mono ?_
          rintro e w3 ⟨vl, rfl, ho, hb3⟩
          clear hw1 hw2 hw3 hw4
          obtain ⟨Al, cl, rfl⟩ := own_slice ho
          have HAB3 := Lib.hid (HR.out.1.below hb3)
          have HO := Lib.hid ho
          have hLl := ready_len b 1 (i : Int)
          obtain ⟨L, hL⟩ : ∃ L, L = readyB b 1 (i : Int) := ⟨_, rfl⟩
          rw [← hL] at HO hLl ⊢
          have HLL := Lib.hid hL
          clear ho hb3 hL
          by_cases hLe : L = []
          · subst hLe
            have hz := ready_none HR.out.2.dead HR.out.2.idle HR.out.1.mn HLL.out.symm
            have hall : ∀ j, j < n → (b.T j).wi ≠ 0 := fun j hj => by
              by_cases hjm : j < b.m
              · have := opn_none b.T 0 b.m hz.1 j hjm
                rwa [Nat.zero_add] at this
              · have := opn_none b.T b.m (b.n - b.m) hz.2 (j - b.m) (by rw [HR.out.2.hn]; omega)
                rwa [show b.m + (j - b.m) = j by omega] at this
            obtain rfl : won = n := by have := HR.out.2.cnt; omega
            rw [show ([] : List Nat).length = 0 from rfl]
            have hE : E0 W w3 p b m won won i := ⟨HAB3.out, HR.out.2⟩
            clear HO hLl HLL HR
            have HE := Lib.hid hE
            have hwn : winA b (won : Int) = (0, 0, false) := by
              unfold winA
              rw [show inB b (won : Int) = false from decide_eq_false (by rw [HE.out.2.hn]; omega), Bool.false_and]
              rfl
            have hst0 : mayB b 0 = false := by
              cases hmb : mayB b 0
              · rfl
              · have h9 := mayR_of (b := b) (r := 0) (hs := r0) hmb
                exact absurd h9.2.1 (hall 0 (by rw [← HE.out.2.hn]; exact h9.1))
            have hs1 : startA b 0 = 0 := by unfold startA; rw [hst0]; rfl
            have hcw := winner_any (Lib.hid HE.out.1) (fun j _ => Nat.lt_of_le_of_lt (HE.out.2.bi.len j) (by omega)) HE.out.2.bi.win (won : Int)
            rw [hwn] at hcw
            dsimp only at hcw
            have hcf := fun W' (hW : AB W W' p b) => finished_any (Lib.hid hW)
            have ho0 : ((b.orr : Int) == 0) = true := by rw [hz.2]; rfl
            have hcd := fun W' (hW : AB W W' p b) => dead_any (Lib.hid hW)
            have hcs := fun W' (hW : AB W W' p b) => start_any (Lib.hid hW) (fun j _ => Nat.lt_of_le_of_lt (HE.out.2.bi.len j) (by omega)) 0 1 99
            rw [ho0] at hcf
            rw [HE.out.2.dead] at hcd
            rw [hs1] at hcs
            have HCW := Lib.hid hcw
            have HCF := Lib.hid hcf
            have HCD := Lib.hid hcd
            have HCS := Lib.hid hcs
            clear hwn hst0 hs1 hcw hcf hcd hcs ho0 hz hall hE
            obtain ⟨hw1, hw2, hw3, hw4⟩ := HW.out
            go_wp2_with (fail)
            refine HCW.out.mono ?_
            rintro e w8 ⟨rfl, m8, rfl⟩
            have HAB := Lib.hid (HE.out.1.below ⟨rfl, rfl, rfl, Nat.le_refl _, fun _ _ => rfl⟩ : AB W (w3.drewN m8) p b)
            go_wp2_with (fail)
            refine (HCF.out _ HAB.out).mono ?_
            rintro e w' ⟨rfl, rfl⟩
            go_wp2_with (fail)
            refine (HCD.out _ HAB.out).mono ?_
            rintro e w' ⟨rfl, rfl⟩
            go_wp2_with (fail)
            refine (HCS.out _ HAB.out).mono ?_
            rintro e w9 ⟨rfl, H9⟩
            have HF := Lib.hid H9.out.1.bel
            clear H9
            go_wp2
            go_ret
            exact ⟨rfl, HF.out⟩
          · obtain ⟨r, L', rfl⟩ : ∃ r L', L = r :: L' := by
              cases L with
              | nil => exact absurd rfl hLe
              | cons r L' => exact ⟨r, L', rfl⟩
            have hrm := ready_mem (b := b) (nd := 1) (now := (i : Int)) (r := r) (by rw [← HLL.out]; exact List.mem_cons_self ..)
            obtain ⟨gl, cl', hv9, _, _⟩ := HO.out.form (by simp)
            injection hv9 with e1 e2 e3
            subst e1 e3
            obtain ⟨q, hq⟩ : ∃ q, q = (r :: L').length := ⟨_, rfl⟩
            have hq1 : 0 < q := by rw [hq]; simp
            have kl : w3.cell? ⟨gl, 0, none⟩ = some (.int .i64 (r : Int)) := (HO.out.cellAt 0 (by simp)).trans rfl
            rw [← hq]
            obtain ⟨ea, eb⟩ := HR.out.2.start hrm (i : Int)
            have hst := start_any HAB3 (fun j _ => Nat.lt_of_le_of_lt (HR.out.2.bi.len j) (by omega)) (r : Int) 1 (i : Int)
            rw [ea, eb] at hst
            have HST := Lib.hid hst
            have hkl := HR.out.2.bi.len r
            have hnr := HR.out.2.hn
            have HRM := Lib.hid hrm
            obtain ⟨kk, hkk⟩ : ∃ kk, kk = (b.T r).A.length := ⟨_, rfl⟩
            have hE1 := Lib.hid (HR.out.2.fail hrm.1 (mom (i : Int)))
            have hE2 := Lib.hid (HR.out.2.gone hrm.1 (mom (i : Int)))
            have hE3 := Lib.hid (HR.out.2.good HR.out.1.mn hrm.1 hrm.2.1 (mom (i : Int)))
            have hbi1 : Hid (BI (setTk b r (begT (b.T r) 1 (mom (i : Int)))) (i + 1)) := Lib.hid (by rw [← eb]; exact bi_start HR.out.2.bi _ _ _)
            obtain ⟨b1, hb1⟩ : ∃ b1, b1 = setTk b r (begT (b.T r) 1 (mom (i : Int))) := ⟨_, rfl⟩
            rw [← hb1] at HST hE1 hE2 hE3 hbi1
            rw [← hkk] at HST hE1 hE2 hE3 hkl
            have hbl : Bears w3 gl 3 := own_bears HO.out rfl
            clear hst ea eb hrm HLL HO hq hLe hb1 hkk HAB3 HRY
            have hl1 : ∀ j, j < b1.n → (b1.T j).A.length < 4398046511105 := fun j _ => Nat.lt_of_le_of_lt (hbi1.out.len j) (by omega)
            have hf1 : ∀ j, j < b1.n → (b1.T j).fu < 1152921504606846976 := fun j _ => Nat.lt_of_le_of_lt (hbi1.out.fu j) (by omega)
            have HL1 := Lib.hid hl1
            have HF1 := Lib.hid hf1
            clear hl1 hf1
            have ec : ((kk + 1 : Nat) : Int) = (kk : Int) + 1 := by omega
            rw [ec] at HST
            have hk0 : (((kk : Int) + 1) == 0) = false := by simp; omega
            go_wp2_with (fail)
            refine HST.out.mono ?_
            rintro e w4 ⟨rfl, H4⟩
            have kl4 : w4.cell? ⟨gl, 0, none⟩ = some (.int .i64 (r : Int)) := (cell_eq (H4.out.2 gl _ hbl (by decide) (by decide) (by decide)) 0).trans kl
            have hbl4 : Bears w4 gl 3 := by obtain ⟨cs, k9⟩ := hbl; exact ⟨cs, (H4.out.2 gl _ ⟨cs, k9⟩ (by decide) (by decide) (by decide)).trans k9⟩
            have HA4 : Hid (AB W w4 p b1) := Lib.hid H4.out.1
            have hrep2 := Lib.hid (report_any HA4 HL1.out HF1.out (r : Int) ((kk : Int) + 1) 2)
            have hrep1 := Lib.hid (report_any HA4 HL1.out HF1.out (r : Int) ((kk : Int) + 1) 1)
            have hgon := Lib.hid (gone_any HA4 HL1.out 1)
            have HWW : Hid (wrap64 ((won : Int) + 1) = (won : Int) + 1) := Lib.hid (IntWalk.wrap64_in _ ⟨by omega, by omega⟩)
            have HNF : Hid (i + 1 = won + 1 + f) := Lib.hid (by have := HIF.out; omega)
            have HNG : Hid (i + 1 = won + (f + 1)) := Lib.hid (by have := HIF.out; omega)
            clear H4 hbl
            by_cases hil : i < len
            · have HFL : Hid (f + 1 ≤ len) := Lib.hid (by have := HIF.out; omega)
              obtain ⟨bz, oz, rfl, hbz, hcz⟩ := HS.out.below HA4.out.bel i hil
              replace hcz : w4.cell? ⟨bz, oz + i, none⟩ = some (.int .i64 (zs.getD i 0)) := hcz
              obtain ⟨z, hz⟩ : ∃ z, z = zs.getD i 0 := ⟨_, rfl⟩
              rw [← hz] at hcz
              clear hz hbz
              by_cases hz1 : z.tmod 3 = 1
              · have d1 : (z.tmod 3 == 1) = true := by simpa using hz1
                clear hz1
                go_wp2_with (fail)
                refine hrep2.out.mono ?_
                rintro e w5 ⟨rfl, H5⟩
                rw [hE1.out.1]
                have HN : Hid (E0 W w5 p (reportB b1 (r : Int) ((kk : Int) + 1) 2) m n won (i + 1)) := Lib.hid ⟨H5.out.1, hE1.out.2⟩
                clear H5
                go_wp2
                go_roundw
                case rel => exact ⟨won, i + 1, f + 1, _, hlt, rfl, by first | rfl | go_num, HNG.out, HFL.out, HN⟩
                case measure => exact meas_up2 hlt
              · have d1 : (z.tmod 3 == 1) = false := by simpa using hz1
                by_cases hz2 : z.tmod 3 = 2
                · have d2 : (z.tmod 3 == 2) = true := by simpa using hz2
                  clear hz1 hz2
                  go_wp2_with (fail)
                  refine hgon.out.mono ?_
                  rintro e w5 ⟨rfl, H5⟩
                  have H5' : Hid (AB W w5 p (goneB b1 1)) := Lib.hid H5.out.1
                  have hrep3 := Lib.hid (report_any H5' (fun j _ => Nat.lt_of_le_of_lt (hE2.out.2.2.bi.len j) (by omega)) (fun j _ => Nat.lt_of_le_of_lt (hE2.out.2.2.bi.fu j) (by omega)) (r : Int) ((kk : Int) + 1) 1)
                  have kl5 : w5.cell? ⟨gl, 0, none⟩ = some (.int .i64 (r : Int)) := (cell_eq (H5.out.2 gl _ hbl4 (by decide) (by decide) (by decide)) 0).trans kl4
                  clear H5 H5'
                  go_wp2_with (fail)
                  refine hrep3.out.mono ?_
                  rintro e w6 ⟨rfl, H6⟩
                  rw [hE2.out.1]
                  rw [hE2.out.2.1] at H6
                  have HN : Hid (E0 W w6 p (goneB b1 1) m n won (i + 1)) := Lib.hid ⟨H6.out.1, hE2.out.2.2⟩
                  clear H6
                  go_wp2
                  go_roundw
                  case rel => exact ⟨won, i + 1, f + 1, _, hlt, rfl, by first | rfl | go_num, HNG.out, HFL.out, HN⟩
                  case measure => exact meas_up2 hlt
                · have d2 : (z.tmod 3 == 2) = false := by simpa using hz2
                  clear hz1 hz2
                  go_wp2_with (fail)
                  refine hrep1.out.mono ?_
                  rintro e w5 ⟨rfl, H5⟩
                  rw [hE3.out.1]
                  have H5' : Hid (AB W w5 p (reportB b1 (r : Int) ((kk : Int) + 1) 1)) := Lib.hid H5.out.1
                  have hrep3 := Lib.hid (report_any H5' (fun j _ => Nat.lt_of_le_of_lt (hE3.out.2.2.2.bi.len j) (by omega)) (fun j _ => Nat.lt_of_le_of_lt (hE3.out.2.2.2.bi.fu j) (by omega)) (r : Int) ((kk : Int) + 1) 1)
                  have kl5 : w5.cell? ⟨gl, 0, none⟩ = some (.int .i64 (r : Int)) := (cell_eq (H5.out.2 gl _ hbl4 (by decide) (by decide) (by decide)) 0).trans kl4
                  clear H5 H5'
                  go_wp2_with (fail)
                  refine hrep3.out.mono ?_
                  rintro e w6 ⟨rfl, H6⟩
                  rw [hE3.out.2.1]
                  rw [hE3.out.2.2.1] at H6
                  have HN : Hid (E0 W w6 p (reportB b1 (r : Int) ((kk : Int) + 1) 1) m n (won + 1) (i + 1)) := Lib.hid ⟨H6.out.1, hE3.out.2.2.2⟩
                  clear H6
                  go_wp2
                  go_roundw
                  case rel => exact ⟨won + 1, i + 1, f, _, hlt, by first | rfl | go_num, by first | rfl | go_num, HNF.out, HIF.out.2, HN⟩
                  case measure => exact meas_up2 hlt
            · have hild : decide ((i : Int) < (len : Int)) = false := decide_eq_false (by omega)
              go_wp2_with (fail)
              refine hrep1.out.mono ?_
              rintro e w5 ⟨rfl, H5⟩
              rw [hE3.out.1]
              have H5' : Hid (AB W w5 p (reportB b1 (r : Int) ((kk : Int) + 1) 1)) := Lib.hid H5.out.1
              have hrep3 := Lib.hid (report_any H5' (fun j _ => Nat.lt_of_le_of_lt (hE3.out.2.2.2.bi.len j) (by omega)) (fun j _ => Nat.lt_of_le_of_lt (hE3.out.2.2.2.bi.fu j) (by omega)) (r : Int) ((kk : Int) + 1) 1)
              have kl5 : w5.cell? ⟨gl, 0, none⟩ = some (.int .i64 (r : Int)) := (cell_eq (H5.out.2 gl _ hbl4 (by decide) (by decide) (by decide)) 0).trans kl4
              clear H5 H5'
              go_wp2_with (fail)
              refine hrep3.out.mono ?_
              rintro e w6 ⟨rfl, H6⟩
              rw [hE3.out.2.1]
              rw [hE3.out.2.2.1] at H6
              have HN : Hid (E0 W w6 p (reportB b1 (r : Int) ((kk : Int) + 1) 1) m n (won + 1) (i + 1)) := Lib.hid ⟨H6.out.1, hE3.out.2.2.2⟩
              clear H6
              go_wp2
              go_roundw
              case rel => exact ⟨won + 1, i + 1, f, _, hlt, by first | rfl | go_num, by first | rfl | go_num, HNF.out, HIF.out.2, HN⟩
              case measure => exact meas_up2 hlt
        · obtain rfl : i = n + len := by omega
          obtain rfl : won = n := by have := HIF.out; omega
          have hz : b.om = 0 ∧ b.orr = 0 := by have := HR.out.2.cnt; omega
          have hall : ∀ j, j < won → (b.T j).wi ≠ 0 := fun j hj => by
            by_cases hjm : j < b.m
            · have := opn_none b.T 0 b.m hz.1 j hjm
              rwa [Nat.zero_add] at this
            · have := opn_none b.T b.m (b.n - b.m) hz.2 (j - b.m) (by rw [HR.out.2.hn]; omega)
              rwa [show b.m + (j - b.m) = j by omega] at this
          have hE : E0 W wr p b m won won (won + len) := HR.out
          clear HR
          have HE := Lib.hid hE
          have hwn : winA b (won : Int) = (0, 0, false) := by
            unfold winA
            rw [show inB b (won : Int) = false from decide_eq_false (by rw [HE.out.2.hn]; omega), Bool.false_and]
            rfl
          have hst0 : mayB b 0 = false := by
            cases hmb : mayB b 0
            · rfl
            · have h9 := mayR_of (b := b) (r := 0) (hs := r0) hmb
              exact absurd h9.2.1 (hall 0 (by rw [← HE.out.2.hn]; exact h9.1))
          have hs1 : startA b 0 = 0 := by unfold startA; rw [hst0]; rfl
          have hcw := winner_any (Lib.hid HE.out.1) (fun j _ => Nat.lt_of_le_of_lt (HE.out.2.bi.len j) (by omega)) HE.out.2.bi.win (won : Int)
          rw [hwn] at hcw
          dsimp only at hcw
          have hcf := fun W' (hW : AB W W' p b) => finished_any (Lib.hid hW)
          have ho0 : ((b.orr : Int) == 0) = true := by rw [hz.2]; rfl
          have hcd := fun W' (hW : AB W W' p b) => dead_any (Lib.hid hW)
          have hcs := fun W' (hW : AB W W' p b) => start_any (Lib.hid hW) (fun j _ => Nat.lt_of_le_of_lt (HE.out.2.bi.len j) (by omega)) 0 1 99
          rw [ho0] at hcf
          rw [HE.out.2.dead] at hcd
          rw [hs1] at hcs
          have HCW := Lib.hid hcw
          have HCF := Lib.hid hcf
          have HCD := Lib.hid hcd
          have HCS := Lib.hid hcs
          clear hwn hst0 hs1 hcw hcf hcd hcs ho0 hz hall hE
          obtain ⟨hw1, hw2, hw3, hw4⟩ := HW.out
          go_wp2_with (fail)
          refine HCW.out.mono ?_
          rintro e w8 ⟨rfl, m8, rfl⟩
          have HAB := Lib.hid (HE.out.1.below ⟨rfl, rfl, rfl, Nat.le_refl _, fun _ _ => rfl⟩ : AB W (wr.drewN m8) p b)
          go_wp2_with (fail)
          refine (HCF.out _ HAB.out).mono ?_
          rintro e w' ⟨rfl, rfl⟩
          go_wp2_with (fail)
          refine (HCD.out _ HAB.out).mono ?_
          rintro e w' ⟨rfl, rfl⟩
          go_wp2_with (fail)
          refine (HCS.out _ HAB.out).mono ?_
          rintro e w9 ⟨rfl, H9⟩
          have HF := Lib.hid H9.out.1.bel
          clear H9
          go_wp2
          go_ret
          exact ⟨rfl, HF.out⟩

set_option maxRecDepth 100000 in
theorem contractUpto (H : Type) (enc : TypeId × Value → H) (W : World) (base : Nat) (args : Array Value) (ds gs : List (DataW H)) (before : List MemPlace)
    (hval : ∀ (j : Nat) t v, Try.f4.params[j]? = some t → args[j]? = some v → Value.okWide Try.prog W .any base t v)
    (hW : DataW.Whole enc Try.prog Try.f4.params.toList Rows.attemptsEndsSpec.vars false W args.toList ds gs before)
    (hz : (DataW.weightsEach Try.prog (Try.f4.params.toList ++ []) (ds ++ gs)).all (· ≤ reachBytes) = true) (hk : Rows.uptoSmall H (ds ++ gs) = true) :
    Calls Try.prog 4 args W fun e W' => ∃ v, e = .returned v ∧ Rows.attemptsEndsSpec.post enc Try.prog Try.f4 false true false false W args v W' := by
  have hW' := hW
  obtain ⟨p, q, hA0, hV, rfl, hfz, hnd⟩ := hW
  have hA : DataW.TrodAll enc Try.prog W 0 (fun _ => true) true Try.f4.params.toList args.toList ds p := hA0
  rw [Try.params4] at hA hval hz
  obtain ⟨v0, vs0, d0, ds0, p0, q0, hargs, rfl, rfl, h0, r0⟩ := trodAll_cons hA
  obtain ⟨v1, vs1, d1, ds1, p1, q1, rfl, rfl, rfl, h1, r1⟩ := trodAll_cons r0
  obtain ⟨v2, vs2, d2, ds2, p2, q2, rfl, rfl, rfl, h2, r2⟩ := trodAll_cons r1
  obtain ⟨rfl, rfl, rfl⟩ := trodAll_nil r2
  obtain rfl : args = #[v0, v1, v2] := by cases args; simp_all
  obtain ⟨rfl, rfl⟩ := trodVars_none hV
  obtain ⟨x0, rfl, rfl, rfl, w0⟩ := open_int Try.underlying3 (hval 0 3 v0 rfl rfl) h0
  have b0 := i64_of_wf w0
  obtain ⟨x1, rfl, rfl, rfl, w1⟩ := open_int Try.underlying3 (hval 1 3 v1 rfl rfl) h1
  have b1 := i64_of_wf w1
  obtain ⟨A, len, cap, zs, rfl, hl9, hzl, hS, _, hd9⟩ := open_int_arg Try.underlying27 Try.underlying3 (by kernel_rfl) (hval 2 27 v2 rfl rfl) h2
  have hlen : len ≤ 1048576 := by
    rcases hd9 with ⟨_, h9, _⟩ | h9
    · omega
    · have h := of_decide_eq_true hk
      rw [h9] at h
      have hb := bulk_len (H := H) (lits .i64 (zs.take len))
      have hbl : (lits (H := H) .i64 (zs.take len)).length = len := by simp [lits]; omega
      simp only [List.append_nil, List.cons_append, List.nil_append, Rows.uptoBulkAll, Rows.uptoBulk] at h
      omega
  clear hA0
  refine (walk x0 x1 A len cap zs W hlen hS).mono fun e W' ⟨he, hb⟩ => ?_
  subst he
  exact ⟨_, rfl, law_end hW' rfl rfl hb laidOut (by kernel_rfl) (by kernel_rfl) Try.underlying4⟩

theorem reads (os : Os) {H : Type} (enc : TypeId × Value → H) : ∃ places, DataW.whole enc Try.prog ((World.holding Try.prog os ⟨#[], #[], []⟩).forCall (fun _ _ => 0) ⟨#[], #[.int .i64 0, .int .i64 0, .slice none 0 0], []⟩).memory Try.f4.params.toList Rows.attemptsEndsSpec.vars false [Value.int .i64 0, Value.int .i64 0, Value.slice none 0 0] 8 = some ([.lit (.int .i64 0), .lit (.int .i64 0), .nil], [], places) :=
  ⟨[], by kernel_rfl⟩

set_option maxRecDepth 100000 in
theorem lifted (os : Os) (started : os.Started) (H : Type) (enc : TypeId × Value → H) (F : Stop.Interp) :
    ReturnsInHanded {} Try.checked os 4 .any ((Rows.OpenSpec.upto Rows.attemptsEndsSpec).preRow enc Try.prog Try.f4 Rows.attemptsEndsUptoRow.domain false Rows.attemptsEndsUptoRow.laid) (((Rows.OpenSpec.upto Rows.attemptsEndsSpec).at F).post enc Try.prog Try.f4 false true false false) := by
  obtain ⟨places, hx⟩ := reads os enc
  have laid_met : laidMet Try.prog Rows.attemptsEndsUptoRow.laid ((World.holding Try.prog os ⟨#[], #[], []⟩).forCall (fun _ _ => 0) ⟨#[], #[.int .i64 0, .int .i64 0, .slice none 0 0], []⟩).memory := ⟨[], rfl, List.nodup_nil, fun _ _ h => by cases h⟩
  refine returnsInHanded_of_row (C := Try.checked) (s := Rows.OpenSpec.upto Rows.attemptsEndsSpec) own started (by kernel_rfl) Try.func4
    (witness_row_at (enc := enc) (C := Try.checked) false (World.holding Try.prog os ⟨#[], #[], []⟩) #[.int .i64 0, .int .i64 0, .slice none 0 0] rfl (by kernel_rfl) (by kernel_rfl) (by kernel_rfl)
      (OpenSpec.preRow_of_cond 8 hx (by kernel_rfl) (fun k hk => by cases hk; kernel_rfl) (by kernel_rfl) laid_met)) ?_
  intro W base args ds gs before hval hW _ hcond hz _ _ _
  exact contractUpto H enc W base args ds gs before hval hW hz (hcond _ rfl)

theorem said : Rows.AttemptsEndsUptoSaid :=
  OpenClaim.holds_of_cond 4 Try.f4 rfl rfl rfl rfl rfl rfl rfl ⟨rfl, rfl, rfl, rfl, rfl⟩ rfl rfl rfl rfl rfl (by kernel_rfl) Try.func4 (by kernel_rfl)
    (of_decide_eq_true (by kernel_rfl)) (by unfold Func.isWrapper; first | (rw [if_pos (by decide +kernel)]; kernel_rfl) | (rw [if_neg (by decide +kernel)]; exact ⟨rfl, rfl⟩))
    (fun os started H enc _ F => by rw [OpenClaim.pre_eq_preRow]; exact lifted os started H enc F)

end Go.Proofs.Ytkjbjihncpmmdaa.fnAttemptsEnds
