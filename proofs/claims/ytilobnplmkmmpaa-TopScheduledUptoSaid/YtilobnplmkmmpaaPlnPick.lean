/- Package plan: Pick, as a function of how far the tasks are. -/
import Derived.Test.YtilobnplmkmmpaaPlnFar
namespace Go.Proofs.Ytilobnplmkmmpaa
open Go.RowKit

/-- a task that may begin: its number, the words of where its data is (as many as h), and the slice that holds them -/
structure Tsk where
  id : Int
  a : Option Addr
  h : Nat
  c : Nat
  x : Nat → Nat
  y : Nat → Nat
noncomputable def Tsk.far (t : Tsk) (a b : Nat) : Int := farN (fun i => distO (plc a b) (plc (t.x i) (t.y i))) t.h
def tkC (t : Tsk) : List Value := [.int .i64 t.id, .slice t.a t.h t.c]
/-- the tasks' data lies below B -/
def Held (w : World) (B : Nat) (t : Tsk) : Prop := t.h ≤ 1048576 ∧ SlOf w B t.a t.h fun i => .complex .f64 (t.x i) (t.y i)
theorem Held.below {w w' : World} {B : Nat} {t : Tsk} (h : Held w B t) (hb : Below B w w') : Held w' B t := ⟨h.1, h.2.below hb⟩
theorem Held.up {w : World} {B B' : Nat} {t : Tsk} (h : Held w B t) (hb : B ≤ B') : Held w B' t := ⟨h.1, fun i hi => by
  obtain ⟨g, o, e, hB, hc⟩ := h.2 i hi
  exact ⟨g, o, e, by omega, hc⟩⟩
/-- a slice of tasks, below B -/
def Tks (w : World) (B : Nat) (A : Option Addr) (n : Nat) (T : Nat → Tsk) : Prop := ∀ i, i < n → Held w B (T i) ∧ ∃ g o, A = some ⟨g, o, none⟩ ∧ g < B ∧ w.cell? ⟨g, o + i * 2, none⟩ = some (.int .i64 (T i).id) ∧ w.cell? ⟨g, o + i * 2 + 1, none⟩ = some (.slice (T i).a (T i).h (T i).c)
theorem Tks.below {w w' : World} {B : Nat} {A : Option Addr} {n : Nat} {T : Nat → Tsk} (h : Tks w B A n T) (hb : Below B w w') : Tks w' B A n T := fun i hi => by
  obtain ⟨h0, g, o, e, hB, h1, h2⟩ := h i hi
  exact ⟨h0.below hb, g, o, e, hB, (hb.cell (p := ⟨g, _, none⟩) hB).trans h1, (hb.cell (p := ⟨g, _, none⟩) hB).trans h2⟩
theorem tsk_far (t : Tsk) (a b : Nat) (w : World) (h : Held w w.heap.size t) :
    Calls Try.prog 18 #[.agg #[.int .i64 t.id, .slice t.a t.h t.c], .complex .f64 a b] w fun e w' => e = .returned (.int .i64 (t.far a b)) ∧ Below w.heap.size w w' :=
  far_any t.id t.a t.h t.c a b t.x t.y w h.1 _ rfl h.2
/-- the best of the first n, and how far it is -/
def pckN (F : Nat → Int) : Nat → Int × Int
  | 0 => (-1, -1)
  | n + 1 => if (pckN F n).1 = -1 ∨ nearB (F n) (pckN F n).2 = true then ((n : Int), F n) else pckN F n
theorem pckN_yes {F : Nat → Int} {n : Nat} {b l : Int} (hb : (pckN F n).1 = b) (hl : (pckN F n).2 = l) (h : b = -1 ∨ nearB (F n) l = true) : pckN F (n + 1) = ((n : Int), F n) := by show (if _ then _ else _) = _; rw [hb, hl, if_pos h]
theorem pckN_no {F : Nat → Int} {n : Nat} {b l : Int} (hb : (pckN F n).1 = b) (hl : (pckN F n).2 = l) (h : ¬ b = -1) (h' : nearB (F n) l = false) : pckN F (n + 1) = (b, l) := by
  show (if _ then _ else _) = _
  rw [hb, hl, if_neg (by simp [h, h'])]
  exact Prod.ext hb hl
set_option maxRecDepth 100000 in
set_option maxHeartbeats 2000000 in
theorem pick_any (A : Option Addr) (n cap : Nat) (T : Nat → Tsk) (a b : Nat) (w : World) (hn : n ≤ 1048576) (F : Nat → Int) (hF : F = fun i => (T i).far a b) (hT : Tks w w.heap.size A n T) :
    Calls Try.prog 7 #[.slice A n cap, .complex .f64 a b] w fun e w' => e = .returned (.int .i64 (pckN F n).1) ∧ Below w.heap.size w w' := by
  have HF := Lib.hid hF
  have HT := Lib.hid hT
  clear hF hT
  go_enter Try.func7, Try.ntmps7
  go_wp2
  go_loopw [5, 6, 12] (fun b l i wr => ∃ k : Nat, k ≤ n ∧ i = .int .i64 (k : Int) ∧ ∃ b0 l0 : Int, b = .int .i64 b0 ∧ l = .int .i64 l0 ∧ Hid ((pckN F k).1 = b0 ∧ (pckN F k).2 = l0 ∧ Below w.heap.size w wr)) (fun _ _ i _ => n - (intOf i).toNat)
  case atStart => exact ⟨0, Nat.zero_le _, rfl, _, _, rfl, rfl, Lib.hid ⟨rfl, rfl, Below.refl _ _⟩⟩
  case round =>
    obtain ⟨k, hkn, rfl, b0, l0, rfl, rfl, HI⟩ := hrel
    by_cases hlt : k < n
    · obtain ⟨h0, g, off, rfl, _, c1, c2⟩ := HT.out.below HI.out.2.2 k hlt
      have hf : ∀ w1, Below wr.heap.size wr w1 → Calls Try.prog 18 #[.agg #[.int .i64 (T k).id, .slice (T k).a (T k).h (T k).c], .complex .f64 a b] w1 fun e w' => e = .returned (.int .i64 (F k)) ∧ Below w1.heap.size w1 w' := fun w1 hb => by
        rw [HF.out]
        exact tsk_far (T k) a b w1 (((h0.up HI.out.2.2.size).below hb).up hb.size)
      have hn' := fun w1 => nearer_any (F k) l0 w1
      clear h0
      have hal := (Below.refl wr.heap.size wr).alloc (Nat.le_refl _) (.cells #[.int .i64 (T k).id, .slice (T k).a (T k).h (T k).c] 31)
      have hf1 := hf _ hal
      have HBel := Lib.hid (HI.out.2.2.trans (hal.mono HI.out.2.2.size))
      have HSz := Lib.hid (Nat.le_trans HI.out.2.2.size hal.size)
      clear hf hal
      by_cases hb : b0 = -1
      · have hs := Lib.hid (pckN_yes HI.out.1 HI.out.2.1 (.inl hb))
        go_wp2_with (fail)
        refine hf1.mono ?_
        rintro e w2 ⟨rfl, hb2⟩
        have HB2 := Lib.hid (HBel.out.trans (hb2.mono HSz.out))
        clear hb2 hf1 hn' HI HBel HSz
        go_wp2
        go_roundw
        case rel => exact ⟨k + 1, by omega, by first | rfl | go_num, _, _, rfl, rfl, Lib.hid ⟨by rw [hs.out], by rw [hs.out], HB2.out⟩⟩
        case measure => simp [intOf]; omega
      · cases hq : nearB (F k) l0 with
        | true =>
          have hs := Lib.hid (pckN_yes HI.out.1 HI.out.2.1 (.inr hq))
          rw [hq] at hn'
          clear hq
          go_wp2_with (fail)
          refine hf1.mono ?_
          rintro e w2 ⟨rfl, hb2⟩
          have HB2 := Lib.hid (HBel.out.trans (hb2.mono HSz.out))
          clear hb2 hf1 HI HBel HSz
          go_wp2_with (fail)
          refine (hn' _).mono ?_
          rintro e w' ⟨rfl, rfl⟩
          go_wp2
          go_roundw
          case rel => exact ⟨k + 1, by omega, by first | rfl | go_num, _, _, rfl, rfl, Lib.hid ⟨by rw [hs.out], by rw [hs.out], HB2.out⟩⟩
          case measure => simp [intOf]; omega
        | false =>
          have hs := Lib.hid (pckN_no HI.out.1 HI.out.2.1 hb hq)
          rw [hq] at hn'
          clear hq
          go_wp2_with (fail)
          refine hf1.mono ?_
          rintro e w2 ⟨rfl, hb2⟩
          have HB2 := Lib.hid (HBel.out.trans (hb2.mono HSz.out))
          clear hb2 hf1 HI HBel HSz
          go_wp2_with (fail)
          refine (hn' _).mono ?_
          rintro e w' ⟨rfl, rfl⟩
          go_wp2
          go_roundw
          case rel => exact ⟨k + 1, by omega, by first | rfl | go_num, _, _, rfl, rfl, Lib.hid ⟨by rw [hs.out], by rw [hs.out], HB2.out⟩⟩
          case measure => simp [intOf]; omega
    · obtain rfl : k = n := by omega
      have e := HI.out.1
      go_wp2
      go_ret
      exact ⟨by rw [e]; rfl, HI.out.2.2⟩
end Go.Proofs.Ytilobnplmkmmpaa
