/- The reference's board of attempts: a list of tries; its cells; Winner. -/
import Derived.Test.YtapnlofklgknmaaAtmSt
import Derived.Test.YtapnlofklgknmaaAtmTh
import Derived.BigQuiet
namespace Go.Proofs.Ytapnlofklgknmaa
open Go.RowKit

/-- a try: its task, number, node, when it began, its state (0 running, 1 good, 2 failed, 3 full, 4 gone), whether it won -/
structure Tr where
  t : Int
  k : Int
  nd : Int
  bg : Int
  st : Int
  w : Bool
def trV (x : Tr) : List Value := [.int .i64 x.t, .int .i64 x.k, .int .i64 x.nd, .int .i64 x.bg, .int .i64 x.st, .bool x.w]
def trC (L : List Tr) : List Value := L.flatMap trV
theorem trC_len (L : List Tr) : (trC L).length = L.length * 6 := by
  induction L with
  | nil => rfl
  | cons a A ih => simp only [trC, trV, List.flatMap_cons, List.length_append, List.length_cons, List.length_nil] at ih ⊢; omega
theorem trC_app (A B : List Tr) : trC (A ++ B) = trC A ++ trC B := by simp [trC]
theorem trC_at : ∀ (L : List Tr) (i : Nat) (h : i < L.length) (q : Nat), q < 6 → (trC L)[i * 6 + q]? = (trV L[i])[q]?
  | [], i, h, _, _ => absurd h (Nat.not_lt_zero _)
  | a :: A, 0, _, q, hq => by
    rw [Nat.zero_mul, Nat.zero_add]
    show (trV a ++ trC A)[q]? = _
    rw [List.getElem?_append_left (by simpa [trV] using hq)]
    rfl
  | a :: A, i + 1, h, q, hq => by
    show (trV a ++ trC A)[(i + 1) * 6 + q]? = _
    rw [List.getElem?_append_right (by simp [trV]; omega), show (i + 1) * 6 + q - (trV a).length = i * 6 + q by simp [trV]; omega, trC_at A i (by simpa using h) q hq]
    rfl
/-- the reference's board -/
structure RB (B : Nat) (w : World) (p : Nat) (M R lim pat : Int) (L : List Tr) (v : Value) : Prop where
  box : w.ownsRow B 48 5 (.slice (some ⟨p, 0, none⟩) 1 1) 1 [.int .i64 M, .int .i64 R, .int .i64 lim, .int .i64 pat, v]
  row : w.ownsRow B 45 6 v L.length (trC L)
theorem RB.same {B : Nat} {w w' : World} {p : Nat} {M R lim pat : Int} {L : List Tr} {v : Value} (h : RB B w p M R lim pat L v) (hb : ∀ b e, Bears w b e → e = 48 ∨ e = 45 → w'.heap[b]? = w.heap[b]?) : RB B w' p M R lim pat L v :=
  ⟨own_same h.box fun g hg => hb g _ (own_bears h.box hg) (.inl rfl), own_same h.row fun g hg => hb g _ (own_bears h.row hg) (.inr rfl)⟩
theorem RB.below {B : Nat} {w w' : World} {p : Nat} {M R lim pat : Int} {L : List Tr} {v : Value} (h : RB B w p M R lim pat L v) (hb : Below w.heap.size w w') : RB B w' p M R lim pat L v :=
  h.same fun b e hB _ => hb.block b hB.lt
theorem RB.form {B : Nat} {w : World} {p : Nat} {M R lim pat : Int} {L : List Tr} {v : Value} (h : RB B w p M R lim pat L v) : ∃ a c, v = .slice a L.length c := by
  rcases h.row.2 with ⟨rfl, h0⟩ | ⟨g, cap, cur, rfl, _⟩
  · exact ⟨none, 0, by rw [h0]⟩
  · exact ⟨_, _, rfl⟩
theorem RB.cells {B : Nat} {w : World} {p : Nat} {M R lim pat : Int} {L : List Tr} {v : Value} (h : RB B w p M R lim pat L v) :
    w.cell? ⟨p, 0, none⟩ = some (.int .i64 M) ∧ w.cell? ⟨p, 1, none⟩ = some (.int .i64 R) ∧ w.cell? ⟨p, 2, none⟩ = some (.int .i64 lim) ∧ w.cell? ⟨p, 3, none⟩ = some (.int .i64 pat) ∧ w.cell? ⟨p, 4, none⟩ = some v :=
  ⟨h.box.cellAt 0 (by decide), h.box.cellAt 1 (by decide), h.box.cellAt 2 (by decide), h.box.cellAt 3 (by decide), h.box.cellAt 4 (by decide)⟩
theorem RB.try' {B : Nat} {w : World} {p : Nat} {M R lim pat : Int} {L : List Tr} {a : Option Addr} {c : Nat} (h : RB B w p M R lim pat L (.slice a L.length c)) (i : Nat) (hi : i < L.length) : ∃ g, a = some ⟨g, 0, none⟩ ∧
    w.cell? ⟨g, i * 6, none⟩ = some (.int .i64 L[i].t) ∧ w.cell? ⟨g, i * 6 + 1, none⟩ = some (.int .i64 L[i].k) ∧ w.cell? ⟨g, i * 6 + 2, none⟩ = some (.int .i64 L[i].nd) ∧ w.cell? ⟨g, i * 6 + 3, none⟩ = some (.int .i64 L[i].bg) ∧ w.cell? ⟨g, i * 6 + 4, none⟩ = some (.int .i64 L[i].st) ∧ w.cell? ⟨g, i * 6 + 5, none⟩ = some (.bool L[i].w) := by
  have hr := h.row
  obtain ⟨g, c', e, _, _⟩ := hr.form (by omega)
  injection e with e _ _
  subst e
  have k := fun q (hq : q < 6) => (h.row.cellAt (i * 6 + q) (show i * 6 + q < L.length * 6 by omega)).trans (trC_at L i hi q hq)
  exact ⟨g, rfl, k 0 (by omega), k 1 (by omega), k 2 (by omega), k 3 (by omega), k 4 (by omega), k 5 (by omega)⟩
def wonP (x : Int) (u : Tr) : Bool := decide (u.t = x) && u.w
/-- the place of the first such try, or -1 -/
def fstI (P : Tr → Bool) (L : List Tr) : Int := if L.findIdx P < L.length then (L.findIdx P : Int) else -1
theorem fstI_hit {P : Tr → Bool} {L : List Tr} {i : Nat} (hi : i < L.length) (h : ∀ j (hj : j < L.length), j < i → P L[j] = false) (hp : P L[i] = true) : fstI P L = (i : Int) := by
  have e : L.findIdx P = i := (List.findIdx_eq hi).2 ⟨hp, fun j hj => h j (by omega) hj⟩
  unfold fstI
  rw [e, if_pos hi]
theorem fstI_none {P : Tr → Bool} {L : List Tr} (h : ∀ j (hj : j < L.length), P L[j] = false) : fstI P L = -1 := by
  unfold fstI
  rw [if_neg]
  intro hlt
  have := List.findIdx_getElem (w := hlt)
  rw [h _ hlt] at this
  cases this
set_option maxHeartbeats 4000000 in
theorem rwin_any {B : Nat} {w : World} {p : Nat} {M R lim pat : Int} {L : List Tr} {v : Value} (h : Hid (RB B w p M R lim pat L v)) (hl : L.length ≤ 4398046511104) (x : Int) :
    Calls Try.prog 20 #[.pointer (some ⟨p, 0, none⟩), .int .i64 x] w fun e w' => e = .returned (.int .i64 (fstI (wonP x) L)) ∧ w = w' := by
  obtain ⟨a, c, rfl⟩ := h.out.form
  obtain ⟨N, hN⟩ : ∃ N, N = L.length := ⟨_, rfl⟩
  have HN := Lib.hid hN
  have c4 := h.out.cells.2.2.2.2
  rw [← hN] at c4 hl
  clear hN
  go_enter Try.func20, Try.ntmps20
  go_wp2
  go_loopw [5] (fun iv wr => ∃ i : Nat, i ≤ N ∧ iv = .int .i64 (i : Int) ∧ Hid (∀ j (hj : j < L.length), j < i → wonP x L[j] = false) ∧ wr = w) (fun iv _ => N - (intOf iv).toNat)
  case atStart => exact ⟨0, Nat.zero_le _, rfl, Lib.hid (fun j _ h0 => absurd h0 (Nat.not_lt_zero _)), rfl⟩
  case round =>
    obtain ⟨i, hi, rfl, HI, rfl⟩ := hrel
    by_cases hlt : i < N
    · have hiL : i < L.length := by have := HN.out; omega
      obtain ⟨g, rfl, t0, _, _, _, _, t5⟩ := h.out.try' i hiL
      obtain ⟨tt, htt⟩ : ∃ tt, tt = L[i].t := ⟨_, rfl⟩
      obtain ⟨ww, hww⟩ : ∃ ww, ww = L[i].w := ⟨_, rfl⟩
      rw [← htt] at t0
      rw [← hww] at t5
      have hP : wonP x L[i] = (decide (tt = x) && ww) := by unfold wonP; rw [htt, hww]
      have HP := Lib.hid hP
      have hi1 : i + 1 ≤ N := hlt
      have HN2 := fun hf => Lib.hid (show ∀ j (hj : j < L.length), j < i + 1 → wonP x L[j] = false from fun j hj h0 => by
        by_cases e : j < i
        · exact HI.out j hj e
        · obtain rfl : j = i := by omega
          exact HP.out.trans hf)
      have HF := Lib.hid (fun hp => fstI_hit hiL (fun j hj h0 => HI.out j hj h0) (HP.out.trans hp))
      clear hP htt hww HI
      by_cases e1 : tt = x
      · subst e1
        cases ww
        · have HN3 := HN2 (by simp)
          clear HN2 HF
          go_wp2
          go_roundw
          case rel => exact ⟨i + 1, hi1, by first | rfl | go_num, HN3, trivial⟩
          case measure => simp [intOf]; omega
        · have HF3 := Lib.hid (HF.out (by simp))
          clear HN2 HF
          go_wp2
          go_ret
          exact ⟨by rw [HF3.out]; first | rfl | trivial | go_num, by first | rfl | trivial⟩
      · have HN3 := HN2 (by simp [e1])
        have e2 : (tt == x) = false := by simpa using e1
        clear HN2 HF
        go_wp2
        go_roundw
        case rel => exact ⟨i + 1, hi1, by first | rfl | go_num, HN3, trivial⟩
        case measure => simp [intOf]; omega
    · have HF := Lib.hid (fstI_none (P := wonP x) fun j hj => HI.out j hj (by have := HN.out; omega))
      go_wp2
      go_ret
      exact ⟨by rw [HF.out]; first | rfl | trivial | go_num, by first | rfl | trivial⟩
end Go.Proofs.Ytapnlofklgknmaa
