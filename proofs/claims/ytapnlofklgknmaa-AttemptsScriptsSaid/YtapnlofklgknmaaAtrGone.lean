/- The reference's board of attempts: cells set; Gone. -/
import Derived.Test.YtapnlofklgknmaaAtrStart
namespace Go.Proofs.Ytapnlofklgknmaa
open Go.RowKit

theorem trC_mod {f : Tr → Tr} {q : Nat} {u : Value} (hq : q < 6) (hf : ∀ t, (trV t).set q u = trV (f t)) : ∀ (L : List Tr) (i : Nat) (_ : i < L.length), (trC L).set (i * 6 + q) u = trC (L.modify i f)
  | [], i, h => absurd h (Nat.not_lt_zero _)
  | a :: A, 0, _ => by
    show (trV a ++ trC A).set (0 * 6 + q) u = trV (f a) ++ trC A
    rw [Nat.zero_mul, Nat.zero_add, List.set_append_left _ _ (by simpa [trV] using hq), hf]
  | a :: A, i + 1, h => by
    show (trV a ++ trC A).set ((i + 1) * 6 + q) u = trV a ++ trC (A.modify i f)
    rw [List.set_append_right _ _ (by simp [trV]; omega), show (i + 1) * 6 + q - (trV a).length = i * 6 + q by simp [trV]; omega, trC_mod hq hf A i (by simpa using h)]
def stTr (s : Int) (t : Tr) : Tr := { t with st := s }
def wTr (b : Bool) (t : Tr) : Tr := { t with w := b }
section
variable {B : Nat} {w : World} {p : Nat} {M R lim pat : Int} {L : List Tr} {g c : Nat}
theorem rb_set {f : Tr → Tr} {q : Nat} {u : Value} (h : RB B w p M R lim pat L (.slice (some ⟨g, 0, none⟩) L.length c)) (hq : q < 6) (hf : ∀ t, (trV t).set q u = trV (f t)) (i : Nat) (hi : i < L.length) :
    RB B (w.setCell ⟨g, i * 6 + q, none⟩ u) p M R lim pat (L.modify i f) (.slice (some ⟨g, 0, none⟩) L.length c) ∧ RF w (w.setCell ⟨g, i * 6 + q, none⟩ u) ∧ Below B w (w.setCell ⟨g, i * 6 + q, none⟩ u) ∧ w.frozen? ⟨g, i * 6 + q, none⟩ = false := by
  have hty := own_bears h.row rfl
  refine ⟨⟨own_same h.box fun b hb => Below.heap_setCell _ _ _ _ fun eb => ?_, ?_⟩, fun b e hb h1 h2 => Below.heap_setCell _ _ _ _ fun eb => bears_apart hb hty h2 eb, (Below.refl B w).setCell (p := ⟨g, _, none⟩) (h.row.lt g rfl).1 _, h.row.frozenAt _⟩
  · subst eb
    exact bears_apart (own_bears h.box hb) hty (by decide) rfl
  · rw [List.length_modify, ← trC_mod hq hf L i hi]
    exact (h.row.stored (i * 6 + q) u).1
end
def lvR (nd : Int) (t : Tr) : Tr := if t.st = 0 ∧ t.nd = nd then { t with st := 4 } else t
def lvRK (L : List Tr) (nd : Int) (j : Nat) : List Tr := (L.take j).map (lvR nd) ++ L.drop j
theorem lvRK_len (L : List Tr) (nd : Int) (j : Nat) : (lvRK L nd j).length = L.length := by simp [lvRK]; omega
theorem lvRK_all (L : List Tr) (nd : Int) : lvRK L nd L.length = L.map (lvR nd) := by simp [lvRK]
theorem lvRK_get (A : List Tr) (nd : Int) (j i : Nat) (h : i < A.length) : (lvRK A nd j)[i]? = some (if i < j then lvR nd A[i] else A[i]) := by
  unfold lvRK
  by_cases hij : i < j
  · rw [List.getElem?_append_left (by simp; omega)]
    simp [hij, h]
  · rw [List.getElem?_append_right (by simp; omega)]
    simp only [List.length_map, List.length_take, hij, if_false]
    rw [List.getElem?_drop, List.getElem?_eq_some_iff]
    refine ⟨by omega, ?_⟩
    congr 1
    omega
theorem lvRK_at (L : List Tr) (nd : Int) (j : Nat) (h : j < L.length) (h2 : j < (lvRK L nd j).length) : (lvRK L nd j)[j] = L[j] := by
  have k := lvRK_get L nd j j h
  rw [List.getElem?_eq_getElem h2, if_neg (Nat.lt_irrefl j)] at k
  exact Option.some.inj k
theorem lvRK_succ (L : List Tr) (nd : Int) (j : Nat) (h : j < L.length) : lvRK L nd (j + 1) = (lvRK L nd j).modify j (lvR nd) := by
  refine List.ext_getElem? fun i => ?_
  rw [List.getElem?_modify]
  by_cases hi : i < L.length
  · rw [lvRK_get L nd (j + 1) i hi, lvRK_get L nd j i hi]
    by_cases e : j = i
    · subst e
      simp
    · by_cases e2 : i < j
      · simp [e, e2, show i < j + 1 by omega]
      · simp [e, e2, show ¬ i < j + 1 by omega]
  · rw [List.getElem?_eq_none (by rw [lvRK_len]; omega), List.getElem?_eq_none (by rw [lvRK_len]; omega)]
    rfl
theorem lvRK_by (L : List Tr) (nd : Int) (j : Nat) (h : j < L.length) (f : Tr → Tr) (hf : f L[j] = lvR nd L[j]) : lvRK L nd (j + 1) = (lvRK L nd j).modify j f := by
  rw [lvRK_succ L nd j h]
  refine List.ext_getElem? fun i => ?_
  rw [List.getElem?_modify, List.getElem?_modify]
  by_cases e : j = i
  · subst e
    rw [lvRK_get L nd j j h, if_neg (Nat.lt_irrefl j)]
    simp [hf]
  · simp [e]
theorem lvRK_stay (L : List Tr) (nd : Int) (j : Nat) (h : j < L.length) (hf : lvR nd L[j] = L[j]) : lvRK L nd (j + 1) = lvRK L nd j := by
  rw [lvRK_by L nd j h id hf.symm]
  refine List.ext_getElem? fun i => ?_
  rw [List.getElem?_modify]
  by_cases e : j = i <;> simp [e]
theorem rf_trans {w w1 w2 : World} (h : RF w w1) (k : RF w1 w2) : RF w w2 := fun b e hb h1 h2 => by
  have q := h b e hb h1 h2
  exact (k b e (by obtain ⟨cs, z⟩ := hb; exact ⟨cs, q.trans z⟩) h1 h2).trans q
section
variable {B : Nat} {w : World} {p : Nat} {M R lim pat : Int} {L : List Tr} {v : Value}
set_option maxHeartbeats 8000000 in
theorem rgone_any (h : Hid (RB B w p M R lim pat L v)) (hl : L.length ≤ 4398046511104) (nd : Int) :
    Calls Try.prog 16 #[.pointer (some ⟨p, 0, none⟩), .int .i64 nd] w fun e w' => e = .returned (.tuple #[]) ∧ RB B w' p M R lim pat (L.map (lvR nd)) v ∧ RF w w' ∧ Below B w w' := by
  obtain ⟨a, c, rfl⟩ := h.out.form
  obtain ⟨N, hN⟩ : ∃ N, N = L.length := ⟨_, rfl⟩
  have HN := Lib.hid hN
  have c4 := h.out.cells.2.2.2.2
  rw [← hN] at c4 hl
  clear hN
  go_enter Try.func16, Try.ntmps16
  go_wp2
  go_loopw [4] (fun iv wr => ∃ i : Nat, i ≤ N ∧ iv = .int .i64 (i : Int) ∧ Hid (RB B wr p M R lim pat (lvRK L nd i) (.slice a N c) ∧ RF w wr ∧ Below B w wr)) (fun iv _ => N - (intOf iv).toNat)
  case atStart => exact ⟨0, Nat.zero_le _, rfl, Lib.hid ⟨by rw [HN.out, show lvRK L nd 0 = L by simp [lvRK]]; exact h.out, fun _ _ _ _ _ => rfl, Below.refl _ _⟩⟩
  case round =>
    obtain ⟨i, hi, rfl, HI⟩ := hrel
    have hlk : (lvRK L nd i).length = N := by rw [lvRK_len, HN.out]
    have hrb := HI.out.1
    rw [← hlk] at hrb
    have c5 := HI.out.1.cells.2.2.2.2
    by_cases hil : i < N
    · have hiL : i < L.length := by have := HN.out; omega
      have hik : i < (lvRK L nd i).length := by omega
      obtain ⟨g, rfl, t0, t1, t2, t3, t4, t5⟩ := hrb.try' i hik
      rw [lvRK_at L nd i hiL hik] at t2 t4
      have hset := rb_set (u := .int .i64 4) (q := 4) (f := stTr 4) hrb (by decide) (fun _ => rfl) i hik
      rw [hlk] at hset
      have HSET := Lib.hid hset
      have z2 := hset.2.2.2
      have HBY := Lib.hid (lvRK_by L nd i hiL (stTr 4))
      have HST := Lib.hid (lvRK_stay L nd i hiL)
      obtain ⟨X, hX⟩ : ∃ X, X = L[i].nd := ⟨_, rfl⟩
      obtain ⟨S, hS⟩ : ∃ S, S = L[i].st := ⟨_, rfl⟩
      have HX := Lib.hid (And.intro hX hS)
      rw [← hX] at t2
      rw [← hS] at t4
      have hi1 : i + 1 ≤ N := hil
      clear hset hX hS hrb t0 t1 t3 t5 hlk hik
      by_cases e1 : X = nd
      · by_cases e2 : S = 0
        · have HN2 := Lib.hid (show RB B (wr.setCell ⟨g, i * 6 + 4, none⟩ (.int .i64 4)) p M R lim pat (lvRK L nd (i + 1)) (.slice (some ⟨g, 0, none⟩) N c) ∧ RF w (wr.setCell ⟨g, i * 6 + 4, none⟩ (.int .i64 4)) ∧ Below B w (wr.setCell ⟨g, i * 6 + 4, none⟩ (.int .i64 4)) from ⟨by
            rw [HBY.out (by unfold lvR stTr; rw [if_pos ⟨HX.out.2.symm.trans e2, HX.out.1.symm.trans e1⟩])]
            exact HSET.out.1, rf_trans HI.out.2.1 HSET.out.2.1, HI.out.2.2.trans HSET.out.2.2.1⟩)
          subst e1 e2
          clear HI HSET HBY HST HX
          go_wp2
          go_roundw
          case rel => exact ⟨i + 1, hi1, by first | rfl | go_num, HN2⟩
          case measure => simp [intOf]; omega
        · have HN2 := Lib.hid (show RB B wr p M R lim pat (lvRK L nd (i + 1)) (.slice (some ⟨g, 0, none⟩) N c) ∧ RF w wr ∧ Below B w wr from ⟨by
            rw [HST.out (by unfold lvR; rw [if_neg (fun e => e2 (HX.out.2.trans e.1))])]
            exact HI.out.1, HI.out.2⟩)
          have e3 : (S == 0) = false := by simpa using e2
          subst e1
          clear HI HSET HBY HST HX
          go_wp2
          go_roundw
          case rel => exact ⟨i + 1, hi1, by first | rfl | go_num, HN2⟩
          case measure => simp [intOf]; omega
      · have HN2 := Lib.hid (show RB B wr p M R lim pat (lvRK L nd (i + 1)) (.slice (some ⟨g, 0, none⟩) N c) ∧ RF w wr ∧ Below B w wr from ⟨by
          rw [HST.out (by unfold lvR; rw [if_neg (fun e => e1 (HX.out.1.trans e.2))])]
          exact HI.out.1, HI.out.2⟩)
        have e3 : (X == nd) = false := by simpa using e1
        clear HI HSET HBY HST HX
        go_wp2
        go_roundw
        case rel => exact ⟨i + 1, hi1, by first | rfl | go_num, HN2⟩
        case measure => simp [intOf]; omega
    · obtain rfl : i = N := by omega
      have HF := Lib.hid (show RB B wr p M R lim pat (L.map (lvR nd)) (.slice a L.length c) ∧ RF w wr ∧ Below B w wr from ⟨by rw [← lvRK_all, ← HN.out]; exact HI.out.1, HI.out.2⟩)
      go_wp2
      go_end0
      exact ⟨rfl, HF.out⟩
end
end Go.Proofs.Ytapnlofklgknmaa
