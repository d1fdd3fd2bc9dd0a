/- The contracts of where.Spot and Turn, of the reference's Dist and Turn, and of the laws' own small functions. -/
import Derived.Test.YtahkelgcamcfmaaWhereFnsB
import Derived.Test.YtahkelgcamcfmaaQuiet
import Derived.Laws.Bits128
namespace Go.Proofs.Ytahkelgcamcfmaa
open Go.RowKit

theorem refdist_any (a b c d : Nat) (w : World) :
    Calls Try.prog 19 #[.complex .f64 a b, .complex .f64 c d] w fun e w' => e = .returned (.int .i64 (distO (plc a b) (plc c d))) ∧ w = w' := by
  cases hp : plc a b with
  | none =>
    have H := Lib.hid hp
    clear hp
    cases hq : plc c d with
    | none =>
      have K := Lib.hid hq
      clear hq
      go_enter Try.func19, Try.ntmps19
      go_wp2_with (fail)
      refine (refplace_no _ _ _ H.out).mono ?_
      rintro e w' ⟨rfl, rfl⟩
      go_wp2_with (fail)
      refine (refplace_no _ _ _ K.out).mono ?_
      rintro e w' ⟨rfl, rfl⟩
      go_wp2_with (fail)
      go_ret
      exact ⟨rfl, rfl⟩
    | some q =>
      have K := Lib.hid hq
      clear hq
      go_enter Try.func19, Try.ntmps19
      go_wp2_with (fail)
      refine (refplace_no _ _ _ H.out).mono ?_
      rintro e w' ⟨rfl, rfl⟩
      go_wp2_with (fail)
      refine (refplace_yes _ _ _ _ K.out).mono ?_
      rintro e w' ⟨rfl, rfl⟩
      go_wp2_with (fail)
      go_ret
      exact ⟨rfl, rfl⟩
  | some p =>
    have H := Lib.hid hp
    have bp := plc_pt hp
    clear hp
    cases hq : plc c d with
    | none =>
      have K := Lib.hid hq
      clear hq
      go_enter Try.func19, Try.ntmps19
      go_wp2_with (fail)
      refine (refplace_yes _ _ _ _ H.out).mono ?_
      rintro e w' ⟨rfl, rfl⟩
      go_wp2_with (fail)
      refine (refplace_no _ _ _ K.out).mono ?_
      rintro e w' ⟨rfl, rfl⟩
      go_wp2_with (fail)
      go_ret
      exact ⟨rfl, rfl⟩
    | some q =>
      have K := Lib.hid hq
      have bq := plc_pt hq
      clear hq
      obtain ⟨x, y⟩ := p
      obtain ⟨u, v⟩ := q
      obtain ⟨⟨x1, x2⟩, y1, y2⟩ := bp
      obtain ⟨⟨u1, u2⟩, v1, v2⟩ := bq
      simp only at x1 x2 y1 y2 u1 u2 v1 v2
      have e0 : (2000 : Int).natAbs * (2000 : Int).natAbs = 4000000 := rfl
      have b1 := mul_in (x := x - u) (c := 2000) (by omega)
      have b2 := mul_in (x := y - v) (c := 2000) (by omega)
      have p1 := self_pos (x - u)
      have p2 := self_pos (y - v)
      have b3 : (x - u) * (x - u) ≤ 4000000 := by omega
      have b4 : (y - v) * (y - v) ≤ 4000000 := by omega
      clear b1 b2 e0
      go_enter Try.func19, Try.ntmps19
      go_wp2_with (fail)
      refine (refplace_yes _ _ _ _ H.out).mono ?_
      rintro e w' ⟨rfl, rfl⟩
      go_wp2_with (fail)
      refine (refplace_yes _ _ _ _ K.out).mono ?_
      rintro e w' ⟨rfl, rfl⟩
      go_wp2_with (fail)
      go_ret
      exact ⟨rfl, rfl⟩

/-- so many quarters about the middle -/
def rot (p : Int × Int) : Nat → Int × Int
  | 0 => p
  | k + 1 => (-(rot p k).2, (rot p k).1)
theorem rot_pt {p : Int × Int} (h : Pt p) (k : Nat) : Pt (rot p k) := by
  induction k with
  | zero => exact h
  | succ k ih =>
    obtain ⟨⟨a, b⟩, c, d⟩ := ih
    exact ⟨⟨by show -1000 ≤ -(rot p k).2; omega, by show -(rot p k).2 ≤ 1000; omega⟩, a, b⟩
theorem one_fl : Fl 4607182418800017408 1 := by
  have e : Ieee.double.read 4607182418800017408 = .number false 4503599627370496 (-((52 : Nat) : Int)) := by decide +kernel
  unfold Fl; rw [e]
  exact ⟨false, _, 52, rfl, by decide +kernel⟩
theorem nought_fl : Fl 0 0 := by
  have e : Ieee.double.read 0 = .number false 0 (-((1074 : Nat) : Int)) := by decide +kernel
  unfold Fl; rw [e]
  exact ⟨false, _, 1074, rfl, by rw [Int.zero_mul]; rfl⟩
theorem times_i {a b : Nat} {p : Int × Int} (ha : Fl a p.1) (hb : Fl b p.2) (hp : Pt p) : ∃ c d, cMulBits a b 0 4607182418800017408 = some (c, d) ∧ Fl c (-p.2) ∧ Fl d p.1 := by
  obtain ⟨⟨l1, u1⟩, l2, u2⟩ := hp
  obtain ⟨m1, g1, k1⟩ := fl_mul ha nought_fl (by omega)
  obtain ⟨m2, g2, k2⟩ := fl_mul hb one_fl (by omega)
  obtain ⟨m3, g3, k3⟩ := fl_sub k1 k2 (by omega)
  obtain ⟨m4, g4, k4⟩ := fl_mul ha one_fl (by omega)
  obtain ⟨m5, g5, k5⟩ := fl_mul hb nought_fl (by omega)
  obtain ⟨m6, g6, k6⟩ := fl_add k4 k5 (by omega)
  refine ⟨m3, m6, ?_, ?_, ?_⟩
  · unfold cMulBits; rw [g1, g2, g4, g5]; simp only [Option.bind_some]; rw [g3, g6]; rfl
  · have : p.1 * 0 - p.2 * 1 = -p.2 := by omega
    rwa [this] at k3
  · have : p.1 * 1 + p.2 * 0 = p.1 := by omega
    rwa [this] at k6
theorem and3 (n : Int) : bits .and .i64 n 3 = n % 4 := by
  have h3 : (BitVec.ofInt 64 3).toNat = 2 ^ 2 - 1 := by decide
  have key : (BitVec.ofInt 64 n &&& BitVec.ofInt 64 3).toNat = (n % ((2 ^ 64 : Nat) : Int)).toNat % 2 ^ 2 := by
    rw [BitVec.toNat_and, BitVec.toNat_ofInt, h3, Nat.and_two_pow_sub_one_eq_mod]
  show IntKind.i64.wrap ((BitVec.ofInt 64 n &&& BitVec.ofInt 64 3).toNat : Nat) = n % 4
  rw [key, IntKind.wrap_i64]
  omega
def quartersN (q : Int) : Nat := (q % 4).toNat
theorem quarters_and (q : Int) : bits .and .i64 q 3 = ((quartersN q : Nat) : Int) := by rw [and3]; unfold quartersN; omega
theorem quarters_lt (q : Int) : quartersN q < 4 := by unfold quartersN; omega
theorem tmod_cases (q : Int) : (0 ≤ q.tmod 4 ∧ q.tmod 4 = quartersN q) ∨ ((-4 < q.tmod 4 ∧ q.tmod 4 < 0) ∧ q.tmod 4 + 4 = quartersN q) := by
  unfold quartersN
  rcases Int.le_total 0 q with h | h
  · left; rw [Int.tmod_eq_emod_of_nonneg h]; omega
  · have h1 : (-q).tmod 4 = (-q) % 4 := Int.tmod_eq_emod_of_nonneg (show 0 ≤ -q by omega)
    have h2 := Int.neg_tmod q 4
    omega
end Go.Proofs.Ytahkelgcamcfmaa
