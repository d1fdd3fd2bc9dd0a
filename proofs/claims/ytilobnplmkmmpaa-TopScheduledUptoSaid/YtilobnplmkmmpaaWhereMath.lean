/- Plain mathematics of floats of 64 bits: words that are whole numbers, sums, products, comparisons and cuts of them; what sorts of words there are. No program is read here. -/
import Derived.WalkLawsBesides
namespace Go.Proofs.Ytilobnplmkmmpaa
open Ieee

theorem signed_zero (s : Bool) (m u : Nat) : signed s m u = signed s m 0 * 2 ^ u := by
  unfold signed
  simp only [Nat.shiftLeft_eq]
  cases s <;> simp [Int.neg_mul]

/-- A datum that is the whole number z. -/
def Is (d : Datum) (z : Int) : Prop := ∃ s m, ∃ k : Nat, d = .number s m (-(k : Int)) ∧ signed s m 0 = z * 2 ^ k

theorem signed_natAbs (s : Bool) (m : Nat) : (signed s m 0).natAbs = m := by
  unfold signed; cases s <;> simp
theorem signed_self (s : Bool) (z : Int) (h : z ≠ 0 → s = decide (z < 0)) : signed s z.natAbs 0 = z := by
  unfold signed
  by_cases hz : z = 0
  · subst hz; simp
  · rw [h hz]
    by_cases hn : z < 0
    · simp [hn]; omega
    · simp [hn]; omega
theorem pow_pos' (k : Nat) : (0 : Int) < 2 ^ k := Int.pow_pos (by decide)
theorem scale (s : Bool) (m k : Nat) (z : Int) (M : Nat) (hk : k ≤ M) (h : signed s m 0 = z * 2 ^ k) : signed s m (-(k : Int) - -(M : Int)).toNat = z * 2 ^ M := by
  rw [signed_zero, h]
  have e : (-(k : Int) - -(M : Int)).toNat = M - k := by omega
  rw [e, Int.mul_assoc, ← Int.pow_add]
  congr 2
  omega
theorem opp_is {a : Datum} {x : Int} (h : Is a x) : Is a.opposite (-x) := by
  obtain ⟨s, m, k, rfl, e⟩ := h
  refine ⟨!s, m, k, rfl, ?_⟩
  rw [Int.neg_mul, ← e]
  unfold signed
  cases s <;> simp
theorem sum_is {a b : Datum} {x y : Int} (ha : Is a x) (hb : Is b y) : ∃ d, a.sum b = some d ∧ Is d (x + y) := by
  obtain ⟨s, m, k, rfl, e⟩ := ha
  obtain ⟨t, n, l, rfl, f⟩ := hb
  have hM : min (-(k : Int)) (-(l : Int)) = -((max k l : Nat) : Int) := by omega
  refine ⟨_, rfl, ?_⟩
  simp only [hM]
  rw [scale s m k x _ (Nat.le_max_left _ _) e, scale t n l y _ (Nat.le_max_right _ _) f, ← Int.add_mul]
  refine ⟨_, _, _, rfl, ?_⟩
  apply signed_self
  intro hz
  rw [if_neg hz]
theorem product_is {a b : Datum} {x y : Int} (ha : Is a x) (hb : Is b y) : ∃ d, a.product b = some d ∧ Is d (x * y) := by
  obtain ⟨s, m, k, rfl, e⟩ := ha
  obtain ⟨t, n, l, rfl, f⟩ := hb
  refine ⟨_, rfl, s ^^ t, m * n, k + l, by congr 1; omega, ?_⟩
  have e2 : signed (s ^^ t) (m * n) 0 = signed s m 0 * signed t n 0 := by
    unfold signed
    cases s <;> cases t <;> simp [Int.neg_mul, Int.mul_neg]
  rw [e2, e, f, Int.pow_add]
  simp only [Int.mul_assoc, Int.mul_left_comm]
theorem compare_mul (x y c : Int) (hc : 0 < c) : compare (x * c) (y * c) = compare x y := by
  rcases Int.lt_trichotomy x y with h | h | h
  · rw [Int.compare_eq_lt.2 h, Int.compare_eq_lt.2 (Int.mul_lt_mul_of_pos_right h hc)]
  · subst h; simp
  · rw [Int.compare_eq_gt.2 h, Int.compare_eq_gt.2 (Int.mul_lt_mul_of_pos_right h hc)]
theorem order_is {a b : Datum} {x y : Int} (ha : Is a x) (hb : Is b y) : a.order b = some (compare x y) := by
  obtain ⟨s, m, k, rfl, e⟩ := ha
  obtain ⟨t, n, l, rfl, f⟩ := hb
  have hM : min (-(k : Int)) (-(l : Int)) = -((max k l : Nat) : Int) := by omega
  unfold Datum.order
  simp only [hM]
  rw [scale s m k x _ (Nat.le_max_left _ _) e, scale t n l y _ (Nat.le_max_right _ _) f, compare_mul _ _ _ (pow_pos' _)]

theorem cut_zero_eq (s : Bool) (n d : Nat) : Toward.zero.cut s n d = n / 2 ^ d := by
  unfold Toward.cut
  simp only [Nat.shiftLeft_eq, Nat.one_mul, Bool.toNat_false, Nat.add_zero]
  rcases Nat.le_total d (n.log2 + 2) with h | h
  · rw [Nat.min_eq_left h]
  · rw [Nat.min_eq_right h]
    have h1 : n < 2 ^ (n.log2 + 1) := Nat.lt_log2_self
    have h2 : n < 2 ^ (n.log2 + 2) := Nat.lt_of_lt_of_le h1 (Nat.pow_le_pow_right (by decide) (by omega))
    have h3 : n < 2 ^ d := Nat.lt_of_lt_of_le h2 (Nat.pow_le_pow_right (by decide) h)
    rw [Nat.div_eq_of_lt h2, Nat.div_eq_of_lt h3]
theorem mag_of {s : Bool} {m k : Nat} {z : Int} (h : signed s m 0 = z * 2 ^ k) : m = z.natAbs * 2 ^ k := by
  have := congrArg Int.natAbs h
  rw [signed_natAbs, Int.natAbs_mul] at this
  rw [this]
  congr 1
theorem sign_of {s : Bool} {m k : Nat} {z : Int} (h : signed s m 0 = z * 2 ^ k) : signed s z.natAbs 0 = z := by
  have hm := mag_of h
  have hp := pow_pos' k
  have e : signed s m 0 = signed s z.natAbs 0 * 2 ^ k := by
    rw [hm]; unfold signed; cases s <;> simp [Int.neg_mul]
  rw [e] at h
  exact Int.eq_of_mul_eq_mul_right (by omega) h
theorem toInt_is {a : Datum} {x : Int} (h : Is a x) : a.toInt .zero = some x := by
  obtain ⟨s, m, k, rfl, e⟩ := h
  have hm := mag_of e
  unfold Datum.toInt Datum.integral
  simp only [cut_zero_eq]
  have e1 : (m <<< (-(k : Int)).toNat) / 2 ^ (- -(k : Int)).toNat = x.natAbs := by
    have a1 : (-(k : Int)).toNat = 0 := by omega
    have a2 : (- -(k : Int)).toNat = k := by omega
    rw [a1, a2, Nat.shiftLeft_zero, hm, Nat.mul_div_cancel _ (Nat.two_pow_pos k)]
  rw [e1, sign_of e]
/-- a word that is the whole number z -/
def Fl (x : Nat) (z : Int) : Prop := Is (double.read x) z
theorem read_word (s : Bool) (r : Nat) (h0 : 4503599627370496 ≤ r) (h1 : r < 9218868437227405312) :
    double.read (double.word s r) = .number s (4503599627370496 + r % 4503599627370496) (-1074 + (r / 4503599627370496 - 1 : Nat)) := by
  have hs : double.signWeight = 9223372036854775808 := by decide
  have hb : double.binade = 4503599627370496 := by decide
  have hi : double.infRung = 9218868437227405312 := by decide
  have hl : double.leastPlace = -1074 := by decide
  have e1 : double.word s r % double.signWeight = r := by
    unfold Format.word
    rw [hs]
    cases s <;> simp <;> omega
  have e2 : (double.word s r / double.signWeight % 2 == 1) = s := by
    unfold Format.word
    rw [hs]
    cases s <;> simp <;> omega
  unfold Format.read
  simp only [e1, e2]
  rw [hb, hi, hl, if_neg (by omega), if_pos h1]
theorem cut_even_exact (s : Bool) (n d : Nat) (hd : d ≤ (n * 2 ^ d).log2 + 2) : Toward.even.cut s (n * 2 ^ d) d = n := by
  have hp := Nat.two_pow_pos d
  unfold Toward.cut
  simp only [Nat.shiftLeft_eq, Nat.one_mul]
  rw [Nat.min_eq_left hd, Nat.mul_div_cancel _ hp, Nat.mul_mod_left]
  have : (2 ^ d == 2 * 0) = false := by simp
  simp [this]
theorem write_is {d : Datum} {x : Int} (h : Is d x) (hx : x ≠ 0) (hlt : x.natAbs < 9007199254740992) : Fl (double.write d) x := by
  obtain ⟨s, m, k, rfl, e⟩ := h
  have hm := mag_of e
  have hs := sign_of e
  have hx0 : x.natAbs ≠ 0 := by omega
  obtain ⟨n, hn⟩ : ∃ n, n = x.natAbs := ⟨_, rfl⟩
  rw [← hn] at hm hlt hx0
  have hL : n.log2 ≤ 52 := by
    have := (Nat.log2_lt hx0 (k := 53)).2 hlt
    omega
  obtain ⟨L, hLe⟩ : ∃ L, L = n.log2 := ⟨_, rfl⟩
  have hlo : 2 ^ L ≤ n := by rw [hLe]; exact Nat.log2_self_le hx0
  have hhi : n < 2 ^ (L + 1) := by rw [hLe]; exact Nat.lt_log2_self
  have hlm : m.log2 = L + k := by
    have hm0 : m ≠ 0 := by rw [hm]; exact Nat.mul_ne_zero hx0 (by have := Nat.two_pow_pos k; omega)
    apply (Nat.log2_eq_iff hm0).2
    rw [hm]
    constructor
    · rw [Nat.pow_add]; exact Nat.mul_le_mul_right _ hlo
    · rw [show L + k + 1 = (L + 1) + k by omega, Nat.pow_add]; exact Nat.mul_lt_mul_of_pos_right hhi (Nat.two_pow_pos k)
  have hm0 : m ≠ 0 := by rw [hm]; exact Nat.mul_ne_zero hx0 (by have := Nat.two_pow_pos k; omega)
  rw [← hLe] at hL
  have hb : double.binade = 4503599627370496 := by decide
  have hi : double.infRung = 9218868437227405312 := by decide
  have hl : double.leastPlace = -1074 := by decide
  have hf : double.fractionBits = 52 := rfl
  have hlast : max (-(k : Int) + (m.log2 : Nat) - (double.fractionBits : Nat)) double.leastPlace = (L : Int) - 52 := by
    rw [hlm, hf, hl]; omega
  obtain ⟨j, hj⟩ : ∃ j, j = 52 - L := ⟨_, rfl⟩
  have hkept : Toward.even.cut s (m <<< (-(k : Int) - ((L : Int) - 52)).toNat) ((L : Int) - 52 - -(k : Int)).toNat = n * 2 ^ j := by
    rcases Nat.le_total k j with hk | hk
    · have a1 : (-(k : Int) - ((L : Int) - 52)).toNat = j - k := by omega
      have a2 : ((L : Int) - 52 - -(k : Int)).toNat = 0 := by omega
      rw [a1, a2, Nat.shiftLeft_eq, hm, Nat.mul_assoc, ← Nat.pow_add, show k + (j - k) = j by omega]
      have := cut_even_exact s (n * 2 ^ j) 0 (by omega)
      simpa using this
    · have a1 : (-(k : Int) - ((L : Int) - 52)).toNat = 0 := by omega
      have a2 : ((L : Int) - 52 - -(k : Int)).toNat = k - j := by omega
      have a3 : m = n * 2 ^ j * 2 ^ (k - j) := by rw [hm, Nat.mul_assoc, ← Nat.pow_add, show j + (k - j) = k by omega]
      rw [a1, a2, Nat.shiftLeft_zero, a3]
      apply cut_even_exact
      rw [← a3, hlm]
      omega
  have h52 : n * 2 ^ j < 9007199254740992 := by
    have : n * 2 ^ j < 2 ^ (L + 1) * 2 ^ j := Nat.mul_lt_mul_of_pos_right hhi (Nat.two_pow_pos j)
    rw [← Nat.pow_add, show L + 1 + j = 53 by omega] at this
    exact this
  have h51 : 4503599627370496 ≤ n * 2 ^ j := by
    have : 2 ^ L * 2 ^ j ≤ n * 2 ^ j := Nat.mul_le_mul_right _ hlo
    rw [← Nat.pow_add, show L + j = 52 by omega] at this
    exact this
  have hw : double.write (.number s m (-(k : Int))) = double.word s ((1022 + L) * 4503599627370496 + n * 2 ^ j) := by
    show double.nearest s m (-(k : Int)) = _
    unfold Format.nearest
    rw [if_neg hm0]
    simp only [hlast]
    rw [hkept, hb, hi, hl, show ((L : Int) - 52 - -1074).toNat = 1022 + L by omega, Nat.min_eq_left (by omega)]
  unfold Fl
  rw [hw, read_word _ _ (by omega) (by omega)]
  have q1 : ((1022 + L) * 4503599627370496 + n * 2 ^ j) % 4503599627370496 = n * 2 ^ j - 4503599627370496 := by omega
  have q2 : ((1022 + L) * 4503599627370496 + n * 2 ^ j) / 4503599627370496 = 1023 + L := by omega
  rw [q1, q2]
  have q3 : 4503599627370496 + (n * 2 ^ j - 4503599627370496) = n * 2 ^ j := by omega
  have q4 : (-1074 : Int) + ((1023 + L - 1 : Nat) : Int) = -(j : Int) := by omega
  rw [q3, q4]
  refine ⟨s, n * 2 ^ j, j, rfl, ?_⟩
  have : signed s (n * 2 ^ j) 0 = signed s n 0 * 2 ^ j := by unfold signed; cases s <;> simp [Int.neg_mul]
  rw [this, hn, hs]
theorem write_zero (s : Bool) (m : Nat) (p : Int) (hm : m = 0) : Fl (double.write (.number s m p)) 0 := by
  subst hm
  have : double.write (.number s 0 p) = double.word s 0 := by
    show double.nearest s 0 p = _
    unfold Format.nearest
    rw [if_pos rfl]
  unfold Fl
  rw [this]
  have e : double.read (double.word s 0) = .number s 0 (-((1074 : Nat) : Int)) := by cases s <;> decide +kernel
  rw [e]
  exact ⟨s, 0, 1074, rfl, by rw [Int.zero_mul]; cases s <;> rfl⟩
theorem write_any {d : Datum} {x : Int} (h : Is d x) (hlt : x.natAbs < 9007199254740992) : Fl (double.write d) x := by
  by_cases hx : x = 0
  · obtain ⟨s, m, k, rfl, e⟩ := h
    have := mag_of e
    subst hx
    exact write_zero s m _ (by simpa using this)
  · exact write_is h hx hlt
theorem fl_add {a b : Nat} {x y : Int} (ha : Fl a x) (hb : Fl b y) (h : (x + y).natAbs < 9007199254740992) : ∃ r, floatBits .add .f64 a b = some r ∧ Fl r (x + y) := by
  obtain ⟨d, hd, hi⟩ := sum_is ha hb
  refine ⟨double.write d, ?_, write_any hi h⟩
  show Option.map _ ((double.read a).sum (double.read b)) = _
  rw [hd]; rfl
theorem fl_sub {a b : Nat} {x y : Int} (ha : Fl a x) (hb : Fl b y) (h : (x - y).natAbs < 9007199254740992) : ∃ r, floatBits .sub .f64 a b = some r ∧ Fl r (x - y) := by
  obtain ⟨d, hd, hi⟩ := sum_is ha (opp_is hb)
  refine ⟨double.write d, ?_, by rw [Int.sub_eq_add_neg]; exact write_any hi (by rw [← Int.sub_eq_add_neg]; exact h)⟩
  show Option.map _ ((double.read a).sum (double.read b).opposite) = _
  rw [hd]; rfl
theorem fl_mul {a b : Nat} {x y : Int} (ha : Fl a x) (hb : Fl b y) (h : (x * y).natAbs < 9007199254740992) : ∃ r, floatBits .mul .f64 a b = some r ∧ Fl r (x * y) := by
  obtain ⟨d, hd, hi⟩ := product_is ha hb
  refine ⟨double.write d, ?_, write_any hi h⟩
  show Option.map _ ((double.read a).product (double.read b)) = _
  rw [hd]; rfl
theorem fl_order {a b : Nat} {x y : Int} (ha : Fl a x) (hb : Fl b y) : FloatKind.f64.format.order a b = some (compare x y) := order_is ha hb
theorem is_of_int (n : Int) : Is (.number (n < 0) n.natAbs 0) n := ⟨_, _, 0, rfl, by rw [Int.pow_zero, Int.mul_one]; exact signed_self _ _ (fun _ => rfl)⟩
theorem fl_of (n : Int) (h : n.natAbs < 9007199254740992) : Fl (floatOfInt .f64 n) n := write_any (is_of_int n) h
theorem fl_int {a : Nat} {x : Int} (ha : Fl a x) (h : -9223372036854775808 ≤ x ∧ x ≤ 9223372036854775807) : floatToIntVal .f64 a .i64 = some x := by
  have : (FloatKind.f64.decode a).toInt .zero = some x := toInt_is ha
  unfold floatToIntVal
  rw [this]
  simp only []
  rw [if_pos (by simpa [IntKind.min, IntKind.max, IntKind.signed, IntKind.bits] using h)]
theorem lo_fl : Fl 13875379345695965184 (-1000) := by
  have e : double.read 13875379345695965184 = .number true 8796093022208000 (-((43 : Nat) : Int)) := by decide +kernel
  unfold Fl; rw [e]
  exact ⟨true, _, 43, rfl, by decide +kernel⟩
theorem hi_fl : Fl 4652007308841189376 1000 := by
  have e : double.read 4652007308841189376 = .number false 8796093022208000 (-((43 : Nat) : Int)) := by decide +kernel
  unfold Fl; rw [e]
  exact ⟨false, _, 43, rfl, by decide +kernel⟩
theorem read_places {x : Nat} {s : Bool} {m : Nat} {p : Int} (h : double.read x = .number s m p) : p ≤ 0 ∨ 4503599627370496 ≤ m := by
  have hb : double.binade = 4503599627370496 := by decide
  have hl : double.leastPlace = -1074 := by decide
  unfold Format.read at h
  simp only [hb, hl] at h
  split at h
  · injection h with _ _ h; left; omega
  · split at h
    · injection h with _ h _; right; omega
    · split at h <;> cases h
theorem order_num {s : Bool} {m : Nat} {p : Int} {c : Datum} {y : Int} (h : Is c y) :
    (Datum.number s m p).order c = some (compare (signed s m p.toNat) (y * 2 ^ (-p).toNat)) := by
  obtain ⟨t, n, k, rfl, e⟩ := h
  unfold Datum.order
  simp only
  obtain ⟨B, hB⟩ : ∃ B : Nat, min p (-(k : Int)) = -(B : Int) := ⟨(-(min p (-(k : Int)))).toNat, by omega⟩
  obtain ⟨E, hE⟩ : ∃ E : Nat, B = (-p).toNat + E := ⟨B - (-p).toNat, by omega⟩
  have e1 : (p - -(B : Int)).toNat = p.toNat + E := by omega
  rw [hB, scale t n k y B (by omega) e, e1, signed_zero s m (p.toNat + E), Int.pow_add, ← Int.mul_assoc, ← signed_zero, hE, Int.pow_add, ← Int.mul_assoc, compare_mul _ _ _ (pow_pos' _)]
theorem order_num' {s : Bool} {m : Nat} {p : Int} {c : Datum} {y : Int} (h : Is c y) :
    c.order (Datum.number s m p) = some (compare (y * 2 ^ (-p).toNat) (signed s m p.toNat)) := by
  obtain ⟨t, n, k, rfl, e⟩ := h
  unfold Datum.order
  simp only
  obtain ⟨B, hB⟩ : ∃ B : Nat, min (-(k : Int)) p = -(B : Int) := ⟨(-(min (-(k : Int)) p)).toNat, by omega⟩
  obtain ⟨E, hE⟩ : ∃ E : Nat, B = (-p).toNat + E := ⟨B - (-p).toNat, by omega⟩
  have e1 : (p - -(B : Int)).toNat = p.toNat + E := by omega
  rw [hB, scale t n k y B (by omega) e, e1, signed_zero s m (p.toNat + E), Int.pow_add, ← Int.mul_assoc, ← signed_zero, hE, Int.pow_add, ← Int.mul_assoc, compare_mul _ _ _ (pow_pos' _)]
/-- what math.Trunc answers -/
def truncW (x : Nat) : Nat := FloatKind.f64.encode ((FloatKind.f64.decode x).integral .zero)
inductive Sort_ (x : Nat) : Prop
  | nan (h : ∀ y, FloatKind.f64.format.order x y = none) (h' : ∀ y, FloatKind.f64.format.order y x = none)
  | low (h0 : FloatKind.f64.format.order x x = some .eq) (h : FloatKind.f64.format.order x 13875379345695965184 = some .lt) (h' : FloatKind.f64.format.order x 4652007308841189376 = some .lt)
  | high (h0 : FloatKind.f64.format.order x x = some .eq) (h : FloatKind.f64.format.order x 13875379345695965184 = some .gt) (h' : FloatKind.f64.format.order x 4652007308841189376 = some .gt)
  | whole (z : Int) (h : Fl x z) (lo : -1000 ≤ z) (hi : z ≤ 1000)
  | part (z : Int) (h0 : FloatKind.f64.format.order x x = some .eq) (h : FloatKind.f64.format.order x 13875379345695965184 = some .gt) (h' : FloatKind.f64.format.order x 4652007308841189376 = some .lt)
      (hn : ∃ s m p, FloatKind.f64.decode x = .number s m p) (ht : ∃ o, FloatKind.f64.format.order x (truncW x) = some o ∧ o ≠ .eq)
      (hi : floatToIntVal .f64 x .i64 = some z) (hf : ∃ o, FloatKind.f64.format.order (floatOfInt .f64 z) x = some o ∧ o ≠ .eq)
theorem sort_of (x : Nat) : Sort_ x := by
  cases hd : double.read x with
  | nan s t =>
    apply Sort_.nan
    · intro y; show (double.read x).order (double.read y) = none; rw [hd]; rfl
    · intro y; show (double.read y).order (double.read x) = none; rw [hd]; cases double.read y <;> rfl
  | infinity s =>
    have h0 : FloatKind.f64.format.order x x = some .eq := by show (double.read x).order (double.read x) = _; rw [hd]; cases s <;> rfl
    obtain ⟨t, n, k, e, _⟩ := lo_fl
    obtain ⟨t', n', k', e', _⟩ := hi_fl
    cases s
    · apply Sort_.high h0
      · show (double.read x).order (double.read _) = _; rw [hd, e]; rfl
      · show (double.read x).order (double.read _) = _; rw [hd, e']; rfl
    · apply Sort_.low h0
      · show (double.read x).order (double.read _) = _; rw [hd, e]; rfl
      · show (double.read x).order (double.read _) = _; rw [hd, e']; rfl
  | number s m p =>
    obtain ⟨A, hA⟩ : ∃ A, A = signed s m p.toNat := ⟨_, rfl⟩
    obtain ⟨D, hD⟩ : ∃ D : Int, D = 2 ^ (-p).toNat := ⟨_, rfl⟩
    have hDp : 0 < D := by rw [hD]; exact pow_pos' _
    have ord : ∀ {w : Nat} {y : Int}, Fl w y → FloatKind.f64.format.order x w = some (compare A (y * D)) := by
      intro w y hy
      show (double.read x).order (double.read w) = _
      rw [hd, order_num hy, hA, hD]
    have ord' : ∀ {w : Nat} {y : Int}, Fl w y → FloatKind.f64.format.order w x = some (compare (y * D) A) := by
      intro w y hy
      show (double.read w).order (double.read x) = _
      rw [hd, order_num' hy, hA, hD]
    have h0 : FloatKind.f64.format.order x x = some .eq := by
      show (double.read x).order (double.read x) = _
      rw [hd]
      simp [Datum.order]
    have hl := ord lo_fl
    have hh := ord hi_fl
    by_cases c1 : A < -1000 * D
    · exact Sort_.low h0 (by rw [hl, Int.compare_eq_lt.2 c1]) (by rw [hh, Int.compare_eq_lt.2 (by omega)])
    by_cases c2 : 1000 * D < A
    · exact Sort_.high h0 (by rw [hl, Int.compare_eq_gt.2 (by omega)]) (by rw [hh, Int.compare_eq_gt.2 c2])
    obtain ⟨q, hq⟩ : ∃ q : Nat, q = (m <<< p.toNat) / 2 ^ (-p).toNat := ⟨_, rfl⟩
    obtain ⟨z, hz⟩ : ∃ z, z = signed s q 0 := ⟨_, rfl⟩
    have hint : (FloatKind.f64.decode x).integral .zero = .number s q 0 := by
      show (double.read x).integral .zero = _
      rw [hd]
      unfold Datum.integral
      simp only [cut_zero_eq]
      rw [hq]
    have hmag : A.natAbs = m <<< p.toNat := by rw [hA, signed_zero]; rw [Int.natAbs_mul, signed_natAbs, Nat.shiftLeft_eq]; congr 1
    have hDn : D = ((2 ^ (-p).toNat : Nat) : Int) := by rw [hD]; simp
    obtain ⟨Dn, hDn'⟩ : ∃ Dn : Nat, Dn = 2 ^ (-p).toNat := ⟨_, rfl⟩
    rw [← hDn'] at hq hDn
    have hqle : q * Dn ≤ A.natAbs := by rw [hq, ← hmag]; exact Nat.div_mul_le_self _ _
    have hq1000 : q ≤ 1000 := by
      have : A.natAbs ≤ 1000 * Dn := by omega
      have : q * Dn ≤ 1000 * Dn := by omega
      exact Nat.le_of_mul_le_mul_right this (by omega)
    have hzb : z.natAbs ≤ 1000 := by rw [hz, signed_natAbs]; exact hq1000
    have hzi : Is (.number s q 0) z := ⟨s, q, 0, rfl, by rw [hz]; simp⟩
    have ht : Fl (truncW x) z := by
      unfold truncW
      rw [hint]
      exact write_any hzi (by omega)
    have hi : floatToIntVal .f64 x .i64 = some z := by
      have : (FloatKind.f64.decode x).toInt .zero = some z := by unfold Datum.toInt; rw [hint]; simp [hz]
      unfold floatToIntVal
      rw [this]
      simp only []
      rw [if_pos (by simp [IntKind.min, IntKind.max, IntKind.signed, IntKind.bits]; omega)]
    by_cases c3 : A = z * D
    · refine Sort_.whole z ?_ (by omega) (by omega)
      show Is (double.read x) z
      rw [hd]
      have hp : p ≤ 0 := by
        rcases read_places hd with h | h
        · exact h
        · have : p ≤ 0 ∨ 0 < p := by omega
          rcases this with h' | h'
          · exact h'
          · exfalso
            have e1 : (-p).toNat = 0 := by omega
            rw [e1] at hD
            have : D = 1 := by rw [hD]; rfl
            have : m ≤ m <<< p.toNat := by rw [Nat.shiftLeft_eq]; exact Nat.le_mul_of_pos_right _ (Nat.two_pow_pos _)
            omega
      refine ⟨s, m, (-p).toNat, by congr 1; omega, ?_⟩
      rw [← hD, ← c3, hA, show p.toNat = 0 by omega]
    · have o1 := ord ht
      have o2 := ord' (fl_of z (by omega))
      have hlo : ¬ A = -1000 * D := by
        intro e
        apply c3
        have h1 : A.natAbs = 1000 * Dn := by omega
        have h2 : q = 1000 := by rw [hq, ← hmag, h1]; exact Nat.mul_div_cancel _ (by omega)
        have hs : s = true := by
          cases s
          · exfalso
            have : 0 ≤ A := by rw [hA]; unfold signed; simp only [Bool.false_eq_true, if_false]; exact Int.natCast_nonneg _
            omega
          · rfl
        rw [hz, hs, h2, e]; rfl
      have hhi : ¬ A = 1000 * D := by
        intro e
        apply c3
        have h1 : A.natAbs = 1000 * Dn := by omega
        have h2 : q = 1000 := by rw [hq, ← hmag, h1]; exact Nat.mul_div_cancel _ (by omega)
        have hs : s = false := by
          cases s
          · rfl
          · exfalso
            have : A ≤ 0 := by rw [hA]; unfold signed; simp only [if_true]; exact Int.neg_nonpos_of_nonneg (Int.natCast_nonneg _)
            omega
        rw [hz, hs, h2, e]; rfl
      refine Sort_.part z h0 (by rw [hl, Int.compare_eq_gt.2 (by omega)]) (by rw [hh, Int.compare_eq_lt.2 (by omega)]) ⟨s, m, p, hd⟩ ⟨_, o1, ?_⟩ hi ⟨_, o2, ?_⟩
      · intro e; exact c3 (Int.compare_eq_eq.1 e)
      · intro e; exact c3 (Int.compare_eq_eq.1 e).symm
theorem neg_read (x : Nat) : double.read (Op.negFloat .f64 x) = (double.read x).opposite := by
  have hs : double.signWeight = 2 ^ 63 := by decide
  have he : (2 : Nat) ^ (FloatKind.f64.format.exponentBits + FloatKind.f64.format.fractionBits) = 2 ^ 63 := rfl
  have h1 : (x ^^^ 2 ^ 63) % 2 ^ 63 = x % 2 ^ 63 := by
    rw [Nat.xor_mod_two_pow]; simp
  have h2 : (x ^^^ 2 ^ 63) / 2 ^ 63 % 2 = (x / 2 ^ 63 % 2 + 1) % 2 := by
    rw [← Nat.shiftRight_eq_div_pow, Nat.shiftRight_xor_distrib, ← Nat.shiftRight_eq_div_pow]
    have : (2 ^ 63 : Nat) >>> 63 = 1 := by decide
    rw [this]
    obtain ⟨y, hy⟩ : ∃ y, y = x >>> 63 := ⟨_, rfl⟩
    rw [← hy]
    have := Nat.xor_mod_two_pow (a := y) (b := 1) (n := 1)
    simp only [Nat.pow_one] at this
    rw [this]
    rcases Nat.mod_two_eq_zero_or_one y with h | h <;> rw [h] <;> rfl
  have h3 : ((x ^^^ 2 ^ 63) / 2 ^ 63 % 2 == 1) = !(x / 2 ^ 63 % 2 == 1) := by
    rw [h2]
    rcases Nat.mod_two_eq_zero_or_one (x / 2 ^ 63) with h | h <;> rw [h] <;> rfl
  unfold Op.negFloat
  rw [he]
  unfold Format.read
  simp only [hs, h1, h3]
  split
  · rfl
  · split
    · rfl
    · split <;> rfl
theorem fl_neg {a : Nat} {x : Int} (h : Fl a x) : Fl (Op.negFloat .f64 a) (-x) := by
  unfold Fl
  rw [neg_read]
  exact opp_is h
theorem trunc_fl {a : Nat} {x : Int} (h : Fl a x) (hx : x.natAbs ≤ 1000) : Fl (truncW a) x := by
  obtain ⟨s, m, k, e, f⟩ := h
  have hm := mag_of f
  have hint : (FloatKind.f64.decode a).integral .zero = .number s x.natAbs 0 := by
    show (double.read a).integral .zero = _
    rw [e]
    unfold Datum.integral
    simp only [cut_zero_eq]
    congr 1
    rw [show (-(k : Int)).toNat = 0 by omega, show (- -(k : Int)).toNat = k by omega, Nat.shiftLeft_zero, hm, Nat.mul_div_cancel _ (Nat.two_pow_pos k)]
  unfold truncW
  rw [hint]
  exact write_any ⟨s, _, 0, rfl, by rw [sign_of f]; simp⟩ (by omega)
end Go.Proofs.Ytilobnplmkmmpaa
