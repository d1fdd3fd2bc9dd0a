/- The contracts of package where's plain functions. -/
import Derived.Test.YtilobnplmkmmpaaPlainKit
import Derived.Test.YtilobnplmkmmpaaWhereMath
import Derived.WalkLawsBesides
import Derived.WalkSpells
import Derived.Lib.Hide
import Derived.Laws.Externs
namespace Go.Proofs.Ytilobnplmkmmpaa
open Go.RowKit

theorem bits_call (x : Nat) (w : World) : (callFunc 37 #[.float .f64 x]).run Try.prog w = .ok (.value (.int .u64 x)) w := by
  rw [run_callFunc_extern (e := Extern.MathFloatBits.float64bits) Try.func37 (by kernel_rfl) (by kernel_rfl) (by kernel_rfl) (by kernel_rfl)]
  rfl
theorem from_call (n : Int) (w : World) : (callFunc 38 #[.int .u64 n]).run Try.prog w = .ok (.value (.float .f64 n.toNat)) w := by
  rw [run_callFunc_extern (e := Extern.MathFloatBits.float64frombits) Try.func38 (by kernel_rfl) (by kernel_rfl) (by kernel_rfl) (by kernel_rfl)]
  rfl
theorem trunc_call (x : Nat) (hn : ∃ s m p, FloatKind.f64.decode x = .number s m p) (w : World) : (callFunc 33 #[.float .f64 x]).run Try.prog w = .ok (.value (.float .f64 (truncW x))) w := by
  rw [run_callFunc_extern (e := Extern.MathFloor.toIntegral "math.archTrunc" .zero) Try.func33 (by kernel_rfl) (by kernel_rfl) (by kernel_rfl) (by kernel_rfl)]
  obtain ⟨s, m, p, h⟩ := hn
  have e : Extern.MathFloor.toIntegral "math.archTrunc" .zero #[.float .f64 x] = pure (.float .f64 (truncW x)) := by
    unfold truncW
    show (match FloatKind.f64.decode x with
      | .nan s t => if FloatKind.f64.format.quiet t = t then pure (Value.float .f64 x) else do
        let kept ← choose (.extern "math.Floor,Ceil,Trunc,RoundToEven.signallingNaN kept" 2)
        pure (Value.float .f64 (if kept == 1 then x else FloatKind.f64.encode (.nan s (FloatKind.f64.format.quiet t))))
      | d => pure (Value.float .f64 (FloatKind.f64.encode (d.integral .zero)))) = _
    rw [h]
  rw [e]
  rfl
theorem trunc_any (x : Nat) (hn : ∃ s m p, FloatKind.f64.decode x = .number s m p) (w : World) :
    Calls Try.prog 32 #[.float .f64 x] w fun e w' => e = .returned (.float .f64 (truncW x)) ∧ w = w' := by
  have hc := fun w => trunc_call x hn w
  clear hn
  go_enter Try.func32, Try.ntmps32
  go_wp2
  go_ret
  exact ⟨rfl, rfl⟩
theorem fl_number {x : Nat} {z : Int} (h : Fl x z) : ∃ s m p, FloatKind.f64.decode x = .number s m p := by
  obtain ⟨s, m, k, e, _⟩ := h
  exact ⟨s, m, _, e⟩
theorem coord_yes (x : Nat) (z : Int) (w : World) (h : Fl x z) (lo : -1000 ≤ z) (hi : z ≤ 1000) :
    Calls Try.prog 31 #[.float .f64 x] w fun e w' => e = .returned (.bool true) ∧ w = w' := by
  have h1 := fl_order h lo_fl
  have h2 := fl_order h hi_fl
  have h3 := fl_order h (trunc_fl h (by omega))
  have e3 : compare z z = .eq := Int.compare_eq_eq.2 rfl
  have hn := fl_number h
  rw [e3] at h3
  have c : z = -1000 ∨ z = 1000 ∨ (-1000 < z ∧ z < 1000) := by omega
  rcases c with c | c | ⟨c, d⟩
  · have e1 : compare z (-1000) = .eq := Int.compare_eq_eq.2 c
    have e2 : compare z 1000 = .lt := Int.compare_eq_lt.2 (by omega)
    rw [e1] at h1
    rw [e2] at h2
    clear e1 e2 e3 c h
    go_enter Try.func31, Try.ntmps31
    go_wp2_with (go_at_call 32; refine (trunc_any _ hn _).mono ?_; rintro e w' ⟨rfl, rfl⟩)
    go_ret
    exact ⟨rfl, rfl⟩
  · have e1 : compare z (-1000) = .gt := Int.compare_eq_gt.2 (by omega)
    have e2 : compare z 1000 = .eq := Int.compare_eq_eq.2 c
    rw [e1] at h1
    rw [e2] at h2
    clear e1 e2 e3 c h
    go_enter Try.func31, Try.ntmps31
    go_wp2_with (go_at_call 32; refine (trunc_any _ hn _).mono ?_; rintro e w' ⟨rfl, rfl⟩)
    go_ret
    exact ⟨rfl, rfl⟩
  · have e1 : compare z (-1000) = .gt := Int.compare_eq_gt.2 (by omega)
    have e2 : compare z 1000 = .lt := Int.compare_eq_lt.2 (by omega)
    rw [e1] at h1
    rw [e2] at h2
    clear e1 e2 e3 c d h
    go_enter Try.func31, Try.ntmps31
    go_wp2_with (go_at_call 32; refine (trunc_any _ hn _).mono ?_; rintro e w' ⟨rfl, rfl⟩)
    go_ret
    exact ⟨rfl, rfl⟩
def Coord (x : Nat) (z : Int) : Prop := Fl x z ∧ -1000 ≤ z ∧ z ≤ 1000
theorem fl_inj {x : Nat} {a b : Int} (h : Fl x a) (h' : Fl x b) : a = b := by
  have h1 := toInt_is h
  have h2 := toInt_is h'
  rw [h1] at h2
  exact Option.some.inj h2
theorem coord_no (x : Nat) (w : World) (h : ¬ ∃ z, Coord x z) :
    Calls Try.prog 31 #[.float .f64 x] w fun e w' => e = .returned (.bool false) ∧ w = w' := by
  rcases sort_of x with ⟨g, _⟩ | ⟨_, g, _⟩ | ⟨_, g, g'⟩ | ⟨z, g, lo, hi⟩ | ⟨z, _, g, g', hn, ⟨o, ho, hne⟩, _, _⟩
  · have h1 := g 13875379345695965184
    clear h g
    go_enter Try.func31, Try.ntmps31
    go_wp2_with (fail)
    go_ret
    exact ⟨rfl, rfl⟩
  · clear h
    go_enter Try.func31, Try.ntmps31
    go_wp2_with (fail)
    go_ret
    exact ⟨rfl, rfl⟩
  · clear h
    go_enter Try.func31, Try.ntmps31
    go_wp2_with (fail)
    go_ret
    exact ⟨rfl, rfl⟩
  · exact absurd ⟨z, g, lo, hi⟩ h
  · clear h
    have hx : (o == Ordering.eq) = false := by cases o <;> simp_all
    clear hne
    go_enter Try.func31, Try.ntmps31
    go_wp2_with (go_at_call 32; refine (trunc_any _ hn _).mono ?_; rintro e w' ⟨rfl, rfl⟩)
    go_ret
    exact ⟨rfl, rfl⟩

/-- a place's coordinates -/
noncomputable def plc (a b : Nat) : Option (Int × Int) := open Classical in if h : ∃ p : Int × Int, Coord a p.1 ∧ Coord b p.2 then some h.choose else none
theorem plc_some {a b : Nat} {p : Int × Int} (h : plc a b = some p) : Coord a p.1 ∧ Coord b p.2 := by
  unfold plc at h
  split at h
  · rename_i hc
    injection h with h
    rw [← h]
    exact hc.choose_spec
  · cases h
theorem plc_of {a b : Nat} {x y : Int} (hx : Coord a x) (hy : Coord b y) : plc a b = some (x, y) := by
  unfold plc
  have hc : ∃ p : Int × Int, Coord a p.1 ∧ Coord b p.2 := ⟨(x, y), hx, hy⟩
  rw [dif_pos hc]
  congr 1
  exact Prod.ext (fl_inj hc.choose_spec.1.1 hx.1) (fl_inj hc.choose_spec.2.1 hy.1)
theorem plc_none {a b : Nat} (h : plc a b = none) : (¬ ∃ x, Coord a x) ∨ ((∃ x, Coord a x) ∧ ¬ ∃ y, Coord b y) := by
  by_cases ha : ∃ x, Coord a x
  · right
    refine ⟨ha, ?_⟩
    rintro ⟨y, hy⟩
    obtain ⟨x, hx⟩ := ha
    rw [plc_of hx hy] at h
    cases h
  · exact .inl ha
theorem place_any (a b : Nat) (w : World) :
    Calls Try.prog 29 #[.complex .f64 a b] w fun e w' => e = .returned (.bool (plc a b).isSome) ∧ w = w' := by
  cases hp : plc a b with
  | some p =>
    obtain ⟨⟨hx, lx, ux⟩, hy, ly, uy⟩ := plc_some hp
    clear hp
    go_enter Try.func29, Try.ntmps29
    go_wp2_with (fail)
    refine (coord_yes _ _ _ hx lx ux).mono ?_
    rintro e w' ⟨rfl, rfl⟩
    go_wp2_with (fail)
    refine (coord_yes _ _ _ hy ly uy).mono ?_
    rintro e w' ⟨rfl, rfl⟩
    go_wp2_with (fail)
    go_ret
    exact ⟨rfl, rfl⟩
  | none =>
    rcases plc_none hp with ha | ⟨⟨x, hx, lx, ux⟩, hb⟩
    · clear hp
      go_enter Try.func29, Try.ntmps29
      go_wp2_with (fail)
      refine (coord_no _ _ ha).mono ?_
      rintro e w' ⟨rfl, rfl⟩
      go_wp2_with (fail)
      go_ret
      exact ⟨rfl, rfl⟩
    · clear hp
      go_enter Try.func29, Try.ntmps29
      go_wp2_with (fail)
      refine (coord_yes _ _ _ hx lx ux).mono ?_
      rintro e w' ⟨rfl, rfl⟩
      go_wp2_with (fail)
      refine (coord_no _ _ hb).mono ?_
      rintro e w' ⟨rfl, rfl⟩
      go_wp2_with (fail)
      go_ret
      exact ⟨rfl, rfl⟩
/-- the square of a distance -/
def sq (p q : Int × Int) : Int := (p.1 - q.1) * (p.1 - q.1) + (p.2 - q.2) * (p.2 - q.2)
theorem self_pos (x : Int) : 0 ≤ x * x := by
  rcases Int.le_total 0 x with h | h
  · exact Int.mul_nonneg h h
  · exact Int.mul_nonneg_of_nonpos_of_nonpos h h
theorem sq_lo (p q : Int × Int) : 0 ≤ sq p q := by
  unfold sq
  have h1 := self_pos (p.1 - q.1)
  have h2 := self_pos (p.2 - q.2)
  omega
theorem mul_in {x c : Int} (h : x.natAbs ≤ c.natAbs) : (x * x).natAbs ≤ c.natAbs * c.natAbs := by
  rw [Int.natAbs_mul]; exact Nat.mul_le_mul h h
def Pt (p : Int × Int) : Prop := (-1000 ≤ p.1 ∧ p.1 ≤ 1000) ∧ -1000 ≤ p.2 ∧ p.2 ≤ 1000
theorem plc_pt {a b : Nat} {p : Int × Int} (h : plc a b = some p) : Pt p := by
  obtain ⟨⟨_, lx, ux⟩, _, ly, uy⟩ := plc_some h
  exact ⟨⟨lx, ux⟩, ly, uy⟩
theorem sq_hi {p q : Int × Int} (hp : Pt p) (hq : Pt q) : sq p q ≤ 8000000 := by
  obtain ⟨⟨_, _⟩, _, _⟩ := hp
  obtain ⟨⟨_, _⟩, _, _⟩ := hq
  have h1 := mul_in (x := p.1 - q.1) (c := 2000) (by omega)
  have h2 := mul_in (x := p.2 - q.2) (c := 2000) (by omega)
  have e : (2000 : Int).natAbs * (2000 : Int).natAbs = 4000000 := rfl
  unfold sq
  omega
theorem nat4 {x y : Nat} (h : x ≤ 2000) (h' : y ≤ 2000) : x * y ≤ 4000000 := Nat.mul_le_mul h h'
theorem apart_any (a b c d : Nat) (p q : Int × Int) (w : World) (hp : plc a b = some p) (hq : plc c d = some q) :
    Calls Try.prog 30 #[.complex .f64 a b, .complex .f64 c d] w fun e w' => e = .returned (.int .i64 (sq p q)) ∧ w = w' := by
  obtain ⟨⟨ax, alx, aux⟩, ay, aly, auy⟩ := plc_some hp
  obtain ⟨⟨bx, blx, bux⟩, b_y, bly, buy⟩ := plc_some hq
  have b1 := mul_in (x := p.1 - q.1) (c := 2000) (by omega)
  have b2 := mul_in (x := p.2 - q.2) (c := 2000) (by omega)
  have e0 : (2000 : Int).natAbs * (2000 : Int).natAbs = 4000000 := rfl
  rw [e0] at b1 b2
  obtain ⟨r1, e1, f1⟩ := fl_sub ax bx (by omega)
  obtain ⟨r2, e2, f2⟩ := fl_sub ay b_y (by omega)
  have f3 := fl_neg f2
  obtain ⟨m1, g1, k1⟩ := fl_mul f1 f1 (by omega)
  obtain ⟨m2, g2, k2⟩ := fl_mul f2 f3 (by rw [Int.mul_neg, Int.natAbs_neg]; omega)
  have b3 : ((p.1 - q.1) * -(p.2 - q.2)).natAbs ≤ 4000000 := by
    rw [Int.mul_neg, Int.natAbs_neg, Int.natAbs_mul]
    exact nat4 (by omega) (by omega)
  have b4 : ((p.2 - q.2) * (p.1 - q.1)).natAbs ≤ 4000000 := by
    rw [Int.natAbs_mul]
    exact nat4 (by omega) (by omega)
  have b5 : ((p.2 - q.2) * -(p.2 - q.2)) = -((p.2 - q.2) * (p.2 - q.2)) := by rw [Int.mul_neg]
  obtain ⟨m3, g3, k3⟩ := fl_sub k1 k2 (by rw [b5]; omega)
  obtain ⟨m4, g4, k4⟩ := fl_mul f1 f3 (by omega)
  obtain ⟨m5, g5, k5⟩ := fl_mul f2 f1 (by omega)
  obtain ⟨m6, g6, k6⟩ := fl_add k4 k5 (by omega)
  have hs1 : cSumBits .sub .f64 a b c d = some (r1, r2) := by unfold cSumBits; rw [e1, e2]; rfl
  have hm1 : cMulBits r1 r2 r1 (Op.negFloat .f64 r2) = some (m3, m6) := by
    unfold cMulBits; rw [g1, g2, g4, g5]; simp only [Option.bind_some]; rw [g3, g6]; rfl
  have hi := fl_int k3 (by rw [b5]; omega)
  have es : (p.1 - q.1) * (p.1 - q.1) - (p.2 - q.2) * -(p.2 - q.2) = sq p q := by unfold sq; rw [b5]; omega
  rw [es] at hi
  have W1 := fun w : World => run_complex_sum (P := Try.prog) w .sub (.inr rfl) 32 .f64 a b c d r1 r2 hs1
  have W2 := fun w : World => run_complex_mul (P := Try.prog) w 32 r1 r2 r1 (Op.negFloat .f64 r2) m3 m6 hm1
  have W3 := fun w : World => run_convert_float_int (P := Try.prog) w 33 3 .f64 .i64 m3 _ (by kernel_rfl) Try.underlying3 hi
  have W4 : Op.unary .neg (.float .f64 r2) = pure (Value.float .f64 (Op.negFloat .f64 r2)) := rfl
  clear hp hq ax alx aux ay aly auy bx blx bux b_y bly buy b1 b2 e0 e1 e2 f1 f2 f3 g1 g2 k1 k2 b3 b4 b5 g3 k3 g4 k4 g5 k5 g6 k6 hs1 hm1 hi es
  obtain ⟨v, hv⟩ : ∃ v, v = sq p q := ⟨_, rfl⟩
  obtain ⟨nr, hnr⟩ : ∃ nr, nr = Op.negFloat .f64 r2 := ⟨_, rfl⟩
  rw [← hv] at W3
  rw [← hnr] at W2 W4
  rw [← hv]
  clear hv hnr
  go_enter Try.func30, Try.ntmps30
  go_wp2
  go_ret
  exact ⟨rfl, rfl⟩
end Go.Proofs.Ytilobnplmkmmpaa
