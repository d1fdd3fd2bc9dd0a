/- The contracts of where.Dist and of the reference's Place and Dist. -/
import Derived.Test.YtilobnplmkmmpaaWhereFns
namespace Go.Proofs.Ytilobnplmkmmpaa
open Go.RowKit

theorem place_yes (a b : Nat) (p : Int × Int) (w : World) (hp : plc a b = some p) :
    Calls Try.prog 29 #[.complex .f64 a b] w fun e w' => e = .returned (.bool true) ∧ w = w' := by
  have := place_any a b w
  rw [hp] at this
  exact this
theorem place_no (a b : Nat) (w : World) (hp : plc a b = none) :
    Calls Try.prog 29 #[.complex .f64 a b] w fun e w' => e = .returned (.bool false) ∧ w = w' := by
  have := place_any a b w
  rw [hp] at this
  exact this
def distO : Option (Int × Int) → Option (Int × Int) → Int
  | some p, some q => sq p q
  | _, _ => -1
theorem dist_any (a b c d : Nat) (w : World) :
    Calls Try.prog 27 #[.complex .f64 a b, .complex .f64 c d] w fun e w' => e = .returned (.int .i64 (distO (plc a b) (plc c d))) ∧ w = w' := by
  cases hp : plc a b with
  | none =>
    have H := Lib.hid hp
    clear hp
    go_enter Try.func27, Try.ntmps27
    go_wp2_with (fail)
    refine (place_no _ _ _ H.out).mono ?_
    rintro e w' ⟨rfl, rfl⟩
    go_wp2_with (fail)
    go_ret
    exact ⟨rfl, rfl⟩
  | some p =>
    have H := Lib.hid hp
    clear hp
    cases hq : plc c d with
    | none =>
      have K := Lib.hid hq
      clear hq
      go_enter Try.func27, Try.ntmps27
      go_wp2_with (fail)
      refine (place_yes _ _ _ _ H.out).mono ?_
      rintro e w' ⟨rfl, rfl⟩
      go_wp2_with (fail)
      refine (place_no _ _ _ K.out).mono ?_
      rintro e w' ⟨rfl, rfl⟩
      go_wp2_with (fail)
      go_ret
      exact ⟨rfl, rfl⟩
    | some q =>
      have K := Lib.hid hq
      clear hq
      go_enter Try.func27, Try.ntmps27
      go_wp2_with (fail)
      refine (place_yes _ _ _ _ H.out).mono ?_
      rintro e w' ⟨rfl, rfl⟩
      go_wp2_with (fail)
      refine (place_yes _ _ _ _ K.out).mono ?_
      rintro e w' ⟨rfl, rfl⟩
      go_wp2_with (fail)
      refine (apart_any _ _ _ _ p q _ H.out K.out).mono ?_
      rintro e w' ⟨rfl, rfl⟩
      go_wp2_with (fail)
      go_ret
      exact ⟨rfl, rfl⟩

/-- the reference's tests of a part -/
structure Good (x : Nat) (z : Int) : Prop where
  t1 : (FloatKind.f64.format.order x x != some Ordering.eq) = false
  t2 : (FloatKind.f64.format.order x 4652007308841189376 == some Ordering.gt) = false
  t3 : (FloatKind.f64.format.order x 13875379345695965184 == some Ordering.lt) = false
  t4 : (FloatKind.f64.format.order (floatOfInt .f64 z) x != some Ordering.eq) = false
  cv : ∀ w : World, (convert 33 3 (.float .f64 x)).run Try.prog w = .ok (.int .i64 z) w
theorem good_of {x : Nat} {z : Int} (h : Coord x z) : Good x z := by
  obtain ⟨h, lo, hi⟩ := h
  have ez : compare z z = .eq := Int.compare_eq_eq.2 rfl
  refine ⟨?_, ?_, ?_, ?_, fun w => run_convert_float_int w _ _ _ _ _ _ (by kernel_rfl) Try.underlying3 (fl_int h (by omega))⟩
  · rw [fl_order h h, ez]; rfl
  · rw [fl_order h hi_fl]
    have : compare z 1000 ≠ .gt := fun e => by have := Int.compare_eq_gt.1 e; omega
    cases hc : compare z 1000 <;> simp_all
  · rw [fl_order h lo_fl]
    have : compare z (-1000) ≠ .lt := fun e => by have := Int.compare_eq_lt.1 e; omega
    cases hc : compare z (-1000) <;> simp_all
  · rw [fl_order (fl_of z (by omega)) h, ez]; rfl
inductive Bad (x : Nat) : Prop
  | a (t1 : (FloatKind.f64.format.order x x != some Ordering.eq) = true)
  | b (t1 : (FloatKind.f64.format.order x x != some Ordering.eq) = false) (t2 : (FloatKind.f64.format.order x 4652007308841189376 == some Ordering.gt) = true)
  | c (t1 : (FloatKind.f64.format.order x x != some Ordering.eq) = false) (t2 : (FloatKind.f64.format.order x 4652007308841189376 == some Ordering.gt) = false)
      (t3 : (FloatKind.f64.format.order x 13875379345695965184 == some Ordering.lt) = true)
  | d (z : Int) (t1 : (FloatKind.f64.format.order x x != some Ordering.eq) = false) (t2 : (FloatKind.f64.format.order x 4652007308841189376 == some Ordering.gt) = false)
      (t3 : (FloatKind.f64.format.order x 13875379345695965184 == some Ordering.lt) = false)
      (t4 : (FloatKind.f64.format.order (floatOfInt .f64 z) x != some Ordering.eq) = true)
      (cv : ∀ w : World, (convert 33 3 (.float .f64 x)).run Try.prog w = .ok (.int .i64 z) w)
theorem bad_of {x : Nat} (h : ¬ ∃ z, Coord x z) : Bad x := by
  rcases sort_of x with ⟨g, _⟩ | ⟨g0, g, g'⟩ | ⟨g0, g, g'⟩ | ⟨z, g, lo, hi⟩ | ⟨z, g0, g, g', hn, _, hi, ⟨o, ho, hne⟩⟩
  · exact .a (by rw [g]; rfl)
  · exact .c (by rw [g0]; rfl) (by rw [g']; rfl) (by rw [g]; rfl)
  · exact .b (by rw [g0]; rfl) (by rw [g']; rfl)
  · exact absurd ⟨z, g, lo, hi⟩ h
  · exact .d z (by rw [g0]; rfl) (by rw [g']; rfl) (by rw [g]; rfl) (by rw [ho]; cases o <;> simp_all) fun w => run_convert_float_int w _ _ _ _ _ _ (by kernel_rfl) Try.underlying3 hi
end Go.Proofs.Ytilobnplmkmmpaa
