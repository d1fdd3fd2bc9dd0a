/- Plain mathematics of the wire's forms: a number's pieces of seven bits, and back. No program is read here. -/
import Derived.Laws.BitsAllLaws
import Derived.Below
namespace Go.Proofs.YtndcmjgjecdgcaaDoor.Wire

/-- numbers below 0 stand between the others -/
def zig (n : Int) : Nat := if n < 0 then (-2 * n - 1).toNat else (2 * n).toNat
def zag (u : Nat) : Int := if u % 2 = 1 then -((u / 2 : Nat) : Int) - 1 else ((u / 2 : Nat) : Int)
theorem zag_zig (n : Int) : zag (zig n) = n := by
  unfold zag zig
  by_cases h : n < 0
  · rw [if_pos h]; split <;> omega
  · rw [if_neg h]; split <;> omega
theorem zig_zag (u : Nat) : zig (zag u) = u := by
  unfold zag zig
  split
  · rw [if_pos (by omega)]; omega
  · rw [if_neg (by omega)]; omega
theorem zig_lt {n : Int} (h : -9223372036854775808 ≤ n ∧ n ≤ 9223372036854775807) : zig n < 2 ^ 64 := by
  unfold zig; split <;> omega
theorem zag_bd {u : Nat} (h : u < 2 ^ 64) : -9223372036854775808 ≤ zag u ∧ zag u ≤ 9223372036854775807 := by
  unfold zag; split <;> omega

/-- the pieces of u, at most k of them -/
def vi : Nat → Nat → List UInt8
  | 0, _ => []
  | k + 1, u => if u < 128 then [UInt8.ofNat u] else UInt8.ofNat (u % 128 + 128) :: vi k (u / 128)
theorem vi_small (k u : Nat) (h : u < 128) : vi (k + 1) u = [UInt8.ofNat u] := by simp [vi, h]
theorem vi_big (k u : Nat) (h : ¬ u < 128) : vi (k + 1) u = UInt8.ofNat (u % 128 + 128) :: vi k (u / 128) := by simp [vi, h]
theorem vi_length : ∀ (k u : Nat), (vi k u).length ≤ k
  | 0, _ => by simp [vi]
  | k + 1, u => by
    unfold vi
    split
    · simp
    · have := vi_length k (u / 128); simp; omega
theorem vi_pos (k u : Nat) : 0 < (vi (k + 1) u).length := by
  unfold vi; split <;> simp
theorem vi_mono : ∀ (k u v : Nat), u ≤ v → (vi k u).length ≤ (vi k v).length
  | 0, _, _, _ => by simp [vi]
  | k + 1, u, v, h => by
    by_cases hu : u < 128
    · have := vi_pos k v
      rw [vi_small k u hu]
      show 1 ≤ _
      exact this
    · rw [vi_big k u hu, vi_big k v (by omega)]
      have := vi_mono k (u / 128) (v / 128) (by omega)
      simp; omega
/-- the form of a number -/
def num (n : Int) : List UInt8 := vi 10 (zig n)
def text (l : List UInt8) : List UInt8 := num l.length ++ l
def bool (b : Bool) : List UInt8 := if b then [1] else [0]
theorem num_length (n : Int) : 1 ≤ (num n).length ∧ (num n).length ≤ 10 := ⟨vi_pos 9 _, vi_length 10 _⟩
end Go.Proofs.YtndcmjgjecdgcaaDoor.Wire
