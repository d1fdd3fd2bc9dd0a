/- Plain mathematics: what can be read is written in just these bytes, and what was written can be read. -/
import Derived.Test.YtndcmjgjecdgcaaDoorUnpackT
namespace Go.Proofs.YtndcmjgjecdgcaaDoor.Wire

theorem u8_ofNat_toNat (b : UInt8) : UInt8.ofNat b.toNat = b := by simp
theorem rdFrom_vi : ∀ (l : List UInt8) (i v k : Nat), i + k = 10 → 1 ≤ k → ∀ V n, rdFrom i v l = .ok V n → ∃ u, V = v + u * 2 ^ (7 * i) ∧ (0 < i → 0 < u) ∧ i < n ∧ l.take (n - i) = vi k u
  | [], _, _, _, _, _, _, _, h => by simp [rdFrom] at h
  | b :: r, i, v, k, hik, hk1, V, n, h => by
    unfold rdFrom at h
    by_cases h9 : i = 9 ∧ 1 < b.toNat
    · rw [if_pos h9] at h; cases h
    · rw [if_neg h9] at h
      by_cases hb : 128 ≤ b.toNat
      · rw [if_pos hb] at h
        have hi9 : i ≠ 9 := by intro e; exact h9 ⟨e, by omega⟩
        obtain ⟨j, rfl⟩ : ∃ j, k = j + 1 := ⟨k - 1, by omega⟩
        obtain ⟨u, hV, hu, hn, ht⟩ := rdFrom_vi r (i + 1) _ j (by omega) (by omega) V n h
        have hu0 := hu (by omega)
        have hbl := b.toNat_lt
        refine ⟨b.toNat % 128 + 128 * u, ?_, fun _ => by omega, by omega, ?_⟩
        · rw [hV, pow7, Nat.add_mul, Nat.add_assoc]
          congr 2
          rw [← Nat.mul_assoc, Nat.mul_comm u 128]
        · have hni : n - i = (n - (i + 1)) + 1 := by omega
          rw [hni, List.take_succ_cons, ht, vi_big j _ (by omega)]
          have e1 : (b.toNat % 128 + 128 * u) % 128 + 128 = b.toNat := by omega
          have e2 : (b.toNat % 128 + 128 * u) / 128 = u := by omega
          rw [e1, e2, u8_ofNat_toNat]
      · rw [if_neg hb] at h
        by_cases h0 : b.toNat = 0 ∧ 0 < i
        · rw [if_pos h0] at h; cases h
        · rw [if_neg h0] at h
          injection h with h1 h2
          subst h1 h2
          have hm : b.toNat % 128 = b.toNat := by omega
          obtain ⟨j, rfl⟩ : ∃ j, k = j + 1 := ⟨k - 1, by omega⟩
          refine ⟨b.toNat, by rw [hm], fun hi => by omega, by omega, ?_⟩
          rw [show i + 1 - i = 1 by omega, vi_small j _ (by omega), u8_ofNat_toNat]
          rfl
/-- WHAT CAN BE READ IS WRITTEN IN JUST THESE BYTES. -/
theorem rd_form {l : List UInt8} {v n : Nat} (h : rd l = .ok v n) : l.take n = num (zag v) := by
  obtain ⟨u, hV, _, _, ht⟩ := rdFrom_vi l 0 0 10 (by omega) (by omega) v n h
  simp only [Nat.mul_zero, Nat.pow_zero, Nat.mul_one, Nat.zero_add, Nat.sub_zero] at hV ht
  unfold num
  rw [zig_zag, hV, ht]
theorem vi_rdFrom : ∀ (k i v u : Nat) (t : List UInt8), i + (k + 1) = 10 → u * 2 ^ (7 * i) < 2 ^ 64 → (0 < i → 0 < u) → u < 128 ^ (k + 1) →
    rdFrom i v (vi (k + 1) u ++ t) = .ok (v + u * 2 ^ (7 * i)) (i + (vi (k + 1) u).length)
  | k, i, v, u, t, hik, hC, h0, hu => by
    by_cases hs : u < 128
    · rw [vi_small k u hs]
      have e : (UInt8.ofNat u).toNat = u := by rw [UInt8.toNat_ofNat']; omega
      have h9 : ¬ (i = 9 ∧ 1 < u) := by
        rintro ⟨rfl, h1⟩
        have e9 : (2 : Nat) ^ (7 * 9) = 9223372036854775808 := by decide
        rw [e9] at hC
        omega
      simp only [List.cons_append, List.nil_append]
      unfold rdFrom
      rw [e, if_neg h9, if_neg (by omega), if_neg (by omega), Nat.mod_eq_of_lt hs]
      rfl
    · rw [vi_big k u hs]
      have hlt : u % 128 < 128 := Nat.mod_lt _ (by decide)
      have e : (UInt8.ofNat (u % 128 + 128)).toNat = u % 128 + 128 := by rw [UInt8.toNat_ofNat']; omega
      have hk : 1 ≤ k := by
        rcases Nat.eq_zero_or_pos k with h | h
        · subst h; simp at hu; omega
        · exact h
      obtain ⟨j, rfl⟩ : ∃ j, k = j + 1 := ⟨k - 1, by omega⟩
      have hmul : u / 128 * 2 ^ (7 * (i + 1)) ≤ u * 2 ^ (7 * i) := by
        rw [pow7, ← Nat.mul_assoc]
        exact Nat.mul_le_mul_right _ (Nat.div_mul_le_self _ _)
      have ih := vi_rdFrom j (i + 1) (v + u % 128 * 2 ^ (7 * i)) (u / 128) t (by omega) (Nat.lt_of_le_of_lt hmul hC) (fun _ => by omega) (by rw [Nat.pow_succ] at hu; omega)
      simp only [List.cons_append]
      unfold rdFrom
      rw [e, if_neg (by omega), if_pos (by omega)]
      have em : (u % 128 + 128) % 128 = u % 128 := by omega
      rw [em, ih]
      congr 1
      · rw [pow7, Nat.add_assoc]
        congr 1
        have : u = u % 128 + 128 * (u / 128) := by omega
        conv => rhs; rw [this, Nat.add_mul]
        congr 1
        rw [← Nat.mul_assoc, Nat.mul_comm (u / 128) 128]
      · simp only [List.length_cons]; omega
/-- WHAT WAS WRITTEN CAN BE READ. -/
theorem num_rd {n : Int} (hn : -9223372036854775808 ≤ n ∧ n ≤ 9223372036854775807) (t : List UInt8) : rd (num n ++ t) = .ok (zig n) (num n).length := by
  have h := vi_rdFrom 9 0 0 (zig n) t (by omega) (by simpa using zig_lt hn) (by omega) (Nat.lt_of_lt_of_le (zig_lt hn) (by decide))
  simp only [Nat.mul_zero, Nat.pow_zero, Nat.mul_one, Nat.zero_add] at h
  exact h
end Go.Proofs.YtndcmjgjecdgcaaDoor.Wire
