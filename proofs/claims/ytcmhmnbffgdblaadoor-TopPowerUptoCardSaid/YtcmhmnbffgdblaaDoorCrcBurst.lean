/- Plain mathematics: a change within four bytes in a row is seen by the sum; sums add up as bits do. -/
import Derived.Test.YtcmhmnbffgdblaaDoorCrcMath
namespace Go.Proofs.YtcmhmnbffgdblaaDoor.Crc

theorem s8_shl {x : BitVec 32} (h : x.toNat < 16777216) : s8 (x <<< 8) = x := by
  have e8 : (x <<< 8).toNat = x.toNat * 256 := by rw [BitVec.toNat_shiftLeft, Nat.shiftLeft_eq]; omega
  have e4 : s4 (x <<< 8) = (x <<< 8) >>> 4 := s4_even _ (by omega)
  have e4' : ((x <<< 8) >>> 4).toNat = x.toNat * 16 := by rw [BitVec.toNat_ushiftRight, Nat.shiftRight_eq_div_pow, e8]; omega
  unfold s8
  rw [e4, s4_even _ (by omega)]
  apply BitVec.eq_of_toNat_eq
  rw [BitVec.toNat_ushiftRight, Nat.shiftRight_eq_div_pow, e4']
  omega

def word : List UInt8 → BitVec 32
  | [] => 0#32
  | a :: m => by8 a ^^^ (word m <<< 8)
theorem by8_toNat (a : UInt8) : (by8 a).toNat = a.toNat := by
  unfold by8; have := a.toNat_lt; rw [BitVec.toNat_ofNat]; omega
theorem word_cons (a : UInt8) (m : List UInt8) (h : (word m).toNat < 16777216) : (word (a :: m)).toNat = a.toNat + 256 * (word m).toNat := by
  have ha := a.toNat_lt
  rw [show word (a :: m) = by8 a ^^^ (word m <<< 8) from rfl, BitVec.toNat_xor, by8_toNat, BitVec.toNat_shiftLeft, Nat.shiftLeft_eq]
  have e : (word m).toNat * 2 ^ 8 % 2 ^ 32 = 2 ^ 8 * (word m).toNat := by omega
  rw [e]
  have e2 : a.toNat ^^^ 2 ^ 8 * (word m).toNat = 2 ^ 8 * (word m).toNat + a.toNat := by
    rw [Nat.two_pow_add_eq_or_of_lt (by omega : a.toNat < 2 ^ 8)]
    apply Nat.eq_of_testBit_eq
    intro i
    rw [Nat.testBit_xor, Nat.testBit_or, Nat.testBit_two_pow_mul]
    by_cases hi : 8 ≤ i
    · have : a.toNat.testBit i = false := Nat.testBit_lt_two_pow (Nat.lt_of_lt_of_le (by omega : a.toNat < 2 ^ 8) (Nat.pow_le_pow_right (by decide) hi))
      simp [this]
    · simp [hi]
  rw [e2]
  omega
theorem word_lt : ∀ (m : List UInt8), m.length ≤ 4 → (word m).toNat < 256 ^ m.length
  | [], _ => by simp [word]
  | a :: m, h => by
    have ih := word_lt m (by simp at h; omega)
    have hl : m.length ≤ 3 := by simp at h; omega
    have h3 : 256 ^ m.length ≤ 256 ^ 3 := Nat.pow_le_pow_right (by decide) hl
    have hb : (word m).toNat < 16777216 := by omega
    have ha := a.toNat_lt
    rw [word_cons a m hb, List.length_cons, Nat.pow_succ]
    omega
theorem word_lt3 (m : List UInt8) (h : m.length ≤ 3) : (word m).toNat < 16777216 := by
  have h1 := word_lt m (by omega)
  have h3 : 256 ^ m.length ≤ 256 ^ 3 := Nat.pow_le_pow_right (by decide) h
  omega
theorem run_word : ∀ (m : List UInt8) (q : BitVec 32), m.length ≤ 4 → run q m = zs m.length (q ^^^ word m)
  | [], q, _ => by simp [run, word, zs, Nat.repeat]
  | a :: m, q, h => by
    have hl : m.length ≤ 3 := by simp at h; omega
    have ih := run_word m (step q a) (by omega)
    have e : run q (a :: m) = run (step q a) m := rfl
    rw [e, ih]
    have hs : word m = s8 (word m <<< 8) := (s8_shl (word_lt3 m hl)).symm
    have e2 : step q a ^^^ word m = s8 (q ^^^ word (a :: m)) := by
      conv => lhs; rw [hs]
      unfold step
      rw [← s8_xor, word, BitVec.xor_assoc]
    rw [e2, zs_comm]
    rfl
theorem word_inj : ∀ (m n : List UInt8), m.length = n.length → m.length ≤ 4 → word m = word n → m = n
  | [], [], _, _, _ => rfl
  | [], _ :: _, h, _, _ => by simp at h
  | _ :: _, [], h, _, _ => by simp at h
  | a :: m, b :: n, hl, h4, hw => by
    have hm : m.length ≤ 3 := by simp at h4; omega
    have hl' : m.length = n.length := by simpa using hl
    have h := congrArg BitVec.toNat hw
    rw [word_cons a m (word_lt3 m hm), word_cons b n (word_lt3 n (by omega))] at h
    have ha := a.toNat_lt
    have hb := b.toNat_lt
    have e1 : a.toNat = b.toNat := by omega
    have e2 : (word m).toNat = (word n).toNat := by omega
    rw [UInt8.toNat_inj.1 e1, word_inj m n hl' (by omega) (BitVec.eq_of_toNat_eq e2)]
theorem xor_zero_eq {a b : BitVec 32} (h : a ^^^ b = 0#32) : a = b := by
  have := congrArg (· ^^^ b) h
  simpa [BitVec.xor_assoc] using this
theorem zs_inj {n : Nat} {a b : BitVec 32} (h : zs n a = zs n b) : a = b := by
  apply xor_zero_eq
  apply zs_zero (n := n)
  rw [zs_xor, h]
  simp
theorem run_diff (a b : BitVec 32) (l : List UInt8) : run a l ^^^ run b l = zs l.length (a ^^^ b) := by
  have h1 := run_xor a 0#32 l
  have h2 := run_xor b 0#32 l
  rw [BitVec.xor_zero] at h1 h2
  rw [h1, h2, xor_swap, zs_xor]
  simp
theorem run_inj {a b : BitVec 32} {l : List UInt8} (h : run a l = run b l) : a = b := by
  apply xor_zero_eq
  apply zs_zero (n := l.length)
  rw [← run_diff, h]
  simp
theorem mid_inj {q : BitVec 32} {m n : List UInt8} (hl : m.length = n.length) (h4 : m.length ≤ 4) (h : run q m = run q n) : m = n := by
  rw [run_word m q h4, run_word n q (by omega), hl] at h
  have h2 := zs_inj h
  have h3 : word m = word n := by
    have := congrArg (q ^^^ ·) h2
    simpa [← BitVec.xor_assoc] using this
  exact word_inj m n hl h4 h3
theorem sum_inj {a b : List UInt8} (h : sum a = sum b) : run (~~~ 0#32) a = run (~~~ 0#32) b := by
  unfold sum ext at h
  have := congrArg (~~~ ·) h
  simpa using this
/-- NO CHANGE WITHIN FOUR BYTES IN A ROW GOES UNSEEN. -/
theorem burst {l m : List UInt8} (hlen : l.length = m.length) (a : Nat) (h1 : l.take a = m.take a) (h2 : l.drop (a + 4) = m.drop (a + 4)) (hne : l ≠ m) : sum l ≠ sum m := by
  intro h
  have hr := sum_inj h
  have d1 : l = l.take a ++ ((l.drop a).take 4 ++ l.drop (a + 4)) := by
    rw [← List.drop_drop, List.take_append_drop, List.take_append_drop]
  have d2 : m = m.take a ++ ((m.drop a).take 4 ++ m.drop (a + 4)) := by
    rw [← List.drop_drop, List.take_append_drop, List.take_append_drop]
  rw [d1, d2, run_append, run_append, run_append, run_append, h1, h2] at hr
  have h3 := run_inj hr
  have h4 := mid_inj (by simp [hlen]) (by simp; omega) h3
  apply hne
  rw [d1, d2, h1, h2, h4]

/-- three texts of one length and the sum of their bits -/
theorem run_three : ∀ (a b c d : List UInt8), a.length = d.length → b.length = d.length → c.length = d.length → (∀ i, i < d.length → d[i]?.getD 0 = a[i]?.getD 0 ^^^ b[i]?.getD 0 ^^^ c[i]?.getD 0) →
    ∀ (p q r : BitVec 32), run (p ^^^ q ^^^ r) d = run p a ^^^ run q b ^^^ run r c
  | [], [], [], [], _, _, _, _, _, _, _ => rfl
  | x :: a, y :: b, z :: c, t :: d, ha, hb, hc, hd, p, q, r => by
    have h0 := hd 0 (by simp)
    simp only [List.getElem?_cons_zero, Option.getD_some] at h0
    have ih := run_three a b c d (by simpa using ha) (by simpa using hb) (by simpa using hc) (fun i hi => by simpa using hd (i + 1) (by simpa using hi)) (step p x) (step q y) (step r z)
    have e : step (p ^^^ q ^^^ r) t = step p x ^^^ step q y ^^^ step r z := by
      unfold step
      rw [← s8_xor, ← s8_xor]
      congr 1
      have e3 : by8 t = by8 x ^^^ by8 y ^^^ by8 z := by
        apply BitVec.eq_of_toNat_eq
        rw [BitVec.toNat_xor, BitVec.toNat_xor, by8_toNat, by8_toNat, by8_toNat, by8_toNat, h0, UInt8.toNat_xor, UInt8.toNat_xor]
      rw [e3]
      generalize by8 x = X
      generalize by8 y = Y
      generalize by8 z = Z
      ext i hi
      simp only [BitVec.getElem_xor]
      cases p[i] <;> cases q[i] <;> cases r[i] <;> cases X[i] <;> cases Y[i] <;> cases Z[i] <;> rfl
    show run (step (p ^^^ q ^^^ r) t) d = run (step p x) a ^^^ run (step q y) b ^^^ run (step r z) c
    rw [e, ih]
  | [], _, _, _ :: _, h, _, _, _, _, _, _ => by simp at h
  | _ :: _, _, _, [], h, _, _, _, _, _, _ => by simp at h
  | _, [], _, _ :: _, _, h, _, _, _, _, _ => by simp at h
  | _, _ :: _, _, [], _, h, _, _, _, _, _ => by simp at h
  | _, _, [], _ :: _, _, _, h, _, _, _, _ => by simp at h
  | _, _, _ :: _, [], _, _, h, _, _, _, _ => by simp at h
/-- sums add up as bits do -/
theorem affine (a b c d : List UInt8) (ha : a.length = d.length) (hb : b.length = d.length) (hc : c.length = d.length) (hd : ∀ i, i < d.length → d[i]?.getD 0 = a[i]?.getD 0 ^^^ b[i]?.getD 0 ^^^ c[i]?.getD 0) :
    sum a ^^^ sum b ^^^ sum c = sum d := by
  have h := run_three a b c d ha hb hc hd (~~~ 0#32) (~~~ 0#32) (~~~ 0#32)
  have e : (~~~ 0#32 : BitVec 32) ^^^ ~~~ 0#32 ^^^ ~~~ 0#32 = ~~~ 0#32 := by decide
  rw [e] at h
  unfold sum ext
  rw [h]
  generalize run (~~~ 0#32) a = p
  generalize run (~~~ 0#32) b = q
  generalize run (~~~ 0#32) c = r
  ext i hi
  simp only [BitVec.getElem_xor, BitVec.getElem_not]
  cases p[i] <;> cases q[i] <;> cases r[i] <;> rfl
end Go.Proofs.YtcmhmnbffgdblaaDoor.Crc
