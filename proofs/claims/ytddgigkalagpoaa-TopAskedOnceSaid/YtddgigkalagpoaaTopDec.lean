/- Numbers as decimal texts, and back: package mahouttop's own two functions. -/
import Derived.Test.YtddgigkalagpoaaPlainKit
import Derived.Test.YtddgigkalagpoaaBytes
import Derived.Lib.Hide
import Derived.IntWalk
import Derived.Below
namespace Go.Proofs.Ytddgigkalagpoaa
open Go.RowKit

def digit (n : Nat) : UInt8 := UInt8.ofNat (48 + n % 10)
theorem digit_nat (n : Nat) : (digit n).toNat = 48 + n % 10 := by
  unfold digit
  rw [UInt8.toNat_ofNat_of_lt' (by show _ < 256; omega)]
/-- the digits of a number -/
def decL (n : Nat) : List UInt8 := if h : n < 10 then [digit n] else decL (n / 10) ++ [digit n]
termination_by n
decreasing_by omega
theorem decL_small {n : Nat} (h : n / 10 < 1) : decL n = [digit n] := by
  rw [decL, dif_pos (by omega)]
theorem decL_step {n : Nat} (h : ¬ n / 10 < 1) : decL n = decL (n / 10) ++ [digit n] := by
  conv => lhs; rw [decL, dif_neg (by omega)]
/-- what a text of digits says -/
def valL (l : List UInt8) : Nat := l.foldl (fun n c => 10 * n + (c.toNat - 48)) 0
theorem valL_snoc (l : List UInt8) (c : UInt8) : valL (l ++ [c]) = 10 * valL l + (c.toNat - 48) := by simp [valL]
def Digits (l : List UInt8) : Prop := ∀ c ∈ l, 48 ≤ c.toNat ∧ c.toNat ≤ 57
theorem val_dec (n : Nat) : valL (decL n) = n ∧ Digits (decL n) := by
  induction n using Nat.strongRecOn with
  | ind n ih =>
    have hd : 48 ≤ (digit n).toNat ∧ (digit n).toNat ≤ 57 := by rw [digit_nat]; omega
    by_cases h : n / 10 < 1
    · rw [decL_small h]
      refine ⟨?_, fun c hc => by simp at hc; subst hc; exact hd⟩
      simp [valL, digit_nat]
      omega
    · rw [decL_step h]
      obtain ⟨h1, h2⟩ := ih (n / 10) (by omega)
      refine ⟨?_, fun c hc => ?_⟩
      · rw [valL_snoc, h1, digit_nat]
        omega
      · rcases List.mem_append.1 hc with hc | hc
        · exact h2 c hc
        · simp at hc; subst hc; exact hd
theorem valL_take {l : List UInt8} {i : Nat} (hi : i < l.length) : valL (l.take (i + 1)) = 10 * valL (l.take i) + (l[i].toNat - 48) := by
  rw [List.take_succ_eq_append_getElem hi, valL_snoc]
theorem valL_mono (l : List UInt8) : ∀ k i, i + k = l.length → valL (l.take i) ≤ valL l
  | 0, i, h => by rw [List.take_of_length_le (by omega)]; exact Nat.le_refl _
  | k + 1, i, h => by
    have := valL_mono l k (i + 1) (by omega)
    rw [valL_take (show i < l.length by omega)] at this
    omega
theorem valL_le (l : List UInt8) (i : Nat) (hi : i ≤ l.length) : valL (l.take i) ≤ valL l := valL_mono l (l.length - i) i (by omega)
theorem dec_len (n : Nat) : ∀ k, n < 10 ^ k → (decL n).length ≤ max k 1 := by
  induction n using Nat.strongRecOn with
  | ind n ih =>
    intro k hk
    by_cases h : n / 10 < 1
    · rw [decL_small h]; simp; omega
    · rw [decL_step h]
      match k, hk with
      | 0, hk => simp at hk; omega
      | k + 1, hk =>
        have h10 : n / 10 < 10 ^ k := by rw [Nat.pow_succ] at hk; omega
        have := ih (n / 10) (by omega) k h10
        rw [List.length_append]
        simp only [List.length_singleton]
        have hk1 : 1 ≤ k := by
          rcases Nat.eq_zero_or_pos k with rfl | h0
          · simp at h10; omega
          · exact h0
        omega
def decS (n : Nat) : ByteArray := ⟨(decL n).toArray⟩
theorem decS_list (n : Nat) : (decS n).data.toList = decL n := by simp [decS]
theorem decS_size (n : Nat) (h : n ≤ 1000000000000000000) : (decS n).size ≤ 19 := by
  have := dec_len n 19 (by omega)
  show (decS n).data.size ≤ 19
  simp [decS]
  omega
theorem size_list (s : ByteArray) : s.data.toList.length = s.size := by simp
set_option maxRecDepth 100000 in
set_option maxHeartbeats 2000000 in
theorem value_any (s : ByteArray) (w : World) (hs : s.size ≤ 1000000) (hd : Digits s.data.toList) (hv : valL s.data.toList ≤ 1000000000000000000) :
    Calls Try.prog 11 #[.string s] w fun e w' => e = .returned (.int .i64 (valL s.data.toList)) ∧ w = w' := by
  have HD := Lib.hid hd
  have HV := Lib.hid hv
  have hs' : (s.size : Int) ≤ 1000000 := by omega
  clear hd hv
  go_enter Try.func11, Try.ntmps11
  go_wp2
  go_loop [3, 4] (fun n i => ∃ k : Nat, k ≤ s.size ∧ i = .int .i64 k ∧ n = .int .i64 (valL (s.data.toList.take k) : Nat)) (fun _ i => s.size - (intOf i).toNat)
  case atStart => exact ⟨0, Nat.zero_le _, rfl, by simp [valL]⟩
  case round =>
    obtain ⟨k, hk, rfl, rfl⟩ := hrel
    by_cases hlt : k < s.size
    · have hlt' : (k : Int) < s.size := by omega
      have hkl : k < s.data.toList.length := by rw [size_list]; exact hlt
      have hstep := valL_take hkl
      have hle := valL_le s.data.toList k (by omega)
      have hle1 := valL_le s.data.toList (k + 1) (by omega)
      have hdk := HD.out (s.data.toList[k]) (List.getElem_mem _)
      have hgk : s.data.toList[k] = s[k] := by simp; rfl
      rw [hgk] at hstep hdk
      have HV' := HV.out
      obtain ⟨v, hvv⟩ : ∃ v, v = valL (s.data.toList.take k) := ⟨_, rfl⟩
      rw [← hvv] at hstep hle ⊢
      have hb1 : (v : Int) ≤ 1000000000000000000 := by omega
      have hb0 : (0 : Int) ≤ v := by omega
      have HN : Hid ((valL (s.data.toList.take (k + 1)) : Int) = 10 * (v : Int) + ((s[k].toNat : Int) - 48)) := Lib.hid (by omega)
      have hc1 : 48 ≤ (s[k].toNat : Int) := by omega
      have hc2 : (s[k].toNat : Int) ≤ 57 := by omega
      have hu : IntKind.u8.wrap ((s[k].toNat : Int) - 48) = (s[k].toNat : Int) - 48 := by
        unfold IntKind.wrap
        simp [IntKind.signed, IntKind.bits]
        omega
      have hm : wrap64 (10 * (v : Int)) = 10 * (v : Int) := IntWalk.wrap64_in _ ⟨by omega, by omega⟩
      have ha : wrap64 (10 * (v : Int) + ((s[k].toNat : Int) - 48)) = 10 * (v : Int) + ((s[k].toNat : Int) - 48) := IntWalk.wrap64_in _ ⟨by omega, by omega⟩
      clear hstep hle hle1 hdk HV' hgk hvv
      go_wp2
      exact ⟨⟨k + 1, by omega, by go_num, by rw [ha, HN.out]⟩, by simp [intOf]; omega⟩
    · go_wp2
      go_ret
      have : s.data.toList.take k = s.data.toList := List.take_of_length_le (by rw [size_list]; omega)
      exact ⟨by rw [this]; rfl, rfl⟩
set_option maxRecDepth 100000 in
set_option maxHeartbeats 2000000 in
theorem decimal_any (n : Nat) (w : World) (hn : n ≤ 1000000000000000000) :
    Calls Try.prog 18 #[.int .i64 (n : Int)] w fun e w' => e = .returned (.string (decS n)) ∧ Below w.heap.size w w' := by
  go_enter Try.func18, Try.ntmps18
  go_wp2
  go_loopw [0, 3] (fun m o wr => ∃ (k : Nat) (O : ByteArray), m = .int .i64 k ∧ o = .string O ∧ k ≤ 1000000000000000000 ∧ O.size ≤ 100 ∧ Hid (decL n = decL k ++ O.data.toList ∧ Below w.heap.size w wr)) (fun m _ _ => (intOf m).toNat)
  case atStart => exact ⟨n, ⟨#[]⟩, rfl, rfl, hn, by decide, Lib.hid ⟨by simp, Below.refl _ _⟩⟩
  case round =>
    obtain ⟨k, O, rfl, rfl, hk, hO, HR⟩ := hrel
    have hcv : ∀ w1 : World, (convert 70 9 (.slice (some ⟨w1.heap.size, 0, none⟩) 1 1)).run Try.prog (w1.alloc (.cells #[.int .u8 (48 + (k : Int) % 10)] 5)) =
        .ok (.string ⟨#[digit k]⟩) (w1.alloc (.cells #[.int .u8 (48 + (k : Int) % 10)] 5)) := fun w1 => by
      have hdg : ((digit k).toNat : Int) = 48 + (k : Int) % 10 := by rw [digit_nat]; omega
      have := run_convert_bytes_back (P := Try.prog) (w1.alloc (.cells #[.int .u8 (48 + (k : Int) % 10)] 5)) 70 9 5 ⟨w1.heap.size, 0, none⟩ 1 [digit k]
        Try.underlying70 Try.underlying5 Try.underlying9 (fun j hj => by
          match j, hj with
          | 0, _ => simp only [Addr.add, List.getElem_cons_zero]; rw [hdg]; simp)
      exact this
    have hw1 : wrap64 (48 + (k : Int) % 10) = 48 + (k : Int) % 10 := IntWalk.wrap64_in _ ⟨by omega, by omega⟩
    have hk9 : (k : Int) ≤ 1000000000000000000 := by omega
    have hk0 : (0 : Int) ≤ (k : Int) := by omega
    have hm1 : (48 + (k : Int) % 10) % 256 = 48 + (k : Int) % 10 := by omega
    by_cases h : k / 10 < 1
    · have hq : (k : Int) / 10 < 1 := by omega
      go_wp2
      go_ret
      refine ⟨?_, (HR.out.2.alloc HR.out.2.size _)⟩
      have e : decS n = (⟨#[digit k]⟩ : ByteArray) ++ O := by
        apply ByteArray.ext
        apply Array.toList_inj.1
        rw [decS_list, HR.out.1, decL_small h]
        simp
      rw [e]
      rfl
    · have hq : ¬ (k : Int) / 10 < 1 := by omega
      have HB := Lib.hid (fun o => HR.out.2.alloc HR.out.2.size o)
      have HL : Hid (decL n = decL (k / 10) ++ ((⟨#[digit k]⟩ : ByteArray) ++ O).data.toList) := Lib.hid (by
        rw [HR.out.1, decL_step h]
        simp)
      have HZ : Hid (((⟨#[digit k]⟩ : ByteArray) ++ O).size ≤ 100) := Lib.hid (by
        have h1 := decS_size n hn
        have h2 : (decS n).size = (decL n).length := by show (decS n).data.size = _; simp [decS]
        have h3 := congrArg List.length HL.out
        rw [List.length_append, size_list] at h3
        omega)
      go_wp2
      exact ⟨⟨k / 10, _, by simp, rfl, by omega, HZ.out, Lib.hid ⟨HL.out, HB.out _⟩⟩, by simp [intOf]; omega⟩
end Go.Proofs.Ytddgigkalagpoaa
