/- Merging: the heap of those runs that have pairs. -/
import Derived.Test.YtcgilgihmapipaaMrgOps
import Derived.Test.YtcgilgihmapipaaMrgSpec
import Derived.Test.YtcgilgihmapipaaSlices
namespace Go.Proofs.Ytcgilgihmapipaa
open Go.RowKit
/-- the runs' headers lie in a row below B -/
def HdAt (R : Rn) (B : Nat) (A : Option Addr) (W : World) : Prop := ∀ i, i < R.n → ∃ b off a, A = some ⟨b, off, none⟩ ∧ b < B ∧ W.cell? ⟨b, off + i, none⟩ = some (.slice a (R.ln i) (R.cp i)) ∧ (0 < R.ln i → a = some ⟨R.bk i, R.of i, none⟩) ∧ R.ln i ≤ R.cp i
/-- sources among the first k runs -/
def firstK (R : Rn) (k : Nat) : List It := ((List.range k).filter fun i => decide (0 < R.ln i)).map fun i => (i, 0)
theorem firstK_all (R : Rn) : firstK R R.n = itemsP R (fun _ => 0) := rfl
theorem firstK_yes (R : Rn) (k : Nat) (h : 0 < R.ln k) : firstK R (k + 1) = firstK R k ++ [(k, 0)] := by simp [firstK, List.range_succ, h]
theorem firstK_no (R : Rn) (k : Nat) (h : ¬ 0 < R.ln k) : firstK R (k + 1) = firstK R k := by
  have : R.ln k = 0 := by omega
  simp [firstK, List.range_succ, this]
theorem firstK_len (R : Rn) (k : Nat) : (firstK R k).length ≤ k := by
  unfold firstK
  rw [List.length_map]
  exact Nat.le_trans (List.length_filter_le _ _) (by simp)
theorem firstK_valid (R : Rn) (k : Nat) (hk : k ≤ R.n) : VIts R (firstK R k) := fun x hx => by
  obtain ⟨i, hi, rfl⟩ := List.mem_map.1 hx
  obtain ⟨h1, h2⟩ := List.mem_filter.1 hi
  exact ⟨by have := List.mem_range.1 h1; show i < R.n; omega, of_decide_eq_true h2⟩
set_option maxRecDepth 100000 in
set_option maxHeartbeats 8000000 in
theorem sources_any (R : Rn) (ord : It → Int) (HO : Hid (OrdOk R ord)) (hln : Hid (∀ i, i < R.n → R.ln i ≤ 4398046511104)) (hn : R.n ≤ 1099511627776) (A : Option Addr) (cap : Nat) (w : World) (hR : RnAt R w.heap.size w) (hH : HdAt R w.heap.size A w) :
    Calls Try.prog 25 #[.slice A R.n cap] w fun e w' => ∃ hp l, e = .returned (.pointer (some ⟨hp, 0, none⟩)) ∧ l.Perm (itemsP R fun _ => 0) ∧ HeapO l.length (ordL ord l) ∧ HpAt R w.heap.size hp l w' ∧ Below w.heap.size w w' := by
  obtain ⟨B, hB⟩ : ∃ B, B = w.heap.size := ⟨_, rfl⟩
  rw [← hB] at hR hH ⊢
  have HR := Lib.hid (And.intro hR hH)
  obtain ⟨N, hN⟩ : ∃ N, N = R.n := ⟨_, rfl⟩
  have HN := Lib.hid hN
  rw [← hN] at hn ⊢
  have HB := Lib.hid hB
  clear hR hH hN hB
  go_enter Try.func25, Try.ntmps25
  go_wp2_with (fail)
  obtain ⟨W1, hW1⟩ : ∃ W1, W1 = w.alloc (.cells #[.slice none 0 0, .func (.func 31) #[] #[]] 65) := ⟨_, rfl⟩
  have hat : HpAt R B B [] W1 := ⟨Nat.le_refl _, .slice none 0 0, by rw [hW1, HB.out]; exact heap_alloc_new w _, World.ownsRow_nil _ _ _ _⟩
  have hk1 : Kp B w W1 := by rw [hW1]; exact kp_below ((Below.refl _ _).alloc (Nat.le_refl _) _)
  have H0 : Hid (∃ l, l.Perm (firstK R 0) ∧ HeapO l.length (ordL ord l) ∧ HpAt R B B l W1 ∧ Kp B w W1) := Lib.hid ⟨[], List.Perm.refl _, fun i h0 hi => absurd hi (by simp), hat, hk1⟩
  rw [← hW1, ← HB.out]
  clear hW1 hat hk1
  go_loopw [10] (fun iv wr => ∃ k : Nat, k ≤ N ∧ iv = .int .i64 (k : Int) ∧ Hid (∃ l, l.Perm (firstK R k) ∧ HeapO l.length (ordL ord l) ∧ HpAt R B B l wr ∧ Kp B w wr)) (fun iv _ => N - (intOf iv).toNat)
  case atStart => exact ⟨0, Nat.zero_le _, rfl, H0⟩
  case round =>
    clear H0
    obtain ⟨k, hk, rfl, HL⟩ := hrel
    by_cases hlt : k < N
    · obtain ⟨l, hp1, hh, hat, hkp⟩ := HL.out
      obtain ⟨b, off, a, rfl, hb, hc, ha, _⟩ := HR.out.2 k (by have := HN.out; omega)
      have c1 : wr.cell? ⟨b, off + k, none⟩ = some (.slice a (R.ln k) (R.cp k)) := (((hkp.below (Nat.le_of_eq HB.out)).cell (p := ⟨b, off + k, none⟩) hb)).trans hc
      have HLL := Lib.hid (And.intro hp1 (And.intro hh (And.intro hat hkp)))
      by_cases h0 : 0 < R.ln k
      · have hae := ha h0
        subst hae
        have h0' : (0 : Int) < (R.ln k : Int) := by omega
        have hlen := firstK_len R k
        have hpush := push_any R B B ord HO hln l (k, 0) wr (by rw [hp1.length_eq]; omega) ⟨by show k < R.n; have := HN.out; omega, h0⟩ (fun x hx => firstK_valid R k (by have := HN.out; omega) x (hp1.mem_iff.1 hx)) (Nat.le_trans (Nat.le_of_eq HB.out) hkp.size) (rnAt_kp HR.out.1 (Nat.le_of_eq HB.out) hkp) hat hh
        simp only [Nat.zero_mul, Nat.add_zero, Nat.sub_zero] at hpush
        have HFK := Lib.hid (firstK_yes R k h0)
        clear hp1 hh hat hkp hc ha hlen
        go_wp2_with (fail)
        refine hpush.mono ?_
        rintro e w3 ⟨rfl, l', hp', hh', hat', hk'⟩
        have HN2 : Hid (∃ l, l.Perm (firstK R (k + 1)) ∧ HeapO l.length (ordL ord l) ∧ HpAt R B B l w3 ∧ Kp B w w3) := Lib.hid ⟨l', by
          rw [HFK.out]
          exact (hp'.trans (HLL.out.1.cons _)).trans (List.perm_append_comm (l₁ := [(k, 0)])), hh', hat', HLL.out.2.2.2.trans hk'⟩
        clear hpush hp' hh' hat' hk'
        go_wp2
        go_roundw
        case rel => exact ⟨k + 1, by omega, by first | rfl | go_num, HN2⟩
        case measure => simp [intOf]; omega
      · have h0' : ¬ (0 : Int) < (R.ln k : Int) := by omega
        have HN2 : Hid (∃ l, l.Perm (firstK R (k + 1)) ∧ HeapO l.length (ordL ord l) ∧ HpAt R B B l wr ∧ Kp B w wr) := Lib.hid ⟨l, by rw [firstK_no R k h0]; exact hp1, hh, hat, hkp⟩
        clear hp1 hh hat hkp hc ha
        go_wp2
        go_roundw
        case rel => exact ⟨k + 1, by omega, by first | rfl | go_num, HN2⟩
        case measure => simp [intOf]; omega
    · obtain rfl : k = N := by omega
      go_wp2
      go_ret
      obtain ⟨l, hp1, hh, hat, hkp⟩ := HL.out
      exact ⟨B, l, rfl, by rw [← firstK_all, ← HN.out]; exact hp1, hh, hat, hkp.below (Nat.le_of_eq HB.out)⟩
end Go.Proofs.Ytcgilgihmapipaa
