/- Merging: the laws' own functions over lists of pairs. -/
import Derived.Test.YtcgilgihmapipaaMrgRef
namespace Go.Proofs.Ytcgilgihmapipaa
open Go.RowKit

/-- pairs that can be read -/
def PrAt (W : World) (B : Nat) (A : Option Addr) (n : Nat) (k v : Nat → ByteArray) : Prop := ∀ j, j < n → ∃ b off, A = some ⟨b, off, none⟩ ∧ b < B ∧ W.cell? ⟨b, off + j * 2, none⟩ = some (.string (k j)) ∧ W.cell? ⟨b, off + j * 2 + 1, none⟩ = some (.string (v j))
theorem PrAt.below {W W' : World} {B : Nat} {A : Option Addr} {n : Nat} {k v : Nat → ByteArray} (h : PrAt W B A n k v) (hb : Below B W W') : PrAt W' B A n k v := fun j hj => by
  obtain ⟨b, off, e, h1, h2, h3⟩ := h j hj
  exact ⟨b, off, e, h1, (hb.cell (p := ⟨b, _, none⟩) h1).trans h2, (hb.cell (p := ⟨b, _, none⟩) h1).trans h3⟩
def prN (k v : Nat → ByteArray) (n : Nat) : List Value := (List.range n).flatMap fun i => [.string (k i), .string (v i)]
theorem prN_succ (k v : Nat → ByteArray) (n : Nat) : prN k v (n + 1) = prN k v n ++ [.string (k n), .string (v n)] := by simp [prN, List.range_succ]
theorem prN_len (k v : Nat → ByteArray) (n : Nat) : (prN k v n).length = n * 2 := by
  induction n with
  | zero => rfl
  | succ n ih => rw [prN_succ, List.length_append, ih]; simp; omega
theorem prN_get (k v : Nat → ByteArray) (n j : Nat) (h : j < n) : (prN k v n)[j * 2]? = some (.string (k j)) ∧ (prN k v n)[j * 2 + 1]? = some (.string (v j)) := by
  induction n with
  | zero => omega
  | succ n ih =>
    rw [prN_succ]
    have hl := prN_len k v n
    by_cases hj : j < n
    · rw [List.getElem?_append_left (by omega), List.getElem?_append_left (by omega)]
      exact ih hj
    · obtain rfl : j = n := by omega
      rw [List.getElem?_append_right (by omega), List.getElem?_append_right (by omega), hl]
      rw [show j * 2 - j * 2 = 0 by omega, show j * 2 + 1 - j * 2 = 1 by omega]
      simp
/-- a row of the call's own can be read -/
theorem prAt_own {W : World} {B n : Nat} {e : TypeId} {v : Value} {kk vv : Nat → ByteArray} (h : W.ownsRow B e 2 v n (prN kk vv n)) : ∃ A c, v = .slice A n c ∧ PrAt W W.heap.size A n kk vv := by
  rcases h.2 with ⟨rfl, h0⟩ | ⟨g, cap, cur, rfl, hB, hg, _⟩
  · exact ⟨none, 0, by rw [h0], fun j hj => by omega⟩
  · refine ⟨_, _, rfl, fun j hj => ⟨g, 0, rfl, (Array.getElem?_eq_some_iff.1 hg).1, ?_, ?_⟩⟩
    · rw [Nat.zero_add, h.cellAt _ (by omega)]
      exact (prN_get kk vv n j hj).1
    · rw [Nat.zero_add, h.cellAt _ (by omega)]
      exact (prN_get kk vv n j hj).2
def slen2 : Value → Nat
  | .slice _ k _ => k
  | _ => 0
set_option maxRecDepth 100000 in
set_option maxHeartbeats 8000000 in
theorem refs_any (A : Option Addr) (n cap : Nat) (kk vv : Nat → ByteArray) (w : World) (hn : n ≤ 1099511627776) (hP : PrAt w w.heap.size A n kk vv) :
    Calls Try.prog 12 #[.slice A n cap] w fun e w' => ∃ v, e = .returned v ∧ w'.ownsRow w.heap.size 51 2 v n (prN kk vv n) ∧ Below w.heap.size w w' := by
  obtain ⟨i0, hi, hz0, hz1, hz2⟩ := info_parts infoPairR
  obtain ⟨B, hB⟩ : ∃ B, B = w.heap.size := ⟨_, rfl⟩
  rw [← hB] at hP ⊢
  have HP := Lib.hid hP
  have HB := Lib.hid hB
  clear hP hB
  go_enter Try.func12, Try.ntmps12
  go_wp2
  go_loopw [3, 4] (fun vo iv wr => ∃ k : Nat, k ≤ n ∧ iv = .int .i64 (k : Int) ∧ Hid (wr.ownsRow B 51 2 vo k (prN kk vv k) ∧ Below B w wr)) (fun _ iv _ => n - (intOf iv).toNat)
  case atStart => exact ⟨0, Nat.zero_le _, rfl, Lib.hid ⟨World.ownsRow_nil _ _ _ _, Below.refl _ _⟩⟩
  case round =>
    obtain ⟨k, hk, rfl, HI⟩ := hrel
    by_cases hlt : k < n
    · obtain ⟨b, off, rfl, hb, c1, c2⟩ := (HP.out.below HI.out.2) k hlt
      have hown := HI.out.1
      have hBz : B ≤ wr.heap.size := by have h2 := HI.out.2.size; rw [HB.out]; exact h2
      have k3 : k + 1 ≤ maxLen := by unfold maxLen; omega
      have k4 : (k + 1) * 32 ≤ 140737488355328 := by omega
      go_wp2_with (at_builtin; refine wpList_append_own _ rfl _ _ 27 rfl B 51 i0 _ 2 32 Try.underlying27 hi hz0 hz1 hz2 rfl (by decide) _ _ _ rfl (hown.alloc _) ⟨wr.heap.size, 0, none⟩ 1 1 [.string (kk k), .string (vv k)] rfl rfl (item_new _ _ _ _) (by simp [Value.oneCell']) k3 k4 (by simp; omega) ?_)
      intro v' w3 hown' hgrow' _
      have HN : Hid (w3.ownsRow B 51 2 v' (k + 1) (prN kk vv (k + 1)) ∧ Below B w w3) := Lib.hid ⟨by
        rw [prN_succ]
        exact hown', by
        refine (HI.out.2.alloc hBz (.cells #[.string (kk k), .string (vv k)] 51)).grown hgrow' (by have := HB.out; have := HI.out.2.size; simp; omega) (fun j ej => ?_)
        exact (hown.lt j ej).1⟩
      clear hown hown' hgrow'
      go_wp2
      go_roundw
      case rel => exact ⟨k + 1, by omega, by first | rfl | go_num, HN⟩
      case measure => simp [intOf]; omega
    · obtain rfl : k = n := by omega
      go_wp2
      go_ret
      exact ⟨_, rfl, HI.out.1, HI.out.2⟩
set_option maxRecDepth 100000 in
set_option maxHeartbeats 4000000 in
/-- two readings of the same pairs are the same -/
theorem same_prs (A C : Option Addr) (n cap cap' : Nat) (kk vv : Nat → ByteArray) (w : World) (B1 B2 : Nat) (hn : n ≤ 1099511627776) (hA : PrAt w B1 A n kk vv) (hC : PrAt w B2 C n kk vv) :
    Calls Try.prog 9 #[.slice A n cap, .slice C n cap'] w fun e w' => e = .returned (.bool true) ∧ ∃ m, w' = w.drewN m := by
  have HA := Lib.hid hA
  have HC := Lib.hid hC
  clear hA hC
  go_enter Try.func9, Try.ntmps9
  go_wp2
  go_loopw [5] (fun i wr => ∃ k : Nat, k ≤ n ∧ i = .int .i64 k ∧ ∃ m, wr = w.drewN m) (fun i _ => n - (intOf i).toNat)
  case atStart => exact ⟨0, Nat.zero_le _, rfl, 0, rfl⟩
  case round =>
    obtain ⟨k, hk, rfl, m, rfl⟩ := hrel
    by_cases hlt : k < n
    · obtain ⟨b, off, rfl, _, hc, hd⟩ := HA.out k hlt
      obtain ⟨b', off', rfl, _, hc', hd'⟩ := HC.out k hlt
      go_wp2_with (fail)
      trace_state
      go_quiet (fail)
      go_wp2
      go_roundw
      case rel => exact ⟨k + 1, by omega, by go_num, _, rfl⟩
      case measure => simp [intOf]; omega
    · go_wp2
      go_ret
      exact ⟨rfl, m, rfl⟩
end Go.Proofs.Ytcgilgihmapipaa
