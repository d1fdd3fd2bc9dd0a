/- Merging: copies of a list of pairs. -/
import Derived.Test.YtcgilgihmapipaaMrgRank
import Derived.Test.YtcgilgihmapipaaMrgMerge
namespace Go.Proofs.Ytcgilgihmapipaa
open Go.RowKit

theorem makeP (n : Nat) (hn : n ≤ 1099511627776) : ∀ w : World, (Instr.makeSlice 32 (.int .i64 (n : Int)) (.int .i64 (n : Int))).run Try.prog w =
    .ok (.slice (some ⟨w.heap.size, 0, none⟩) n n) (w.alloc (.cells (madeCells #[.string ⟨#[]⟩, .string ⟨#[]⟩] (n * 2)) 34)) := by
  intro w
  obtain ⟨i, hi, hz0, hz1, hz2⟩ := info_parts infoPair
  have := run_make (P := Try.prog) w 32 34 i (.agg #[.string ⟨#[]⟩, .string ⟨#[]⟩]) Try.underlying32 hi hz0 .i64 .i64 n n (by omega) (by omega) (by rw [hz2]; omega) (by omega)
  simpa [hz1, Value.cells] using this
def upd (f : Nat → ByteArray) (k : Nat) (s : ByteArray) (j : Nat) : ByteArray := if j = k then s else f j
theorem prN_set (kk vv : Nat → ByteArray) (n k : Nat) (a b : ByteArray) (hk : k < n) : ((prN kk vv n).set (k * 2) (.string a)).set (k * 2 + 1) (.string b) = prN (upd kk k a) (upd vv k b) n := by
  have hl := prN_len kk vv n
  have hl2 := prN_len (upd kk k a) (upd vv k b) n
  apply List.ext_getElem?
  intro i
  by_cases hi : i < n * 2
  · have hj : i / 2 < n := by omega
    obtain ⟨g0, g1⟩ := prN_get kk vv n (i / 2) hj
    obtain ⟨q0, q1⟩ := prN_get (upd kk k a) (upd vv k b) n (i / 2) hj
    rw [List.getElem?_set, List.getElem?_set]
    rcases Nat.mod_two_eq_zero_or_one i with hm | hm
    · rw [show i / 2 * 2 = i by omega] at g0 q0
      rw [q0, g0]
      by_cases e : i / 2 = k
      · have ei : k * 2 = i := by omega
        have e2 : ¬ k * 2 + 1 = i := by omega
        simp [e, e2, upd, hl, ei, hi]
      · have e1 : ¬ k * 2 = i := by omega
        have e2 : ¬ k * 2 + 1 = i := by omega
        simp [e, e1, e2, upd]
    · rw [show i / 2 * 2 + 1 = i by omega] at g1 q1
      rw [q1, g1]
      by_cases e : i / 2 = k
      · have ei : k * 2 + 1 = i := by omega
        simp [e, upd, hl, ei, hi]
      · have e1 : ¬ k * 2 = i := by omega
        have e2 : ¬ k * 2 + 1 = i := by omega
        simp [e, e1, e2, upd]
  · rw [List.getElem?_eq_none (by simp [hl]; omega), List.getElem?_eq_none (by omega)]
def upto (f : Nat → ByteArray) (k : Nat) (j : Nat) : ByteArray := if j < k then f j else ⟨#[]⟩
theorem upto_succ (f : Nat → ByteArray) (k : Nat) : upd (upto f k) k (f k) = upto f (k + 1) := by
  funext j
  unfold upd upto
  by_cases e : j = k
  · subst e; simp
  · by_cases h : j < k
    · rw [if_neg e, if_pos h, if_pos (by omega)]
    · rw [if_neg e, if_neg h, if_neg (by omega)]
theorem prN_congr {a b c d : Nat → ByteArray} {n : Nat} (h : ∀ j, j < n → a j = c j ∧ b j = d j) : prN a b n = prN c d n := by
  induction n with
  | zero => rfl
  | succ n ih => rw [prN_succ, prN_succ, ih (fun j hj => h j (by omega)), (h n (by omega)).1, (h n (by omega)).2]
theorem prN_upto (a b : Nat → ByteArray) (n : Nat) : prN (upto a n) (upto b n) n = prN a b n := prN_congr fun j hj => by simp [upto, hj]
theorem made_prN (n : Nat) : (madeCells #[.string ⟨#[]⟩, .string ⟨#[]⟩] (n * 2)).toList = prN (fun _ => ⟨#[]⟩) (fun _ => ⟨#[]⟩) n := by
  have h1 : prN (fun _ => ⟨#[]⟩) (fun _ => ⟨#[]⟩) n = List.replicate (n * 2) (.string ⟨#[]⟩) := by
    induction n with
    | zero => rfl
    | succ n ih => rw [prN_succ, ih, show (n + 1) * 2 = n * 2 + 1 + 1 by omega, List.replicate_succ', List.replicate_succ', List.append_assoc]; rfl
  rw [h1]
  refine List.ext_getElem (by simp [size_madeCells]) fun i a b => ?_
  simp only [madeCells, Array.toList_map, List.getElem_map, List.getElem_replicate]
  rcases Nat.mod_two_eq_zero_or_one i with hm | hm <;> simp [hm]
set_option maxRecDepth 100000 in
set_option maxHeartbeats 8000000 in
theorem copies_any (A : Option Addr) (n cap : Nat) (K V : Nat → ByteArray) (w : World) (hn : n ≤ 1099511627776) (hsz : ∀ j, (K j).size ≤ 140737488351232 ∧ (V j).size ≤ 140737488351232) (hP : PrAt w w.heap.size A n K V) :
    Calls Try.prog 16 #[.slice A n cap] w fun e w' => e = .returned (.slice (some ⟨w.heap.size, 0, none⟩) n n) ∧ w'.ownsRow w.heap.size 34 2 (.slice (some ⟨w.heap.size, 0, none⟩) n n) n (prN K V n) ∧ Below w.heap.size w w' := by
  have hmk := makeP n hn
  have HP := Lib.hid hP
  have HSZ := Lib.hid hsz
  obtain ⟨B, hB⟩ : ∃ B, B = w.heap.size := ⟨_, rfl⟩
  have hT : (w.alloc (.cells (madeCells #[.string ⟨#[]⟩, .string ⟨#[]⟩] (n * 2)) 34)).ownsRow B 34 2 (.slice (some ⟨B, 0, none⟩) n n) n (prN (upto K 0) (upto V 0) n) := by
    have h := World.ownsRow_lit (e := 34) (size := 2) (base := B) w (madeCells #[.string ⟨#[]⟩, .string ⟨#[]⟩] (n * 2)) n (by omega) (by unfold maxLen; omega) (by rw [size_madeCells])
    rw [made_prN, ← hB] at h
    have e : prN (upto K 0) (upto V 0) n = prN (fun _ => ⟨#[]⟩) (fun _ => ⟨#[]⟩) n := prN_congr fun j _ => ⟨rfl, rfl⟩
    rw [e]
    exact h
  have hT2 : Below B w (w.alloc (.cells (madeCells #[.string ⟨#[]⟩, .string ⟨#[]⟩] (n * 2)) 34)) := (Below.refl B w).alloc (Nat.le_of_eq hB) _
  have HT := Lib.hid (And.intro hT hT2)
  have HB := Lib.hid hB
  rw [← hB]
  clear hT hT2 hsz hP hB
  go_enter Try.func16, Try.ntmps16
  go_wp2_with (fail)
  clear hmk
  rw [← HB.out]
  go_loopw [11] (fun iv wr => ∃ k : Nat, k ≤ n ∧ iv = .int .i64 (k : Int) ∧ Hid (wr.ownsRow B 34 2 (.slice (some ⟨B, 0, none⟩) n n) n (prN (upto K k) (upto V k) n) ∧ Below B w wr)) (fun iv _ => n - (intOf iv).toNat)
  case atStart => exact ⟨0, Nat.zero_le _, rfl, HT⟩
  case round =>
    obtain ⟨k, hk, rfl, HI⟩ := hrel
    by_cases hlt : k < n
    · obtain ⟨b, off, rfl, hbb, h0, h1⟩ := (HP.out.below (by rw [← HB.out]; exact HI.out.2)) k hlt
      go_wp2_with (fail)
      refine (copyOf_any (K k) (V k) _ (HSZ.out k).1 (HSZ.out k).2).mono ?_
      rintro e w2 ⟨rfl, hb2⟩
      have hBw : B ≤ wr.heap.size := by have := HI.out.2.size; have := HB.out; omega
      have hown := own_below2 hb2 (HI.out.1.alloc (.cells #[.string (K k), .string (V k)] 34))
      have hbl := (HI.out.2.alloc hBw (.cells #[.string (K k), .string (V k)] 34)).trans (hb2.mono (by simp; omega))
      have hxl : (prN (upto K k) (upto V k) n).length = n * 2 := prN_len _ _ _
      obtain ⟨u1, ck⟩ : ∃ u, w2.cell? ⟨B, k * 2, none⟩ = some u := ⟨_, by rw [hown.cellAt (k * 2) (by omega)]; exact List.getElem?_eq_getElem (by omega)⟩
      have fk := hown.frozenAt (k * 2)
      obtain ⟨s1, s2⟩ := hown.stored (k * 2) (.string (K k))
      obtain ⟨u2, ck2⟩ : ∃ u, (w2.setCell ⟨B, k * 2, none⟩ (.string (K k))).cell? ⟨B, k * 2 + 1, none⟩ = some u := ⟨_, by rw [s1.cellAt (k * 2 + 1) (by omega)]; exact List.getElem?_eq_getElem (by rw [List.length_set]; omega)⟩
      have fk2 := s1.frozenAt (k * 2 + 1)
      obtain ⟨s3, s4⟩ := s1.stored (k * 2 + 1) (.string (V k))
      rw [prN_set _ _ _ _ _ _ hlt, upto_succ, upto_succ] at s3
      have HI2 := Lib.hid (And.intro s3 ((hbl.setCell (p := ⟨B, k * 2, none⟩) (Nat.le_refl _) (.string (K k))).setCell (p := ⟨B, k * 2 + 1, none⟩) (Nat.le_refl _) (.string (V k))))
      clear s1 s2 s3 s4 hown hbl hxl hb2 h0 h1
      go_wp2
      go_roundw
      case rel => exact ⟨k + 1, by omega, by first | rfl | go_num, HI2⟩
      case measure => simp [intOf]; omega
    · obtain rfl : k = n := by omega
      go_wp2
      go_ret
      have h := HI.out
      rw [prN_upto] at h
      exact ⟨rfl, h⟩
end Go.Proofs.Ytcgilgihmapipaa
