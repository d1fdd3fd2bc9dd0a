/- where.candidates: the places in a list, in the order of Near. -/
import Derived.Test.YtjjmflkdfgneoaaSprCome
import Derived.Test.YtjjmflkdfgneoaaNumbers
import Derived.Deep.AppendLies
import Derived.Deep.Onto
namespace Go.Proofs.Ytjjmflkdfgneoaa
open Go.RowKit

theorem infoCand : (Try.prog.info? 47).map (fun i => (i.zero, i.size, i.bytes)) = some (some (.agg #[.int .i64 0, .complex .f64 0 0, .int .i64 0]), 3, 32) := by kernel_rfl
/-- the numbers of the places among the first k of the order f -/
noncomputable def candL (ca cb f : Nat → Nat) (k : Nat) : List Nat := ((List.range k).map f).filter fun x => (plc (ca x) (cb x)).isSome
def candC (ca cb : Nat → Nat) (L : List Nat) : List Value := L.flatMap fun (x : Nat) => [Value.int .i64 (x : Int), .complex .f64 (ca x) (cb x), .int .i64 9223372036854775807]
theorem candC_len (ca cb : Nat → Nat) (L : List Nat) : (candC ca cb L).length = L.length * 3 := by
  induction L with
  | nil => rfl
  | cons x L ih =>
    show ([_, _, _] ++ candC ca cb L).length = _
    rw [List.length_append, ih]
    simp only [List.length_cons, List.length_nil]
    omega
theorem candL_yes (ca cb f : Nat → Nat) (k : Nat) (h : (plc (ca (f k)) (cb (f k))).isSome = true) : candL ca cb f (k + 1) = candL ca cb f k ++ [f k] := by
  simp [candL, List.range_succ, h]
theorem candL_no (ca cb f : Nat → Nat) (k : Nat) (h : (plc (ca (f k)) (cb (f k))).isSome = false) : candL ca cb f (k + 1) = candL ca cb f k := by
  simp [candL, List.range_succ, h]
theorem candL_len (ca cb f : Nat → Nat) (k : Nat) : (candL ca cb f k).length ≤ k := by
  unfold candL
  refine Nat.le_trans (List.length_filter_le _ _) ?_
  simp
theorem cand_new (w : World) (u1 u2 u3 : Value) (t : TypeId) : ∀ j y, [u1, u2, u3][j]? = some y → (w.alloc (.cells #[u1, u2, u3] t)).cell? ((⟨w.heap.size, 0, none⟩ : Addr).add j) = some y := by
  intro j y hj
  match j, hj with
  | 0, hj => simp at hj; subst hj; simp [Addr.add]
  | 1, hj => simp at hj; subst hj; simp [Addr.add]
  | 2, hj => simp at hj; subst hj; simp [Addr.add]
set_option maxRecDepth 100000 in
set_option maxHeartbeats 4000000 in
theorem candidates_any (n cap : Nat) (A : Option Addr) (p1 p2 : Nat) (ca cb : Nat → Nat) (w : World) (hn : n ≤ 2199023255552) (D : Nat → Int) (hD : D = fun i => farI (distO (plc p1 p2) (plc (ca i) (cb i)))) (hS : SlOf w w.heap.size A n (fun i => .complex .f64 (ca i) (cb i))) :
    Calls Try.prog 16 #[.complex .f64 p1 p2, .slice A n cap] w fun e w' => ∃ (f : Nat → Nat) (v : Value), NearF n D f ∧ e = .returned v ∧ w'.ownsRow w.heap.size 47 3 v (candL ca cb f n).length (candC ca cb (candL ca cb f n)) ∧ Below w.heap.size w w' := by
  obtain ⟨i0, hi, hz0, hz1, hz2⟩ := info_parts infoCand
  have hnear := near_is n cap A p1 p2 ca cb w (by omega) D hD hS
  obtain ⟨B, hB⟩ : ∃ B, B = w.heap.size := ⟨_, rfl⟩
  have HS := Lib.hid hS
  have HB := Lib.hid hB
  rw [← hB]
  clear hS hD hB
  go_enter Try.func16, Try.ntmps16
  go_wp2_with (fail)
  refine hnear.mono ?_
  rintro e w2 ⟨rfl, f, hf, hfc, hb2⟩
  have HF := Lib.hid hf
  have HC := Lib.hid hfc
  have HB2 : Hid (Below B w w2) := Lib.hid (by rw [HB.out]; exact hb2)
  obtain ⟨nb, hnb⟩ : ∃ nb, nb = w.heap.size := ⟨_, rfl⟩
  rw [← hnb] at HC ⊢
  obtain ⟨B2, hB2⟩ : ∃ B2, B2 = w2.heap.size := ⟨_, rfl⟩
  have HBB := Lib.hid hB2
  have hBB : B ≤ B2 := by rw [hB2]; have := HB2.out.size; rw [HB.out]; exact this
  clear hf hfc hb2 hnb hnear hB2
  go_wp2
  go_loopw [5, 12] (fun v iv wr => ∃ k : Nat, k ≤ n ∧ iv = .int .i64 (k : Int) ∧ Hid (wr.ownsRow B2 47 3 v (candL ca cb f k).length (candC ca cb (candL ca cb f k)) ∧ Below B2 w2 wr)) (fun _ iv _ => n - (intOf iv).toNat)
  case atStart => exact ⟨0, Nat.zero_le _, rfl, Lib.hid ⟨World.ownsRow_nil _ _ _ _, Below.refl _ _⟩⟩
  case round =>
    obtain ⟨k, hk, rfl, HI⟩ := hrel
    by_cases hlt : k < n
    · have hBW : Below B w wr := HB2.out.trans (HI.out.2.mono hBB)
      have hnbs : nb < B2 := by
        rw [HBB.out]
        have h := (HC.out k hlt).1
        rcases Nat.lt_or_ge nb w2.heap.size with h1 | h1
        · exact h1
        · simp [World.cell?, Array.getElem?_eq_none h1] at h
      have c1 := (HI.out.2.cell (p := ⟨nb, k, none⟩) hnbs).trans (HC.out k hlt).1
      have hfk := HF.out.1 k hlt
      obtain ⟨bq, off, rfl, hbq, d1⟩ := HS.out (f k) hfk
      have d1' := (hBW.cell (p := ⟨bq, off + f k, none⟩) (by rw [HB.out]; exact hbq)).trans d1
      have hpl := fun w => place_any (ca (f k)) (cb (f k)) w
      have hlen := candL_len ca cb f k
      have hBz : B2 ≤ wr.heap.size := by have h2 := HI.out.2.size; rw [HBB.out]; exact h2
      have hown := HI.out.1
      have i1 : (f k : Int) < (n : Int) := by omega
      cases hp : (plc (ca (f k)) (cb (f k))).isSome with
      | true =>
        have e1 := candL_yes ca cb f k hp
        rw [hp] at hpl
        have HPL := Lib.hid hpl
        have k3 : (candL ca cb f k).length + 1 ≤ maxLen := by unfold maxLen; omega
        have k4 : ((candL ca cb f k).length + 1) * 32 ≤ 140737488355328 := by omega
        obtain ⟨x, hx⟩ : ∃ x, x = f k := ⟨_, rfl⟩
        rw [← hx] at c1 d1' i1 e1 HPL
        have E1 := Lib.hid e1
        clear hp hpl hbq d1 hfk hx e1 hlen hnbs
        obtain ⟨L, hL⟩ : ∃ L, L = candL ca cb f k := ⟨_, rfl⟩
        rw [← hL] at hown k3 k4 E1
        have HLL := Lib.hid hL
        clear hL
        go_wp2_with (fail)
        refine (HPL.out _).mono ?_
        rintro e w9 ⟨rfl, rfl⟩
        go_wp2_with (at_builtin; refine wpList_append_own _ rfl _ _ 43 rfl B2 47 i0 _ 3 32 Try.underlying43 hi hz0 hz1 hz2 rfl (by decide) _ _ _ rfl (hown.alloc _) ⟨wr.heap.size, 0, none⟩ 1 1 [.int .i64 (x : Int), .complex .f64 (ca x) (cb x), .int .i64 9223372036854775807] rfl rfl (cand_new _ _ _ _ _) (by simp [Value.oneCell']) k3 k4 (by simp; omega) ?_)
        intro v' w3 hown' hgrow' _
        have HN : Hid (w3.ownsRow B2 47 3 v' (candL ca cb f (k + 1)).length (candC ca cb (candL ca cb f (k + 1))) ∧ Below B2 w2 w3) := Lib.hid ⟨by
          rw [E1.out, List.length_append, candC, List.flatMap_append]
          simpa [candC] using hown', by
          refine (HI.out.2.alloc hBz (.cells #[.int .i64 (x : Int), .complex .f64 (ca x) (cb x), .int .i64 9223372036854775807] 47)).grown hgrow' (by have := HBB.out; have := HI.out.2.size; simp; omega) (fun j ej => ?_)
          exact (hown.lt j ej).1⟩
        clear hown hown' hgrow'
        go_wp2
        go_roundw
        case rel => exact ⟨k + 1, by omega, by first | rfl | go_num, HN⟩
        case measure => simp [intOf]; omega
      | false =>
        have e1 := candL_no ca cb f k hp
        rw [hp] at hpl
        have HPL := Lib.hid hpl
        have HI2 : Hid (wr.ownsRow B2 47 3 u5 (candL ca cb f (k + 1)).length (candC ca cb (candL ca cb f (k + 1))) ∧ Below B2 w2 wr) := Lib.hid (by rw [e1]; exact HI.out)
        clear hp hpl hbq d1 hfk e1 hlen hnbs hown
        go_wp2_with (fail)
        refine (HPL.out _).mono ?_
        rintro e w9 ⟨rfl, rfl⟩
        go_wp2
        go_roundw
        case rel => exact ⟨k + 1, by omega, by first | rfl | go_num, HI2⟩
        case measure => simp [intOf]; omega
    · obtain rfl : k = n := by omega
      go_wp2
      go_ret
      exact ⟨f, _, HF.out, rfl, HI.out.1.mono hBB, HB2.out.trans (HI.out.2.mono hBB)⟩
end Go.Proofs.Ytjjmflkdfgneoaa
