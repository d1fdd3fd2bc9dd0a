/- Stable sorting: slices.swapRangeCmpFunc and slices.rotateCmpFunc over a row of one cell each. -/
import Derived.Test.YtmpeaondljpgiaaStkKit
import Derived.Test.YtmpeaondljpgiaaPlainKit
import Derived.Sort.WalkA
import Derived.Sort.WalkB2
import Derived.Sort.WalkB12
import Derived.Deep.LoopGhost
import Derived.IntWalk
import Derived.Lib.Hide
namespace Go.Proofs.Ytmpeaondljpgiaa
open Go.RowKit Go.Lib Go.Sort Go.Shelf

section
variable {α : Type} [Inhabited α] {Ky Vl : α → ByteArray} {w0 : World} {blk off : Nat} {d0 : Array α}
set_option maxRecDepth 100000 in
set_option maxHeartbeats 4000000 in
theorem swapRange_K (R : RowK (encP Ky Vl) 2 w0 blk off d0) (hsz : d0.size < 4611686018427387904) (cap : Nat) (cm : Value) {W : World} (P X M Y Q : List α) (hXY : X.length = Y.length) (hs : (P ++ (X ++ (M ++ (Y ++ Q)))).length = d0.size) {a b n : Nat} (ha : a = P.length) (hb : b = P.length + X.length + M.length) (hn : n = X.length)
    (S : Aside (SWK (encP Ky Vl) 2 w0 blk off (P ++ (X ++ (M ++ (Y ++ Q)))).toArray W)) :
    Calls Try.prog 42 #[.slice (some ⟨blk, off, none⟩) d0.size cap, .int .i64 a, .int .i64 b, .int .i64 n, cm] W fun e w' => e = .returned (.tuple #[]) ∧ Hid (SWK (encP Ky Vl) 2 w0 blk off (P ++ (Y ++ (M ++ (X ++ Q)))).toArray w') := by
  have mixed : Try.prog.follows Departure.mixedOrders = true := by kernel_rfl
  have HA := Lib.hid (And.intro ha (And.intro hb hn))
  clear ha hb hn
  go_enter Try.func42, Try.ntmps42
  go_wp2
  go_loopg [10] n (fun g1 vi wr => ∃ (k : Nat) (Xa Xb Ya Yb : List α), vi = .int .i64 k ∧ k ≤ n ∧ n - k ≤ g1 ∧ Hid (X = Xa ++ Xb ∧ Y = Ya ++ Yb ∧ Xa.length = k ∧ Ya.length = k) ∧ Aside (SWK (encP Ky Vl) 2 w0 blk off (P ++ (Ya ++ (Xb ++ (M ++ (Xa ++ (Yb ++ Q)))))).toArray wr))
  case atStart => exact ⟨0, [], X, [], Y, rfl, Nat.zero_le _, Nat.sub_le _ _, Lib.hid ⟨rfl, rfl, rfl, rfl⟩, S⟩
  case round =>
    clear S
    obtain ⟨k, Xa, Xb, Ya, Yb, rfl, hk, hg1, HX, S1⟩ := hrel
    by_cases hlt : k < n
    · have hltz : (k : Int) < (n : Int) := by omega
      obtain ⟨e1, e2, e3, e4⟩ := HX.out
      obtain ⟨ha, hb, hn⟩ := HA.out
      have hlX : X.length = Xa.length + Xb.length := by rw [e1]; simp
      have hlY : Y.length = Ya.length + Yb.length := by rw [e2]; simp
      obtain ⟨x, Xc, rfl⟩ : ∃ x Xc, Xb = x :: Xc := by
        cases Xb with
        | nil => simp at hlX; omega
        | cons x Xc => exact ⟨x, Xc, rfl⟩
      obtain ⟨y, Yc, rfl⟩ : ∃ y Yc, Yb = y :: Yc := by
        cases Yb with
        | nil => simp at hlY; omega
        | cons y Yc => exact ⟨y, Yc, rfl⟩
      simp only [List.length_cons, List.length_append] at hlX hlY hs
      obtain ⟨dk, hdk⟩ : ∃ dk, dk = (P ++ (Ya ++ (x :: Xc ++ (M ++ (Xa ++ (y :: Yc ++ Q)))))).toArray := ⟨_, rfl⟩
      rw [← hdk] at S1
      have hds : dk.size = d0.size := by rw [hdk]; simp; omega
      have hdf : dk = ((P ++ Ya) ++ x :: ((Xc ++ M ++ Xa) ++ y :: (Yc ++ Q))).toArray := by rw [hdk]; simp
      obtain ⟨iN, hiN⟩ : ∃ q, q = a + k := ⟨_, rfl⟩
      obtain ⟨jN, hjN⟩ : ∃ q, q = b + k := ⟨_, rfl⟩
      have hi1 : iN = (P ++ Ya).length := by simp; omega
      have hj1 : jN = (P ++ Ya).length + 1 + (Xc ++ M ++ Xa).length := by simp; omega
      have gx : dk[iN]! = x := by rw [hdf]; exact get_at _ _ _ hi1
      have gy : dk[jN]! = y := by
        rw [hdf, show (P ++ Ya) ++ x :: ((Xc ++ M ++ Xa) ++ y :: (Yc ++ Q)) = ((P ++ Ya) ++ x :: (Xc ++ M ++ Xa)) ++ y :: (Yc ++ Q) by simp]
        exact get_at _ _ _ (by simp; omega)
      have gs : swp dk iN jN = (P ++ (Ya ++ [y] ++ (Xc ++ (M ++ (Xa ++ [x] ++ (Yc ++ Q)))))).toArray := by
        rw [hdf, swp_list _ _ _ _ _ hi1 hj1]; simp
      have ea : ((a : Int) + (k : Int)).toNat = iN := by omega
      have pa : (0 : Int) ≤ (a : Int) + (k : Int) := by omega
      have ba : (a : Int) + (k : Int) < (d0.size : Int) := by omega
      have ra : IntKind.i64.wrap ((a : Int) + (k : Int)) = (a : Int) + (k : Int) := IntWalk.i64_in _ (by omega)
      have eb : ((b : Int) + (k : Int)).toNat = jN := by omega
      have pb : (0 : Int) ≤ (b : Int) + (k : Int) := by omega
      have bb : (b : Int) + (k : Int) < (d0.size : Int) := by omega
      have rb : IntKind.i64.wrap ((b : Int) + (k : Int)) = (b : Int) + (k : Int) := IntWalk.i64_in _ (by omega)
      obtain ⟨⟨c1, c2, f1, f2⟩, ⟨c3, c4, f3, f4⟩, c5, ⟨u6, c6⟩, ⟨u7, c7⟩, S3⟩ := exch_K S1.out R hds iN jN (by omega) (by omega) x y gx gy _ gs
      have HX2 : Hid (X = (Xa ++ [x]) ++ Xc ∧ Y = (Ya ++ [y]) ++ Yc ∧ (Xa ++ [x]).length = k + 1 ∧ (Ya ++ [y]).length = k + 1) := Lib.hid ⟨by rw [e1]; simp, by rw [e2]; simp, by simp; omega, by simp; omega⟩
      rw [hiN] at c1 c2 f1 f2 c5
      rw [hjN] at c3 c4 f3 f4
      rw [hiN, hjN] at c6 c7 S3
      clear S1 HX e1 e2 e3 e4 hlX hlY hdk hdf gx gy gs hds hi1 hj1 ea eb hiN hjN ha hb hn
      go_wp2_with fail
      go_big_region_o
      clear c1 c2 c3 c4 c5 c6 c7 f1 f2 f3 f4
      generalize (((((wr.setCell ⟨blk, off + (a + k) * 2, none⟩ (.string (Ky y))).setCell ⟨blk, off + (a + k) * 2 + 1, none⟩ (.string (Vl y))).setCell ⟨blk, off + (b + k) * 2, none⟩ (.string (Ky x))).setCell ⟨blk, off + (b + k) * 2 + 1, none⟩ (.string (Vl x))).drew) = w3 at S3 ⊢
      go_wp2
      go_roundg (n - (k + 1))
      case measure => omega
      case rel => exact ⟨k + 1, _, _, _, _, by first | rfl | go_num | (congr 1; omega), by omega, by omega, HX2, S3⟩
    · have hltz : ¬ (k : Int) < (n : Int) := by omega
      obtain ⟨e1, e2, e3, e4⟩ := HX.out
      obtain ⟨ha, hb, hn⟩ := HA.out
      have hXb : Xb = [] := by
        have : X.length = Xa.length + Xb.length := by rw [e1]; simp
        exact List.eq_nil_of_length_eq_zero (by omega)
      have hYb : Yb = [] := by
        have : Y.length = Ya.length + Yb.length := by rw [e2]; simp
        exact List.eq_nil_of_length_eq_zero (by omega)
      rw [hXb, List.append_nil] at e1
      rw [hYb, List.append_nil] at e2
      have HF : Hid (SWK (encP Ky Vl) 2 w0 blk off (P ++ (Y ++ (M ++ (X ++ Q)))).toArray wr) := Lib.hid (by
        have := S1.out
        rw [hXb, hYb, ← e1, ← e2] at this
        simpa using this)
      clear S1 HX e1 e2 e3 e4 hXb hYb ha hb hn
      go_wp2
      go_end0
      exact ⟨rfl, HF⟩
set_option maxRecDepth 100000 in
set_option maxHeartbeats 4000000 in
theorem rotate_K (R : RowK (encP Ky Vl) 2 w0 blk off d0) (hsz : d0.size < 4611686018427387904) (cap : Nat) (cm : Value) {W : World} (P X Y Q : List α) (hX : 0 < X.length) (hY : 0 < Y.length) (hs : (P ++ (X ++ (Y ++ Q))).length = d0.size) {a m b : Nat} (ha : a = P.length) (hm : m = P.length + X.length) (hb : b = P.length + X.length + Y.length)
    (S : Aside (SWK (encP Ky Vl) 2 w0 blk off (P ++ (X ++ (Y ++ Q))).toArray W)) :
    Calls Try.prog 41 #[.slice (some ⟨blk, off, none⟩) d0.size cap, .int .i64 a, .int .i64 m, .int .i64 b, cm] W fun e w' => e = .returned (.tuple #[]) ∧ Hid (SWK (encP Ky Vl) 2 w0 blk off (P ++ (Y ++ (X ++ Q))).toArray w') := by
  have HSW := Lib.hid (fun (W : World) (P X M Y Q : List α) (hXY : X.length = Y.length) (hs : (P ++ (X ++ (M ++ (Y ++ Q)))).length = d0.size) (a b n : Nat) (ha : a = P.length) (hb : b = P.length + X.length + M.length) (hn : n = X.length) (S : Aside (SWK (encP Ky Vl) 2 w0 blk off (P ++ (X ++ (M ++ (Y ++ Q)))).toArray W)) => swapRange_K R hsz cap cm P X M Y Q hXY hs ha hb hn S)
  have r1 : wrap64 ((X.length : Nat) : Int) = ((X.length : Nat) : Int) := IntWalk.wrap64_in _ (by simp only [List.length_append] at hs; omega)
  have r2 : wrap64 ((Y.length : Nat) : Int) = ((Y.length : Nat) : Int) := IntWalk.wrap64_in _ (by simp only [List.length_append] at hs; omega)
  have q1 : (m : Int) - (a : Int) = ((X.length : Nat) : Int) := by omega
  have q2 : (b : Int) - (m : Int) = ((Y.length : Nat) : Int) := by omega
  have HH := Lib.hid (And.intro ha (And.intro hm (And.intro hb (And.intro hs (And.intro hX hY)))))
  obtain ⟨i0, hi0⟩ : ∃ q, q = X.length := ⟨_, rfl⟩
  obtain ⟨j0, hj0⟩ : ∃ q, q = Y.length := ⟨_, rfl⟩
  have H0 := Lib.hid (And.intro hi0 hj0)
  rw [← hi0] at r1 q1
  rw [← hj0] at r2 q2
  clear ha hm hb hs hX hY hi0 hj0
  go_enter Try.func41, Try.ntmps41
  go_wp2
  go_loopw [10, 11] (fun vi vj wr => ∃ (i j : Nat) (P' X' Y' Q' : List α), vi = .int .i64 i ∧ vj = .int .i64 j ∧ Hid (i = X'.length ∧ j = Y'.length ∧ 0 < i ∧ 0 < j ∧ P'.length + X'.length = m ∧ P' ++ (Y' ++ (X' ++ Q')) = P ++ (Y ++ (X ++ Q))) ∧ Aside (SWK (encP Ky Vl) 2 w0 blk off (P' ++ (X' ++ (Y' ++ Q'))).toArray wr)) (fun vi vj _ => (intOf vi).toNat + (intOf vj).toNat)
  case atStart => exact ⟨i0, j0, P, X, Y, Q, by first | rfl | rw [r1], by first | rfl | rw [r2], Lib.hid ⟨H0.out.1, H0.out.2, by have := HH.out.2.2.2.2.1; have := H0.out.1; omega, by have := HH.out.2.2.2.2.2; have := H0.out.2; omega, HH.out.2.1.symm, rfl⟩, S⟩
  case round =>
    clear S r1 r2 q1 q2
    obtain ⟨i, j, P', X', Y', Q', rfl, rfl, HI, S1⟩ := hrel
    obtain ⟨k1, k2, k3, k4, k5, k6⟩ := HI.out
    have hlen : (P' ++ (X' ++ (Y' ++ Q'))).length = d0.size := by
      have h1 := congrArg List.length k6
      have h2 := HH.out.2.2.2.1
      simp only [List.length_append] at h1 h2 ⊢
      omega
    have hlen' := hlen
    simp only [List.length_append] at hlen'
    obtain ⟨pl, hpl⟩ : ∃ q, q = P'.length := ⟨_, rfl⟩
    have q1 : (m : Int) - (i : Int) = (pl : Int) := by omega
    have HR1 : Hid (wrap64 (pl : Int) = (pl : Int)) := Lib.hid (IntWalk.wrap64_in _ (by omega))
    by_cases hij : i = j
    · have hne : ((i : Int) != (j : Int)) = false := by simp [hij]
      have hcall := HSW.out wr P' X' [] Y' Q' (by omega) hlen pl m i hpl (by rw [List.length_nil]; omega) k1 S1
      rw [List.nil_append, k6] at hcall
      clear S1 HI k1 k2 k3 k4 k5 k6 hlen hlen' hpl
      subst hij
      have r1 := HR1.out
      go_wp2_with fail
      refine hcall.mono ?_
      rintro e w' ⟨rfl, HF⟩
      go_wp2
      first
        | (go_end0; exact ⟨rfl, HF⟩)
        | (go_ret; exact ⟨rfl, HF⟩)
    · have hne : ((i : Int) != (j : Int)) = true := by simpa using (by omega : ¬ (i : Int) = (j : Int))
      by_cases hgt : j < i
      · have hgt' : (j : Int) < (i : Int) := by omega
        obtain ⟨X1, X2, e1, e2⟩ : ∃ X1 X2, X' = X1 ++ X2 ∧ X1.length = j := ⟨X'.take j, X'.drop j, (List.take_append_drop _ _).symm, by simp; omega⟩
        have e3 : X'.length = X1.length + X2.length := by rw [e1]; simp
        rw [e1, List.append_assoc] at S1 hlen
        rw [e1] at k6
        have hcall := HSW.out wr P' X1 X2 Y' Q' (by omega) hlen pl m j hpl (by omega) e2.symm S1
        have HR3 : Hid (wrap64 ((i : Int) - (j : Int)) = ((i - j : Nat) : Int)) := Lib.hid (by rw [show (i : Int) - (j : Int) = ((i - j : Nat) : Int) by omega]; exact IntWalk.wrap64_in _ (by omega))
        have HN : Hid (i - j = X2.length ∧ j = X1.length ∧ 0 < i - j ∧ 0 < j ∧ (P' ++ Y').length + X2.length = m ∧ (P' ++ Y') ++ (X1 ++ (X2 ++ Q')) = P ++ (Y ++ (X ++ Q))) := Lib.hid ⟨by omega, by omega, by omega, by omega, by simp; omega, by rw [← k6]; simp⟩
        clear S1 HI k1 k2 k3 k4 k5 k6 hlen hlen' hpl e1 e2 e3 hij
        have r1 := HR1.out
        have r3 := HR3.out
        go_wp2_with fail
        refine hcall.mono ?_
        rintro e w' ⟨rfl, HF⟩
        have HF2 : Aside (SWK (encP Ky Vl) 2 w0 blk off ((P' ++ Y') ++ (X2 ++ (X1 ++ Q'))).toArray w') := by
          have := HF.out
          rw [← List.append_assoc] at this
          exact this
        clear HF hcall
        go_wp2
        go_roundw
        case rel => exact ⟨i - j, j, _, _, _, _, by first | rfl | rw [r3], rfl, HN, HF2⟩
        case measure => (have h9 := HN.out; rw [r3]; clear r1 r3; show ((i - j : Nat) : Int).toNat + ((j : Nat) : Int).toNat < (i : Int).toNat + (j : Int).toNat; omega)
      · have hgt' : ¬ (j : Int) < (i : Int) := by omega
        obtain ⟨Y1, Y2, e1, e2⟩ : ∃ Y1 Y2, Y' = Y1 ++ Y2 ∧ Y1.length = j - i := ⟨Y'.take (j - i), Y'.drop (j - i), (List.take_append_drop _ _).symm, by simp; omega⟩
        have e3 : Y'.length = Y1.length + Y2.length := by rw [e1]; simp
        rw [e1, List.append_assoc] at S1 hlen
        rw [e1] at k6
        obtain ⟨cc, hcc⟩ : ∃ q, q = m + j - i := ⟨_, rfl⟩
        have HQ4 : Hid (wrap64 ((m : Int) + (j : Int)) = (m : Int) + (j : Int)) := Lib.hid (IntWalk.wrap64_in _ (by omega))
        have q5 : (m : Int) + (j : Int) - (i : Int) = (cc : Int) := by omega
        have HR5 : Hid (wrap64 (cc : Int) = (cc : Int)) := Lib.hid (IntWalk.wrap64_in _ (by omega))
        have hcall := HSW.out wr P' X' Y1 Y2 Q' (by omega) hlen pl cc i hpl (by omega) k1 S1
        have hle : i ≤ j := by omega
        have HR3 : Hid (wrap64 ((j : Int) - (i : Int)) = ((j - i : Nat) : Int)) := Lib.hid (by rw [show (j : Int) - (i : Int) = ((j - i : Nat) : Int) by omega]; exact IntWalk.wrap64_in _ (by omega))
        have HN : Hid (i = Y2.length ∧ j - i = Y1.length ∧ 0 < i ∧ 0 < j - i ∧ P'.length + Y2.length = m ∧ P' ++ (Y1 ++ (Y2 ++ (X' ++ Q'))) = P ++ (Y ++ (X ++ Q))) := Lib.hid ⟨by omega, by omega, by omega, by omega, by omega, by rw [← k6]; simp⟩
        clear S1 HI k1 k2 k3 k4 k5 k6 hlen hlen' hpl e1 e2 e3 hij hcc
        have r1 := HR1.out
        have r3 := HR3.out
        have r5 := HR5.out
        have q4 := HQ4.out
        go_wp2_with fail
        refine hcall.mono ?_
        rintro e w' ⟨rfl, HF⟩
        have HF2 : Aside (SWK (encP Ky Vl) 2 w0 blk off (P' ++ (Y2 ++ (Y1 ++ (X' ++ Q')))).toArray w') := HF.out
        clear HF hcall
        go_wp2
        go_roundw
        case rel => exact ⟨i, j - i, _, _, _, _, rfl, by first | rfl | rw [r3], HN, HF2⟩
        case measure => (have h9 := HN.out; rw [r3]; clear r1 r3 r5 q4; show (i : Int).toNat + ((j - i : Nat) : Int).toNat < (i : Int).toNat + (j : Int).toNat; omega)
end
end Go.Proofs.Ytmpeaondljpgiaa
