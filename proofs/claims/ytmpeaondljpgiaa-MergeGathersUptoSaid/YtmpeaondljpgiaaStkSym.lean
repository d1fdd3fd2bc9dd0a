/- Stable sorting: slices.symMergeCmpFunc over a row of one cell each. -/
import Derived.Test.YtmpeaondljpgiaaStkSwap
import Derived.Deep.DeepCutAuto
namespace Go.Proofs.Ytmpeaondljpgiaa
open Go.RowKit Go.Lib Go.Sort Go.Shelf

section
variable {α : Type} [Inhabited α] {Ky Vl : α → ByteArray} {w0 : World} {blk off : Nat} {d0 : Array α} {key : α → Int} {num : α → Nat} {cf : α → α → Int} {g : Nat} {cb : Array Value}
/-- what is asked of the comparison -/
structure CmpK (g : Nat) (cb : Array Value) (Ky Vl : α → ByteArray) (cf : α → α → Int) (key : α → Int) (blk off size : Nat) (w0 : World) : Prop where
  eg : ∀ args w, (callFunc g args).run Try.prog w = .ok (.enter g args) w
  lays : CmpLays Try.prog g cb (encP Ky Vl) 2 cf blk off size w0
  key : ∀ x y, cf x y < 0 ↔ key x < key y
theorem swp_flip {β : Type} [Inhabited β] (d : Array β) {i j : Nat} (h : i ≠ j) : swp d j i = swp d i j := by
  unfold swp
  rw [Array.setIfInBounds_comm _ _ h.symm]
theorem half_w (i j h : Nat) (hs : i + j < 4611686018427387904 * 2) (hh : h = (i + j) / 2) : wrap64 (IntKind.u64.wrap ((i : Int) + (j : Int)) / 2) = (h : Int) := by
  rw [IntWalk.u64_in _ (by omega), show ((i : Int) + (j : Int)) / 2 = (h : Int) by omega]
  exact IntWalk.wrap64_in _ (by omega)
set_option maxRecDepth 100000 in
set_option maxHeartbeats 16000000 in
theorem sym_left_K (R : RowK (encP Ky Vl) 2 w0 blk off d0) (hsz : d0.size < 4611686018427387904) (cap : Nat) (C : CmpK g cb Ky Vl cf key blk off d0.size w0) (len : Nat) (P A B Q : List α) (W : World) (a m b : Nat) (hlen : A.length + B.length ≤ len + 1) (hA : 0 < A.length) (hB : 0 < B.length) (HS : Hid (SrtT key num A ∧ SrtT key num B ∧ Nl num A B)) (hs : (P ++ (A ++ (B ++ Q))).length = d0.size) (ha : a = P.length) (hm : m = P.length + A.length) (hb : b = P.length + A.length + B.length)
    (S : Aside (SWK (encP Ky Vl) 2 w0 blk off (P ++ (A ++ (B ++ Q))).toArray W)) (hone : A.length = 1) :
    Calls Try.prog 38 #[.slice (some ⟨blk, off, none⟩) d0.size cap, .int .i64 a, .int .i64 m, .int .i64 b, .func (.func g) #[] cb] W fun e w' => e = .returned (.tuple #[]) ∧ ∃ S', Hid (S'.Perm (A ++ B) ∧ SrtT key num S' ∧ SWK (encP Ky Vl) 2 w0 blk off (P ++ (S' ++ Q)).toArray w') := by
  have mixed : Try.prog.follows Departure.mixedOrders = true := by kernel_rfl
  have eg := C.eg
  obtain ⟨x, rfl⟩ : ∃ x, A = [x] := List.length_eq_one_iff.1 hone
  have hm1 : m = a + 1 := by simp at hm; omega
  have HM := Lib.hid hm1
  have HH := Lib.hid (And.intro ha (And.intro hb (And.intro hs hB)))
  have q1 : (m : Int) - (a : Int) = 1 := by omega
  clear ha hm hb hs hA hB hone hlen hm1
  go_enter Try.func38, Try.ntmps38
  go_wp2
  clear q1
  obtain ⟨dk, hdk⟩ : ∃ dk, dk = (P ++ ([x] ++ (B ++ Q))).toArray := ⟨_, rfl⟩
  rw [← hdk] at S
  have hds : dk.size = d0.size := by
    have := HH.out.2.2.1
    rw [hdk, ← this]; simp
  have HDK := Lib.hid hdk
  clear hdk
  go_loopg [10, 11] b (fun g1 vi vj wr => ∃ (i j : Nat), vi = .int .i64 i ∧ vj = .int .i64 j ∧ Hid (m ≤ i ∧ i ≤ j ∧ j ≤ b ∧ j - i ≤ g1 ∧ (i = m ∨ key dk[i - 1]! < key x) ∧ (j = b ∨ ¬ key dk[j]! < key x)) ∧ Aside (SWK (encP Ky Vl) 2 w0 blk off dk wr))
  case atStart => exact ⟨m, b, rfl, rfl, Lib.hid ⟨Nat.le_refl _, by have h9 := HH.out.2.1; have h8 := HH.out.1; have h7 := HM.out; have h6 := HH.out.2.2.2; simp only [List.length_cons, List.length_nil] at h9; omega, Nat.le_refl _, by omega, .inl rfl, .inl rfl⟩, S⟩
  case round =>
    clear S
    obtain ⟨i, j, rfl, rfl, HI, S1⟩ := hrel
    by_cases hlt : i < j
    · have hltz : (i : Int) < (j : Int) := by omega
      obtain ⟨k1, k2, k3, k4, k5, k6⟩ := HI.out
      have hm1 := HM.out
      have hbs : b ≤ d0.size := by
        have h1 := HH.out
        have h2 := h1.2.2.1
        simp only [List.length_append, List.length_cons, List.length_nil] at h2 h1
        omega
      obtain ⟨h, hh⟩ : ∃ q, q = (i + j) / 2 := ⟨_, rfl⟩
      have b1 : (h : Int) < (d0.size : Int) := by omega
      have b2 : (a : Int) < (d0.size : Int) := by omega
      have gx : dk[a]! = x := by rw [HDK.out]; exact get_at _ _ _ HH.out.1
      obtain ⟨y, hy⟩ : ∃ y, y = dk[h]! := ⟨_, rfl⟩
      obtain ⟨l1, l1v⟩ := el_grown S1.out R hds h (by omega)
      obtain ⟨l2, l2v⟩ := el_grown S1.out R hds a (by omega)
      rw [← hy] at l1 l1v
      rw [gx] at l2 l2v
      have hc := S1.out.cmp C.lays hds y x
      have HC := Lib.hid (C.key y x)
      have HN : Hid (h = (i + j) / 2 ∧ y = dk[h]! ∧ i ≤ h ∧ h < j) := Lib.hid ⟨hh, hy, by omega, by omega⟩
      have HW2 := Lib.hid (half_w i j h (by omega) hh)
      have HW1 : Hid (wrap64 ((i : Int) + (j : Int)) = (i : Int) + (j : Int)) := Lib.hid (IntWalk.wrap64_in _ (by omega))
      have HW3 : Hid (wrap64 ((h : Int) + 1) = ((h + 1 : Nat) : Int)) := Lib.hid (by rw [show (h : Int) + 1 = ((h + 1 : Nat) : Int) by omega]; exact IntWalk.wrap64_in _ (by omega))
      clear hy gx k1 k2 k3 k4 k5 k6 hbs hh hm1
      go_upto_region 5 with fail
      rw [HW1.out, HW2.out]
      by_cases hv : cf y x < 0
      · have hd : decide (cf y x < 0) = true := decide_eq_true hv
        go_quiet_grown (first | (go_at_fn g; refine Calls.grown_of (hc _ _)))
        have S2 : Aside (SWK (encP Ky Vl) 2 w0 blk off dk (grow (wr.drewN nq) osq)) := S1.out.grown nq osq
        clear l1 l2 l1v l2v hc S1
        generalize grow (wr.drewN nq) osq = w2 at S2 ⊢
        clear nq osq
        have hw3 := HW3.out
        go_wp2
        go_roundg (j - (h + 1))
        case measure => clear hw3; have h0 := HI.out; have h9 := HN.out; omega
        case rel => exact ⟨h + 1, j, by first | rfl | rw [hw3], rfl, Lib.hid (by
          clear hw3
          have h0 := HI.out
          have h9 := HN.out
          refine ⟨by omega, by omega, h0.2.2.1, by omega, .inr ?_, h0.2.2.2.2.2⟩
          rw [Nat.add_sub_cancel, ← h9.2.1]
          exact HC.out.1 hv), S2⟩
      · have hd : decide (cf y x < 0) = false := decide_eq_false hv
        go_quiet_grown (first | (go_at_fn g; refine Calls.grown_of (hc _ _)))
        have S2 : Aside (SWK (encP Ky Vl) 2 w0 blk off dk (grow (wr.drewN nq) osq)) := S1.out.grown nq osq
        clear l1 l2 l1v l2v hc S1
        generalize grow (wr.drewN nq) osq = w2 at S2 ⊢
        clear nq osq
        go_wp2
        go_roundg (h - i)
        case measure => have h0 := HI.out; have h9 := HN.out; omega
        case rel => exact ⟨i, h, rfl, rfl, Lib.hid (by
          have h0 := HI.out
          have h9 := HN.out
          refine ⟨h0.1, by omega, by omega, by omega, h0.2.2.2.2.1, .inr ?_⟩
          rw [← h9.2.1]
          by_cases e : key y < key x
          · have := HC.out.2 e
            omega
          · omega), S2⟩
    · have hltz : ¬ (i : Int) < (j : Int) := by omega
      have HF : Hid (∃ B1 B2, B = B1 ++ B2 ∧ B1.length = i - m ∧ SrtT key num (B1 ++ ([x] ++ B2)) ∧ (B1 ++ ([x] ++ B2)).Perm ([x] ++ B)) := Lib.hid (by
        obtain ⟨k1, k2, k3, k4, k5, k6⟩ := HI.out
        obtain ⟨ha, hb, hs, hB⟩ := HH.out
        have hm1 := HM.out
        obtain ⟨hA, hBs, hN⟩ := HS.out
        simp only [List.length_cons, List.length_nil] at hb
        refine ⟨B.take (i - m), B.drop (i - m), (List.take_append_drop _ _).symm, by simp; omega, ?_⟩
        obtain ⟨B1, hB1⟩ : ∃ B1, B1 = B.take (i - m) := ⟨_, rfl⟩
        obtain ⟨B2, hB2⟩ : ∃ B2, B2 = B.drop (i - m) := ⟨_, rfl⟩
        have hBB : B = B1 ++ B2 := by rw [hB1, hB2]; exact (List.take_append_drop _ _).symm
        have l1 : B1.length = i - m := by rw [hB1]; simp; omega
        have l2 : B2.length = b - i := by rw [hB2]; simp; omega
        rw [← hB1, ← hB2]
        clear hB1 hB2
        have hdk := HDK.out
        rw [hBB] at hdk hBs hN ⊢
        obtain ⟨p1, s1⟩ := merge_split (A1 := [x]) (A2 := []) (B1 := []) (B2 := B2) (R1 := [x]) (R2 := B2) (by simpa using hA) (List.pairwise_append.1 hBs).2.1 (fun u hu v hv => hN u (by simpa using hu) v (by rw [List.nil_append] at hv; exact List.mem_append_right _ hv))
          (fun A' l h B' e1 e2 => by
            obtain rfl : l = x := by
              have := congrArg List.getLast? e1
              simpa using this.symm
            have hj : ¬ j = b := by intro e; rw [e2] at l2; simp at l2; omega
            have h1 := k6.resolve_left hj
            have gh : dk[j]! = h := by
              rw [hdk, e2, show P ++ ([l] ++ ((B1 ++ h :: B') ++ Q)) = (P ++ l :: B1) ++ h :: (B' ++ Q) by simp]
              exact get_at _ _ _ (by simp; omega)
            rw [gh] at h1
            omega)
          (fun B' l h A' e1 e2 => by cases e2) (by simp) hA (by simp) (List.pairwise_append.1 hBs).2.1
        obtain ⟨p2, s2⟩ := merge_split (A1 := []) (A2 := [x]) (B1 := B1) (B2 := B2) (R1 := B1) (R2 := [x] ++ B2) (by simpa using hA) hBs (by simpa using hN)
          (fun A' l h B' e1 e2 => by
            have := congrArg List.length e1
            simp at this)
          (fun B' l h A' e1 e2 => by
            obtain rfl : x = h := by injection e2
            have hi : ¬ i = m := by intro e; rw [e1] at l1; simp at l1; omega
            have h1 := k5.resolve_left hi
            have gl : dk[i - 1]! = l := by
              rw [hdk, e1, show P ++ ([x] ++ ((B' ++ [l] ++ B2) ++ Q)) = (P ++ x :: B') ++ l :: (B2 ++ Q) by simp]
              refine get_at _ _ _ ?_
              rw [e1] at l1
              simp at l1 ⊢
              omega
            rw [gl] at h1
            exact h1)
          (by simp) (List.pairwise_append.1 hBs).1 (List.Perm.refl _) s1
        exact ⟨s2, by first | (simp; done) | simpa using p2⟩)
      obtain ⟨B1, B2, hB12, hl1, hsrt, hprm⟩ := HF.out
      have S2 : Aside (SWK (encP Ky Vl) 2 w0 blk off (P ++ ([] ++ (x :: (B1 ++ (B2 ++ Q))))).toArray wr) := by
        have h := S1.out
        rw [HDK.out, hB12] at h
        have h2 : SWK (encP Ky Vl) 2 w0 blk off (P ++ ([] ++ (x :: (B1 ++ (B2 ++ Q))))).toArray wr := by simpa using h
        exact h2
      have HE : Hid (B1.length = i - m ∧ m = a + 1 ∧ a = P.length ∧ m ≤ i ∧ P.length + 1 + (B1.length + B2.length) + Q.length = d0.size ∧ SrtT key num (B1 ++ ([x] ++ B2)) ∧ (B1 ++ ([x] ++ B2)).Perm ([x] ++ B)) := Lib.hid ⟨hl1, HM.out, HH.out.1, HI.out.1, by
        have := HH.out.2.2.1
        rw [hB12] at this
        simp only [List.length_append, List.length_cons, List.length_nil] at this
        omega, hsrt, hprm⟩
      clear S1 HF hB12 hl1 hsrt hprm HI HM HH HDK hds
      have HW4 : Hid (wrap64 ((i : Int) - 1) = ((i - 1 : Nat) : Int)) := Lib.hid (by
        have h0 := HE.out
        rw [show (i : Int) - 1 = ((i - 1 : Nat) : Int) by omega]; exact IntWalk.wrap64_in _ (by omega))
      go_wp2
      go_loopg [13] i (fun g1 vk wr => ∃ (k : Nat) (Ba Bb : List α), vk = .int .i64 k ∧ Hid (B1 = Ba ++ Bb ∧ k = a + Ba.length ∧ i - k ≤ g1) ∧ Aside (SWK (encP Ky Vl) 2 w0 blk off (P ++ (Ba ++ (x :: (Bb ++ (B2 ++ Q))))).toArray wr))
      case atStart => exact ⟨a, [], B1, rfl, Lib.hid ⟨rfl, rfl, Nat.sub_le _ _⟩, S2⟩
      case round =>
        clear S2
        obtain ⟨k, Ba, Bb, rfl, HK, S1⟩ := hrel
        obtain ⟨k1, k2, k3⟩ := HK.out
        obtain ⟨z1, z2, z3, z4, z5, z6, z7⟩ := HE.out
        have hlB : B1.length = Ba.length + Bb.length := by rw [k1]; simp
        by_cases hki : k < i - 1
        · have hkz : (k : Int) < ((i - 1 : Nat) : Int) := by omega
          obtain ⟨y, Bc, rfl⟩ : ∃ y Bc, Bb = y :: Bc := by
            cases Bb with
            | nil => simp at hlB; omega
            | cons y Bc => exact ⟨y, Bc, rfl⟩
          simp only [List.length_cons] at hlB
          obtain ⟨dk, hdk⟩ : ∃ dk, dk = (P ++ (Ba ++ (x :: (y :: Bc ++ (B2 ++ Q))))).toArray := ⟨_, rfl⟩
          rw [← hdk] at S1
          have hds : dk.size = d0.size := by rw [hdk]; simp; omega
          have hdf : dk = ((P ++ Ba) ++ x :: ([] ++ y :: (Bc ++ (B2 ++ Q)))).toArray := by rw [hdk]; simp
          have hi1 : k = (P ++ Ba).length := by simp; omega
          have gx : dk[k]! = x := by rw [hdf]; exact get_at _ _ _ hi1
          have gy : dk[k + 1]! = y := by
            rw [hdf, show (P ++ Ba) ++ x :: ([] ++ y :: (Bc ++ (B2 ++ Q))) = ((P ++ Ba) ++ [x]) ++ y :: (Bc ++ (B2 ++ Q)) by simp]
            exact get_at _ _ _ (by simp; omega)
          have gs : swp dk k (k + 1) = (P ++ ((Ba ++ [y]) ++ (x :: (Bc ++ (B2 ++ Q))))).toArray := by
            rw [hdf, swp_list _ _ _ _ _ hi1 (by simp; omega)]; simp
          have ba : (k : Int) < (d0.size : Int) := by omega
          have bb : (k : Int) + 1 < (d0.size : Int) := by omega
          have HRB : Hid (IntKind.i64.wrap ((k : Int) + 1) = (k : Int) + 1) := Lib.hid (IntWalk.i64_in _ (by omega))
          have HRW : Hid (wrap64 ((k : Int) + 1) = ((k + 1 : Nat) : Int)) := Lib.hid (by rw [show (k : Int) + 1 = ((k + 1 : Nat) : Int) by omega]; exact IntWalk.wrap64_in _ (by omega))
          obtain ⟨⟨c1, c2, f1, f2⟩, ⟨c3, c4, f3, f4⟩, c5, ⟨u6, c6⟩, ⟨u7, c7⟩, S3⟩ := exch_K S1.out R hds k (k + 1) (by omega) (by omega) x y gx gy _ gs
          have HK2 : Hid (B1 = (Ba ++ [y]) ++ Bc ∧ k + 1 = a + (Ba ++ [y]).length ∧ i - (k + 1) ≤ i - (k + 1)) := Lib.hid ⟨by rw [k1]; simp, by simp; omega, Nat.le_refl _⟩
          have HG := Lib.hid (And.intro k3 hki)
          clear S1 HK k1 k2 k3 z1 z2 z3 z4 z5 z6 z7 hlB hdk hdf gx gy gs hds hi1
          have hw4 := HW4.out
          have rb := HRB.out
          go_wp2_with fail
          go_big_region_o
          clear c1 c2 c3 c4 c5 c6 c7 f1 f2 f3 f4 hw4 rb
          generalize (((((wr.setCell ⟨blk, off + k * 2, none⟩ (.string (Ky y))).setCell ⟨blk, off + k * 2 + 1, none⟩ (.string (Vl y))).setCell ⟨blk, off + (k + 1) * 2, none⟩ (.string (Ky x))).setCell ⟨blk, off + (k + 1) * 2 + 1, none⟩ (.string (Vl x))).drew) = w3 at S3 ⊢
          have hrw := HRW.out
          go_wp2
          go_roundg (i - (k + 1))
          case measure => clear hrw; have := HG.out; omega
          case rel => exact ⟨k + 1, _, _, by first | rfl | rw [hrw], HK2, S3⟩
        · have hkz : ¬ (k : Int) < ((i - 1 : Nat) : Int) := by omega
          have hBb : Bb = [] := List.eq_nil_of_length_eq_zero (by omega)
          have HF : Hid ((B1 ++ ([x] ++ B2)).Perm ([x] ++ B) ∧ SrtT key num (B1 ++ ([x] ++ B2)) ∧ SWK (encP Ky Vl) 2 w0 blk off (P ++ ((B1 ++ ([x] ++ B2)) ++ Q)).toArray wr) := Lib.hid ⟨z7, z6, by
            have := S1.out
            rw [hBb] at this
            rw [k1, hBb]
            simpa using this⟩
          clear S1 HK k1 k2 k3 z1 z2 z3 z4 z5 z6 z7 hlB hBb
          have hw4 := HW4.out
          go_wp2
          first
            | (go_end0; exact ⟨rfl, _, HF⟩)
            | (go_ret; exact ⟨rfl, _, HF⟩)
            | exact bodyPost_ret (v := .tuple #[]) (results_none rfl _ _ _) rfl ⟨rfl, _, HF⟩
end
end Go.Proofs.Ytmpeaondljpgiaa
