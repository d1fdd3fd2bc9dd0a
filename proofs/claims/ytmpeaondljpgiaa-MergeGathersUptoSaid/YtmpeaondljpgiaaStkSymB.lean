/- Stable sorting: slices.symMergeCmpFunc, one behind many. -/
import Derived.Test.YtmpeaondljpgiaaStkSym
namespace Go.Proofs.Ytmpeaondljpgiaa
open Go.RowKit Go.Lib Go.Sort Go.Shelf

section
variable {α : Type} [Inhabited α] {Ky Vl : α → ByteArray} {w0 : World} {blk off : Nat} {d0 : Array α} {key : α → Int} {num : α → Nat} {cf : α → α → Int} {g : Nat} {cb : Array Value}
set_option maxRecDepth 100000 in
set_option maxHeartbeats 16000000 in
theorem sym_right_K (R : RowK (encP Ky Vl) 2 w0 blk off d0) (hsz : d0.size < 4611686018427387904) (cap : Nat) (C : CmpK g cb Ky Vl cf key blk off d0.size w0) (len : Nat) (P A B Q : List α) (W : World) (a m b : Nat) (hlen : A.length + B.length ≤ len + 1) (hA : 0 < A.length) (hB : 0 < B.length) (HS : Hid (SrtT key num A ∧ SrtT key num B ∧ Nl num A B)) (hs : (P ++ (A ++ (B ++ Q))).length = d0.size) (ha : a = P.length) (hm : m = P.length + A.length) (hb : b = P.length + A.length + B.length)
    (S : Aside (SWK (encP Ky Vl) 2 w0 blk off (P ++ (A ++ (B ++ Q))).toArray W)) (hone : ¬ A.length = 1) (htwo : B.length = 1) :
    Calls Try.prog 38 #[.slice (some ⟨blk, off, none⟩) d0.size cap, .int .i64 a, .int .i64 m, .int .i64 b, .func (.func g) #[] cb] W fun e w' => e = .returned (.tuple #[]) ∧ ∃ S', Hid (S'.Perm (A ++ B) ∧ SrtT key num S' ∧ SWK (encP Ky Vl) 2 w0 blk off (P ++ (S' ++ Q)).toArray w') := by
  have mixed : Try.prog.follows Departure.mixedOrders = true := by kernel_rfl
  have eg := C.eg
  obtain ⟨y, rfl⟩ : ∃ y, B = [y] := List.length_eq_one_iff.1 htwo
  have HM : Hid (b = m + 1 ∧ a + 1 < m) := Lib.hid ⟨by simp at hb; omega, by omega⟩
  have HH := Lib.hid (And.intro ha (And.intro hm (And.intro hs hA)))
  have q0 : wrap64 ((m : Int) - (a : Int)) = (m : Int) - (a : Int) := IntWalk.wrap64_in _ (by
    have := hs
    simp only [List.length_append] at this
    omega)
  have hq0 : ((m : Int) - (a : Int) == 1) = false := by
    have := HM.out
    simp only [beq_eq_false_iff_ne, ne_eq]
    clear q0
    omega
  have q2 : (b : Int) - (m : Int) = 1 := by
    have := HM.out
    clear q0
    omega
  clear ha hm hb hs hA hB hone hlen htwo
  go_enter Try.func38, Try.ntmps38
  go_wp2
  clear q0 q2 hq0
  obtain ⟨dk, hdk⟩ : ∃ dk, dk = (P ++ (A ++ ([y] ++ Q))).toArray := ⟨_, rfl⟩
  rw [← hdk] at S
  have hds : dk.size = d0.size := by
    have := HH.out.2.2.1
    rw [hdk, ← this]; simp
  have HDK := Lib.hid hdk
  clear hdk
  go_loopg [14, 15] m (fun g1 vi vj wr => ∃ (i j : Nat), vi = .int .i64 i ∧ vj = .int .i64 j ∧ Hid (a ≤ i ∧ i ≤ j ∧ j ≤ m ∧ j - i ≤ g1 ∧ (i = a ∨ ¬ key y < key dk[i - 1]!) ∧ (j = m ∨ key y < key dk[j]!)) ∧ Aside (SWK (encP Ky Vl) 2 w0 blk off dk wr))
  case atStart => exact ⟨a, m, rfl, rfl, Lib.hid ⟨Nat.le_refl _, by have := HM.out; omega, Nat.le_refl _, by omega, .inl rfl, .inl rfl⟩, S⟩
  case round =>
    clear S
    obtain ⟨i, j, rfl, rfl, HI, S1⟩ := hrel
    by_cases hlt : i < j
    · have hltz : (i : Int) < (j : Int) := by omega
      obtain ⟨k1, k2, k3, k4, k5, k6⟩ := HI.out
      have hbs : m < d0.size := by
        have h1 := HH.out
        have h2 := h1.2.2.1
        simp only [List.length_append, List.length_cons, List.length_nil] at h2 h1
        omega
      obtain ⟨h, hh⟩ : ∃ q, q = (i + j) / 2 := ⟨_, rfl⟩
      have b1 : (h : Int) < (d0.size : Int) := by omega
      have b2 : (m : Int) < (d0.size : Int) := by omega
      have gx : dk[m]! = y := by
        rw [HDK.out, show P ++ (A ++ ([y] ++ Q)) = (P ++ A) ++ y :: Q by simp]
        exact get_at _ _ _ (by simp; exact HH.out.2.1)
      obtain ⟨z, hz⟩ : ∃ z, z = dk[h]! := ⟨_, rfl⟩
      obtain ⟨l1, l1v⟩ := el_grown S1.out R hds h (by omega)
      obtain ⟨l2, l2v⟩ := el_grown S1.out R hds m (by omega)
      rw [← hz] at l1 l1v
      rw [gx] at l2 l2v
      have hc := S1.out.cmp C.lays hds y z
      have HC := Lib.hid (C.key y z)
      have HN : Hid (h = (i + j) / 2 ∧ z = dk[h]! ∧ i ≤ h ∧ h < j) := Lib.hid ⟨hh, hz, by omega, by omega⟩
      have HW2 := Lib.hid (half_w i j h (by omega) hh)
      have HW1 : Hid (wrap64 ((i : Int) + (j : Int)) = (i : Int) + (j : Int)) := Lib.hid (IntWalk.wrap64_in _ (by omega))
      have HW3 : Hid (wrap64 ((h : Int) + 1) = ((h + 1 : Nat) : Int)) := Lib.hid (by rw [show (h : Int) + 1 = ((h + 1 : Nat) : Int) by omega]; exact IntWalk.wrap64_in _ (by omega))
      clear hz gx k1 k2 k3 k4 k5 k6 hbs hh
      go_upto_region 17 with fail
      rw [HW1.out, HW2.out]
      by_cases hv : cf y z < 0
      · have hd : decide (cf y z < 0) = true := decide_eq_true hv
        go_quiet_grown (first | (go_at_fn g; refine Calls.grown_of (hc _ _)))
        have S2 : Aside (SWK (encP Ky Vl) 2 w0 blk off dk (grow (wr.drewN nq) osq)) := S1.out.grown nq osq
        clear l1 l2 l1v l2v hc S1
        generalize grow (wr.drewN nq) osq = w2 at S2 ⊢
        clear nq osq
        go_wp2
        go_roundg (h - i)
        case measure => have h0 := HI.out; have h9 := HN.out; omega
        case rel => exact ⟨i, h, rfl, rfl, Lib.hid (by
          have h0 := HI.out
          have h9 := HN.out
          refine ⟨h0.1, by omega, by omega, by omega, h0.2.2.2.2.1, .inr ?_⟩
          rw [← h9.2.1]
          exact HC.out.1 hv), S2⟩
      · have hd : decide (cf y z < 0) = false := decide_eq_false hv
        go_quiet_grown (first | (go_at_fn g; refine Calls.grown_of (hc _ _)))
        have S2 : Aside (SWK (encP Ky Vl) 2 w0 blk off dk (grow (wr.drewN nq) osq)) := S1.out.grown nq osq
        clear l1 l2 l1v l2v hc S1
        generalize grow (wr.drewN nq) osq = w2 at S2 ⊢
        clear nq osq
        have hw3 := HW3.out
        go_wp2
        go_roundg (j - (h + 1))
        case measure => clear hw3; have h0 := HI.out; have h9 := HN.out; omega
        case rel => exact ⟨h + 1, j, by first | rfl | rw [hw3], rfl, Lib.hid (by
          clear hw3
          have h0 := HI.out
          have h9 := HN.out
          refine ⟨by omega, by omega, h0.2.2.1, by omega, .inr ?_, h0.2.2.2.2.2⟩
          rw [Nat.add_sub_cancel, ← h9.2.1]
          by_cases e : key y < key z
          · have := HC.out.2 e
            omega
          · omega), S2⟩
    · have hltz : ¬ (i : Int) < (j : Int) := by omega
      have HF : Hid (∃ A1 A2, A = A1 ++ A2 ∧ A1.length = i - a ∧ A2.length = m - i ∧ SrtT key num ((A1 ++ [y]) ++ A2) ∧ ((A1 ++ [y]) ++ A2).Perm (A ++ [y])) := Lib.hid (by
        obtain ⟨k1, k2, k3, k4, k5, k6⟩ := HI.out
        obtain ⟨ha, hm, hs, hA⟩ := HH.out
        obtain ⟨hAs, hBs, hN⟩ := HS.out
        obtain ⟨A1, hA1⟩ : ∃ A1, A1 = A.take (i - a) := ⟨_, rfl⟩
        obtain ⟨A2, hA2⟩ : ∃ A2, A2 = A.drop (i - a) := ⟨_, rfl⟩
        have hAA : A = A1 ++ A2 := by rw [hA1, hA2]; exact (List.take_append_drop _ _).symm
        have l1 : A1.length = i - a := by rw [hA1]; simp; omega
        have l2 : A2.length = m - i := by rw [hA2]; simp; omega
        refine ⟨A1, A2, hAA, l1, l2, ?_⟩
        clear hA1 hA2
        have hdk := HDK.out
        rw [hAA] at hdk hAs hN ⊢
        obtain ⟨p1, s1⟩ := merge_split (A1 := A1) (A2 := []) (B1 := []) (B2 := [y]) (R1 := A1) (R2 := [y]) (by rw [List.append_nil]; exact (List.pairwise_append.1 hAs).1) hBs (fun u hu v hv => hN u (by rw [List.append_nil] at hu; exact List.mem_append_left _ hu) v hv)
          (fun A' l h B' e1 e2 => by
            obtain rfl : y = h := by injection e2
            have hi : ¬ i = a := by intro e; rw [e1] at l1; simp at l1; omega
            have h1 := k5.resolve_left hi
            have gl : dk[i - 1]! = l := by
              rw [hdk, e1, show P ++ ((A' ++ [l] ++ A2) ++ ([y] ++ Q)) = (P ++ A') ++ l :: (A2 ++ ([y] ++ Q)) by simp]
              refine get_at _ _ _ ?_
              rw [e1] at l1
              simp at l1 ⊢
              omega
            rw [gl] at h1
            omega)
          (fun B' l h A' e1 e2 => by cases e2) (by simp) (List.pairwise_append.1 hAs).1 (by simp) hBs
        obtain ⟨p2, s2⟩ := merge_split (A1 := A1) (A2 := A2) (B1 := [y]) (B2 := []) (R1 := A1 ++ [y]) (R2 := A2) hAs (by simpa using hBs) (by simpa using hN)
          (fun A' l h B' e1 e2 => by cases e2)
          (fun B' l h A' e1 e2 => by
            obtain rfl : y = l := by
              have := congrArg List.getLast? e1
              simpa using this
            have hj : ¬ j = m := by intro e; rw [e2] at l2; simp at l2; omega
            have h1 := k6.resolve_left hj
            have gh : dk[j]! = h := by
              rw [hdk, e2, show P ++ ((A1 ++ h :: A') ++ ([y] ++ Q)) = (P ++ A1) ++ h :: (A' ++ ([y] ++ Q)) by simp]
              exact get_at _ _ _ (by simp; omega)
            rw [gh] at h1
            exact h1)
          (List.Perm.refl _) s1 (by simp) (List.pairwise_append.1 hAs).2.1
        exact ⟨s2, by simpa using p2⟩)
      obtain ⟨A1, A2, hA12, hl1, hl2, hsrt, hprm⟩ := HF.out
      have S2 : Aside (SWK (encP Ky Vl) 2 w0 blk off (P ++ (A1 ++ (A2 ++ (y :: ([] ++ Q))))).toArray wr) := by
        have h := S1.out
        rw [HDK.out, hA12] at h
        have h2 : SWK (encP Ky Vl) 2 w0 blk off (P ++ (A1 ++ (A2 ++ (y :: ([] ++ Q))))).toArray wr := by simpa using h
        exact h2
      have HE : Hid (A1.length = i - a ∧ A2.length = m - i ∧ a = P.length ∧ a ≤ i ∧ i ≤ m ∧ P.length + (A1.length + A2.length) + 1 + Q.length = d0.size ∧ SrtT key num ((A1 ++ [y]) ++ A2) ∧ ((A1 ++ [y]) ++ A2).Perm (A ++ [y])) := Lib.hid ⟨hl1, hl2, HH.out.1, HI.out.1, by have := HI.out; omega, by
        have := HH.out.2.2.1
        rw [hA12] at this
        simp only [List.length_append, List.length_cons, List.length_nil] at this
        omega, hsrt, hprm⟩
      clear S1 HF hA12 hl1 hl2 hsrt hprm HI HM HH HDK hds
      go_wp2
      go_loopg [17] m (fun g1 vk wr => ∃ (k : Nat) (Aa Ab : List α), vk = .int .i64 k ∧ Hid (A2 = Aa ++ Ab ∧ k = i + Aa.length ∧ k ≤ g1) ∧ Aside (SWK (encP Ky Vl) 2 w0 blk off (P ++ (A1 ++ (Aa ++ (y :: (Ab ++ Q))))).toArray wr))
      case atStart => exact ⟨m, A2, [], rfl, Lib.hid ⟨by simp, by have := HE.out; omega, Nat.le_refl _⟩, S2⟩
      case round =>
        clear S2
        obtain ⟨k, Aa, Ab, rfl, HK, S1⟩ := hrel
        obtain ⟨k1, k2, k3⟩ := HK.out
        obtain ⟨z1, z2, z3, z4, z8, z5, z6, z7⟩ := HE.out
        have hlA : A2.length = Aa.length + Ab.length := by rw [k1]; simp
        by_cases hki : i < k
        · obtain ⟨kp, rfl⟩ : ∃ kp, k = kp + 1 := ⟨k - 1, by omega⟩
          have hkz : (i : Int) < (kp : Int) + 1 := by omega
          obtain ⟨Ac, z, rfl⟩ : ∃ Ac z, Aa = Ac ++ [z] := by
            rcases List.eq_nil_or_concat Aa with rfl | ⟨Ac, z, h⟩
            · simp at k2; omega
            · exact ⟨Ac, z, by rw [h]; simp⟩
          simp only [List.length_append, List.length_cons, List.length_nil] at hlA k2
          obtain ⟨dk, hdk⟩ : ∃ dk, dk = (P ++ (A1 ++ ((Ac ++ [z]) ++ (y :: (Ab ++ Q))))).toArray := ⟨_, rfl⟩
          rw [← hdk] at S1
          have hds : dk.size = d0.size := by rw [hdk]; simp; omega
          have hdf : dk = ((P ++ (A1 ++ Ac)) ++ z :: ([] ++ y :: (Ab ++ Q))).toArray := by rw [hdk]; simp
          have hi1 : kp = (P ++ (A1 ++ Ac)).length := by simp; omega
          have gx : dk[kp]! = z := by rw [hdf]; exact get_at _ _ _ hi1
          have gy : dk[kp + 1]! = y := by
            rw [hdf, show (P ++ (A1 ++ Ac)) ++ z :: ([] ++ y :: (Ab ++ Q)) = ((P ++ (A1 ++ Ac)) ++ [z]) ++ y :: (Ab ++ Q) by simp]
            exact get_at _ _ _ (by simp; omega)
          have gs : swp dk (kp + 1) kp = (P ++ (A1 ++ (Ac ++ (y :: ((z :: Ab) ++ Q))))).toArray := by
            rw [swp_flip _ (by omega : kp ≠ kp + 1), hdf, swp_list _ _ _ _ _ hi1 (by simp; omega)]; simp
          have ba : (kp : Int) < (d0.size : Int) := by omega
          have bb : (kp : Int) + 1 < (d0.size : Int) := by omega
          have HRB : Hid (IntKind.i64.wrap ((kp : Int) + 1) = (kp : Int) + 1 ∧ IntKind.i64.wrap (kp : Int) = (kp : Int) ∧ wrap64 (kp : Int) = (kp : Int)) := Lib.hid ⟨IntWalk.i64_in _ (by omega), IntWalk.i64_in _ (by omega), IntWalk.wrap64_in _ (by omega)⟩
          obtain ⟨⟨c1, c2, f1, f2⟩, ⟨c3, c4, f3, f4⟩, c5, ⟨u6, c6⟩, ⟨u7, c7⟩, S3⟩ := exch_K S1.out R hds (kp + 1) kp (by omega) (by omega) y z gy gx _ gs
          have HK2 : Hid (A2 = Ac ++ (z :: Ab) ∧ kp = i + Ac.length ∧ kp ≤ kp) := Lib.hid ⟨by rw [k1]; simp, by omega, Nat.le_refl _⟩
          have HG := Lib.hid k3
          clear S1 HK k1 k2 k3 z1 z2 z3 z4 z5 z6 z7 z8 hlA hdk hdf gx gy gs hds hi1
          have rb := HRB.out.1
          have rc := HRB.out.2.1
          go_wp2_with fail
          go_big_region_o
          clear c1 c2 c3 c4 c5 c6 c7 f1 f2 f3 f4 rb rc
          generalize (((((wr.setCell ⟨blk, off + (kp + 1) * 2, none⟩ (.string (Ky z))).setCell ⟨blk, off + (kp + 1) * 2 + 1, none⟩ (.string (Vl z))).setCell ⟨blk, off + kp * 2, none⟩ (.string (Ky y))).setCell ⟨blk, off + kp * 2 + 1, none⟩ (.string (Vl y))).drew) = w3 at S3 ⊢
          have rd := HRB.out.2.2
          go_wp2
          go_roundg kp
          case measure => clear rd; have := HG.out; omega
          case rel => exact ⟨kp, _, _, by first | rfl | rw [rd] | go_num, HK2, S3⟩
        · have hkz : ¬ (i : Int) < (k : Int) := by omega
          have hAa : Aa = [] := List.eq_nil_of_length_eq_zero (by omega)
          have HF : Hid (((A1 ++ [y]) ++ A2).Perm (A ++ [y]) ∧ SrtT key num ((A1 ++ [y]) ++ A2) ∧ SWK (encP Ky Vl) 2 w0 blk off (P ++ (((A1 ++ [y]) ++ A2) ++ Q)).toArray wr) := Lib.hid ⟨z7, z6, by
            have := S1.out
            rw [hAa] at this
            rw [k1, hAa]
            simpa using this⟩
          clear S1 HK k1 k2 k3 z1 z2 z3 z4 z5 z6 z7 z8 hlA hAa
          go_wp2
          first
            | (go_end0; exact ⟨rfl, _, HF⟩)
            | (go_ret; exact ⟨rfl, _, HF⟩)
            | exact bodyPost_ret (v := .tuple #[]) (results_none rfl _ _ _) rfl ⟨rfl, _, HF⟩
end
end Go.Proofs.Ytmpeaondljpgiaa
