/- Stable sorting: slices.insertionSortCmpFunc over a row of one cell each, the elements in the order of their numbers. -/
import Derived.Test.YtmpeaondljpgiaaStkSym
namespace Go.Proofs.Ytmpeaondljpgiaa
open Go.RowKit Go.Lib Go.Sort Go.Shelf

section
variable {α : Type} [Inhabited α] {Ky Vl : α → ByteArray} {w0 : World} {blk off : Nat} {d0 : Array α} {key : α → Int} {num : α → Nat} {cf : α → α → Int} {g : Nat} {cb : Array Value}
set_option maxRecDepth 100000 in
set_option maxHeartbeats 16000000 in
theorem insertion_K (R : RowK (encP Ky Vl) 2 w0 blk off d0) (hsz : d0.size < 4611686018427387904) (cap : Nat) (C : CmpK g cb Ky Vl cf key blk off d0.size w0) (P A Q : List α) (W : World) (a b : Nat) (HN : Hid (A.Pairwise fun x y => num x < num y)) (hs : (P ++ (A ++ Q)).length = d0.size) (ha : a = P.length) (hb : b = P.length + A.length) (hA : 0 < A.length)
    (S : Aside (SWK (encP Ky Vl) 2 w0 blk off (P ++ (A ++ Q)).toArray W)) :
    Calls Try.prog 37 #[.slice (some ⟨blk, off, none⟩) d0.size cap, .int .i64 a, .int .i64 b, .func (.func g) #[] cb] W fun e w' => e = .returned (.tuple #[]) ∧ ∃ S', Hid (S'.Perm A ∧ SrtT key num S' ∧ SWK (encP Ky Vl) 2 w0 blk off (P ++ (S' ++ Q)).toArray w') := by
  have mixed : Try.prog.follows Departure.mixedOrders = true := by kernel_rfl
  have eg := C.eg
  have hsl := hs
  simp only [List.length_append] at hsl
  have HH : Hid (a = P.length ∧ b = P.length + A.length ∧ P.length + A.length + Q.length = d0.size ∧ 0 < A.length) := Lib.hid ⟨ha, hb, by omega, hA⟩
  have HW1 : Hid (wrap64 ((a : Int) + 1) = ((a + 1 : Nat) : Int)) := Lib.hid (by rw [show (a : Int) + 1 = ((a + 1 : Nat) : Int) by omega]; exact IntWalk.wrap64_in _ (by omega))
  clear hs hsl ha hb hA
  go_enter Try.func37, Try.ntmps37
  go_wp2
  rw [HW1.out]
  have H0 : Hid (∃ x T, A = [x] ++ T) := Lib.hid (by
    have := HH.out.2.2.2
    cases A with
    | nil => simp at this
    | cons x T => exact ⟨x, T, rfl⟩)
  obtain ⟨x0, T0, hT0⟩ := H0.out
  have S0 : Aside (SWK (encP Ky Vl) 2 w0 blk off (P ++ ([x0] ++ (T0 ++ Q))).toArray W) := by
    have h := S.out
    rw [hT0, List.append_assoc] at h
    exact h
  have HT0 := Lib.hid hT0
  clear S hT0 H0
  go_loopg [8] b (fun g1 vi wr => ∃ (i : Nat) (Af T Sd : List α), vi = .int .i64 i ∧ Hid (A = Af ++ T ∧ Sd.Perm Af ∧ SrtT key num Sd ∧ i = a + Af.length ∧ b - i ≤ g1) ∧ Aside (SWK (encP Ky Vl) 2 w0 blk off (P ++ (Sd ++ (T ++ Q))).toArray wr))
  case atStart => exact ⟨a + 1, [x0], T0, [x0], rfl, Lib.hid ⟨HT0.out, List.Perm.refl _, List.pairwise_singleton _ _, rfl, by omega⟩, S0⟩
  case round =>
    clear S0
    obtain ⟨i, Af, T, Sd, rfl, HI, S1⟩ := hrel
    by_cases hlt : i < b
    · have hltz : (i : Int) < (b : Int) := by omega
      have HE : Hid (∃ x T', T = x :: T') := Lib.hid (by
        have h1 := HI.out
        have h2 := HH.out
        have h3 := congrArg List.length h1.1
        simp only [List.length_append] at h3
        cases T with
        | nil => simp at h3; omega
        | cons x T' => exact ⟨x, T', rfl⟩)
      obtain ⟨x, T', hT⟩ := HE.out
      rw [hT] at HI S1
      clear hT HE
      have HX : Hid (∀ u ∈ Af, num u < num x) := Lib.hid (fun u hu => by
        have h := HN.out
        rw [HI.out.1] at h
        exact (List.pairwise_append.1 h).2.2 u hu x (by simp))
      have HSZ : Hid (P.length + Sd.length + 1 + T'.length + Q.length = d0.size ∧ Sd.length = Af.length ∧ a = P.length ∧ i = a + Af.length ∧ b ≤ d0.size) := Lib.hid (by
        have h1 := HI.out
        have h2 := HH.out
        have h3 := congrArg List.length h1.1
        have h4 := h1.2.1.length_eq
        simp only [List.length_append, List.length_cons] at h3
        omega)
      have HG := Lib.hid (And.intro HI.out.2.2.2.2 hlt)
      go_wp2
      go_loopg [9] i (fun g2 vj wr2 => ∃ (j : Nat) (U V : List α), vj = .int .i64 j ∧ Hid (Sd = U ++ V ∧ (∀ v ∈ V, Tl key num x v) ∧ j = a + U.length ∧ j ≤ g2) ∧ Aside (SWK (encP Ky Vl) 2 w0 blk off (P ++ (U ++ (x :: (V ++ (T' ++ Q))))).toArray wr2))
      case atStart => exact ⟨i, Sd, [], rfl, Lib.hid ⟨by simp, (fun v hv => by cases hv), by have := HSZ.out; omega, Nat.le_refl _⟩, S1⟩
      case round =>
        clear S1
        obtain ⟨j, U, V, rfl, HJ, SJ⟩ := hrel
        have HOUT : Hid (∀ wz, (∀ U' u, U = U' ++ [u] → key u ≤ key x) → SWK (encP Ky Vl) 2 w0 blk off (P ++ (U ++ (x :: (V ++ (T' ++ Q))))).toArray wz → Hid (A = (Af ++ [x]) ++ T' ∧ (U ++ x :: V).Perm (Af ++ [x]) ∧ SrtT key num (U ++ x :: V) ∧ i + 1 = a + (Af ++ [x]).length ∧ b - (i + 1) ≤ b - (i + 1)) ∧ SWK (encP Ky Vl) 2 w0 blk off (P ++ ((U ++ x :: V) ++ (T' ++ Q))).toArray wz) := Lib.hid (fun wz hst hw => by
          obtain ⟨e1, e2, e3, e4⟩ := HJ.out
          obtain ⟨i1, i2, i3, i4, i5⟩ := HI.out
          rw [e1] at i2 i3
          refine ⟨Lib.hid ⟨by rw [i1]; simp, ?_, ins_stop i3 e2 (fun u hu => HX.out u (i2.mem_iff.1 (List.mem_append_left _ hu))) hst, by simp; omega, Nat.le_refl _⟩, ?_⟩
          · have p : (U ++ x :: V).Perm (x :: (U ++ V)) := List.perm_middle
            refine p.trans ((i2.cons x).trans ?_)
            exact List.perm_append_comm (l₁ := [x])
          · have h2 : SWK (encP Ky Vl) 2 w0 blk off (P ++ ((U ++ x :: V) ++ (T' ++ Q))).toArray wz := by simpa using hw
            exact h2)
        obtain ⟨e1, e2, e3, e4⟩ := HJ.out
        obtain ⟨s1, s2, s3, s4, s5⟩ := HSZ.out
        have hlS : Sd.length = U.length + V.length := by rw [e1]; simp
        have HRW : Hid (wrap64 ((i : Int) + 1) = ((i + 1 : Nat) : Int)) := Lib.hid (by rw [show (i : Int) + 1 = ((i + 1 : Nat) : Int) by omega]; exact IntWalk.wrap64_in _ (by omega))
        by_cases hja : a < j
        · obtain ⟨jp, rfl⟩ : ∃ jp, j = jp + 1 := ⟨j - 1, by omega⟩
          obtain ⟨U', u, hU⟩ : ∃ U' u, U = U' ++ [u] := by
            rcases List.eq_nil_or_concat U with rfl | ⟨U', u, h⟩
            · simp at e3; omega
            · exact ⟨U', u, by rw [h]; simp⟩
          have hlU : U.length = U'.length + 1 := by rw [hU]; simp
          have hjaz' : (a : Int) < (jp : Int) + 1 := by omega
          have ba : (jp : Int) < (d0.size : Int) := by omega
          have bb : (jp : Int) + 1 < (d0.size : Int) := by omega
          have pa1 : (0 : Int) ≤ (jp : Int) + 1 := by omega
          have ea1 : ((jp : Int) + 1).toNat = jp + 1 := by omega
          have hjd : decide ((jp : Int) + 1 > (a : Int)) = true := decide_eq_true (by omega)
          obtain ⟨dk, hdk⟩ : ∃ dk, dk = (P ++ (U ++ (x :: (V ++ (T' ++ Q))))).toArray := ⟨_, rfl⟩
          have SK : Aside (SWK (encP Ky Vl) 2 w0 blk off dk wr) := by rw [hdk]; exact SJ
          have HDK2 := Lib.hid hdk
          have hds : dk.size = d0.size := by rw [hdk]; simp; omega
          have hdf : dk = ((P ++ U') ++ u :: ([] ++ x :: (V ++ (T' ++ Q)))).toArray := by rw [hdk, hU]; simp
          have hi1 : jp = (P ++ U').length := by simp; omega
          have gx : dk[jp]! = u := by rw [hdf]; exact get_at _ _ _ hi1
          have gy : dk[jp + 1]! = x := by
            rw [hdf, show (P ++ U') ++ u :: ([] ++ x :: (V ++ (T' ++ Q))) = ((P ++ U') ++ [u]) ++ x :: (V ++ (T' ++ Q)) by simp]
            exact get_at _ _ _ (by simp; omega)
          have gs : swp dk (jp + 1) jp = (P ++ (U' ++ (x :: ((u :: V) ++ (T' ++ Q))))).toArray := by
            rw [swp_flip _ (by omega : jp ≠ jp + 1), hdf, swp_list _ _ _ _ _ hi1 (by simp; omega)]; simp
          obtain ⟨l1, l1v⟩ := el_grown SK.out R hds jp (by omega)
          obtain ⟨l2, l2v⟩ := el_grown SK.out R hds (jp + 1) (by omega)
          rw [gx] at l1 l1v
          rw [gy] at l2 l2v
          have hc := SK.out.cmp C.lays hds x u
          have HC := Lib.hid (C.key x u)
          have HRB : Hid (IntKind.i64.wrap ((jp : Int) + 1) = (jp : Int) + 1 ∧ IntKind.i64.wrap (jp : Int) = (jp : Int) ∧ wrap64 (jp : Int) = (jp : Int)) := Lib.hid ⟨IntWalk.i64_in _ (by omega), IntWalk.i64_in _ (by omega), IntWalk.wrap64_in _ (by omega)⟩
          have HK := Lib.hid (And.intro hds (And.intro gx (And.intro gy (And.intro gs (And.intro hU (And.intro hlU (And.intro e1 (And.intro e2 (And.intro e3 e4)))))))))
          clear SJ e1 e2 e3 e4 s1 s2 s3 s4 s5 hlS hlU hU hdk hdf gx gy gs hds hi1
          have rb := HRB.out.1
          have rc := HRB.out.2.1
          by_cases hv : cf x u < 0
          · have hd : decide (cf x u < 0) = true := decide_eq_true hv
            go_wp2_with fail
            go_quiet_grown (first | (go_at_fn g; refine Calls.grown_of (hc _ _)))
            have S2 : Aside (SWK (encP Ky Vl) 2 w0 blk off dk (grow (wr.drewN nq) osq)) := SK.out.grown nq osq
            clear l1 l2 l1v l2v hc SK
            generalize grow (wr.drewN nq) osq = w2 at S2 ⊢
            clear nq osq
            obtain ⟨⟨c1, c2, f1, f2⟩, ⟨c3, c4, f3, f4⟩, c5, ⟨u6, c6⟩, ⟨u7, c7⟩, S3⟩ := exch_K S2.out R HK.out.1 (jp + 1) jp (by have := HK.out; have := HSZ.out; omega) (by have := HK.out; have := HSZ.out; omega) x u HK.out.2.2.1 HK.out.2.1 _ HK.out.2.2.2.1
            clear S2
            go_wp2_with fail
            go_big_region_o
            clear c1 c2 c3 c4 c5 c6 c7 f1 f2 f3 f4 rb rc
            generalize (((((w2.setCell ⟨blk, off + (jp + 1) * 2, none⟩ (.string (Ky u))).setCell ⟨blk, off + (jp + 1) * 2 + 1, none⟩ (.string (Vl u))).setCell ⟨blk, off + jp * 2, none⟩ (.string (Ky x))).setCell ⟨blk, off + jp * 2 + 1, none⟩ (.string (Vl x))).drew) = w3 at S3 ⊢
            have rd := HRB.out.2.2
            go_wp2
            go_roundg jp
            case measure => clear rd; have := HK.out; omega
            case rel => exact ⟨jp, U', u :: V, by first | rfl | rw [rd] | go_num, Lib.hid (by
              clear rd
              obtain ⟨y1, y2, y3, y4, y5, y6, y7, y8, y9, y10⟩ := HK.out
              refine ⟨by rw [y7, y5]; simp, fun v hv' => ?_, by omega, Nat.le_refl _⟩
              rcases List.mem_cons.1 hv' with rfl | hv'
              · exact .inl (HC.out.1 hv)
              · exact y8 v hv'), S3⟩
          · have hd : decide (cf x u < 0) = false := decide_eq_false hv
            go_wp2_with fail
            go_quiet_grown (first | (go_at_fn g; refine Calls.grown_of (hc _ _)))
            have S2 : Aside (SWK (encP Ky Vl) 2 w0 blk off dk (grow (wr.drewN nq) osq)) := SK.out.grown nq osq
            clear l1 l2 l1v l2v hc SK rb rc
            generalize grow (wr.drewN nq) osq = w2 at S2 ⊢
            clear nq osq
            have HF := Lib.hid (HOUT.out w2 (fun U1 u1 hu => by
              obtain ⟨y1, y2, y3, y4, y5, y6, y7, y8, y9, y10⟩ := HK.out
              obtain rfl : u = u1 := by
                have h := hu.symm.trans y5
                have h2 := congrArg List.getLast? h
                simp at h2
                exact h2.symm
              by_cases e : key x < key u
              · exact absurd (HC.out.2 e) (by omega)
              · omega) (by
              obtain ⟨y1, y2, y3, y4, y5, y6, y7, y8, y9, y10⟩ := HK.out
              have h := S2.out
              rw [HDK2.out] at h
              exact h))
            clear S2
            have rw1 := HRW.out
            go_wp2
            go_roundg (b - (i + 1))
            case measure => clear rw1; have := HG.out; omega
            case rel => exact ⟨i + 1, _, _, _, by first | rfl | rw [rw1], HF.out.1, HF.out.2⟩
        · have hjaz : decide ((j : Int) > (a : Int)) = false := decide_eq_false (by omega)
          have hjaz' : ¬ (a : Int) < (j : Int) := by omega
          have hjaz2 : decide ((a : Int) < (j : Int)) = false := decide_eq_false (by omega)
          have hjeq : j = a := by omega
          have hU0 : U = [] := List.eq_nil_of_length_eq_zero (by omega)
          have HF0 := Lib.hid (fun wz (hw : SWK (encP Ky Vl) 2 w0 blk off (P ++ (U ++ (x :: (V ++ (T' ++ Q))))).toArray wz) => HOUT.out wz (fun U1 u1 hu => by rw [hU0] at hu; simp at hu) hw)
          clear e1 e2 e3 e4 s1 s2 s3 s4 s5 hlS hU0 hja
          have hself : decide ((a : Int) < (a : Int)) = false := by simp
          rw [hjeq] at hjaz hjaz' hjaz2 ⊢
          clear hjaz hjaz' hjaz2 hjeq
          go_wp2_with fail
          go_big_region_o
          have HF := Lib.hid (HF0.out wr.drew (SJ.out.drew))
          clear SJ HF0
          generalize wr.drew = w2 at HF ⊢
          have rw1 := HRW.out
          go_wp2
          go_roundg (b - (i + 1))
          case measure => clear rw1; have := HG.out; omega
          case rel => exact ⟨i + 1, _, _, _, by first | rfl | rw [rw1], HF.out.1, HF.out.2⟩
    · have hltz : ¬ (i : Int) < (b : Int) := by omega
      have HF : Hid (Sd.Perm A ∧ SrtT key num Sd ∧ SWK (encP Ky Vl) 2 w0 blk off (P ++ (Sd ++ Q)).toArray wr) := Lib.hid (by
        have h1 := HI.out
        have h2 := HH.out
        have h3 := congrArg List.length h1.1
        simp only [List.length_append] at h3
        have hT : T = [] := List.eq_nil_of_length_eq_zero (by omega)
        have h := S1.out
        rw [hT] at h
        refine ⟨by rw [h1.1, hT, List.append_nil]; exact h1.2.1, h1.2.2.1, h⟩)
      clear S1 HI
      go_wp2
      first
        | (go_end0; exact ⟨rfl, _, HF⟩)
        | (go_ret; exact ⟨rfl, _, HF⟩)
        | exact bodyPost_ret (v := .tuple #[]) (results_none rfl _ _ _) rfl ⟨rfl, _, HF⟩
end
end Go.Proofs.Ytmpeaondljpgiaa
