/- Stable sorting: slices.symMergeCmpFunc, many and many. -/
import Derived.Test.YtmpeaondljpgiaaStkSymB
namespace Go.Proofs.Ytmpeaondljpgiaa
open Go.RowKit Go.Lib Go.Sort Go.Shelf

section
variable {α : Type} [Inhabited α] {Ky Vl : α → ByteArray} {w0 : World} {blk off : Nat} {d0 : Array α} {key : α → Int} {num : α → Nat} {cf : α → α → Int} {g : Nat} {cb : Array Value}
set_option maxRecDepth 100000 in
set_option maxHeartbeats 16000000 in
theorem sym_gen_K (R : RowK (encP Ky Vl) 2 w0 blk off d0) (hsz : d0.size < 4611686018427387904) (cap : Nat) (C : CmpK g cb Ky Vl cf key blk off d0.size w0) (len : Nat) (IH : Hid (∀ (P A B Q : List α) (W : World) (a m b : Nat), A.length + B.length ≤ len → 0 < A.length → 0 < B.length → Hid (SrtT key num A ∧ SrtT key num B ∧ Nl num A B) → (P ++ (A ++ (B ++ Q))).length = d0.size → a = P.length → m = P.length + A.length → b = P.length + A.length + B.length →
    Aside (SWK (encP Ky Vl) 2 w0 blk off (P ++ (A ++ (B ++ Q))).toArray W) →
    Calls Try.prog 38 #[.slice (some ⟨blk, off, none⟩) d0.size cap, .int .i64 a, .int .i64 m, .int .i64 b, .func (.func g) #[] cb] W fun e w' => e = .returned (.tuple #[]) ∧ ∃ S', Hid (S'.Perm (A ++ B) ∧ SrtT key num S' ∧ SWK (encP Ky Vl) 2 w0 blk off (P ++ (S' ++ Q)).toArray w'))) (P A B Q : List α) (W : World) (a m b : Nat) (hlen : A.length + B.length ≤ len + 1) (hA : 0 < A.length) (hB : 0 < B.length) (HS : Hid (SrtT key num A ∧ SrtT key num B ∧ Nl num A B)) (hs : (P ++ (A ++ (B ++ Q))).length = d0.size) (ha : a = P.length) (hm : m = P.length + A.length) (hb : b = P.length + A.length + B.length)
    (S : Aside (SWK (encP Ky Vl) 2 w0 blk off (P ++ (A ++ (B ++ Q))).toArray W)) (hone : ¬ A.length = 1) (htwo : ¬ B.length = 1) :
    Calls Try.prog 38 #[.slice (some ⟨blk, off, none⟩) d0.size cap, .int .i64 a, .int .i64 m, .int .i64 b, .func (.func g) #[] cb] W fun e w' => e = .returned (.tuple #[]) ∧ ∃ S', Hid (S'.Perm (A ++ B) ∧ SrtT key num S' ∧ SWK (encP Ky Vl) 2 w0 blk off (P ++ (S' ++ Q)).toArray w') := by
  have mixed : Try.prog.follows Departure.mixedOrders = true := by kernel_rfl
  have eg := C.eg
  obtain ⟨mid, hmid⟩ : ∃ q, q = (a + b) / 2 := ⟨_, rfl⟩
  obtain ⟨n, hn⟩ : ∃ q, q = mid + m := ⟨_, rfl⟩
  obtain ⟨p, hp⟩ : ∃ q, q = n - 1 := ⟨_, rfl⟩
  have hsl := hs
  simp only [List.length_append] at hsl
  have HM : Hid (2 * mid ≤ a + b ∧ a + b ≤ 2 * mid + 1 ∧ n = mid + m ∧ p + 1 = n ∧ a + 1 < m ∧ m + 1 < b ∧ b + Q.length = d0.size) := Lib.hid ⟨by omega, by omega, by omega, by omega, by omega, by omega, by omega⟩
  have HH := Lib.hid (And.intro ha (And.intro hm (And.intro hb (And.intro hs hlen))))
  have W0 : Hid (wrap64 ((m : Int) - (a : Int)) = (m : Int) - (a : Int) ∧ wrap64 ((b : Int) - (m : Int)) = (b : Int) - (m : Int)) := Lib.hid ⟨IntWalk.wrap64_in _ (by omega), IntWalk.wrap64_in _ (by omega)⟩
  have W1 : Hid (wrap64 ((a : Int) + (b : Int)) = (a : Int) + (b : Int)) := Lib.hid (IntWalk.wrap64_in _ (by omega))
  have W2 := Lib.hid (half_w a b mid (by omega) hmid)
  have W3 : Hid (wrap64 ((mid : Int) + (m : Int)) = (n : Int)) := Lib.hid (by rw [show (mid : Int) + (m : Int) = (n : Int) by omega]; exact IntWalk.wrap64_in _ (by omega))
  have W5 : Hid (wrap64 ((n : Int) - 1) = (p : Int)) := Lib.hid (by rw [show (n : Int) - 1 = (p : Int) by omega]; exact IntWalk.wrap64_in _ (by omega))
  have hq0 : ((m : Int) - (a : Int) == 1) = false := by simp only [beq_eq_false_iff_ne, ne_eq]; omega
  have hq1 : ((b : Int) - (m : Int) == 1) = false := by simp only [beq_eq_false_iff_ne, ne_eq]; omega
  have HLO : Hid (∃ lo hi, (mid < m → lo = n - b ∧ hi = mid) ∧ (¬ mid < m → lo = a ∧ hi = m) ∧ a ≤ lo ∧ lo ≤ hi ∧ hi ≤ m ∧ n ≤ b + lo ∧ m + hi ≤ n ∧ (lo = a ∨ n = b + lo) ∧ (hi = m ∨ n = m + hi)) := Lib.hid (by as_aux_lemma =>
    by_cases h : mid < m
    · exact ⟨n - b, mid, fun _ => ⟨rfl, rfl⟩, fun e => absurd h e, by omega, by omega, by omega, by omega, by omega, by omega, by omega⟩
    · exact ⟨a, m, fun e => absurd e h, fun _ => ⟨rfl, rfl⟩, by omega, by omega, by omega, by omega, by omega, by omega, by omega⟩)
  clear hsl ha hm hb hs hA hB hone hlen htwo hmid hn hp
  obtain ⟨lo, hi, hl1, hl2, HL⟩ := HLO.out
  have HLL := Lib.hid HL
  have W4 : Hid (mid < m → wrap64 ((n : Int) - (b : Int)) = (lo : Int)) := Lib.hid (fun h => by
    have := hl1 h
    have := HM.out
    rw [show (n : Int) - (b : Int) = (lo : Int) by omega]
    exact IntWalk.wrap64_in _ (by omega))
  clear HL HLO
  go_enter Try.func38, Try.ntmps38
  have w0 := W0.out.1
  have w0' := W0.out.2
  go_upto_if 140 with (fail)
  clear w0 w0' hq0 hq1
  rw [W1.out, W2.out, W3.out]
  go_cut [20, 21] (fun s r wx => s = .int .i64 lo ∧ r = .int .i64 hi ∧ W = wx)
  case first => as_aux_lemma =>
    by_cases hmm : mid < m
    · have hmz : (mid : Int) < (m : Int) := by omega
      have w4 := W4.out hmm
      obtain ⟨e1, e2⟩ := hl1 hmm
      clear hl1 hl2 hmm
      go_wp2
      go_meet
      exact ⟨by first | rfl | rw [w4], by rw [e2], rfl⟩
    · have hmz : ¬ (mid : Int) < (m : Int) := by omega
      obtain ⟨e1, e2⟩ := hl2 hmm
      clear hl1 hl2 hmm
      go_wp2
      go_meet
      exact ⟨by rw [e1], by rw [e2], rfl⟩
  case rest =>
    obtain ⟨rfl, rfl, rfl⟩ := hcut
    clear hl1 hl2 W4
    go_wp2
    rw [W5.out]
    obtain ⟨dk, hdk⟩ : ∃ dk, dk = (P ++ (A ++ (B ++ Q))).toArray := ⟨_, rfl⟩
    rw [← hdk] at S
    have hds : dk.size = d0.size := by
      have := HH.out.2.2.2.1
      rw [hdk, ← this]; simp
    have HDK := Lib.hid hdk
    clear hdk
    go_loopg [20, 21] hi (fun g1 vi vj wr => ∃ (i j : Nat), vi = .int .i64 i ∧ vj = .int .i64 j ∧ Hid (lo ≤ i ∧ i ≤ j ∧ j ≤ hi ∧ j - i ≤ g1 ∧ (i = lo ∨ ¬ key dk[p - (i - 1)]! < key dk[i - 1]!) ∧ (j = hi ∨ key dk[p - j]! < key dk[j]!)) ∧ Aside (SWK (encP Ky Vl) 2 w0 blk off dk wr))
    case atStart => exact ⟨lo, hi, rfl, rfl, Lib.hid ⟨Nat.le_refl _, HLL.out.2.1, Nat.le_refl _, by omega, .inl rfl, .inl rfl⟩, S⟩
    case round =>
      clear S
      obtain ⟨i, j, rfl, rfl, HI, S1⟩ := hrel
      by_cases hlt : i < j
      · have hltz : (i : Int) < (j : Int) := by omega
        obtain ⟨k1, k2, k3, k4, k5, k6⟩ := HI.out
        obtain ⟨m1, m2, m3, m4, m5, m6, m7⟩ := HM.out
        obtain ⟨l1, l2, l3, l4, l5, l6, l7⟩ := HLL.out
        obtain ⟨h, hh⟩ : ∃ q, q = (i + j) / 2 := ⟨_, rfl⟩
        obtain ⟨q, hq⟩ : ∃ q, q = p - h := ⟨_, rfl⟩
        have q1 : (p : Int) - (h : Int) = (q : Int) := by omega
        have b1 : (h : Int) < (d0.size : Int) := by omega
        have b2 : (q : Int) < (d0.size : Int) := by omega
        obtain ⟨u, hu⟩ : ∃ z, z = dk[q]! := ⟨_, rfl⟩
        obtain ⟨v, hvv⟩ : ∃ z, z = dk[h]! := ⟨_, rfl⟩
        obtain ⟨c1, c1v⟩ := el_grown S1.out R hds h (by omega)
        obtain ⟨c2, c2v⟩ := el_grown S1.out R hds q (by omega)
        rw [← hvv] at c1 c1v
        rw [← hu] at c2 c2v
        have hc := S1.out.cmp C.lays hds u v
        have HC := Lib.hid (C.key u v)
        have HN : Hid (h = (i + j) / 2 ∧ v = dk[h]! ∧ u = dk[q]! ∧ q = p - h ∧ i ≤ h ∧ h < j) := Lib.hid ⟨hh, hvv, hu, hq, by omega, by omega⟩
        have V2 := Lib.hid (half_w i j h (by omega) hh)
        have V1 : Hid (wrap64 ((i : Int) + (j : Int)) = (i : Int) + (j : Int)) := Lib.hid (IntWalk.wrap64_in _ (by omega))
        have V3 : Hid (wrap64 ((h : Int) + 1) = ((h + 1 : Nat) : Int)) := Lib.hid (by rw [show (h : Int) + 1 = ((h + 1 : Nat) : Int) by omega]; exact IntWalk.wrap64_in _ (by omega))
        have V4 : Hid (IntKind.i64.wrap (q : Int) = (q : Int)) := Lib.hid (IntWalk.i64_in _ (by omega))
        clear hu hvv k1 k2 k3 k4 k5 k6 m1 m2 m3 m4 m5 m6 m7 l1 l2 l3 l4 l5 l6 l7 hh hq
        go_upto_region 35 with fail
        rw [V1.out, V2.out]
        have v4 := V4.out
        by_cases hv : cf u v < 0
        · have hd : decide (cf u v < 0) = true := decide_eq_true hv
          go_quiet_grown (first | (go_at_fn g; refine Calls.grown_of (hc _ _)))
          have S2 : Aside (SWK (encP Ky Vl) 2 w0 blk off dk (grow (wr.drewN nq) osq)) := S1.out.grown nq osq
          clear c1 c2 c1v c2v hc S1 v4
          generalize grow (wr.drewN nq) osq = w2 at S2 ⊢
          clear nq osq
          go_wp2
          go_roundg (h - i)
          case measure => have h0 := HI.out; have h9 := HN.out; omega
          case rel => exact ⟨i, h, rfl, rfl, Lib.hid (by as_aux_lemma =>
            have h0 := HI.out
            have h9 := HN.out
            refine ⟨h0.1, by omega, by omega, by omega, h0.2.2.2.2.1, .inr ?_⟩
            rw [← h9.2.1, ← h9.2.2.2.1, ← h9.2.2.1]
            exact HC.out.1 hv), S2⟩
        · have hd : decide (cf u v < 0) = false := decide_eq_false hv
          go_quiet_grown (first | (go_at_fn g; refine Calls.grown_of (hc _ _)))
          have S2 : Aside (SWK (encP Ky Vl) 2 w0 blk off dk (grow (wr.drewN nq) osq)) := S1.out.grown nq osq
          clear c1 c2 c1v c2v hc S1 v4
          generalize grow (wr.drewN nq) osq = w2 at S2 ⊢
          clear nq osq
          have v3 := V3.out
          go_wp2
          go_roundg (j - (h + 1))
          case measure => clear v3; have h0 := HI.out; have h9 := HN.out; omega
          case rel => exact ⟨h + 1, j, by first | rfl | rw [v3], rfl, Lib.hid (by as_aux_lemma =>
            clear v3
            have h0 := HI.out
            have h9 := HN.out
            refine ⟨by omega, by omega, h0.2.2.1, by omega, .inr ?_, h0.2.2.2.2.2⟩
            rw [Nat.add_sub_cancel, ← h9.2.1, ← h9.2.2.2.1, ← h9.2.2.1]
            by_cases e : key u < key v
            · have := HC.out.2 e
              omega
            · omega), S2⟩
      · have hltz : ¬ (i : Int) < (j : Int) := by omega
        obtain ⟨en, hen⟩ : ∃ q, q = n - i := ⟨_, rfl⟩
        have HB2 : Hid (a ≤ i ∧ i ≤ m ∧ m ≤ en ∧ en ≤ b ∧ en + i = n ∧ (i - a) + (en - m) = mid - a) := Lib.hid (by as_aux_lemma =>
          have := HI.out
          have := HLL.out
          have := HM.out
          omega)
        have HE : Hid (∃ A1 A2 B1 B2, A = A1 ++ A2 ∧ B = B1 ++ B2 ∧ A1.length = i - a ∧ A2.length = m - i ∧ B1.length = en - m ∧ B2.length = b - en ∧ (∀ A' l h B', A1 = A' ++ [l] → B2 = h :: B' → key l ≤ key h) ∧ (∀ B' l h A', B1 = B' ++ [l] → A2 = h :: A' → key l < key h)) := Lib.hid (by as_aux_lemma =>
          obtain ⟨k1, k2, k3, k4, k5, k6⟩ := HI.out
          obtain ⟨m1, m2, m3, m4, m5, m6, m7⟩ := HM.out
          obtain ⟨l1, l2, l3, l4, l5, l6, l7⟩ := HLL.out
          obtain ⟨y1, y2, y3, y4, y5, y6⟩ := HB2.out
          obtain ⟨ha, hm, hb, hs, _⟩ := HH.out
          obtain ⟨A1, hA1⟩ : ∃ A1, A1 = A.take (i - a) := ⟨_, rfl⟩
          obtain ⟨A2, hA2⟩ : ∃ A2, A2 = A.drop (i - a) := ⟨_, rfl⟩
          obtain ⟨B1, hB1⟩ : ∃ B1, B1 = B.take (en - m) := ⟨_, rfl⟩
          obtain ⟨B2, hB2⟩ : ∃ B2, B2 = B.drop (en - m) := ⟨_, rfl⟩
          have hAA : A = A1 ++ A2 := by rw [hA1, hA2]; exact (List.take_append_drop _ _).symm
          have hBB : B = B1 ++ B2 := by rw [hB1, hB2]; exact (List.take_append_drop _ _).symm
          have n1 : A1.length = i - a := by rw [hA1]; simp; omega
          have n2 : A2.length = m - i := by rw [hA2]; simp; omega
          have n3 : B1.length = en - m := by rw [hB1]; simp; omega
          have n4 : B2.length = b - en := by rw [hB2]; simp; omega
          clear hA1 hA2 hB1 hB2
          have hdk := HDK.out
          rw [hAA, hBB] at hdk
          refine ⟨A1, A2, B1, B2, hAA, hBB, n1, n2, n3, n4, fun A' l h B' e1 e2 => ?_, fun B' l h A' e1 e2 => ?_⟩
          · have hj : ¬ i = lo := by
              intro e
              rw [e1] at n1
              rw [e2] at n4
              simp at n1 n4
              omega
            have h1 := k5.resolve_left hj
            have gl : dk[i - 1]! = l := by
              rw [hdk, e1, show P ++ ((A' ++ [l] ++ A2) ++ ((B1 ++ B2) ++ Q)) = (P ++ A') ++ l :: (A2 ++ ((B1 ++ B2) ++ Q)) by simp]
              refine get_at _ _ _ ?_
              rw [e1] at n1
              simp at n1 ⊢
              omega
            have gh : dk[p - (i - 1)]! = h := by
              rw [hdk, e2, show P ++ ((A1 ++ A2) ++ ((B1 ++ h :: B') ++ Q)) = (P ++ (A1 ++ (A2 ++ B1))) ++ h :: (B' ++ Q) by simp]
              refine get_at _ _ _ ?_
              rw [e1] at n1
              simp at n1
              rw [e1]
              simp
              omega
            rw [gl, gh] at h1
            omega
          · have hj : ¬ j = hi := by
              intro e
              rw [e1] at n3
              rw [e2] at n2
              simp at n3 n2
              omega
            have h1 := k6.resolve_left hj
            have gh : dk[j]! = h := by
              rw [hdk, e2, show P ++ ((A1 ++ h :: A') ++ ((B1 ++ B2) ++ Q)) = (P ++ A1) ++ h :: (A' ++ ((B1 ++ B2) ++ Q)) by simp]
              exact get_at _ _ _ (by simp; omega)
            have gl : dk[p - j]! = l := by
              rw [hdk, e1, show P ++ ((A1 ++ A2) ++ ((B' ++ [l] ++ B2) ++ Q)) = (P ++ (A1 ++ (A2 ++ B'))) ++ l :: (B2 ++ Q) by simp]
              refine get_at _ _ _ ?_
              rw [e1] at n3
              simp at n3 ⊢
              omega
            rw [gl, gh] at h1
            exact h1)
        obtain ⟨A1, A2, B1, B2, hAA, hBB, n1, n2, n3, n4, x1, x2⟩ := HE.out
        have HSS : Hid (SrtT key num (A1 ++ A2) ∧ SrtT key num (B1 ++ B2) ∧ Nl num (A1 ++ A2) (B1 ++ B2)) := Lib.hid (by as_aux_lemma =>
          have := HS.out
          rw [hAA, hBB] at this
          exact this)
        have HNN := Lib.hid (And.intro n1 (And.intro n2 (And.intro n3 (And.intro n4 (And.intro x1 x2)))))
        have HSZ : Hid (P.length + (A1.length + A2.length) + (B1.length + B2.length) + Q.length = d0.size ∧ a = P.length ∧ (A1.length + A2.length) + (B1.length + B2.length) ≤ len + 1) := Lib.hid ⟨by
          have := HH.out.2.2.2.1
          rw [hAA, hBB] at this
          simp only [List.length_append] at this
          omega, HH.out.1, by
          have := HH.out.2.2.2.2
          rw [hAA, hBB] at this
          simp only [List.length_append] at this
          omega⟩
        have SX : Aside (SWK (encP Ky Vl) 2 w0 blk off (P ++ (A1 ++ (A2 ++ (B1 ++ (B2 ++ Q))))).toArray wr) := by
          have h := S1.out
          rw [HDK.out, hAA, hBB] at h
          have h2 : SWK (encP Ky Vl) 2 w0 blk off (P ++ (A1 ++ (A2 ++ (B1 ++ (B2 ++ Q))))).toArray wr := by simpa using h
          exact h2
        have V6 : Hid (wrap64 ((n : Int) - (i : Int)) = (en : Int)) := Lib.hid (by as_aux_lemma =>
          have := HB2.out
          have := HM.out
          rw [show (n : Int) - (i : Int) = (en : Int) by omega]
          exact IntWalk.wrap64_in _ (by omega))
        have HAB := Lib.hid (And.intro hAA hBB)
        clear S1 n1 n2 n3 n4 x1 x2 HE hen hAA hBB HDK hds HI HS
        obtain ⟨t1, ht1⟩ : ∃ t : Bool, t = decide (i < m ∧ m < en) := ⟨_, rfl⟩
        obtain ⟨t2, ht2⟩ : ∃ t : Bool, t = decide (a < i ∧ i < mid) := ⟨_, rfl⟩
        obtain ⟨t3, ht3⟩ : ∃ t : Bool, t = decide (mid < en ∧ en < b) := ⟨_, rfl⟩
        have Ht1 := Lib.hid ht1
        have Ht2 := Lib.hid ht2
        have Ht3 := Lib.hid ht3
        clear ht1 ht2 ht3
        go_upto_region 39 with (fail)
        rw [V6.out]
        go_cut [185] (fun c wx => c = .bool t1 ∧ wr = wx)
        case first => as_aux_lemma =>
          by_cases g1 : i < m
          · have z1 : (i : Int) < (m : Int) := by omega
            by_cases g2 : m < en
            · have z2 : (m : Int) < (en : Int) := by omega
              have g3 : t1 = true := by rw [Ht1.out]; simp [g1, g2]
              have HGG := Lib.hid g2
              clear g1 g2
              go_wp2
              go_meet
              exact ⟨by first | (rw [g3]; done) | (rw [g3]; congr 1; exact decide_eq_true HGG.out), rfl⟩
            · have z2 : decide ((m : Int) < (en : Int)) = false := by simp; omega
              have g3 : t1 = false := by rw [Ht1.out]; simp [g1, g2]
              have HGG := Lib.hid g2
              clear g1 g2
              go_wp2
              go_meet
              exact ⟨by first | (rw [g3]; done) | (rw [g3]; congr 1; exact decide_eq_false HGG.out), rfl⟩
          · have z1 : decide ((i : Int) < (m : Int)) = false := by simp; omega
            have g3 : t1 = false := by rw [Ht1.out]; simp [g1]
            have HGG := Lib.hid g1
            clear g1
            go_wp2
            go_meet
            exact ⟨by first | (rw [g3]; done) | (rw [g3]; congr 1; exact decide_eq_false HGG.out), rfl⟩
        case rest =>
          obtain ⟨rfl, rfl⟩ := hcut
          go_upto_if 185 with (fail)
          go_cut [] (fun wx => Hid (SWK (encP Ky Vl) 2 w0 blk off (P ++ (A1 ++ (B1 ++ (A2 ++ (B2 ++ Q))))).toArray wx))
          case first => as_aux_lemma =>
            cases t1
            · have HF2 : Hid (SWK (encP Ky Vl) 2 w0 blk off (P ++ (A1 ++ (B1 ++ (A2 ++ (B2 ++ Q))))).toArray wr) := Lib.hid (by as_aux_lemma =>
                have h := SX.out
                have hr : ¬ (i < m ∧ m < en) := of_decide_eq_false Ht1.out.symm
                by_cases g1 : i < m
                · have hB1 : B1 = [] := List.eq_nil_of_length_eq_zero (by as_aux_lemma => (have := HNN.out; omega))
                  rw [hB1] at h ⊢
                  exact h
                · have hA2 : A2 = [] := List.eq_nil_of_length_eq_zero (by as_aux_lemma => (have := HNN.out; omega))
                  rw [hA2] at h ⊢
                  exact h)
              clear SX
              go_wp2
              go_meet
              exact HF2
            · have hcall := rotate_K (W := wr) R hsz cap (.func (.func g) #[] cb) (P ++ A1) A2 B1 (B2 ++ Q) (by as_aux_lemma => (have := HNN.out; have hr : (i < m ∧ m < en) := of_decide_eq_true Ht1.out.symm; omega)) (by as_aux_lemma => (have := HNN.out; have hr : (i < m ∧ m < en) := of_decide_eq_true Ht1.out.symm; omega)) (by as_aux_lemma => (have := HSZ.out; simp; omega)) (a := i) (m := m) (b := en) (by as_aux_lemma => (have := HNN.out; have := HSZ.out; have := HB2.out; simp; omega)) (by as_aux_lemma => (have := HNN.out; have := HSZ.out; have := HB2.out; simp; omega)) (by as_aux_lemma => (have := HNN.out; have := HSZ.out; have := HB2.out; simp; omega)) (by
                have h := SX.out
                rw [← List.append_assoc] at h
                exact h)
              clear SX
              go_wp2_with fail
              refine hcall.mono ?_
              rintro e w' ⟨rfl, HF⟩
              have HF2 : Hid (SWK (encP Ky Vl) 2 w0 blk off (P ++ (A1 ++ (B1 ++ (A2 ++ (B2 ++ Q))))).toArray w') := Lib.hid (by as_aux_lemma =>
                have h := HF.out
                rw [List.append_assoc] at h
                exact h)
              clear HF hcall
              go_wp2
              go_meet
              exact HF2
          case rest =>
            clear SX
            have SX : Aside (SWK (encP Ky Vl) 2 w0 blk off (P ++ (A1 ++ (B1 ++ (A2 ++ (B2 ++ Q))))).toArray wc) := hcut.out
            clear hcut
            obtain ⟨w5, hw5⟩ : ∃ w5, w5 = wc := ⟨_, rfl⟩
            rw [← hw5] at SX ⊢
            clear hw5
            go_upto_region 41 with (fail)
            skip
            go_cut [199] (fun c wx => c = .bool t2 ∧ w5 = wx)
            case first => as_aux_lemma =>
              by_cases g1 : a < i
              · have z1 : (a : Int) < (i : Int) := by omega
                by_cases g2 : i < mid
                · have z2 : (i : Int) < (mid : Int) := by omega
                  have g3 : t2 = true := by rw [Ht2.out]; simp [g1, g2]
                  have HGG := Lib.hid g2
                  clear g1 g2
                  go_wp2
                  go_meet
                  exact ⟨by first | (rw [g3]; done) | (rw [g3]; congr 1; exact decide_eq_true HGG.out), rfl⟩
                · have z2 : decide ((i : Int) < (mid : Int)) = false := by simp; omega
                  have g3 : t2 = false := by rw [Ht2.out]; simp [g1, g2]
                  have HGG := Lib.hid g2
                  clear g1 g2
                  go_wp2
                  go_meet
                  exact ⟨by first | (rw [g3]; done) | (rw [g3]; congr 1; exact decide_eq_false HGG.out), rfl⟩
              · have z1 : decide ((a : Int) < (i : Int)) = false := by simp; omega
                have g3 : t2 = false := by rw [Ht2.out]; simp [g1]
                have HGG := Lib.hid g1
                clear g1
                go_wp2
                go_meet
                exact ⟨by first | (rw [g3]; done) | (rw [g3]; congr 1; exact decide_eq_false HGG.out), rfl⟩
            case rest =>
              obtain ⟨rfl, rfl⟩ := hcut
              go_upto_if 199 with (fail)
              go_cut [] (fun wx => ∃ R1, Hid (R1.Perm (A1 ++ B1) ∧ SrtT key num R1 ∧ SWK (encP Ky Vl) 2 w0 blk off (P ++ (R1 ++ (A2 ++ (B2 ++ Q)))).toArray wx))
              case first => as_aux_lemma =>
                cases t2
                · have HF2 : Hid ((A1 ++ B1).Perm (A1 ++ B1) ∧ SrtT key num (A1 ++ B1) ∧ SWK (encP Ky Vl) 2 w0 blk off (P ++ ((A1 ++ B1) ++ (A2 ++ (B2 ++ Q)))).toArray w5) := Lib.hid ⟨List.Perm.refl _, by
                    have hr : ¬ (a < i ∧ i < mid) := of_decide_eq_false Ht2.out.symm
                    obtain ⟨hA, hB, _⟩ := HSS.out
                    by_cases g1 : a < i
                    · have hB1 : B1 = [] := List.eq_nil_of_length_eq_zero (by as_aux_lemma => (have := HNN.out; have := HB2.out; have := HM.out; omega))
                      rw [hB1, List.append_nil]
                      exact (List.pairwise_append.1 hA).1
                    · have hA1 : A1 = [] := List.eq_nil_of_length_eq_zero (by as_aux_lemma => (have := HNN.out; omega))
                      rw [hA1, List.nil_append]
                      exact (List.pairwise_append.1 hB).1, by
                    have h := SX.out
                    rw [List.append_assoc]
                    exact h⟩
                  clear SX
                  go_wp2
                  go_meet
                  exact ⟨_, HF2⟩
                · have hr : Hid (a < i ∧ i < mid) := Lib.hid (of_decide_eq_true Ht2.out.symm)
                  have hcall := IH.out P A1 B1 (A2 ++ (B2 ++ Q)) w5 a i mid (by as_aux_lemma => (have := HNN.out; have := HSZ.out; have := HB2.out; have := HM.out; omega)) (by as_aux_lemma => (have := HNN.out; have := hr.out; omega)) (by as_aux_lemma => (have := HNN.out; have := hr.out; have := HB2.out; omega)) (Lib.hid ⟨(List.pairwise_append.1 HSS.out.1).1, (List.pairwise_append.1 HSS.out.2.1).1, fun u hu v hv => HSS.out.2.2 u (List.mem_append_left _ hu) v (List.mem_append_left _ hv)⟩) (by as_aux_lemma => (have := HSZ.out; simp; omega)) HSZ.out.2.1 (by as_aux_lemma => (have := HNN.out; have := HSZ.out; have := HB2.out; omega)) (by as_aux_lemma => (have := HNN.out; have := HSZ.out; have := HB2.out; have := hr.out; omega)) SX
                  clear SX
                  go_wp2_with fail
                  refine hcall.mono ?_
                  rintro e w' ⟨rfl, R1, HF2⟩
                  clear hcall
                  go_wp2
                  go_meet
                  exact ⟨_, HF2⟩
              case rest =>
                clear SX
                obtain ⟨R1, HR1⟩ := hcut
                have HFIN : Hid (∀ (R2 : List α), R2.Perm (A2 ++ B2) → SrtT key num R2 → (R1 ++ R2).Perm (A ++ B) ∧ SrtT key num (R1 ++ R2)) := Lib.hid (fun R2 p2 s2 => by
                  have h := HNN.out
                  rw [HAB.out.1, HAB.out.2]
                  exact merge_split HSS.out.1 HSS.out.2.1 HSS.out.2.2 h.2.2.2.2.1 h.2.2.2.2.2 HR1.out.1 HR1.out.2.1 p2 s2)
                have HRL : Hid (R1.length = A1.length + B1.length) := Lib.hid (by rw [HR1.out.1.length_eq]; simp)
                have SX : Aside (SWK (encP Ky Vl) 2 w0 blk off (P ++ (R1 ++ (A2 ++ (B2 ++ Q)))).toArray wc) := HR1.out.2.2
                clear HR1
                obtain ⟨w6, hw6⟩ : ∃ w6, w6 = wc := ⟨_, rfl⟩
                rw [← hw6] at SX ⊢
                clear hw6
                go_upto_region 43 with (fail)
                skip
                go_cut [213] (fun c wx => c = .bool t3 ∧ w6 = wx)
                case first => as_aux_lemma =>
                  by_cases g1 : mid < en
                  · have z1 : (mid : Int) < (en : Int) := by omega
                    by_cases g2 : en < b
                    · have z2 : (en : Int) < (b : Int) := by omega
                      have g3 : t3 = true := by rw [Ht3.out]; simp [g1, g2]
                      have HGG := Lib.hid g2
                      clear g1 g2
                      go_wp2
                      go_meet
                      exact ⟨by first | (rw [g3]; done) | (rw [g3]; congr 1; exact decide_eq_true HGG.out), rfl⟩
                    · have z2 : decide ((en : Int) < (b : Int)) = false := by simp; omega
                      have g3 : t3 = false := by rw [Ht3.out]; simp [g1, g2]
                      have HGG := Lib.hid g2
                      clear g1 g2
                      go_wp2
                      go_meet
                      exact ⟨by first | (rw [g3]; done) | (rw [g3]; congr 1; exact decide_eq_false HGG.out), rfl⟩
                  · have z1 : decide ((mid : Int) < (en : Int)) = false := by simp; omega
                    have g3 : t3 = false := by rw [Ht3.out]; simp [g1]
                    have HGG := Lib.hid g1
                    clear g1
                    go_wp2
                    go_meet
                    exact ⟨by first | (rw [g3]; done) | (rw [g3]; congr 1; exact decide_eq_false HGG.out), rfl⟩
                case rest =>
                  obtain ⟨rfl, rfl⟩ := hcut
                  cases t3
                  · have HF2 : Hid ((R1 ++ (A2 ++ B2)).Perm (A ++ B) ∧ SrtT key num (R1 ++ (A2 ++ B2)) ∧ SWK (encP Ky Vl) 2 w0 blk off (P ++ ((R1 ++ (A2 ++ B2)) ++ Q)).toArray w6) := Lib.hid (by as_aux_lemma =>
                      have hs2 : SrtT key num (A2 ++ B2) := by
                        have hr : ¬ (mid < en ∧ en < b) := of_decide_eq_false Ht3.out.symm
                        obtain ⟨hA, hB, _⟩ := HSS.out
                        by_cases g1 : mid < en
                        · have hB2 : B2 = [] := List.eq_nil_of_length_eq_zero (by as_aux_lemma => (have := HNN.out; have := HB2.out; omega))
                          rw [hB2, List.append_nil]
                          exact (List.pairwise_append.1 hA).2.1
                        · have hA2 : A2 = [] := List.eq_nil_of_length_eq_zero (by as_aux_lemma => (have := HNN.out; have := HB2.out; have := HM.out; omega))
                          rw [hA2, List.nil_append]
                          exact (List.pairwise_append.1 hB).2.1
                      obtain ⟨q1, q2⟩ := HFIN.out _ (List.Perm.refl _) hs2
                      refine ⟨q1, q2, ?_⟩
                      have h := SX.out
                      have h2 : SWK (encP Ky Vl) 2 w0 blk off (P ++ ((R1 ++ (A2 ++ B2)) ++ Q)).toArray w6 := by simpa using h
                      exact h2)
                    clear SX
                    go_wp2
                    first
                      | (go_end0; exact ⟨rfl, _, HF2⟩)
                      | (go_ret; exact ⟨rfl, _, HF2⟩)
                      | exact bodyPost_ret (v := .tuple #[]) (results_none rfl _ _ _) rfl ⟨rfl, _, HF2⟩
                  · have hr : Hid (mid < en ∧ en < b) := Lib.hid (of_decide_eq_true Ht3.out.symm)
                    have hcall := IH.out (P ++ R1) A2 B2 Q w6 mid en b (by as_aux_lemma => (have := HNN.out; have := HSZ.out; have := HB2.out; have := HM.out; omega)) (by as_aux_lemma => (have := HNN.out; have := hr.out; have := HB2.out; have := HM.out; omega)) (by as_aux_lemma => (have := HNN.out; have := hr.out; omega)) (Lib.hid ⟨(List.pairwise_append.1 HSS.out.1).2.1, (List.pairwise_append.1 HSS.out.2.1).2.1, fun u hu v hv => HSS.out.2.2 u (List.mem_append_right _ hu) v (List.mem_append_right _ hv)⟩) (by as_aux_lemma => (have := HSZ.out; have := HRL.out; simp; omega)) (by as_aux_lemma => (have := HNN.out; have := HSZ.out; have := HB2.out; have := HRL.out; have := HM.out; have := hr.out; simp; omega)) (by as_aux_lemma => (have := HNN.out; have := HSZ.out; have := HB2.out; have := HRL.out; have := HM.out; have := hr.out; simp; omega)) (by as_aux_lemma => (have := HNN.out; have := HSZ.out; have := HB2.out; have := HRL.out; have := HM.out; have := hr.out; simp; omega)) (by
                      have h := SX.out
                      rw [← List.append_assoc] at h
                      exact h)
                    clear SX
                    go_wp2_with fail
                    refine hcall.mono ?_
                    rintro e w' ⟨rfl, R2, HF⟩
                    have HF2 : Hid ((R1 ++ R2).Perm (A ++ B) ∧ SrtT key num (R1 ++ R2) ∧ SWK (encP Ky Vl) 2 w0 blk off (P ++ ((R1 ++ R2) ++ Q)).toArray w') := Lib.hid (by as_aux_lemma =>
                      obtain ⟨q1, q2⟩ := HFIN.out _ HF.out.1 HF.out.2.1
                      refine ⟨q1, q2, ?_⟩
                      have h := HF.out.2.2
                      rw [List.append_assoc] at h
                      rw [List.append_assoc]
                      exact h)
                    clear HF hcall
                    go_wp2
                    first
                      | (go_end0; exact ⟨rfl, _, HF2⟩)
                      | (go_ret; exact ⟨rfl, _, HF2⟩)
                      | exact bodyPost_ret (v := .tuple #[]) (results_none rfl _ _ _) rfl ⟨rfl, _, HF2⟩
end
end Go.Proofs.Ytmpeaondljpgiaa
