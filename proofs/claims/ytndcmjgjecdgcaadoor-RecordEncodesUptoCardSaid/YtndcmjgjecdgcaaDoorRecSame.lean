/- The contract of the law's 'same': two messages are held against each other. -/
import Derived.Test.YtndcmjgjecdgcaaDoorRecEnc
import Derived.Test.YtndcmjgjecdgcaaDoorLawEnd
import Derived.BigQuiet
import Derived.Deep.QuietTactic
namespace Go.Proofs.YtndcmjgjecdgcaaDoor
open Go.RowKit
def sameB (k c i : Int) (ns : List Int) (ts : List ByteArray) (k' c' i' : Int) (ns' : List Int) (ts' : List ByteArray) : Bool :=
  decide (k = k' ∧ c = c' ∧ i = i' ∧ ns = ns' ∧ ts = ts')
set_option maxRecDepth 100000 in
set_option maxHeartbeats 4000000 in
theorem same_any (k c i : Int) (A C : Option Addr) (cn ct : Nat) (ns : List Int) (ts : List ByteArray) (k' c' i' : Int) (A' C' : Option Addr) (cn' ct' : Nat) (ns' : List Int) (ts' : List ByteArray) (w : World)
    (hM : MsgAt w w.heap.size A C ns ts) (hM' : MsgAt w w.heap.size A' C' ns' ts') :
    Calls Tryd.prog 14 #[.agg #[.int .i64 k, .int .i64 c, .int .i64 i, .slice A ns.length cn, .slice C ts.length ct], .agg #[.int .i64 k', .int .i64 c', .int .i64 i', .slice A' ns'.length cn', .slice C' ts'.length ct']] w fun e w' => e = .returned (.bool (sameB k c i ns ts k' c' i' ns' ts')) ∧ Below w.heap.size w w' := by
  have HM := Lib.hid hM
  have HM' := Lib.hid hM'
  have hn : ns.length ≤ 140737488351232 := by have := hM.nl; omega
  have ht : ts.length ≤ 140737488351232 := by have := hM.tl; omega
  have hn' : ns'.length ≤ 140737488351232 := by have := hM'.nl; omega
  have ht' : ts'.length ≤ 140737488351232 := by have := hM'.tl; omega
  clear hM hM'
  by_cases hk : k = k'
  case neg =>
    have hs : sameB k c i ns ts k' c' i' ns' ts' = false := by
      unfold sameB
      refine decide_eq_false ?_
      rintro ⟨e1, e2, e3, e4, e5⟩
      exact hk e1
    rw [hs]
    have g0 : (k != k') = true := by simpa using hk
    have g1 : (k == k') = false := by simpa using hk
    go_enter Tryd.func14, Tryd.ntmps14
    go_wp2_with (fail)
    go_ret
    exact ⟨rfl, (below_alloc w _).alloc (by simp) _⟩
  case pos =>
  subst hk
  by_cases hc : c = c'
  case neg =>
    have hs : sameB k c i ns ts k c' i' ns' ts' = false := by
      unfold sameB
      refine decide_eq_false ?_
      rintro ⟨e1, e2, e3, e4, e5⟩
      exact hc e2
    rw [hs]
    have g0 : (c != c') = true := by simpa using hc
    have g1 : (c == c') = false := by simpa using hc
    go_enter Tryd.func14, Tryd.ntmps14
    go_wp2_with (fail)
    go_ret
    exact ⟨rfl, (below_alloc w _).alloc (by simp) _⟩
  case pos =>
  subst hc
  by_cases hi : i = i'
  case neg =>
    have hs : sameB k c i ns ts k c i' ns' ts' = false := by
      unfold sameB
      refine decide_eq_false ?_
      rintro ⟨e1, e2, e3, e4, e5⟩
      exact hi e3
    rw [hs]
    have g0 : (i != i') = true := by simpa using hi
    have g1 : (i == i') = false := by simpa using hi
    go_enter Tryd.func14, Tryd.ntmps14
    go_wp2_with (fail)
    go_ret
    exact ⟨rfl, (below_alloc w _).alloc (by simp) _⟩
  case pos =>
  subst hi
  by_cases hl : ns.length = ns'.length
  case neg =>
    have hs : sameB k c i ns ts k c i ns' ts' = false := by
      unfold sameB
      refine decide_eq_false ?_
      rintro ⟨e1, e2, e3, e4, e5⟩
      exact hl (by rw [e4])
    rw [hs]
    have g0 : (((ns.length : Int)) != ((ns'.length : Int))) = true := by simp; omega
    have g1 : (((ns.length : Int)) == ((ns'.length : Int))) = false := by simp; omega
    go_enter Tryd.func14, Tryd.ntmps14
    go_wp2_with (fail)
    go_ret
    exact ⟨rfl, (below_alloc w _).alloc (by simp) _⟩
  case pos =>
  by_cases hl2 : ts.length = ts'.length
  case neg =>
    have hs : sameB k c i ns ts k c i ns' ts' = false := by
      unfold sameB
      refine decide_eq_false ?_
      rintro ⟨e1, e2, e3, e4, e5⟩
      exact hl2 (by rw [e5])
    rw [hs]
    have g0 : (((ts.length : Int)) != ((ts'.length : Int))) = true := by simp; omega
    have g1 : (((ts.length : Int)) == ((ts'.length : Int))) = false := by simp; omega
    go_enter Tryd.func14, Tryd.ntmps14
    go_wp2_with (fail)
    go_ret
    exact ⟨rfl, (below_alloc w _).alloc (by simp) _⟩
  case pos =>
  obtain ⟨N, hN⟩ : ∃ N, N = ns.length := ⟨_, rfl⟩
  obtain ⟨T, hT⟩ : ∃ T, T = ts.length := ⟨_, rfl⟩
  have HN := Lib.hid hN
  have HT := Lib.hid hT
  have HN' : Hid (N = ns'.length) := Lib.hid (by omega)
  have HT' : Hid (T = ts'.length) := Lib.hid (by omega)
  rw [← hl, ← hl2, ← hN, ← hT]
  rw [← hN] at hn
  rw [← hT] at ht
  clear hN hT hl hl2 hn' ht'
  go_enter Tryd.func14, Tryd.ntmps14
  go_wp2_with (fail)
  have M1 := Lib.hid ((M5.new w k c i A N cn C T ct 27).below (below_alloc _ (.cells #[.int .i64 k, .int .i64 c, .int .i64 i, .slice A' N cn', .slice C' T ct'] 33)) (by simp))
  have M2 := Lib.hid (M5.new (w.alloc (.cells #[.int .i64 k, .int .i64 c, .int .i64 i, .slice A N cn, .slice C T ct] 27)) k c i A' N cn' C' T ct' 33)
  have BB : Hid (Below w.heap.size w ((w.alloc (.cells #[.int .i64 k, .int .i64 c, .int .i64 i, .slice A N cn, .slice C T ct] 27)).alloc (.cells #[.int .i64 k, .int .i64 c, .int .i64 i, .slice A' N cn', .slice C' T ct'] 33))) := Lib.hid ((below_alloc w _).alloc (by simp) _)
  obtain ⟨wb, hwb⟩ : ∃ wb, wb = ((w.alloc (.cells #[.int .i64 k, .int .i64 c, .int .i64 i, .slice A N cn, .slice C T ct] 27)).alloc (.cells #[.int .i64 k, .int .i64 c, .int .i64 i, .slice A' N cn', .slice C' T ct'] 33)) := ⟨_, rfl⟩
  rw [← hwb] at M1 M2 BB ⊢
  simp only [World.size_alloc] at M2 ⊢
  obtain ⟨q, hq⟩ : ∃ q, q = w.heap.size := ⟨_, rfl⟩
  rw [← hq] at M1 M2 ⊢
  have HQ := Lib.hid hq
  clear hq hwb
  have SN := Lib.hid (HM.out.n.below BB.out)
  have SN' := Lib.hid (HM'.out.n.below BB.out)
  have ST := Lib.hid (HM.out.t.below BB.out)
  have ST' := Lib.hid (HM'.out.t.below BB.out)
  have c3 := M1.out.c3
  have d3 := M2.out.c3
  go_loopg [5] N (fun m s5 wr => ∃ (j : Nat), j ≤ N ∧ Hid (m = N - j) ∧ s5 = .int .i64 (j : Int) ∧ (∃ d, wr = wb.drewN d) ∧ Hid (ns.take j = ns'.take j))
  case atStart => exact ⟨0, by omega, rfl, rfl, ⟨0, rfl⟩, rfl⟩
  case round =>
    obtain ⟨j, hj, HJ, rfl, ⟨dd, rfl⟩, HE⟩ := hrel
    by_cases hlt : j < N
    · have hjn : j < ns.length := by rw [← HN.out]; exact hlt
      have hjn' : j < ns'.length := by rw [← HN'.out]; exact hlt
      obtain ⟨b, off, rfl, hb, hcell'⟩ := SN.out j hjn
      obtain ⟨b', off', rfl, hb', dcell'⟩ := SN'.out j hjn'
      obtain ⟨x, hx⟩ : ∃ x, x = ns.getD j 0 := ⟨_, rfl⟩
      obtain ⟨y, hy⟩ : ∃ y, y = ns'.getD j 0 := ⟨_, rfl⟩
      have hcell := hcell'
      have dcell := dcell'
      change _ = some (Value.int .i64 (ns.getD j 0)) at hcell
      change _ = some (Value.int .i64 (ns'.getD j 0)) at dcell
      rw [← hx] at hcell
      rw [← hy] at dcell
      have HX := Lib.hid hx
      have HY := Lib.hid hy
      have HJN := Lib.hid hjn
      have HJN' := Lib.hid hjn'
      clear hx hy hcell' dcell' hjn hjn' hb hb'
      by_cases hxy : x = y
      · have HE2 : Hid (ns.take (j + 1) = ns'.take (j + 1)) := Lib.hid (by
          rw [take_snoc ns 0 j HJN.out, take_snoc ns' 0 j HJN'.out, HE.out, ← HX.out, ← HY.out, hxy])
        subst hxy
        have e1 : (x != x) = false := by simp
        go_wp2_with (fail)
        go_quiet (fail)
        go_wp2
        go_roundg (N - (j + 1))
        case measure => have := HJ.out; omega
        case rel => exact ⟨j + 1, by omega, rfl, by go_num, ⟨_, by first | rfl | exact drewN_more _ _ _⟩, HE2.out⟩
      · have hs : sameB k c i ns ts k c i ns' ts' = false := by
          unfold sameB
          refine decide_eq_false ?_
          rintro ⟨_, _, _, e4, _⟩
          exact hxy (by rw [HX.out, HY.out, e4])
        have HS := Lib.hid hs
        clear hs
        have e1 : (x != y) = true := by simpa using hxy
        have e2 : (x == y) = false := by simpa using hxy
        go_wp2_with (fail)
        go_quiet (fail)
        go_wp2
        go_ret
        exact ⟨by rw [HS.out]; rfl, by first | exact BB.out | exact below_drewN BB.out _ | exact below_drewN (below_drewN BB.out _) _⟩
    · obtain rfl : j = N := by omega
      have hnn : ns = ns' := by
        have := HE.out
        rw [List.take_of_length_le (by have := HN.out; omega), List.take_of_length_le (by have := HN'.out; omega)] at this
        exact this
      subst hnn
      have c4 := M1.out.c4
      have d4 := M2.out.c4
      go_wp2_with (fail)
      go_loopg [6] T (fun m s6 wr2 => ∃ (l : Nat), l ≤ T ∧ Hid (m = T - l) ∧ s6 = .int .i64 (l : Int) ∧ (∃ d, wr2 = wb.drewN d) ∧ Hid (ts.take l = ts'.take l))
      case atStart => exact ⟨0, by omega, rfl, rfl, ⟨_, rfl⟩, rfl⟩
      case round =>
        obtain ⟨l, hl, HL, rfl, ⟨d2, rfl⟩, HE3⟩ := hrel
        by_cases hlt2 : l < T
        · have hln : l < ts.length := by rw [← HT.out]; exact hlt2
          have hln' : l < ts'.length := by rw [← HT'.out]; exact hlt2
          obtain ⟨b, off, rfl, hb, hcell'⟩ := ST.out l hln
          obtain ⟨b', off', rfl, hb', dcell'⟩ := ST'.out l hln'
          obtain ⟨x, hx⟩ : ∃ x, x = ts.getD l ⟨#[]⟩ := ⟨_, rfl⟩
          obtain ⟨y, hy⟩ : ∃ y, y = ts'.getD l ⟨#[]⟩ := ⟨_, rfl⟩
          have hcell := hcell'
          have dcell := dcell'
          change _ = some (Value.string (ts.getD l ⟨#[]⟩)) at hcell
          change _ = some (Value.string (ts'.getD l ⟨#[]⟩)) at dcell
          rw [← hx] at hcell
          rw [← hy] at dcell
          have HX := Lib.hid hx
          have HY := Lib.hid hy
          have HLN := Lib.hid hln
          have HLN' := Lib.hid hln'
          clear hx hy hcell' dcell' hln hln' hb hb'
          by_cases hxy : x = y
          · have HE4 : Hid (ts.take (l + 1) = ts'.take (l + 1)) := Lib.hid (by
              rw [take_snoc ts ⟨#[]⟩ l HLN.out, take_snoc ts' ⟨#[]⟩ l HLN'.out, HE3.out, ← HX.out, ← HY.out, hxy])
            subst hxy
            have e1 : (x.toList == x.toList) = true := by simp
            go_wp2_with (fail)
            go_quiet (fail)
            go_wp2
            go_roundg (T - (l + 1))
            case measure => have := HL.out; omega
            case rel => exact ⟨l + 1, by omega, rfl, by go_num, ⟨_, by first | rfl | exact drewN_more _ _ _⟩, HE4.out⟩
          · have hs : sameB k c i ns ts k c i ns ts' = false := by
              unfold sameB
              refine decide_eq_false ?_
              rintro ⟨_, _, _, _, e5⟩
              exact hxy (by rw [HX.out, HY.out, e5])
            have HS := Lib.hid hs
            clear hs
            have e0 : ¬ x.toList = y.toList := by
              rw [ByteArray.toList_eq, ByteArray.toList_eq]
              intro e
              exact hxy (by apply ByteArray.ext; apply Array.ext'; exact e)
            have e2 : (x.toList == y.toList) = false := by simpa using e0
            go_wp2_with (fail)
            go_quiet (fail)
            go_wp2
            go_ret
            exact ⟨by rw [HS.out]; rfl, by first | exact BB.out | exact below_drewN BB.out _ | exact below_drewN (below_drewN BB.out _) _⟩
        · obtain rfl : l = T := by omega
          have htt : ts = ts' := by
            have := HE3.out
            rw [List.take_of_length_le (by have := HT.out; omega), List.take_of_length_le (by have := HT'.out; omega)] at this
            exact this
          subst htt
          have hs : sameB k c i ns ts k c i ns ts = true := by unfold sameB; simp
          have HS := Lib.hid hs
          clear hs
          go_wp2_with (fail)
          go_ret
          exact ⟨by rw [HS.out]; rfl, by first | exact BB.out | exact below_drewN BB.out _ | exact below_drewN (below_drewN BB.out _) _⟩
end Go.Proofs.YtndcmjgjecdgcaaDoor
