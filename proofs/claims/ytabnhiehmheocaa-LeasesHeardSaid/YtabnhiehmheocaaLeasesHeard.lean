/- LeasesHeard: who is heard of in time loses nothing, who isn't loses all it holds, and nobody else does, whatever the input. -/
import Derived.Test.YtabnhiehmheocaaLeaSpk
import Derived.Test.YtabnhiehmheocaaTexts16
import Derived.Deep.DeepCutAuto

import Derived.Test.YtabnhiehmheocaaLawEnd

import Derived.Test.YtabnhiehmheocaaPlainKit

namespace Go.Proofs.Ytabnhiehmheocaa.fnLeasesHeard
open Go.ChangeShapes Go.WideShapes Go.ChangeAt Go.RowKit Go.WideMaps Go.WideElems
open Go.ChangeMaps (open_string)

/-- what the table knows behind k grants -/
def heardL (ss : Nat → ByteArray) (cl : Nat → Int) : Nat → List Ls
  | 0 => []
  | k + 1 => grantL (heardL ss cl k) (ss k) (cl k) 0
theorem heard_len (ss : Nat → ByteArray) (cl : Nat → Int) : ∀ k, (heardL ss cl k).length ≤ k
  | 0 => Nat.le_refl _
  | k + 1 => Nat.le_trans (length_grantL _ _ _ _) (by have := heard_len ss cl k; omega)
theorem heard_h (ss : Nat → ByteArray) (cl : Nat → Int) (hc : ∀ i, cl i = 1 ∨ cl i = 2) : ∀ k, ∀ x ∈ heardL ss cl k, x.h = 0 ∧ (x.c = 1 ∨ x.c = 2)
  | 0, x, hx => by cases hx
  | k + 1, x, hx => by
    rcases (mem_grantL _ _ _ _ _).1 hx with rfl | ⟨hx, _⟩
    · exact ⟨rfl, hc k⟩
    · exact heard_h ss cl hc k x hx
theorem heard_has (ss : Nat → ByteArray) (cl : Nat → Int) : ∀ k i, i < k → ∃ x ∈ heardL ss cl k, x.p = ss i
  | k + 1, i, hi => by
    by_cases e : ss i = ss k
    · exact ⟨⟨ss k, cl k, 0⟩, (mem_grantL _ _ _ _ _).2 (.inl rfl), e.symm⟩
    · obtain ⟨x, hx, e2⟩ := heard_has ss cl k i (by
        rcases Nat.lt_or_ge i k with h | h
        · exact h
        · exact absurd (by rw [show i = k by omega]) e)
      exact ⟨x, (mem_grantL _ _ _ _ _).2 (.inr ⟨hx, by rw [e2]; exact e⟩), e2⟩
/-- .. once client 1 was heard of -/
structure Heard (L : List Ls) : Prop where
  srt : Srt L
  one : ∀ x ∈ L, (x.c = 1 ∧ x.h = 7) ∨ (x.c = 2 ∧ x.h = 0)
theorem heard_of {L : List Ls} (hs : Srt L) (h : ∀ x ∈ L, x.h = 0 ∧ (x.c = 1 ∨ x.c = 2)) : Heard (renewL L 1 7) := by
  refine ⟨srt_renewL hs _ _, fun y hy => ?_⟩
  obtain ⟨x, hx, rfl⟩ := List.mem_map.1 hy
  obtain ⟨h1, h2⟩ := h x hx
  rcases h2 with h2 | h2
  · rw [if_pos h2]; exact .inl ⟨h2, rfl⟩
  · rw [if_neg (by omega)]; exact .inr ⟨h2, h1⟩
theorem Heard.due {L : List Ls} (h : Heard L) (q : ByteArray) : q ∈ dueL L 0 ↔ ∃ x ∈ L, x.p = q ∧ x.c = 2 := by
  unfold dueL
  rw [List.mem_map]
  constructor
  · rintro ⟨x, h1, h2⟩
    obtain ⟨h3, h4⟩ := List.mem_filter.1 h1
    have h4 : x.h ≤ 0 := by simpa using h4
    rcases h.one x h3 with ⟨_, e⟩ | ⟨e, _⟩
    · omega
    · exact ⟨x, h3, h2, e⟩
  · rintro ⟨x, h1, h2, h3⟩
    refine ⟨x, List.mem_filter.2 ⟨h1, ?_⟩, h2⟩
    rcases h.one x h1 with ⟨e, _⟩ | ⟨_, e⟩
    · omega
    · simp [e]
theorem Heard.none {L : List Ls} (h : Heard L) : dueL L (-1) = [] := by
  unfold dueL
  rw [List.map_eq_nil_iff, List.filter_eq_nil_iff]
  intro x hx
  rcases h.one x hx with ⟨_, e⟩ | ⟨_, e⟩ <;> simp [e]
theorem Heard.hold {L : List Ls} (h : Heard L) {q : ByteArray} (hq : ∃ x ∈ L, x.p = q) : ∃ c : Int, (holdL L q).map (·.c) = some c ∧ (holdL L q).isSome = true ∧ (c = 1 ∨ c = 2) ∧ (q ∈ dueL L 0 ↔ c = 2) := by
  obtain ⟨x, hx, rfl⟩ := hq
  rw [holdL_of h.srt hx]
  refine ⟨x.c, rfl, rfl, ?_, ?_⟩
  · rcases h.one x hx with ⟨e, _⟩ | ⟨e, _⟩ <;> simp [e]
  · rw [h.due]
    exact ⟨fun ⟨y, hy, e, hc⟩ => by rw [← srt_one h.srt hy hx e]; exact hc, fun hc => ⟨x, hx, rfl, hc⟩⟩
/-- the texts of the slice that Due gave -/
structure Row16 (w0 w : World) (g cap : Nat) (D : List ByteArray) : Prop where
  row : w.ownsRow w0.heap.size 9 1 (.slice (some ⟨g, 0, none⟩) D.length cap) D.length (D.map Value.string)
def anyTo (D : List ByteArray) (q : ByteArray) (k : Nat) : Bool := (D.take k).any fun s => s.toList == q.toList
theorem any_next {D : List ByteArray} {q s : ByteArray} {h : Nat} (hs : D[h]? = some s) : anyTo D q (h + 1) = (anyTo D q h || (s.toList == q.toList)) := by
  unfold anyTo
  rw [List.take_add_one, hs, List.any_append]
  simp
theorem any_all {D : List ByteArray} {q : ByteArray} {h : Nat} {z : Int} (hh : D.length ≤ h) (hz : q ∈ D ↔ z = 2) : anyTo D q h = decide (z = 2) := by
  unfold anyTo
  rw [List.take_of_length_le hh]
  rw [Bool.eq_iff_iff]
  simp only [List.any_eq_true, beq_iff_eq, decide_eq_true_eq]
  rw [← hz]
  constructor
  · rintro ⟨s, hs, e⟩
    rw [Lib.toList_data, Lib.toList_data] at e
    have : s = q := ByteArray.ext (Array.toList_inj.1 e)
    exact this ▸ hs
  · exact fun hq => ⟨q, hq, rfl⟩
set_option maxRecDepth 100000 in
set_option maxHeartbeats 4000000 in
theorem walk (x0 : Int) (A : Option Addr) (len cap : Nat) (ss : Nat → ByteArray) (A2 : Option Addr) (len2 cap2 : Nat) (bs : Nat → Bool) (W : World) (hl : len ≤ 8796093021952) (hss : ∀ i, (ss i).size ≤ 140737488351232) (hS : SlOf W W.heap.size A len (fun i => .string (ss i)))
    (hl2 : len2 ≤ maxLen) (hS2 : SlOf W W.heap.size A2 len2 (fun i => .bool (bs i))) :
    Calls Try.prog 4 #[.int .i64 x0, .slice A len cap, .slice A2 len2 cap2] W fun e w' => e = .returned (.bool true) ∧ Below W.heap.size W w' := by
  have HS := Lib.hid hS
  have HS2 := Lib.hid hS2
  have HSS := Lib.hid (And.intro hss hl)
  have hl' : (len : Int) ≤ 9223372036854775807 := by omega
  have hl2' : (len2 : Int) ≤ 9223372036854775807 := by unfold maxLen at hl2; omega
  clear hS hS2 hss hl hl2
  go_enter Try.func4, Try.ntmps4
  go_wp2_with (fail)
  refine (speaks_any _).mono ?_
  rintro e w1 ⟨rfl, hb1⟩
  have HB1 := Lib.hid hb1
  clear hb1
  obtain ⟨n, hn, hcase⟩ : ∃ n : Int, (1 ≤ n ∧ n ≤ 1073741824) ∧ ((n = 5 ∧ x0 < 1) ∨ (n = 5 ∧ ¬ x0 < 1 ∧ 1073741824 < x0) ∨ (n = x0 ∧ ¬ x0 < 1 ∧ ¬ 1073741824 < x0)) := by
    by_cases h1 : x0 < 1
    · exact ⟨5, by omega, .inl ⟨rfl, h1⟩⟩
    · by_cases h2 : 1073741824 < x0
      · exact ⟨5, by omega, .inr (.inl ⟨rfl, h1, h2⟩)⟩
      · exact ⟨x0, by omega, .inr (.inr ⟨rfl, h1, h2⟩)⟩
  have HN := Lib.hid hn
  clear hn
  rcases hcase with ⟨hn, h1⟩ | ⟨hn, h1, h2⟩ | ⟨hn, h1, h2⟩
  case' inl =>
    have h1' : decide (x0 < 1) = true := by simpa using h1
    have HV := Lib.hid (show Value.int .i64 5 = Value.int .i64 n by rw [hn])
    clear h1 hn
    go_upto_region 5 with (fail)
    rw [HV.out]
    clear HV h1'
  case' inr.inl =>
    have h1' : decide (x0 < 1) = false := by simpa using h1
    have h2' : decide (1073741824 < x0) = true := by simpa using h2
    have HV := Lib.hid (show Value.int .i64 5 = Value.int .i64 n by rw [hn])
    clear h1 h2 hn
    go_upto_region 5 with (fail)
    rw [HV.out]
    clear HV h1' h2'
  case' inr.inr =>
    have h1' : decide (x0 < 1) = false := by simpa using h1
    have h2' : decide (1073741824 < x0) = false := by simpa using h2
    have HV := Lib.hid hn
    clear h1 h2 hn
    go_upto_region 5 with (fail)
    rw [← HV.out]
    clear HV h1' h2'
  all_goals
    go_wp2_with (fail)
    refine (newtab_any (w0 := W) n _ HB1.out).mono ?_
    rintro e w2 ⟨rfl, H1⟩
    obtain ⟨p, hp⟩ : ∃ p, p = w1.heap.size := ⟨_, rfl⟩
    rw [← hp] at H1 ⊢
    have HT2 : Hid (TabSt W w2 p n 0 []) := Lib.hid H1.out.1
    clear H1 hp HB1
    obtain ⟨cl, hcl⟩ : ∃ cl : Nat → Int, cl = fun i => if i < len2 ∧ bs i = true then 1 else 2 := ⟨_, rfl⟩
    have hcc : ∀ i, cl i = 1 ∨ cl i = 2 := fun i => by rw [hcl]; simp only; split <;> simp
    have HCL := Lib.hid (And.intro hcl hcc)
    clear hcl hcc
    go_wp2
    go_loopw [8, 9] (fun i _ wr => ∃ (k : Nat), k ≤ len ∧ i = .int .i64 k ∧ Hid (TabSt W wr p n k (heardL ss cl k))) (fun i _ _ => len - (intOf i).toNat)
    case atStart => exact ⟨0, by omega, rfl, HT2⟩
    case round =>
      obtain ⟨k, hk, rfl, HR⟩ := hrel
      clear HT2
      by_cases hkn : k < len
      · have hkn' : (k : Int) < len := by omega
        obtain ⟨b, off, rfl, hB, hc⟩ := HS.out k hkn
        have hc1 := (HR.out.bel.cell (p := ⟨b, off + k, none⟩) hB).trans hc
        have hk1 : k < maxLen := by unfold maxLen; have := HSS.out.2; omega
        have hw1 : wrap64 ((k : Int) + 1) = (k : Int) + 1 := IntWalk.wrap64_in _ ⟨by omega, by omega⟩
        clear hc hB
        obtain ⟨z, hz⟩ : ∃ z, z = cl k := ⟨_, rfl⟩
        have hz1 : z = if k < len2 ∧ bs k = true then 1 else 2 := by rw [hz, HCL.out.1]
        have HZ := Lib.hid hz
        clear hz
        by_cases hk2 : k < len2
        case' pos =>
          have hk2' : (k : Int) < len2 := by omega
          obtain ⟨b2, off2, rfl, hB2, hc2⟩ := HS2.out k hk2
          have hc2 := (HR.out.bel.cell (p := ⟨b2, off2 + k, none⟩) hB2).trans hc2
          cases hbk : bs k
          case' false =>
            have HV := Lib.hid (show Value.int .i64 2 = Value.int .i64 z by rw [hz1, hbk]; simp)
            simp only [hbk] at hc2
            clear hB2 hk2 hz1 hbk
            go_upto_region 12 with (fail)
            rw [HV.out]
            clear HV hc2 hk2'
          case' true =>
            have HV := Lib.hid (show Value.int .i64 1 = Value.int .i64 z by rw [hz1, hbk]; simp [hk2])
            simp only [hbk] at hc2
            clear hB2 hk2 hz1 hbk
            go_upto_region 12 with (fail)
            rw [HV.out]
            clear HV hc2 hk2'
        case' neg =>
          have hk2' : decide ((k : Int) < len2) = false := by simp; omega
          have hk3' : decide (k < len2) = false := by simp; omega
          have HV := Lib.hid (show Value.int .i64 2 = Value.int .i64 z by rw [hz1]; simp [hk2])
          clear hk2 hz1
          go_upto_region 12 with (fail)
          rw [HV.out]
          clear HV hk2' hk3'
        all_goals
          go_wp2_with (fail)
          refine (grant_any p k n _ (ss k) z 0 _ hk1 (HSS.out.1 k) HR).mono ?_
          rintro e w3 ⟨rfl, H3⟩
          rw [HZ.out] at H3
          have H4 : Hid (TabSt W w3 p n (k + 1) (heardL ss cl (k + 1))) := Lib.hid H3.out.1
          clear H3 HR
          go_wp2
          go_roundw
          case rel => exact ⟨k + 1, by omega, by simp, H4⟩
          case measure => simp [intOf]; omega
      · have hkl : k = len := by omega
        subst hkl
        have HHD := Lib.hid (heard_of HR.out.srt (heard_h ss cl HCL.out.2 k))
        have HLN := Lib.hid (Nat.le_trans (heard_len ss cl k) HSS.out.2)
        have HHS : Hid (∀ i, i < k → ∃ x ∈ renewL (heardL ss cl k) 1 7, x.p = ss i) := Lib.hid (fun i hi => by
          obtain ⟨x, hx, e⟩ := heard_has ss cl k i hi
          exact ⟨_, List.mem_map.2 ⟨x, hx, rfl⟩, by split <;> exact e⟩)
        clear HCL
        go_wp2_with (fail)
        refine (renew_any p k n _ 1 7 _ HR).mono ?_
        rintro e w3 ⟨rfl, H3⟩
        rw [show mom 7 = 7 from rfl] at H3
        obtain ⟨L, hL⟩ : ∃ L, L = renewL (heardL ss cl k) 1 7 := ⟨_, rfl⟩
        rw [← hL] at HHD HHS H3
        have HLL : Hid (L.length ≤ 8796093021952) := Lib.hid (by rw [hL, length_renewL]; exact HLN.out)
        have H4 : Hid (TabSt W w3 p n k L) := Lib.hid H3.out.1
        clear H3 HR HLN hL
        go_wp2_with (fail)
        refine (due_any p k n L n _ HLL.out H4).mono ?_
        rintro e w4 ⟨v, m, rfl, hm, hrow, hb4⟩
        rw [show mom n - lenT n = 0 by have := HN.out; unfold mom lenT; omega] at hm hrow
        have H5 : Hid (TabSt W w4 p n k L) := Lib.hid (H4.out.below hb4)
        have HRW : Hid (w4.ownsRow W.heap.size 9 1 v m ((dueL L 0).map Value.string)) := Lib.hid ⟨hrow.1, hrow.2.imp id fun ⟨g, cap, cur, q1, q2, q3⟩ => ⟨g, cap, cur, q1, Nat.le_trans H4.out.bel.size q2, q3⟩⟩
        have hmb : m ≤ 8796093021952 := by rw [hm]; exact Nat.le_trans (length_dueL L 0) HLL.out
        obtain ⟨D, hD⟩ : ∃ D, D = dueL L 0 := ⟨_, rfl⟩
        have HRI : Hid (D.Pairwise fun x y => blt x y = true) := Lib.hid (by rw [hD]; exact dueL_rise H4.out.srt 0)
        rw [← hD] at hm HRW
        have HD := Lib.hid (And.intro hD hm)
        obtain ⟨a, c, rfl⟩ : ∃ a c, v = .slice a m c := by
          rcases hrow.2 with ⟨h0, h1⟩ | ⟨g, cap, cur, h1, _⟩
          · exact ⟨_, _, by rw [h0, h1]⟩
          · exact ⟨_, _, h1⟩
        have hmi : (m : Int) ≤ 8796093021952 := by omega
        clear hrow hb4 H4 hD hm
        go_wp2
        go_loopw [12, 13, 14] (fun i _ _ wr => ∃ (j : Nat), j ≤ m ∧ i = .int .i64 j ∧ Hid (TabSt W wr p n k L ∧ wr.ownsRow W.heap.size 9 1 (.slice a m c) m (D.map Value.string))) (fun i _ _ _ => m - (intOf i).toNat)
        case atStart => exact ⟨0, by omega, rfl, Lib.hid ⟨H5.out, HRW.out⟩⟩
        case round =>
          obtain ⟨j, hj, rfl, HR⟩ := hrel
          clear H5 HRW
          by_cases hjm : j < m
          · have hjm' : (j : Int) < m := by omega
            obtain ⟨g, rfl⟩ : ∃ g, a = some ⟨g, 0, none⟩ := by
              rcases HR.out.2.2 with ⟨_, h0⟩ | ⟨g, cap, cur, h1, _⟩
              · omega
              · injection h1 with h1
                exact ⟨g, h1⟩
            obtain ⟨q, hq⟩ : ∃ q, D[j]? = some q := ⟨_, List.getElem?_eq_getElem (by rw [← HD.out.2]; exact hjm)⟩
            have hcj : wr.cell? ⟨g, j, none⟩ = some (.string q) := by
              rw [HR.out.2.cellAt j (by omega)]
              simp [hq]
            have hqD : q ∈ dueL L 0 := by rw [← HD.out.1]; exact List.mem_of_getElem? hq
            obtain ⟨x, hx, hxq, hx2⟩ := (HHD.out.due q).1 hqD
            obtain ⟨z, hz1, hz2, _, hz3⟩ := HHD.out.hold ⟨x, hx, hxq⟩
            have hqs : q.size ≤ 140737488351232 := by rw [← hxq]; exact HR.out.1.sz x hx
            have HZ := Lib.hid (And.intro hz1 (And.intro hz2 (hz3.1 hqD)))
            have HTb : Hid (TabSt W wr p n k L) := Lib.hid HR.out.1
            have HQ := Lib.hid hq
            clear hz1 hz2 hz3 hqD hx hxq hx2
            go_wp2_with (fail)
            refine (holder_any p k n L q _ hqs HTb).mono ?_
            rintro e w5 ⟨rfl, H6⟩
            rw [HZ.out.1, HZ.out.2.1, HZ.out.2.2, Option.getD_some]
            have HR5 : Hid (TabSt W w5 p n k L ∧ w5.ownsRow W.heap.size 9 1 (.slice (some ⟨g, 0, none⟩) m c) m (D.map Value.string)) := Lib.hid ⟨H6.out.1, row_below HR.out.2 H6.out.2⟩
            have hcj5 : w5.cell? ⟨g, j, none⟩ = some (.string q) := by
              rw [HR5.out.2.cellAt j (by omega)]
              simp [hq]
            clear hq hcj HTb HR H6
            have hw1 : wrap64 ((j : Int) + 1) = (j : Int) + 1 := IntWalk.wrap64_in _ ⟨by omega, by omega⟩
            rcases Nat.eq_zero_or_pos j with h0 | h0
            · have h01 : decide ((0 : Int) < (j : Int)) = false := by simp; omega
              have h02 : decide (0 < j) = false := by simp; omega
              clear h0 hcj5
              go_upto_region 20 with (fail)
              go_quiet (fail)
              go_wp2
              go_roundw
              case rel => exact ⟨j + 1, by omega, by simp, Lib.hid ⟨HR5.out.1.below (below_drewN (Below.refl _ _) _), row_below HR5.out.2 (below_drewN (Below.refl _ _) _)⟩⟩
              case measure => simp [intOf]; omega
            · obtain ⟨i, hi⟩ : ∃ i, j = i + 1 := ⟨j - 1, by omega⟩
              obtain ⟨q0, hq0⟩ : ∃ q0, D[i]? = some q0 := ⟨_, List.getElem?_eq_getElem (by rw [← HD.out.2]; omega)⟩
              have hci : w5.cell? ⟨g, i, none⟩ = some (.string q0) := by
                rw [HR5.out.2.cellAt i (by omega)]
                simp [hq0]
              have hlt : blt q0 q = true := by
                obtain ⟨a1, e1⟩ := List.getElem?_eq_some_iff.1 hq0
                obtain ⟨a2, e2⟩ := List.getElem?_eq_some_iff.1 HQ.out
                have := List.pairwise_iff_getElem.1 HRI.out i j a1 a2 (by omega)
                rwa [e1, e2] at this
              have t1 : Op.bytesLess q0.toList q.toList = true := by rw [Lib.toList_data, Lib.toList_data, bytesLess_lt]; exact hlt
              have t2 : Op.bytesLess q.toList q0.toList = false := by rw [Lib.toList_data, Lib.toList_data, bytesLess_lt]; exact blt_asymm hlt
              have t3 : (q.toList == q0.toList) = false := by
                rw [Lib.toList_data, Lib.toList_data, beq_eq_false_iff_ne]
                intro e
                have : q = q0 := ByteArray.ext (Array.toList_inj.1 e)
                rw [this, blt_irrefl] at hlt
                cases hlt
              have h01 : decide ((0 : Int) < (j : Int)) = true := by simp; omega
              have h02 : 0 < j := h0
              have hwi : wrap64 ((j : Int) - 1) = (i : Int) := by rw [show (j : Int) - 1 = i by omega]; exact IntWalk.wrap64_in _ ⟨by omega, by omega⟩
              have hwj : IntKind.i64.wrap ((j : Int) - 1) = (i : Int) := by rw [show (j : Int) - 1 = i by omega]; exact IntWalk.i64_in _ (by omega)
              have him : (i : Int) < m := by omega
              clear h0 hlt hq0 hi
              go_upto_region 20 with (fail)
              go_quiet (fail)
              go_wp2
              go_roundw
              case rel => exact ⟨j + 1, by omega, by simp, Lib.hid ⟨HR5.out.1.below (below_drewN (Below.refl _ _) _), row_below HR5.out.2 (below_drewN (Below.refl _ _) _)⟩⟩
              case measure => simp [intOf]; omega
          · have HR6 := HR
            clear HR
            have hjm2 : decide ((j : Int) < (m : Int)) = false := by simp; omega
            have hjm3 : decide (j < m) = false := by simp; omega
            clear hj hjm
            go_wp2
            go_loopw [11, 15, 16, 17, 18] (fun cnt i _ _ _ wr => ∃ (l : Nat), l ≤ k ∧ cnt = .int .i64 l ∧ i = .int .i64 l ∧ Hid (TabSt W wr p n k L ∧ wr.ownsRow W.heap.size 9 1 (.slice a m c) m (D.map Value.string))) (fun _ i _ _ _ _ => k - (intOf i).toNat)
            case atStart => exact ⟨0, by omega, rfl, rfl, HR6⟩
            case round =>
              obtain ⟨l, hl, rfl, rfl, HR⟩ := hrel
              clear HR6
              by_cases hlk : l < k
              · have hlk' : (l : Int) < k := by omega
                obtain ⟨b, off, rfl, hB, hc⟩ := HS.out l hlk
                have hcl := (HR.out.1.bel.cell (p := ⟨b, off + l, none⟩) hB).trans hc
                have hcl2 : ∀ w', Below W.heap.size W w' → w'.cell? ⟨b, off + l, none⟩ = some (.string (ss l)) := fun w' hb => (hb.cell (p := ⟨b, off + l, none⟩) hB).trans hc
                have HCL2 := Lib.hid hcl2
                obtain ⟨q, hq⟩ : ∃ q, q = ss l := ⟨_, rfl⟩
                rw [← hq] at HCL2
                simp only [← hq] at hcl
                obtain ⟨z, hz1, hz2, hz12, hz3⟩ := HHD.out.hold (q := q) (by rw [hq]; exact HHS.out l hlk)
                have hqs : q.size ≤ 140737488351232 := by rw [hq]; exact HSS.out.1 l
                have HZ := Lib.hid (And.intro hz1 (And.intro hz2 (And.intro hz12 hz3)))
                have HTb : Hid (TabSt W wr p n k L) := Lib.hid HR.out.1
                have hw1 : wrap64 ((l : Int) + 1) = (l : Int) + 1 := IntWalk.wrap64_in _ ⟨by omega, by omega⟩
                clear hz1 hz2 hz12 hz3 hcl2 hc hB hq
                go_wp2_with (fail)
                refine (holder_any p k n L q _ hqs HTb).mono ?_
                rintro e w5 ⟨rfl, H6⟩
                rw [HZ.out.1, HZ.out.2.1, Option.getD_some]
                have HR5 : Hid (TabSt W w5 p n k L ∧ w5.ownsRow W.heap.size 9 1 (.slice a m c) m (D.map Value.string)) := Lib.hid ⟨H6.out.1, row_below HR.out.2 H6.out.2⟩
                have hcl5 := HCL2.out w5 H6.out.1.bel
                clear hcl HTb HR H6
                go_wp2
                go_loopw [18, 19] (fun f i wr => ∃ (h : Nat), h ≤ m ∧ i = .int .i64 h ∧ f = .bool (anyTo D q h) ∧ Hid (TabSt W wr p n k L ∧ wr.ownsRow W.heap.size 9 1 (.slice a m c) m (D.map Value.string))) (fun _ i _ => m - (intOf i).toNat)
                case atStart => exact ⟨0, by omega, rfl, rfl, HR5⟩
                case round =>
                  obtain ⟨h, hh, rfl, rfl, HR⟩ := hrel
                  clear HR5 hcl5
                  by_cases hhm : h < m
                  · have hhm' : (h : Int) < m := by omega
                    obtain ⟨g, rfl⟩ : ∃ g, a = some ⟨g, 0, none⟩ := by
                      rcases HR.out.2.2 with ⟨_, h0⟩ | ⟨g, cap, cur, h1, _⟩
                      · omega
                      · injection h1 with h1
                        exact ⟨g, h1⟩
                    obtain ⟨s, hs⟩ : ∃ s, D[h]? = some s := ⟨_, List.getElem?_eq_getElem (by rw [← HD.out.2]; exact hhm)⟩
                    have hch : wr.cell? ⟨g, h, none⟩ = some (.string s) := by
                      rw [HR.out.2.cellAt h (by omega)]
                      simp [hs]
                    have hcl6 := HCL2.out wr HR.out.1.bel
                    have hnext : anyTo D q (h + 1) = (anyTo D q h || (s.toList == q.toList)) := any_next hs
                    have HNX := Lib.hid hnext
                    have hwh : wrap64 ((h : Int) + 1) = (h : Int) + 1 := IntWalk.wrap64_in _ ⟨by omega, by omega⟩
                    have HRN : Hid (∀ nq, TabSt W (wr.drewN nq) p n k L ∧ (wr.drewN nq).ownsRow W.heap.size 9 1 (.slice (some ⟨g, 0, none⟩) m c) m (D.map Value.string)) := Lib.hid fun nq => ⟨HR.out.1.below (below_drewN (Below.refl _ _) _), row_below HR.out.2 (below_drewN (Below.refl _ _) _)⟩
                    clear hnext hs HR
                    go_upto_region 32 with (fail)
                    cases hf : anyTo D q h
                    · cases he : (s.toList == q.toList)
                      · have HE := Lib.hid (show anyTo D q (h + 1) = false by rw [HNX.out, hf, he]; rfl)
                        clear hf HNX
                        go_quiet (fail)
                        go_wp2
                        go_roundw
                        case rel => exact ⟨h + 1, by omega, by simp, by rw [HE.out], Lib.hid (HRN.out _)⟩
                        case measure => simp [intOf]; omega
                      · have HE := Lib.hid (show anyTo D q (h + 1) = true by rw [HNX.out, hf, he]; rfl)
                        clear hf HNX
                        go_quiet (fail)
                        go_wp2
                        go_roundw
                        case rel => exact ⟨h + 1, by omega, by simp, by rw [HE.out], Lib.hid (HRN.out _)⟩
                        case measure => simp [intOf]; omega
                    · have HE := Lib.hid (show anyTo D q (h + 1) = true by rw [HNX.out, hf]; rfl)
                      clear hf HNX
                      go_quiet (fail)
                      go_wp2
                      go_roundw
                      case rel => exact ⟨h + 1, by omega, by simp, by rw [HE.out], Lib.hid (HRN.out _)⟩
                      case measure => simp [intOf]; omega
                  · have hhm2 : decide ((h : Int) < (m : Int)) = false := by simp; omega
                    have hhm3 : decide (h < m) = false := by simp; omega
                    have hend : anyTo D q h = decide (z = 2) := any_all (by rw [← HD.out.2]; omega) (by rw [HD.out.1]; exact HZ.out.2.2.2)
                    rw [hend]
                    clear hend hh hhm
                    rcases HZ.out.2.2.1 with rfl | rfl
                    · go_wp2
                      go_roundw
                      case rel => exact ⟨l + 1, by omega, by simp, by simp, HR⟩
                      case measure => simp [intOf]; omega
                    · go_wp2
                      go_roundw
                      case rel => exact ⟨l + 1, by omega, by simp, by simp, HR⟩
                      case measure => simp [intOf]; omega
              · have hlk2 : l = k := by omega
                subst hlk2
                have HTb : Hid (TabSt W wr p n l L) := Lib.hid HR.out.1
                have hwn : wrap64 (n - 1) = n - 1 := IntWalk.wrap64_in _ (by have := HN.out; omega)
                have hnone := HHD.out.none
                have HNO : Hid (dueL L (mom (n - 1) - lenT n) = []) := Lib.hid (by
                  rw [show mom (n - 1) - lenT n = -1 by have := HN.out; unfold mom lenT; omega]
                  exact hnone)
                clear hnone HR
                go_wp2_with (fail)
                refine (due_any p l n L (n - 1) _ HLL.out HTb).mono ?_
                rintro e w6 ⟨v, y, rfl, hy, hrow, hb⟩
                rw [HNO.out] at hy hrow
                obtain ⟨a6, c6, rfl⟩ : ∃ a6 c6, v = .slice a6 0 c6 := by
                  simp only [List.length_nil] at hy
                  subst hy
                  rcases hrow.2 with ⟨h0, _⟩ | ⟨g, cap, cur, h1, _⟩
                  · exact ⟨_, _, h0⟩
                  · exact ⟨_, _, h1⟩
                have HB := Lib.hid (HTb.out.below hb).bel
                clear hrow hy hb HTb
                go_wp2
                go_ret
                exact ⟨rfl, HB.out⟩

set_option maxRecDepth 100000 in
theorem contract (H : Type) (enc : TypeId × Value → H) (W : World) (base : Nat) (args : Array Value) (ds gs : List (DataW H)) (before : List MemPlace)
    (hval : ∀ (j : Nat) t v, Try.f4.params[j]? = some t → args[j]? = some v → Value.okWide Try.prog W .any base t v)
    (hW : DataW.Whole enc Try.prog Try.f4.params.toList Rows.leasesHeardSpec.vars false W args.toList ds gs before)
    (hz : (DataW.weightsEach Try.prog (Try.f4.params.toList ++ []) (ds ++ gs)).all (· ≤ reachBytes) = true) :
    Calls Try.prog 4 args W fun e W' => ∃ v, e = .returned v ∧ Rows.leasesHeardSpec.post enc Try.prog Try.f4 false true false false W args v W' := by
  have hW' := hW
  obtain ⟨p, q, hA0, hV, rfl, hfz, hnd⟩ := hW
  have hA : DataW.TrodAll enc Try.prog W 0 (fun _ => true) true Try.f4.params.toList args.toList ds p := hA0
  rw [Try.params4] at hA hval hz
  obtain ⟨v0, vs0, d0, ds0, p0, q0, hargs, rfl, rfl, h0, r0⟩ := trodAll_cons hA
  obtain ⟨v1, vs1, d1, ds1, p1, q1, rfl, rfl, rfl, h1, r1⟩ := trodAll_cons r0
  obtain ⟨v2, vs2, d2, ds2, p2, q2, rfl, rfl, rfl, h2, r2⟩ := trodAll_cons r1
  obtain ⟨rfl, rfl, rfl⟩ := trodAll_nil r2
  obtain rfl : args = #[v0, v1, v2] := by cases args; simp_all
  obtain ⟨rfl, rfl⟩ := trodVars_none hV
  obtain ⟨x0, rfl, rfl, rfl, w0⟩ := open_int Try.underlying3 (hval 0 3 v0 rfl rfl) h0
  have b0 := i64_of_wf w0
  have hw1 : ∀ m ∈ d1.weights Try.prog 42, m ≤ reachBytes := fun m hm => by
    have hall := List.all_eq_true.1 hz m (DataW.weights_mem_each (j := 1) (t := 42) rfl rfl m hm)
    simpa using hall
  obtain ⟨A, len, cap, ss, rfl, hl, hss, hS⟩ := open_texts16 (hval 1 42 v1 rfl rfl) h1 hw1
  obtain ⟨A2, len2, cap2, bs, rfl, hl2, hS2⟩ := open_bools (hval 2 47 v2 rfl rfl) h2
  clear hA0
  refine (walk x0 A len cap ss A2 len2 cap2 bs W hl hss hS hl2 hS2).mono fun e W' ⟨he, hb⟩ => ?_
  subst he
  exact ⟨_, rfl, law_end hW' rfl rfl hb laidOut (by kernel_rfl) (by kernel_rfl) Try.underlying4⟩

theorem reads (os : Os) {H : Type} (enc : TypeId × Value → H) : ∃ places, DataW.whole enc Try.prog ((World.holding Try.prog os ⟨#[], #[], []⟩).forCall (fun _ _ => 0) ⟨#[], #[.int .i64 0, .slice none 0 0, .slice none 0 0], []⟩).memory Try.f4.params.toList Rows.leasesHeardSpec.vars false [Value.int .i64 0, Value.slice none 0 0, Value.slice none 0 0] 8 = some ([.lit (.int .i64 0), .nil, .nil], [], places) :=
  ⟨[], by kernel_rfl⟩

set_option maxRecDepth 100000 in
theorem lifted (os : Os) (started : os.Started) (H : Type) (enc : TypeId × Value → H) (F : Stop.Interp) :
    ReturnsInHanded {} Try.checked os 4 .any ((OpenSpec.ofChange Rows.leasesHeardSpec).preRow enc Try.prog Try.f4 Rows.leasesHeardRow.domain false Rows.leasesHeardRow.laid) (((OpenSpec.ofChange Rows.leasesHeardSpec).at F).post enc Try.prog Try.f4 false true false false) := by
  obtain ⟨places, hx⟩ := reads os enc
  have laid_met : laidMet Try.prog Rows.leasesHeardRow.laid ((World.holding Try.prog os ⟨#[], #[], []⟩).forCall (fun _ _ => 0) ⟨#[], #[.int .i64 0, .slice none 0 0, .slice none 0 0], []⟩).memory := ⟨[], rfl, List.nodup_nil, fun _ _ h => by cases h⟩
  refine returnsInHanded_of_row (C := Try.checked) (s := OpenSpec.ofChange Rows.leasesHeardSpec) own started (by kernel_rfl) Try.func4
    (witness_row_at (enc := enc) (C := Try.checked) false (World.holding Try.prog os ⟨#[], #[], []⟩) #[.int .i64 0, .slice none 0 0, .slice none 0 0] rfl (by kernel_rfl) (by kernel_rfl) (by kernel_rfl)
      (OpenSpec.preRow_of_cond 8 hx (by kernel_rfl) (fun k hk => by cases hk) (by kernel_rfl) laid_met)) ?_
  intro W base args ds gs before hval hW _ _ hz _ _ _
  exact contract H enc W base args ds gs before hval hW hz

theorem said : Rows.LeasesHeardSaid :=
  OpenClaim.holds_of_cond 4 Try.f4 rfl rfl rfl rfl rfl rfl rfl ⟨rfl, rfl, rfl, rfl, rfl⟩ rfl rfl rfl rfl rfl (by kernel_rfl) Try.func4 (by kernel_rfl)
    (of_decide_eq_true (by kernel_rfl)) (by unfold Func.isWrapper; first | (rw [if_pos (by decide +kernel)]; kernel_rfl) | (rw [if_neg (by decide +kernel)]; exact ⟨rfl, rfl⟩))
    (fun os started H enc _ F => by rw [OpenClaim.pre_eq_preRow]; exact lifted os started H enc F)

end Go.Proofs.Ytabnhiehmheocaa.fnLeasesHeard
