/- The reference's Far and Pick. -/
import Derived.Test.YtahkelgcamcfmaaPlnTkn
import Derived.Test.YtahkelgcamcfmaaQuiet
import Derived.Deep.DeepCutAuto
namespace Go.Proofs.Ytahkelgcamcfmaa
open Go.RowKit

theorem bel_drew {w : World} (q : Nat) : Below w.heap.size w (w.drewN q) := below_drewN (Below.refl _ w) q
set_option maxRecDepth 100000 in
set_option maxHeartbeats 4000000 in
theorem rfar_any (A : Option Addr) (n cap : Nat) (a b : Nat) (ca cb : Nat → Nat) (w : World) (hn : n ≤ 1048576) (D : Nat → Int) (hD : D = fun i => distO (plc a b) (plc (ca i) (cb i))) (hS : SlOf w w.heap.size A n (fun i => .complex .f64 (ca i) (cb i))) :
    Calls Try.prog 10 #[.slice A n cap, .complex .f64 a b] w fun e w' => e = .returned (.int .i64 (farN D n)) ∧ ∃ q, w' = w.drewN q := by
  have HD := Lib.hid hD
  have HS := Lib.hid hS
  have HL := Lib.hid (show ∀ j, -1 ≤ D j from fun j => by rw [hD]; exact distO_lo _ _)
  clear hD hS
  go_enter Try.func10, Try.ntmps10
  go_wp2
  go_loopw [5, 6] (fun l iv wr => ∃ k : Nat, k ≤ n ∧ iv = .int .i64 (k : Int) ∧ ∃ f : Int, l = .int .i64 f ∧ Hid (farN D k = f ∧ ∃ q, wr = w.drewN q)) (fun _ iv _ => n - (intOf iv).toNat)
  case atStart => exact ⟨0, Nat.zero_le _, rfl, _, rfl, Lib.hid ⟨rfl, 0, rfl⟩⟩
  case round =>
    obtain ⟨k, hkn, rfl, f, rfl, HI⟩ := hrel
    obtain ⟨hf, q, rfl⟩ := HI.out
    clear HI
    have HFF := Lib.hid hf
    have hfl : -1 ≤ f := by rw [← hf]; exact farN_lo HL.out k
    clear hf
    by_cases hlt : k < n
    · obtain ⟨g, off, rfl, _, c1⟩ := HS.out k hlt
      obtain ⟨d, hd0⟩ : ∃ d, d = D k := ⟨_, rfl⟩
      have hdl : -1 ≤ d := by rw [hd0]; exact HL.out k
      have HDK := Lib.hid (show ∀ w1 : World, Calls Try.prog 19 #[.complex .f64 a b, .complex .f64 (ca k) (cb k)] w1 fun e w' => e = .returned (.int .i64 d) ∧ w1 = w' from fun w1 => by
        have := refdist_any a b (ca k) (cb k) w1
        rw [hd0, HD.out]
        exact this)
      have HD0 := Lib.hid hd0
      clear hd0
      have c2 : (w.drewN q).cell? ⟨g, off + k, none⟩ = some (.complex .f64 (ca k) (cb k)) := c1
      go_wp2_with (fail)
      refine (HDK.out _).mono ?_
      rintro e w' ⟨rfl, rfl⟩
      cases hq : nearB d f with
      | true =>
        have hs := Lib.hid (show farN D (k + 1) = d by rw [farN_yes (by rw [← HD0.out, HFF.out]; exact hq), HD0.out])
        rw [nearB_iff] at hq
        have dd1 : decide ((0 : Int) ≤ d) = true := decide_eq_true (by omega)
        rcases hq with ⟨_, hq | hq⟩
        · have dd2 : decide (f < 0) = true := decide_eq_true (by omega)
          go_wp2
          go_roundw
          case rel => exact ⟨k + 1, by omega, by first | rfl | go_num, _, rfl, Lib.hid ⟨hs.out, _, rfl⟩⟩
          case measure => simp [intOf]; omega
        · have dd2 : decide (f < 0) = decide (f = -1) := by by_cases e : f = -1 <;> simp [e] <;> omega
          have dd3 : decide (d < f) = true := decide_eq_true (by omega)
          go_wp2
          all_goals
            go_roundw
            case rel => exact ⟨k + 1, by omega, by first | rfl | go_num, _, rfl, Lib.hid ⟨hs.out, _, rfl⟩⟩
            case measure => simp [intOf]; omega
      | false =>
        have hs := Lib.hid (show farN D (k + 1) = f by rw [farN_no (by rw [← HD0.out, HFF.out]; exact hq), HFF.out])
        have hq' : ¬ (nearB d f = true) := by simp [hq]
        rw [nearB_iff] at hq'
        clear hq
        by_cases e1 : d = -1
        · have dd1 : decide ((0 : Int) ≤ d) = false := decide_eq_false (by omega)
          go_wp2
          go_roundw
          case rel => exact ⟨k + 1, by omega, by first | rfl | go_num, _, rfl, Lib.hid ⟨hs.out, _, rfl⟩⟩
          case measure => simp [intOf]; omega
        · have dd1 : decide ((0 : Int) ≤ d) = true := decide_eq_true (by omega)
          have dd2 : decide (f < 0) = false := decide_eq_false (by omega)
          have dd3 : decide (d < f) = false := decide_eq_false (by omega)
          clear hq'
          go_wp2
          go_roundw
          case rel => exact ⟨k + 1, by omega, by first | rfl | go_num, _, rfl, Lib.hid ⟨hs.out, _, rfl⟩⟩
          case measure => simp [intOf]; omega
    · obtain rfl : k = n := by omega
      go_wp2
      go_ret
      exact ⟨by rw [HFF.out]; rfl, q, rfl⟩
/-- the best of the first n that aren't taken, and how far it is -/
def rpN (F : Nat → Int) (t : Nat → Bool) : Nat → Int × Int
  | 0 => (-1, -1)
  | n + 1 => if t n then rpN F t n else if (rpN F t n).1 = -1 ∨ nearB (F n) (rpN F t n).2 = true then ((n : Int), F n) else rpN F t n
theorem rpN_skip {F : Nat → Int} {t : Nat → Bool} {n : Nat} (h : t n = true) : rpN F t (n + 1) = rpN F t n := by show (if _ then _ else _) = _; rw [if_pos h]
theorem rpN_yes {F : Nat → Int} {t : Nat → Bool} {n : Nat} {b l : Int} (ht : t n = false) (hb : (rpN F t n).1 = b) (hl : (rpN F t n).2 = l) (h : b = -1 ∨ nearB (F n) l = true) : rpN F t (n + 1) = ((n : Int), F n) := by
  show (if _ then _ else if _ then _ else _) = _
  rw [if_neg (by simp [ht]), hb, hl, if_pos h]
theorem rpN_no {F : Nat → Int} {t : Nat → Bool} {n : Nat} {b l : Int} (ht : t n = false) (hb : (rpN F t n).1 = b) (hl : (rpN F t n).2 = l) (h : ¬ b = -1) (h' : nearB (F n) l = false) : rpN F t (n + 1) = (b, l) := by
  show (if _ then _ else if _ then _ else _) = _
  rw [if_neg (by simp [ht]), hb, hl, if_neg (by simp [h, h'])]
  exact Prod.ext hb hl
theorem rpN_lo {F : Nat → Int} {t : Nat → Bool} (hF : ∀ i, -1 ≤ F i) : ∀ n, -1 ≤ (rpN F t n).1 ∧ -1 ≤ (rpN F t n).2
  | 0 => ⟨Int.le_refl _, Int.le_refl _⟩
  | n + 1 => by
    have ih := rpN_lo hF n (t := t)
    show -1 ≤ (if _ then _ else if _ then _ else _ : Int × Int).1 ∧ -1 ≤ (if _ then _ else if _ then _ else _ : Int × Int).2
    split
    · exact ih
    · split
      · exact ⟨by show -1 ≤ (n : Int); omega, hF n⟩
      · exact ih
theorem pckN_congr {f g : Nat → Int} : ∀ n, (∀ i, i < n → f i = g i) → pckN f n = pckN g n
  | 0, _ => rfl
  | n + 1, h => by
    have ih := pckN_congr n fun i hi => h i (by omega)
    show (if _ then _ else _) = (if _ then _ else _)
    rw [ih, h n (by omega)]
/-- .. is what is picked of the list of those that aren't taken -/
theorem rpN_list (F : Nat → Int) (t : Nat → Bool) : ∀ n, (((List.range n).filter fun i => !t i) = [] ∧ rpN F t n = (-1, -1)) ∨ (((List.range n).filter fun i => !t i) ≠ [] ∧ (rpN F t n).1 = (((List.range n).filter fun i => !t i).getD (pkN F ((List.range n).filter fun i => !t i)) 0 : Int) ∧ (rpN F t n).2 = (pckN (fun q => F (((List.range n).filter fun i => !t i).getD q 0)) ((List.range n).filter fun i => !t i).length).2)
  | 0 => .inl ⟨rfl, rfl⟩
  | n + 1 => by
    have ih := rpN_list F t n
    obtain ⟨L, hL⟩ : ∃ L, L = (List.range n).filter fun i => !t i := ⟨_, rfl⟩
    rw [← hL] at ih
    rw [List.range_succ, List.filter_append, ← hL]
    cases ht : t n with
    | true =>
      have e : [n].filter (fun i => !t i) = [] := by simp [ht]
      rw [e, List.append_nil, rpN_skip ht]
      exact ih
    | false =>
      have e : [n].filter (fun i => !t i) = [n] := by simp [ht]
      rw [e]
      refine .inr ⟨by simp, ?_⟩
      have hlen : (L ++ [n]).length = L.length + 1 := by simp
      have hlast : (L ++ [n]).getD L.length 0 = n := by rw [List.getD_eq_getElem?_getD]; simp
      have hcg : pckN (fun q => F ((L ++ [n]).getD q 0)) L.length = pckN (fun q => F (L.getD q 0)) L.length := pckN_congr _ fun i hi => by
        rw [List.getD_eq_getElem?_getD, List.getD_eq_getElem?_getD, List.getElem?_append_left hi]
      rcases ih with ⟨h0, h1⟩ | ⟨h0, h1, h2⟩
      · subst h0
        rw [rpN_yes (b := -1) (l := -1) ht (by rw [h1]) (by rw [h1]) (.inl rfl)]
        simp [pkN, pkI, pckN]
      · obtain ⟨hp, hq⟩ := pk_some F L h0
        have hb : (rpN F t n).1 = (L.getD (pkN F L) 0 : Int) := h1
        by_cases hn : nearB (F n) (rpN F t n).2 = true
        · have hy : pckN (fun q => F ((L ++ [n]).getD q 0)) (L.length + 1) = ((L.length : Int), F n) := by
            rw [pckN_yes rfl rfl (.inr (by rw [hcg, hlast, ← h2]; exact hn)), hlast]
          rw [rpN_yes ht rfl rfl (.inr hn), hlen, hy]
          refine ⟨?_, rfl⟩
          have : pkN F (L ++ [n]) = L.length := by unfold pkN pkI; rw [hlen, hy]; simp
          rw [this, hlast]
        · have hn' : nearB (F n) (rpN F t n).2 = false := by simpa using hn
          have hpn : ¬ (pckN (fun q => F (L.getD q 0)) L.length).1 = -1 := by
            have : (pckN (fun q => F (L.getD q 0)) L.length).1 = (pkN F L : Int) := hp
            omega
          have hy : pckN (fun q => F ((L ++ [n]).getD q 0)) (L.length + 1) = pckN (fun q => F (L.getD q 0)) L.length := by
            rw [pckN_no rfl rfl (by rw [hcg]; exact hpn) (by rw [hcg, hlast, ← h2]; exact hn'), hcg]
          have hrb : ¬ (rpN F t n).1 = -1 := by rw [h1]; omega
          rw [rpN_no ht rfl rfl hrb hn', hlen, hy]
          refine ⟨?_, h2⟩
          have e3 : pkN F (L ++ [n]) = pkN F L := by unfold pkN pkI; rw [hlen, hy]
          rw [e3, hb, List.getD_eq_getElem?_getD, List.getD_eq_getElem?_getD, List.getElem?_append_left hq]
theorem sub_filter : ∀ {L R : List Nat}, L.Sublist R → R.Nodup → L = R.filter fun i => L.contains i
  | _, _, .slnil, _ => rfl
  | L, a :: R, .cons _ h, hn => by
    rw [List.nodup_cons] at hn
    have ha : ¬ a ∈ L := fun k => hn.1 (h.subset k)
    rw [List.filter_cons_of_neg (by simpa using ha)]
    exact sub_filter h hn.2
  | a :: L, _ :: R, .cons_cons _ h, hn => by
    rw [List.nodup_cons] at hn
    rw [List.filter_cons_of_pos (by simp)]
    congr 1
    rw [List.filter_congr (q := fun i => L.contains i) fun i hi => by
      have : ¬ i = a := fun e => hn.1 (e ▸ hi)
      simp [this]]
    exact sub_filter h hn.2
theorem lft_sub (F : Nat → Nat → Int) (n : Nat) : ∀ k, (lft F n k).Sublist (List.range n)
  | 0 => List.Sublist.refl _
  | k + 1 => (List.eraseIdx_sublist _ _).trans (lft_sub F n k)
/-- what the reference picks among those that aren't taken -/
theorem rp_got (F : Nat → Nat → Int) (n k : Nat) : (rpN (F k) (tkB F n k) n).1 = gotN F n k := by
  have hL : ((List.range n).filter fun i => !tkB F n k i) = lft F n k := by
    rw [sub_filter (lft_sub F n k) List.nodup_range]
    refine List.filter_congr fun i _ => ?_
    simp [tkB]
  have h := rpN_list (F k) (tkB F n k) n
  rw [hL] at h
  unfold gotN
  rcases h with ⟨h0, h1⟩ | ⟨h0, h1, _⟩
  · rw [if_pos h0, h1]
  · rw [if_neg h0, h1]
theorem rp_pick (f : Nat → Int) (n : Nat) : rpN f (fun _ => false) n = pckN f n := by
  induction n with
  | zero => rfl
  | succ n ih =>
    show (if _ then _ else if _ then _ else _) = (if _ then _ else _)
    rw [ih, if_neg (by simp)]
/-- a slice of lists of places, below B -/
def Docs (w : World) (B : Nat) (A : Option Addr) (n : Nat) (T : Nat → Tsk) : Prop := ∀ i, i < n → Held w B (T i) ∧ ∃ g o, A = some ⟨g, o, none⟩ ∧ g < B ∧ w.cell? ⟨g, o + i, none⟩ = some (.slice (T i).a (T i).h (T i).c)
set_option maxRecDepth 100000 in
set_option maxHeartbeats 4000000 in
theorem rpick_any (A : Option Addr) (n cap : Nat) (A2 : Option Addr) (c2 : Nat) (T : Nat → Tsk) (t : Nat → Bool) (a b : Nat) (w : World) (hn : n ≤ 1048576) (F : Nat → Int) (hF : F = fun i => (T i).far a b) (hT : Docs w w.heap.size A n T) (hS : SlOf w w.heap.size A2 n fun i => .bool (t i)) :
    Calls Try.prog 12 #[.slice A n cap, .slice A2 n c2, .complex .f64 a b] w fun e w' => e = .returned (.int .i64 (rpN F t n).1) ∧ ∃ q, w' = w.drewN q := by
  have HL := Lib.hid (show ∀ i, -1 ≤ F i from fun i => by rw [hF]; exact tsk_far_lo _ _ _)
  have HFR := Lib.hid (show ∀ i, i < n → ∀ q, Calls Try.prog 10 #[.slice (T i).a (T i).h (T i).c, .complex .f64 a b] (w.drewN q) fun e w' => e = .returned (.int .i64 (F i)) ∧ ∃ q, w' = w.drewN q from fun i hi q => by
    have h := rfar_any (T i).a (T i).h (T i).c a b (T i).x (T i).y (w.drewN q) (hT i hi).1.1 _ rfl (((hT i hi).1.below (bel_drew q)).2)
    rw [hF]
    exact h.mono fun _ _ ⟨he, q', hq'⟩ => ⟨he, q + q', by rw [hq']; first | exact World.drewN_drewN _ _ _ | (simp [World.drewN]; omega) | simp [World.drewN, Nat.add_assoc]⟩)
  have HTT := Lib.hid (show ∀ i, i < n → ∃ g o, A = some ⟨g, o, none⟩ ∧ w.cell? ⟨g, o + i, none⟩ = some (.slice (T i).a (T i).h (T i).c) from fun i hi => by
    obtain ⟨_, g, o, e, _, h⟩ := hT i hi
    exact ⟨g, o, e, h⟩)
  have HSS := Lib.hid hS
  clear hF hT hS
  go_enter Try.func12, Try.ntmps12
  go_wp2
  go_loopw [7, 8, 9] (fun bv lv iv wr => ∃ k : Nat, k ≤ n ∧ iv = .int .i64 (k : Int) ∧ ∃ b0 l0 : Int, bv = .int .i64 b0 ∧ lv = .int .i64 l0 ∧ Hid ((rpN F t k).1 = b0 ∧ (rpN F t k).2 = l0 ∧ ∃ q, wr = w.drewN q)) (fun _ _ iv _ => n - (intOf iv).toNat)
  case atStart => exact ⟨0, Nat.zero_le _, rfl, _, _, rfl, rfl, Lib.hid ⟨rfl, rfl, 0, rfl⟩⟩
  case round =>
    obtain ⟨k, hkn, rfl, b0, l0, rfl, rfl, HI⟩ := hrel
    obtain ⟨hb, hl, q, rfl⟩ := HI.out
    clear HI
    have hlo := rpN_lo HL.out k (t := t)
    rw [hb, hl] at hlo
    have HBB := Lib.hid hb
    have HLL := Lib.hid hl
    obtain ⟨hlo1, hlo2⟩ := hlo
    clear hb hl
    by_cases hlt : k < n
    · obtain ⟨g2, o2, rfl, _, c1⟩ := HSS.out k hlt
      have d1 : (w.drewN q).cell? ⟨g2, o2 + k, none⟩ = some (.bool (t k)) := c1
      clear c1
      cases ht : t k with
      | true =>
        have hs := Lib.hid (rpN_skip (F := F) ht)
        rw [ht] at d1
        clear ht
        go_wp2
        exact ⟨⟨k + 1, by omega, by first | rfl | go_num, b0, l0, rfl, rfl, Lib.hid ⟨by rw [hs.out, HBB.out], by rw [hs.out, HLL.out], _, rfl⟩⟩, by simp [intOf]; omega⟩
      | false =>
        obtain ⟨g, o, rfl, c2⟩ := HTT.out k hlt
        have d2 : (w.drewN q).cell? ⟨g, o + k, none⟩ = some (.slice (T k).a (T k).h (T k).c) := c2
        rw [ht] at d1
        have HTK := Lib.hid ht
        clear ht c2
        have hfk := HFR.out k hlt q
        obtain ⟨d, hd0⟩ : ∃ d, d = F k := ⟨_, rfl⟩
        have hdl : -1 ≤ d := by rw [hd0]; exact HL.out k
        rw [← hd0] at hfk
        have HD0 := Lib.hid hd0
        have HFK := Lib.hid hfk
        clear hd0 hfk
        go_wp2_with (fail)
        refine HFK.out.mono ?_
        rintro e w' ⟨rfl, q', rfl⟩
        clear d1 d2 HFK
        by_cases h1 : b0 = -1
        · have hs := Lib.hid (rpN_yes HTK.out HBB.out HLL.out (.inl h1))
          have dd1 : decide (b0 < 0) = true := decide_eq_true (by omega)
          go_wp2
          go_roundw
          case rel => exact ⟨k + 1, by omega, by first | rfl | go_num, _, _, rfl, rfl, Lib.hid ⟨by rw [hs.out], by rw [hs.out, HD0.out], _, rfl⟩⟩
          case measure => simp [intOf]; omega
        · have dd1 : decide (b0 < 0) = false := decide_eq_false (by omega)
          cases hq : nearB d l0 with
          | true =>
            have hs := Lib.hid (rpN_yes HTK.out HBB.out HLL.out (.inr (by rw [← HD0.out]; exact hq)))
            rw [nearB_iff] at hq
            have dd2 : decide ((0 : Int) ≤ d) = true := decide_eq_true (by omega)
            rcases hq with ⟨_, hq | hq⟩
            · have dd3 : decide (l0 < 0) = true := decide_eq_true (by omega)
              go_wp2
              go_roundw
              case rel => exact ⟨k + 1, by omega, by first | rfl | go_num, _, _, rfl, rfl, Lib.hid ⟨by rw [hs.out], by rw [hs.out, HD0.out], _, rfl⟩⟩
              case measure => simp [intOf]; omega
            · have dd3 : decide (l0 < 0) = decide (l0 = -1) := by by_cases e : l0 = -1 <;> simp [e] <;> omega
              have dd4 : decide (d < l0) = true := decide_eq_true (by omega)
              go_wp2
              all_goals
                go_roundw
                case rel => exact ⟨k + 1, by omega, by first | rfl | go_num, _, _, rfl, rfl, Lib.hid ⟨by rw [hs.out], by rw [hs.out, HD0.out], _, rfl⟩⟩
                case measure => simp [intOf]; omega
          | false =>
            have hs := Lib.hid (rpN_no HTK.out HBB.out HLL.out h1 (by rw [← HD0.out]; exact hq))
            have hq' : ¬ (nearB d l0 = true) := by simp [hq]
            rw [nearB_iff] at hq'
            clear hq
            by_cases e1 : d = -1
            · have dd2 : decide ((0 : Int) ≤ d) = false := decide_eq_false (by omega)
              go_wp2
              go_roundw
              case rel => exact ⟨k + 1, by omega, by first | rfl | go_num, _, _, rfl, rfl, Lib.hid ⟨by rw [hs.out], by rw [hs.out], _, rfl⟩⟩
              case measure => simp [intOf]; omega
            · have dd2 : decide ((0 : Int) ≤ d) = true := decide_eq_true (by omega)
              have dd3 : decide (l0 < 0) = false := decide_eq_false (by omega)
              have dd4 : decide (d < l0) = false := decide_eq_false (by omega)
              clear hq'
              go_wp2
              go_roundw
              case rel => exact ⟨k + 1, by omega, by first | rfl | go_num, _, _, rfl, rfl, Lib.hid ⟨by rw [hs.out], by rw [hs.out], _, rfl⟩⟩
              case measure => simp [intOf]; omega
    · obtain rfl : k = n := by omega
      go_wp2
      go_ret
      exact ⟨by rw [HBB.out]; rfl, q, rfl⟩
end Go.Proofs.Ytahkelgcamcfmaa
