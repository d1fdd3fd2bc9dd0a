/- PathsSplits: of every text whether it is a path, its parts, the path above it and its last part are the document's. -/
import Derived.Test.YtlenmcfdoolgbaaDoorPathJoinR

import Derived.Test.YtlenmcfdoolgbaaDoorLawEnd

import Derived.Test.YtlenmcfdoolgbaaDoorPathLaid

namespace Go.Proofs.YtlenmcfdoolgbaaDoor.fnPathsSplits
open Go.ChangeShapes Go.WideShapes Go.ChangeAt Go.RowKit Go.WideMaps Go.WideElems
open Go.ChangeMaps (open_string)

section
variable {w0 : World} (p : ByteArray) (hs : p.size ≤ maxLen) (h : Path.pp (Ls p) = none ∨ Path.pp (Ls p) = some [])
include hs h
theorem parent_S (w : World) (hb : Since w0 w) : Calls Tryd.prog 13 #[.string p] w fun e w' => e = .returned (.tuple #[.string ⟨#[]⟩, .int .i64 60]) ∧ Since w0 w' :=
  (parent_no p w h hs).mono fun _ _ ⟨he, hb'⟩ => ⟨he, since_of hb hb'⟩
theorem base_S (w : World) (hb : Since w0 w) : Calls Tryd.prog 14 #[.string p] w fun e w' => e = .returned (.tuple #[.string ⟨#[]⟩, .int .i64 60]) ∧ Since w0 w' :=
  (base_no p w h hs).mono fun _ _ ⟨he, hb'⟩ => ⟨he, since_of hb hb'⟩
end
theorem texts0 {w0 : World} (A A' : Option Addr) (c d : Nat) (w : World) (hb : Since w0 w) : Calls Tryd.prog 12 #[.slice A 0 c, .slice A' 0 d] w fun e w' => e = .returned (.bool true) ∧ Since w0 w' :=
  (texts_any [] [] A A' c d 0 0 w (fun i hi => absurd hi (Nat.not_lt_zero _)) (fun i hi => absurd hi (Nat.not_lt_zero _)) (by decide) (by decide)).mono fun _ _ ⟨he, m, hm⟩ => ⟨he, Lib.hid (by rw [hm]; exact below_drewN hb.out m)⟩
set_option maxRecDepth 100000 in
set_option maxHeartbeats 4000000 in
theorem walk_none (p : ByteArray) (w : World) (hs : p.size ≤ maxLen) (hp : Path.pp (Ls p) = none) :
    Calls Tryd.prog 3 #[.string p] w fun e w' => e = .returned (.bool true) ∧ Below w.heap.size w w' := by
  have h0 : Since w w := Lib.hid (Below.refl _ _)
  have C1 := fun (w' : World) (h : Since w w') => (rsplit_no p w' hp hs).mono (fun _ _ ⟨he, hb'⟩ => (⟨he, since_of h hb'⟩ : _ ∧ Since w _))
  have C2 := fun (w' : World) (h : Since w w') => (split_no p w' hp hs).mono (fun _ _ ⟨he, hb'⟩ => (⟨he, since_of h hb'⟩ : _ ∧ Since w _))
  have C3 := fun (w' : World) (h : Since w w') => (check_no p w' hp hs).mono (fun _ _ ⟨he, hb'⟩ => (⟨he, since_of h hb'⟩ : _ ∧ Since w _))
  have C4 := fun (w' : World) (h : Since w w') => parent_S p hs (.inl hp) w' h
  have C5 := fun (w' : World) (h : Since w w') => base_S p hs (.inl hp) w' h
  clear hp
  go_enter Tryd.func3, Tryd.ntmps3
  go_wp2_with (first
    | (go_at_call 8; refine (speaks_S _ (by assumption)).mono ?_; rintro e w' ⟨rfl, h1⟩)
    | (go_at_call 9; refine (C1 _ (by assumption)).mono ?_; rintro e w' ⟨rfl, h2⟩)
    | (go_at_call 10; refine (C2 _ (by assumption)).mono ?_; rintro e w' ⟨rfl, h3⟩)
    | (go_at_call 11; refine (C3 _ (by assumption)).mono ?_; rintro e w' ⟨rfl, h4⟩)
    | (go_at_call 12; refine (texts0 _ _ _ _ _ (by assumption)).mono ?_; rintro e w' ⟨rfl, h5⟩))
  go_loopw [9] (fun i wr => i = .int .i64 0 ∧ Since w wr) (fun _ _ => 0)
  case atStart => exact ⟨rfl, by assumption⟩
  case round =>
    obtain ⟨rfl, h8⟩ := hrel
    go_wp2_with (first
      | (go_at_call 12; refine (texts0 _ _ _ _ _ (by assumption)).mono ?_; rintro e w' ⟨rfl, h9⟩)
      | (go_at_call 13; refine (C4 _ (by assumption)).mono ?_; rintro e w' ⟨rfl, h6⟩)
      | (go_at_call 14; refine (C5 _ (by assumption)).mono ?_; rintro e w' ⟨rfl, h7⟩))
    go_ret
    exact ⟨rfl, h7.out⟩
set_option maxRecDepth 100000 in
set_option maxHeartbeats 4000000 in
theorem walk_root (p : ByteArray) (w : World) (hs : p.size ≤ maxLen) (hp : Path.pp (Ls p) = some []) :
    Calls Tryd.prog 3 #[.string p] w fun e w' => e = .returned (.bool true) ∧ Below w.heap.size w w' := by
  have h0 : Since w w := Lib.hid (Below.refl _ _)
  have C1 : ∀ w' : World, Since w w' → Calls Tryd.prog 9 #[.string p] w' fun e w'' => ∃ A c, e = .returned (.tuple #[.slice A 0 c, .bool true]) ∧ Since w w'' := fun w' h => (rsplit_ok p [] w' hp).mono (fun _ _ ⟨A, c, he, _, hb'⟩ => ⟨A, c, he, since_of h hb'⟩)
  have C2 : ∀ w' : World, Since w w' → Calls Tryd.prog 10 #[.string p] w' fun e w'' => ∃ A c, e = .returned (.tuple #[.slice A 0 c, .int .i64 0]) ∧ Since w w'' := fun w' h => (psplit_ok p [] w' hp).mono (fun _ _ ⟨A, c, he, _, hb'⟩ => ⟨A, c, he, since_of h hb'⟩)
  have C3 := fun (w' : World) (h : Since w w') => (check_ok p [] w' hp).mono (fun _ _ ⟨he, hb'⟩ => (⟨he, since_of h hb'⟩ : _ ∧ Since w _))
  have C4 := fun (w' : World) (h : Since w w') => parent_S p hs (.inr hp) w' h
  have C5 := fun (w' : World) (h : Since w w') => base_S p hs (.inr hp) w' h
  clear hp
  go_enter Tryd.func3, Tryd.ntmps3
  go_wp2_with (first
    | (go_at_call 8; refine (speaks_S _ (by assumption)).mono ?_; rintro e w' ⟨rfl, h1⟩)
    | (go_at_call 9; refine (C1 _ (by assumption)).mono ?_; rintro e w' ⟨A, c, rfl, h2⟩)
    | (go_at_call 10; refine (C2 _ (by assumption)).mono ?_; rintro e w' ⟨A', c', rfl, h3⟩)
    | (go_at_call 11; refine (C3 _ (by assumption)).mono ?_; rintro e w' ⟨rfl, h4⟩)
    | (go_at_call 12; refine (texts0 _ _ _ _ _ (by assumption)).mono ?_; rintro e w' ⟨rfl, h5⟩))
  go_loopw [9] (fun i wr => i = .int .i64 0 ∧ Since w wr) (fun _ _ => 0)
  case atStart => exact ⟨rfl, by assumption⟩
  case round =>
    obtain ⟨rfl, h8⟩ := hrel
    go_wp2_with (first
      | (go_at_call 12; refine (texts0 _ _ _ _ _ (by assumption)).mono ?_; rintro e w' ⟨rfl, h9⟩)
      | (go_at_call 13; refine (C4 _ (by assumption)).mono ?_; rintro e w' ⟨rfl, h6⟩)
      | (go_at_call 14; refine (C5 _ (by assumption)).mono ?_; rintro e w' ⟨rfl, h7⟩))
    go_ret
    exact ⟨rfl, h7.out⟩
/-- the block of first may turn, nothing else -/
def OnlyFirst (w0 wr w4 : World) (g n : Nat) : Prop := w4.heap.size = wr.heap.size ∧ (∀ k, k ≠ g → wr.heap[k]? = w4.heap[k]?) ∧ (∃ vs : List Value, vs.length = n ∧ wr.heap[g]? = some (.cells vs.toArray 9 (0, 0))) ∧ Below w0.heap.size w0 wr
theorem OnlyFirst.set {w0 wr w4 : World} {g n : Nat} (h : OnlyFirst w0 wr w4 g n) (hg : w0.heap.size ≤ g) (i : Nat) (v : Value) : OnlyFirst w0 (wr.setCell ⟨g, i, none⟩ v) w4 g n := by
  obtain ⟨h1, h2, ⟨vs, h3, h4⟩, h5⟩ := h
  refine ⟨by simp [World.setCell, h1], fun k hk => ?_, ⟨vs.set i v, by simp [h3], ?_⟩, h5.setCell hg _⟩
  · rw [← h2 k hk]
    simp only [World.setCell, Array.getElem?_modify]
    rw [if_neg (fun e => hk e.symm)]
  · simp only [World.setCell, Array.getElem?_modify, h4]
    simp
theorem OnlyFirst.txts {w0 wr w4 : World} {g n B : Nat} {A : Option Addr} {xs : List Path.Bs} (h : OnlyFirst w0 wr w4 g n) (ht : Txts w4 B A xs) (hn : ∀ b off, A = some ⟨b, off, none⟩ → b ≠ g) : Txts wr B A xs := fun i hi => by
  obtain ⟨b, off, e, hB, hc⟩ := ht i hi
  refine ⟨b, off, e, hB, ?_⟩
  rw [← hc]
  unfold World.cell?
  rw [h.2.1 b (hn b off e)]
theorem OnlyFirst.at_ {w0 wr w4 : World} {g n : Nat} (h : OnlyFirst w0 wr w4 g n) {k : Nat} (hk : k < n) : (∃ u, wr.cell? ⟨g, k, none⟩ = some u) ∧ wr.frozen? ⟨g, k, none⟩ = false := by
  obtain ⟨_, _, ⟨vs, h3, h4⟩, _⟩ := h
  refine ⟨⟨vs[k]'(by omega), ?_⟩, by simp [World.frozen?, h4]⟩
  rw [cell_row h4]
  exact List.getElem?_eq_getElem _
set_option maxRecDepth 100000 in
set_option maxHeartbeats 4000000 in
theorem walk_ok (p : ByteArray) (ys : List Path.Bs) (y : Path.Bs) (w : World) (hp : Path.pp (Ls p) = some (ys ++ [y])) :
    Calls Tryd.prog 3 #[.string p] w fun e w' => e = .returned (.bool true) ∧ Below w.heap.size w w' := by
  have C1 := fun (w' : World) => rsplit_cap p (ys ++ [y]) w' hp
  have C2 := fun (w' : World) => psplit_ok p (ys ++ [y]) w' hp
  have C3 := fun (w' : World) => check_ok p (ys ++ [y]) w' hp
  have C4 := fun (w' : World) => parent_ok p ys y w' hp
  have C5 := fun (w' : World) => base_ok p ys y w' hp
  have hg := good_of hp
  have hl := (Path.good_parts hg).1
  have hgy : Path.good ys = true := by have := Path.good_take hg ys.length; simpa using this
  have hpl := path_len hgy
  have hgl : (Path.glue ys).length ≤ 256 := (Path.good_parts hgy).2.2
  have HJ : Hid (joinRes ys = .tuple #[T (Path.path ys), .bool true]) := Lib.hid (by simp [joinRes, hgy])
  obtain ⟨xs, hxs⟩ : ∃ xs, ys ++ [y] = xs := ⟨_, rfl⟩
  have hxl : xs.length = ys.length + 1 := by rw [← hxs]; simp
  have HXY := Lib.hid hxs
  rw [hxs] at C1 C2 hl
  have hyl : ys.length ≤ 16 := by omega
  unfold SplitRes at C2
  rw [hxl] at C1 C2
  have HXL := Lib.hid hxl
  clear hp hg hgy hxs hxl
  go_enter Tryd.func3, Tryd.ntmps3
  go_wp2_with (fail)
  refine (speaks_any _).mono ?_; rintro e w1 ⟨rfl, hb1⟩
  have B1 := Lib.hid hb1
  clear hb1
  go_wp2_with (fail)
  refine (C1 _).mono ?_; rintro e w2 ⟨A, c, rfl, hx, hb2, hcap0⟩
  have B2 := since_of B1 hb2
  have X2 := Lib.hid hx
  clear hb2 hx
  go_wp2_with (fail)
  refine (C2 _).mono ?_; rintro e w3 ⟨A1, c1, rfl, hn1, hb3⟩
  have hcap1 := hn1.cap
  rw [HXL.out] at hcap1
  subst hcap1
  rcases hn1 with ⟨h0, _, _⟩ | ⟨g1, hg1, rfl, hcq1, _, hr1⟩
  · exact absurd (by rw [← HXY.out] at h0; exact h0) (by simp)
  have B3 := since_of B2 hb3
  have X3 := Lib.hid (X2.out.below hb3)
  have G1 := Lib.hid (And.intro hg1 hr1)
  have HS2 := Lib.hid (And.intro B2.out.size hb3.size)
  have hg1s := (Array.getElem?_eq_some_iff.1 hr1).1
  clear hb3 hg1 hr1 X2 hcq1
  go_wp2_with (fail)
  refine (C2 _).mono ?_; rintro e w4 ⟨A2, c2, rfl, hn2, hb4⟩
  have hcap2 := hn2.cap
  rw [HXL.out] at hcap2
  subst hcap2
  rcases hn2 with ⟨h0, _, _⟩ | ⟨g2, hg2, rfl, hcq2, _, hr2⟩
  · exact absurd (by rw [← HXY.out] at h0; exact h0) (by simp)
  have B4 := since_of B3 hb4
  have X4 := Lib.hid (X3.out.below (hb4.mono HS2.out.2))
  have G1' := Lib.hid (And.intro G1.out.1 ((hb4.block g1 hg1s).trans G1.out.2))
  have G2 := Lib.hid (And.intro hg2 hr2)
  have HS3 := Lib.hid (And.intro hg1s hb4.size)
  have hg2s := (Array.getElem?_eq_some_iff.1 hr2).1
  clear hb4 hg2 hr2 X3 G1 hg1s hcq2
  go_wp2_with (fail)
  refine (C3 _).mono ?_; rintro e w5 ⟨rfl, hb5⟩
  have B5 := since_of B4 hb5
  have X5 := Lib.hid (X4.out.below (hb5.mono (by have := HS2.out; have := HS3.out; omega)))
  have N1 := Lib.hid ((hb5.block g1 (by have := HS3.out; omega)).trans G1'.out.2)
  have N2 := Lib.hid ((hb5.block g2 hg2s).trans G2.out.2)
  have HS4 := Lib.hid (And.intro hg2s hb5.size)
  clear hb5 X4 hg2s
  have hT1 : Txts w5 w5.heap.size (some ⟨g1, 0, none⟩) xs := fun i hi => ⟨g1, 0, rfl, (Array.getElem?_eq_some_iff.1 N1.out).1, by rw [Nat.zero_add, cell_row N1.out]; simp [hi]⟩
  have HT := texts_any xs xs _ A (ys.length + 1) c _ _ w5 hT1 X5.out (by omega) (by omega)
  rw [HXL.out, decide_eq_true rfl] at HT
  clear hT1
  go_wp2_with (fail)
  refine HT.mono ?_; rintro e w6 ⟨rfl, m, hm⟩
  have O6 : Hid (OnlyFirst w w6 w6 g1 (ys.length + 1)) := Lib.hid ⟨rfl, fun _ _ => rfl, ⟨xs.map T, by rw [List.length_map, HXL.out], by rw [hm]; exact N1.out⟩, by rw [hm]; exact below_drewN B5.out m⟩
  have X6 : Hid (Txts w6 w2.heap.size A xs) := Lib.hid (by rw [hm]; exact X5.out)
  have N6 : Hid (w6.heap[g2]? = some (.cells (xs.map T).toArray 9 (0, 0))) := Lib.hid (by rw [hm]; exact N2.out)
  have S6 : Hid (w6.heap.size = w5.heap.size) := Lib.hid (by rw [hm]; rfl)
  clear hm HT
  obtain ⟨b0, off0, rfl, hb0, _⟩ := X6.out 0 (by rw [HXL.out]; omega)
  have HD1 : Hid (∀ b off : Nat, (some ⟨b0, off0, none⟩ : Option Addr) = some ⟨b, off, none⟩ → b ≠ g1) := Lib.hid (fun b off e => by
    injection e with e; injection e with e1 e2
    subst e1
    have := G1'.out.1; omega)
  have HD2 : Hid (∀ b off : Nat, (some ⟨g2, 0, none⟩ : Option Addr) = some ⟨b, off, none⟩ → b ≠ g1) := Lib.hid (fun b off e => by
    injection e with e; injection e with e1 e2
    subst e1
    have h1 := G2.out.1; have h2 := HS3.out.1; omega)
  have Y6 : Hid (Txts w6 w6.heap.size (some ⟨g2, 0, none⟩) xs) := Lib.hid (fun i hi => ⟨g2, 0, rfl, (Array.getElem?_eq_some_iff.1 N6.out).1, by rw [Nat.zero_add, cell_row N6.out]; simp [hi]⟩)
  have HW := Lib.hid (And.intro HS2.out.1 (And.intro G1'.out.1 S6.out))
  have HWB : Hid (w2.heap.size ≤ w6.heap.size) := Lib.hid (by have := (X6.out 0 (by rw [HXL.out]; omega)); have h2 := HS2.out; have h3 := HS3.out; have h4 := HS4.out; have h5 := S6.out; omega)
  clear hb0
  obtain ⟨u, hu⟩ : ∃ u : ByteArray, u = ⟨(Path.path ys).toArray⟩ := ⟨_, rfl⟩
  obtain ⟨v, hv⟩ : ∃ v : ByteArray, v = ⟨y.toArray⟩ := ⟨_, rfl⟩
  have hJ := HJ.out
  have HVC : Hid (T y = .string v) := Lib.hid (by rw [T, hv])
  rw [T, ← hu] at C4 hJ
  rw [T, ← hv] at C5
  have HJU := Lib.hid hJ
  clear hu hv hJ HJ
  go_wp2_with (fail)
  go_loopw [9] (fun i wr => ∃ k : Nat, k ≤ ys.length + 1 ∧ i = .int .i64 k ∧ Hid (OnlyFirst w wr w6 g1 (ys.length + 1))) (fun i _ => ys.length + 1 - (intOf i).toNat)
  case atStart => exact ⟨0, Nat.zero_le _, rfl, O6⟩
  case round =>
    obtain ⟨k, hk, rfl, HO⟩ := hrel
    by_cases hlt : k < ys.length + 1
    · have i1 : (k : Int) < (ys.length : Int) + 1 := by omega
      obtain ⟨⟨z, hz⟩, hf⟩ := HO.out.at_ hlt
      have HN := Lib.hid (HO.out.set (by have := HW.out; omega) k (.string ⟨#[115, 112, 111, 105, 108, 116]⟩))
      go_wp2
      go_roundw
      case rel => exact ⟨k + 1, by omega, by go_num, HN⟩
      case measure => simp [intOf]; omega
    · have i1 : ¬ (k : Int) < (ys.length : Int) + 1 := by omega
      have X7 := HO.out.txts X6.out HD1.out
      have Y7 := HO.out.txts Y6.out HD2.out
      have HT2 := texts_any xs xs _ _ (ys.length + 1) c _ _ wr Y7 X7 (by omega) (by omega)
      rw [HXL.out, decide_eq_true rfl] at HT2
      have B7 : Since w wr := Lib.hid HO.out.2.2.2
      have HX7 := Lib.hid X7
      have HSZ := Lib.hid (HO.out.1)
      clear X7 Y7
      go_wp2_with (fail)
      refine HT2.mono ?_; rintro e w7 ⟨rfl, m, hm⟩
      have B8 : Since w w7 := Lib.hid (by rw [hm]; exact below_drewN B7.out m)
      have HX8 : Hid (Txts w7 w2.heap.size (some ⟨b0, off0, none⟩) xs) := Lib.hid (by rw [hm]; exact HX7.out)
      have HS8 : Hid (w2.heap.size ≤ w7.heap.size) := Lib.hid (by rw [hm]; have h1 := HWB.out; have h2 := HSZ.out; show _ ≤ wr.heap.size; omega)
      clear hm HT2
      go_wp2_with (fail)
      refine (C4 _).mono ?_; rintro e w8 ⟨rfl, hb8⟩
      have B9 := since_of B8 hb8
      have HX9 := Lib.hid (HX8.out.below (hb8.mono HS8.out))
      have HS9 := Lib.hid (Nat.le_trans HS8.out hb8.size)
      clear hb8
      go_wp2_with (fail)
      refine (C5 _).mono ?_; rintro e w9 ⟨rfl, hb9⟩
      have B10 := since_of B9 hb9
      have hx10 := HX9.out.below (hb9.mono HS9.out)
      have HX10 := Lib.hid hx10
      have hs10 := Nat.le_trans HS9.out hb9.size
      have hty := hx10.take ys.length
      rw [← HXY.out, List.take_append_of_le_length (Nat.le_refl _), List.take_length] at hty
      have HJ2 := rjoin_any ys _ c _ w9 hty hs10 (by omega) (by omega)
      rw [HJU.out] at HJ2
      have HS10 := Lib.hid hs10
      clear hb9 hx10 hty hs10
      have i3 : ((ys.length : Int) + 1 == 0) = false := beq_eq_false_iff_ne.2 (by omega)
      go_wp2_with (fail)
      refine HJ2.mono ?_; rintro e w10 ⟨rfl, hb10⟩
      have B11 := since_of B10 hb10
      obtain ⟨b, off, e, _, hc⟩ := (HX10.out.below (hb10.mono HS10.out)) ys.length (by rw [HXL.out]; omega)
      injection e with e; injection e with e1 e2
      subst e1 e2
      have hc' : w10.cell? ⟨b0, off0 + ys.length, none⟩ = some (.string v) := by
        rw [hc, ← HVC.out]
        simp [← HXY.out]
      clear hb10 hc HJ2
      go_wp2
      go_ret
      exact ⟨rfl, B11.out⟩
theorem walk (p : ByteArray) (w : World) (hs0 : p.size ≤ 140737488351232) :
    Calls Tryd.prog 3 #[.string p] w fun e w' => e = .returned (.bool true) ∧ Below w.heap.size w w' := by
  have hs : p.size ≤ maxLen := by unfold maxLen; omega
  rcases h : Path.pp (Ls p) with _ | xs
  · exact walk_none p w hs h
  · rcases List.eq_nil_or_concat xs with rfl | ⟨ys, y, rfl⟩
    · exact walk_root p w hs h
    · exact walk_ok p ys y w (by rw [h, List.concat_eq_append])

theorem contract (H : Type) (enc : TypeId × Value → H) (W : World) (base : Nat) (args : Array Value) (ds gs : List (DataW H)) (before : List MemPlace)
    (hval : ∀ (j : Nat) t v, Tryd.f3.params[j]? = some t → args[j]? = some v → Value.okWide Tryd.prog W .any base t v)
    (hW : DataW.Whole enc Tryd.prog Tryd.f3.params.toList Rows.pathsSplitsSpec.vars false W args.toList ds gs before) (hL : laidMetH Tryd.prog Rows.pathsSplitsRow.laid W)
    (hz : (DataW.weightsEach Tryd.prog (Tryd.f3.params.toList ++ []) (ds ++ gs)).all (· ≤ reachBytes) = true) :
    Calls Tryd.prog 3 args W fun e W' => ∃ v, e = .returned v ∧ Rows.pathsSplitsSpec.post enc Tryd.prog Tryd.f3 false true false false W args v W' := by
  have hW' := hW
  obtain ⟨p, q, hA0, hV, rfl, hfz, hnd⟩ := hW
  have hA : DataW.TrodAll enc Tryd.prog W 0 (fun _ => true) true Tryd.f3.params.toList args.toList ds p := hA0
  rw [Tryd.params3] at hA hval hz
  obtain ⟨v0, vs0, d0, ds0, p0, q0, hargs, rfl, rfl, h0, r0⟩ := trodAll_cons hA
  obtain ⟨rfl, rfl, rfl⟩ := trodAll_nil r0
  obtain rfl : args = #[v0] := by cases args; simp_all
  obtain ⟨rfl, rfl⟩ := trodVars_none hV
  obtain ⟨x0, rfl, rfl, rfl, w0⟩ := open_string Tryd.underlying9 (hval 0 9 v0 rfl rfl) h0
  have b0 : x0.size ≤ 140737488351232 := by have := sized_string hz (j := 0) (t := 9) rfl rfl; simpa [reachBytes] using this
  clear hA0
  refine (walk x0 W b0).mono fun e W' ⟨he, hb⟩ => ?_
  subst he
  exact ⟨_, rfl, law_end hW' rfl rfl hb laidOut (by kernel_rfl) (by kernel_rfl) Tryd.underlying4⟩

theorem reads (os : Os) {H : Type} (enc : TypeId × Value → H) : ∃ places, DataW.whole enc Tryd.prog ((laidWorld os).forCall (fun _ _ => 0) ⟨#[], #[.string ⟨#[]⟩], []⟩).memory Tryd.f3.params.toList Rows.pathsSplitsSpec.vars false [Value.string ⟨#[]⟩] 8 = some ([.lit (.string [])], [], places) :=
  ⟨[], by kernel_rfl⟩

set_option maxRecDepth 100000 in
theorem lifted (os : Os) (started : os.Started) (H : Type) (enc : TypeId × Value → H) (F : Stop.Interp) :
    ReturnsInHanded {} Tryd.checked os 3 .any ((OpenSpec.ofChange Rows.pathsSplitsSpec).preRow enc Tryd.prog Tryd.f3 Rows.pathsSplitsRow.domain false Rows.pathsSplitsRow.laid) (((OpenSpec.ofChange Rows.pathsSplitsSpec).at F).post enc Tryd.prog Tryd.f3 false true false false) := by
  obtain ⟨places, hx⟩ := reads os enc
  have laid_met : laidMet Tryd.prog Rows.pathsSplitsRow.laid ((laidWorld os).forCall (fun _ _ => 0) ⟨#[], #[.string ⟨#[]⟩], []⟩).memory := (laidMet_of_run' 8 (by kernel_rfl) (by kernel_rfl))
  refine returnsInHanded_of_row (C := Tryd.checked) (s := OpenSpec.ofChange Rows.pathsSplitsSpec) own started (by kernel_rfl) Tryd.func3
    (witness_row_at (enc := enc) (C := Tryd.checked) false (laidWorld os) #[.string ⟨#[]⟩] rfl (by kernel_rfl) (by kernel_rfl) (by kernel_rfl)
      (OpenSpec.preRow_of_cond 8 hx (by kernel_rfl) (fun k hk => by cases hk) (by kernel_rfl) laid_met)) ?_
  intro W base args ds gs before hval hW _ _ hz hL _ _
  exact contract H enc W base args ds gs before hval hW hL hz

theorem said : Rows.PathsSplitsSaid :=
  OpenClaim.holds_of_cond 3 Tryd.f3 rfl rfl rfl rfl rfl rfl rfl ⟨rfl, rfl, rfl, rfl, rfl⟩ rfl rfl rfl rfl rfl (by kernel_rfl) Tryd.func3 (by kernel_rfl)
    (of_decide_eq_true (by kernel_rfl)) (by unfold Func.isWrapper; first | (rw [if_pos (by decide +kernel)]; kernel_rfl) | (rw [if_neg (by decide +kernel)]; exact ⟨rfl, rfl⟩))
    (fun os started H enc _ F => by rw [OpenClaim.pre_eq_preRow]; exact lifted os started H enc F)

theorem plain (f : FuncId) (fn : Func) (hf : Tryd.pinned.checked.prog.funcNamed "mahout/mahoutlaw06.PathsSplits" = some f) (hfn : Tryd.pinned.checked.prog.funcs[f]? = some fn) :
    ∀ (j : Nat) t, fn.params[j]? = some t → Tryd.pinned.checked.prog.wantsStandIn t = false := by
  obtain rfl : f = 3 := Option.some.inj ((show Tryd.prog.funcNamed "mahout/mahoutlaw06.PathsSplits" = some 3 by kernel_rfl).symm.trans hf) |>.symm
  obtain rfl : fn = Tryd.f3 := (Option.some.inj (Tryd.func3.symm.trans hfn)).symm
  exact fun j t ht => by
    rw [Tryd.params3] at ht
    have hm : t ∈ [9] := by simpa using Array.mem_of_getElem? ht
    have hall : ([9].all fun u => !Tryd.prog.wantsStandIn u) = true := by kernel_rfl
    exact (show Tryd.prog.wantsStandIn t = false by simpa using List.all_eq_true.1 hall t hm)
/-- THE CARD -/
theorem card : Rows.PathsSplitsCardSaid :=
  Claim7.holds_tied_plain_at .later [] _ _ _ _ said (fun _ h => by cases h) (by kernel_rfl) (fun _ h => by cases h) pathsSplits_row_tie rfl ⟨rfl, rfl⟩ (by kernel_rfl) rfl (fun f fn hf hfn => ⟨by kernel_rfl, plain f fn hf hfn⟩) (by kernel_rfl)

end Go.Proofs.YtlenmcfdoolgbaaDoor.fnPathsSplits
