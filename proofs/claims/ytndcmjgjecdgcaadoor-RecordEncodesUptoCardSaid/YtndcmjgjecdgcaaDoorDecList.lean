/- The contract of record's list: as many numbers, or texts, as the number ahead of them tells. -/
import Derived.Test.YtndcmjgjecdgcaaDoorRecLaw
import Derived.OwnWalk
import Derived.Laws.AppendOwn
namespace Go.Proofs.YtndcmjgjecdgcaaDoor
open Go.RowKit
/-- n numbers of what is left, up to the first error -/
def takeI : Nat → List UInt8 → Int → List Int × List UInt8 × Int
  | 0, l, er => ([], l, er)
  | n + 1, l, er => if (Wire.tInt l er).2.2 ≠ 0 then ([], (Wire.tInt l er).2.1, (Wire.tInt l er).2.2) else ((Wire.tInt l er).1 :: (takeI n (Wire.tInt l er).2.1 0).1, (takeI n (Wire.tInt l er).2.1 0).2)
/-- n texts of what is left, up to the first error -/
def takeT : Nat → List UInt8 → Int → List ByteArray × List UInt8 × Int
  | 0, l, er => ([], l, er)
  | n + 1, l, er => if (Wire.tText l er).2.2 ≠ 0 then ([], (Wire.tText l er).2.1, (Wire.tText l er).2.2) else (S (Wire.tText l er).1 :: (takeT n (Wire.tText l er).2.1 0).1, (takeT n (Wire.tText l er).2.1 0).2)
theorem takeI_bad {n : Nat} {l : List UInt8} {er : Int} {x : Int} {l2 : List UInt8} {e2 : Int} (h : Wire.tInt l er = (x, l2, e2)) (he : e2 ≠ 0) : takeI (n + 1) l er = ([], l2, e2) := by
  unfold takeI; rw [h]; exact if_pos he
theorem takeI_ok {n : Nat} {l : List UInt8} {er : Int} {x : Int} {l2 : List UInt8} (h : Wire.tInt l er = (x, l2, 0)) : takeI (n + 1) l er = (x :: (takeI n l2 0).1, (takeI n l2 0).2) := by
  conv => lhs; unfold takeI
  rw [h]; exact if_neg (by simp)
theorem takeT_bad {n : Nat} {l : List UInt8} {er : Int} {x l2 : List UInt8} {e2 : Int} (h : Wire.tText l er = (x, l2, e2)) (he : e2 ≠ 0) : takeT (n + 1) l er = ([], l2, e2) := by
  unfold takeT; rw [h]; exact if_pos he
theorem takeT_ok {n : Nat} {l : List UInt8} {er : Int} {x l2 : List UInt8} (h : Wire.tText l er = (x, l2, 0)) : takeT (n + 1) l er = (S x :: (takeT n l2 0).1, (takeT n l2 0).2) := by
  conv => lhs; unfold takeT
  rw [h]; exact if_neg (by simp)
theorem tInt22 {l : List UInt8} {er : Int} (h : er ≠ 22) : (Wire.tInt l er).2.2 ≠ 22 := by
  unfold Wire.tInt
  split
  · exact h
  · split <;> simp
theorem tText22 {l : List UInt8} {er : Int} (h : er ≠ 22) : (Wire.tText l er).2.2 ≠ 22 := by
  unfold Wire.tText
  split
  · exact tInt22 h
  · split
    · simp
    · split
      · simp
      · split <;> simp
theorem ownsRow_grown {w w' : World} {B u : Nat} {e : TypeId} {v : Value} {n : Nat} {xs : List Value} (h : w.ownsRow B e 1 v n xs) (hg : w.grownBy w' (some u)) (hu : u < B) : w'.ownsRow B e 1 v n xs := by
  obtain ⟨hl, h⟩ := h
  refine ⟨hl, ?_⟩
  rcases h with h | ⟨g, cap, cur, h1, h2, h3, h4, h5, h6, h7⟩
  · exact .inl h
  · have hgl : g < w.heap.size := by
      rcases Nat.lt_or_ge g w.heap.size with hl | hl
      · exact hl
      · rw [Array.getElem?_eq_none hl] at h3; cases h3
    exact .inr ⟨g, cap, cur, h1, h2, (hg.block g hgl (by intro e; injection e with e; omega)).trans h3, h4, h5, h6, h7⟩
theorem ownsRow_from {w : World} {B : Nat} {e : TypeId} {v : Value} {n : Nat} {xs : List Value} (h : w.ownsRow B e 1 v n xs) : ∀ k, v.ownBlock = some k → B ≤ k := by
  rcases h.2 with ⟨rfl, _⟩ | ⟨g, cap, cur, rfl, h2, _⟩
  · intro k hk; cases hk
  · intro k hk; injection hk with hk; rw [← hk]; exact h2
theorem grown_trans {w w1 w2 : World} {p : Option Nat} (h : w.grownBy w1 p) (h2 : w1.grownBy w2 p) : w.grownBy w2 p :=
  ⟨h2.os.trans h.os, h2.tape.trans h.tape, h2.output.trans h.output, Nat.le_trans h.size h2.size, fun k hk hne => (h2.block k (Nat.lt_of_lt_of_le hk h.size) hne).trans (h.block k hk hne)⟩
/-- an append to a row of the call's own, seen from the world in which the call began -/
theorem grown_app {w w1 w2 : World} {u : Nat} {o : Obj} {v : Value} {e : TypeId} {n : Nat} {xs : List Value} (h : w.grownBy w1 (some u)) (hown : w1.ownsRow w.heap.size e 1 v n xs) (hg : (w1.alloc o).grownBy w2 v.ownBlock) : w.grownBy w2 (some u) := by
  have hb := below_alloc w1 o
  refine ⟨hg.os.trans (hb.os.trans h.os), hg.tape.trans (hb.tape.trans h.tape), hg.output.trans (hb.output.trans h.output), Nat.le_trans h.size (Nat.le_trans hb.size hg.size), fun k hk hne => ?_⟩
  have hk1 : k < w1.heap.size := Nat.lt_of_lt_of_le hk h.size
  refine (hg.block k (Nat.lt_of_lt_of_le hk1 hb.size) ?_).trans ((hb.block k hk1).trans (h.block k hk hne))
  intro hb'
  have := ownsRow_from hown k hb'.symm
  omega
theorem un_app {w1 w2 : World} {u B : Nat} {s : ByteArray} {l : List UInt8} {er : Int} {o : Obj} {v : Value} {e : TypeId} {n : Nat} {xs : List Value} (h : UnIs w1 u s l er) (hu : u < B) (hown : w1.ownsRow B e 1 v n xs) (hg : (w1.alloc o).grownBy w2 v.ownBlock) : UnIs w2 u s l er := by
  have hb := below_alloc w1 o
  obtain ⟨hu1, a, h1, h2, h3, h4, h5, h6, h7⟩ := h
  have hsz := hg.size
  have hbz := hb.size
  have hk : w2.heap[u]? = w1.heap[u]? := (hg.block u (by omega) (by intro hb'; have := ownsRow_from hown u hb'.symm; omega)).trans (hb.block u hu1)
  exact ⟨by omega, a, h1, h2, (World.cell?_of_block (a := ⟨u, _, none⟩) hk).trans h3, (World.cell?_of_block (a := ⟨u, _, none⟩) hk).trans h4, (World.cell?_of_block (a := ⟨u, _, none⟩) hk).trans h5, (World.frozen?_of_block (a := ⟨u, _, none⟩) hk).trans h6, (World.frozen?_of_block (a := ⟨u, _, none⟩) hk).trans h7⟩
set_option maxRecDepth 100000 in
theorem fault_any (u : Nat) (s : ByteArray) (l : List UInt8) (er : Int) (w : World) (hs : s.size ≤ 140737488351232) (hU : UnIs w u s l er) (he : er ≠ 22) :
    Calls Tryd.prog 40 #[.pointer (some ⟨u, 0, none⟩)] w fun e w' => e = .returned (.int .i64 er) ∧ UnIs w' u s l er ∧ w.grownBy w' (some u) := by
  have HU := Lib.hid hU
  clear hU
  by_cases h1 : Wire.tEnd l er = 22
  · have h0 : er = 0 := by
      unfold Wire.tEnd at h1
      by_cases h0 : er = 0
      · exact h0
      · rw [if_pos h0] at h1; exact absurd h1 he
    subst h0
    have HE := Lib.hid h1
    clear h1 he
    go_enter Tryd.func40, Tryd.ntmps40
    go_wp2_with (fail)
    refine (uend_any u s l 0 w hs HU.out).mono ?_
    rw [HE.out]
    rintro e w' ⟨rfl, n, rfl⟩
    go_wp2
    go_ret
    exact ⟨rfl, HU.out.drewN n, grown_drewN (grown_refl _ _) n⟩
  · have h2 : Wire.tEnd l er = er := by
      unfold Wire.tEnd at h1 ⊢
      by_cases h0 : er = 0
      · subst h0
        rw [if_neg (by simp)] at h1 ⊢
        by_cases hl : l = []
        · rw [if_pos hl]
        · rw [if_neg hl] at h1; exact absurd rfl h1
      · rw [if_pos h0]
    have h3 : (er != 22) = true := by simpa using he
    have HE := Lib.hid h2
    clear h1 h2 he
    go_enter Tryd.func40, Tryd.ntmps40
    go_wp2_with (fail)
    refine (uend_any u s l er w hs HU.out).mono ?_
    rw [HE.out]
    rintro e w' ⟨rfl, n, rfl⟩
    go_wp2
    go_ret
    exact ⟨rfl, HU.out.drewN n, grown_drewN (grown_refl _ _) n⟩
/-- what list answers: the number ahead, then as many numbers as it tells -/
def listI (most : Nat) (l : List UInt8) (er : Int) : List Int × List UInt8 × Int :=
  if (Wire.tInt l er).1 < 0 ∨ (most : Int) < (Wire.tInt l er).1 then ([], (Wire.tInt l er).2.1, 21) else takeI (Wire.tInt l er).1.toNat (Wire.tInt l er).2.1 (Wire.tInt l er).2.2
def listT (most : Nat) (l : List UInt8) (er : Int) : List ByteArray × List UInt8 × Int :=
  if (Wire.tInt l er).1 < 0 ∨ (most : Int) < (Wire.tInt l er).1 then ([], (Wire.tInt l er).2.1, 21) else takeT (Wire.tInt l er).1.toNat (Wire.tInt l er).2.1 (Wire.tInt l er).2.2
def ListPost (u : Nat) (s : ByteArray) (ty : TypeId) (R : List Value × List UInt8 × Int) (w : World) (e : Ending) (w' : World) : Prop :=
  ∃ v, e = .returned (.tuple #[v, .int .i64 R.2.2]) ∧ w'.ownsRow w.heap.size ty 1 v R.1.length R.1 ∧ (R.2.2 = 21 ∨ UnIs w' u s R.2.1 R.2.2) ∧ w.grownBy w' (some u)
set_option maxRecDepth 100000 in
set_option maxHeartbeats 4000000 in
theorem list_ints (u most : Nat) (s : ByteArray) (l : List UInt8) (er : Int) (w : World) (hs : s.size ≤ 140737488351232) (hm : most ≤ 16777216) (hU : UnIs w u s l er) (he : er ≠ 22) :
    Calls Tryd.prog 28 #[.pointer (some ⟨u, 0, none⟩), .int .i64 most, .func (.func 27) #[.pointer (some ⟨u, 0, none⟩)] #[]] w
      (ListPost u s 3 ((listI most l er).1.map (Value.int .i64), (listI most l er).2) w) := by
  obtain ⟨i0, hi, hz0, hz1, hz2⟩ := info_parts infoInt
  have huB := hU.1
  have HU := Lib.hid hU
  have HE := Lib.hid he
  obtain ⟨B, hB⟩ : ∃ B, B = w.heap.size := ⟨_, rfl⟩
  rw [← hB] at huB
  have HB := Lib.hid hB
  obtain ⟨n, l1, e1, hti⟩ : ∃ n l1 e1, Wire.tInt l er = (n, l1, e1) := ⟨_, _, _, rfl⟩
  have he1 : e1 ≠ 22 := by have := tInt22 (l := l) he; rw [hti] at this; exact this
  have HTI := Lib.hid hti
  have HE1 := Lib.hid he1
  have HLI : Hid (listI most l er = if n < 0 ∨ (most : Int) < n then ([], l1, 21) else takeI n.toNat l1 e1) := Lib.hid (by unfold listI; rw [hti])
  clear hU he hB hti he1
  go_enter Tryd.func28, Tryd.ntmps28
  go_wp2_with (fail)
  refine (uint_any u s l er w hs HU.out).mono ?_
  rw [HTI.out]
  rintro e w1 ⟨rfl, hU1, hg1⟩
  have U1 := Lib.hid hU1
  have G1 := Lib.hid hg1
  clear hU1 hg1
  by_cases h0 : n < 0
  · have HN := Lib.hid (show listI most l er = ([], l1, 21) by rw [HLI.out, if_pos (.inl h0)])
    go_wp2
    go_ret2
    exact ⟨.slice none 0 0, by rw [HN.out]; rfl, by rw [HN.out]; exact ⟨rfl, .inl ⟨rfl, rfl⟩⟩, .inl (by rw [HN.out]), G1.out⟩
  · by_cases h1 : (most : Int) < n
    · have HN := Lib.hid (show listI most l er = ([], l1, 21) by rw [HLI.out, if_pos (.inr h1)])
      go_wp2
      go_ret2
      exact ⟨.slice none 0 0, by rw [HN.out]; rfl, by rw [HN.out]; exact ⟨rfl, .inl ⟨rfl, rfl⟩⟩, .inl (by rw [HN.out]), G1.out⟩
    · obtain ⟨N, rfl⟩ : ∃ N : Nat, n = (N : Int) := ⟨n.toNat, by omega⟩
      have HN := Lib.hid (show listI most l er = takeI N l1 e1 by rw [HLI.out, if_neg (by omega)]; rfl)
      have hNm : N ≤ most := by omega
      have hd1 : decide ((N : Int) < 0) = false := decide_eq_false (by omega)
      have hd2 : decide (most < N) = false := decide_eq_false (by omega)
      have hd3 : ¬ most < N := by omega
      go_wp2_with (fail)
      have HI := Lib.hid hi
      have HZ0 := Lib.hid hz0
      have HZ1 := Lib.hid hz1
      have HZ2 := Lib.hid hz2
      have HMM := Lib.hid (And.intro hm hNm)
      clear hi hz0 hz1 hz2 hm hNm h1 h0 HLI HTI
      go_loopg [8, 21] N (fun m s8 s21 wr => ∃ (j : Nat) (acc : List Int) (l' : List UInt8) (e' : Int), j ≤ N ∧ Hid (m = N - j) ∧ s21 = .int .i64 (j : Int) ∧ Hid (takeI N l1 e1 = (acc ++ (takeI (N - j) l' e').1, (takeI (N - j) l' e').2)) ∧ Hid (acc.length = j ∧ e' ≠ 22) ∧ Hid (UnIs wr u s l' e') ∧ Hid (wr.ownsRow B 3 1 s8 acc.length (acc.map (Value.int .i64))) ∧ Hid (w.grownBy wr (some u)))
      case atStart => exact ⟨0, [], l1, e1, by omega, rfl, rfl, by show _ = _; simp, ⟨rfl, HE1.out⟩, U1, ⟨rfl, .inl ⟨rfl, rfl⟩⟩, G1⟩
      case round =>
        obtain ⟨j, acc, l', e', hj, HJ, rfl, HT, HAJ, U2, HO, G2⟩ := hrel
        clear U1 G1 HE1
        by_cases hlt : j < N
        · obtain ⟨x, l2, e2, hx⟩ : ∃ x l2 e2, Wire.tInt l' e' = (x, l2, e2) := ⟨_, _, _, rfl⟩
          have he2 : e2 ≠ 22 := by have := tInt22 (l := l') HAJ.out.2; rw [hx] at this; exact this
          have HX := Lib.hid hx
          have HE2 := Lib.hid he2
          clear hx he2
          go_wp2_with (fail)
          refine (uint_any u s l' e' wr hs U2.out).mono ?_
          rw [HX.out]
          rintro e w2 ⟨rfl, hU3, hg3⟩
          have U3 := Lib.hid hU3
          have G3 := Lib.hid (grown_trans G2.out hg3)
          have HO3 := Lib.hid (ownsRow_grown HO.out hg3 huB)
          clear hU3 hg3 U2 G2 HO
          go_wp2_with (fail)
          refine (fault_any u s l2 e2 w2 hs U3.out HE2.out).mono ?_
          rintro e w3 ⟨rfl, hU4, hg4⟩
          have U4 := Lib.hid hU4
          have G4 := Lib.hid (grown_trans G3.out hg4)
          have HO4 := Lib.hid (ownsRow_grown HO3.out hg4 huB)
          clear hU4 hg4 U3 G3 HO3
          by_cases hz : e2 = 0
          · subst hz
            have HT2 : Hid (takeI N l1 e1 = ((acc ++ [x]) ++ (takeI (N - (j + 1)) l2 0).1, (takeI (N - (j + 1)) l2 0).2)) := Lib.hid (by
              rw [HT.out, show N - j = (N - (j + 1)) + 1 by omega, takeI_ok HX.out]
              simp)
            have HHB := Lib.hid HO4.out
            have hjb : j ≤ 16777216 := by have := HMM.out.1; have := HMM.out.2; omega
            have HBZ : Hid (B ≤ w3.heap.size) := Lib.hid (by have := G4.out.size; have := HB.out; omega)
            go_wp2_with (at_builtin; refine wpList_append_own _ rfl _ _ 22 rfl B 3 i0 (.int .i64 0) 1 8 Tryd.underlying22 HI.out HZ0.out HZ1.out HZ2.out rfl (by decide) _ _ _ rfl (HHB.out.alloc _) ⟨w3.heap.size, 0, none⟩ 1 1 [.int .i64 x] rfl rfl ?c1 ?c2 ?c3 ?c4 ?c5 ?_)
            case c1 =>
              intro k v hk
              match k, hk with
              | 0, hk => simp at hk; subst hk; simp [Addr.add]
            case c2 => first | rfl | (intro v hv; simp at hv; subst hv; rfl)
            case c3 => have := HBZ.out; have := HAJ.out.1; have := HMM.out.1; have := HMM.out.2; (try unfold maxLen); omega
            case c4 => have := HBZ.out; have := HAJ.out.1; have := HMM.out.1; have := HMM.out.2; (try unfold maxLen); omega
            case c5 => have := HBZ.out; have := HAJ.out.1; have := HMM.out.1; have := HMM.out.2; (try simp); omega
            intro v' w4 hown' hgrow' _
            have U5 := Lib.hid (un_app U4.out huB HHB.out hgrow')
            have G5 := Lib.hid (by have h := HHB.out; rw [HB.out] at h; exact grown_app G4.out h hgrow')
            have HO5 : Hid (w4.ownsRow B 3 1 v' (acc ++ [x]).length ((acc ++ [x]).map (Value.int .i64))) := Lib.hid (by
              rw [List.length_append, List.map_append]; exact hown')
            clear hown' hgrow' U4 G4 HO4 HHB
            go_wp2
            go_roundg (N - (j + 1))
            case measure => have := HJ.out; omega
            case rel => exact ⟨j + 1, acc ++ [x], l2, 0, by omega, rfl, by go_num, HT2.out, ⟨by have := HAJ.out.1; simp; omega, by decide⟩, U5, HO5, G5⟩
          · have t0 : (e2 != 0) = true := by simpa using hz
            have HR : Hid (listI most l er = (acc, l2, e2)) := Lib.hid (by
              rw [HN.out, HT.out, show N - j = (N - (j + 1)) + 1 by omega, takeI_bad HX.out hz]
              simp)
            clear hz
            go_wp2_with (fail)
            refine (fault_any u s l2 e2 w3 hs U4.out HE2.out).mono ?_
            rintro e w5 ⟨rfl, hU6, hg6⟩
            have U6 := Lib.hid hU6
            have G6 := Lib.hid (grown_trans G4.out hg6)
            have HO6 := Lib.hid (ownsRow_grown HO4.out hg6 huB)
            clear hU6 hg6 U4 G4 HO4
            go_wp2
            go_ret2
            exact ⟨_, by rw [HR.out]; rfl, by rw [HR.out, ← HB.out, List.length_map]; exact HO6.out, .inr (by rw [HR.out]; exact U6.out), G6.out⟩
        · obtain rfl : j = N := by omega
          have HR : Hid (listI most l er = (acc, l', e')) := Lib.hid (by
            rw [HN.out, HT.out, Nat.sub_self]
            simp [takeI])
          go_wp2_with (fail)
          refine (fault_any u s l' e' wr hs U2.out HAJ.out.2).mono ?_
          rintro e w5 ⟨rfl, hU6, hg6⟩
          have U6 := Lib.hid hU6
          have G6 := Lib.hid (grown_trans G2.out hg6)
          have HO6 := Lib.hid (ownsRow_grown HO.out hg6 huB)
          clear hU6 hg6 U2 G2 HO
          go_wp2
          go_ret2
          exact ⟨_, by rw [HR.out]; rfl, by rw [HR.out, ← HB.out, List.length_map]; exact HO6.out, .inr (by rw [HR.out]; exact U6.out), G6.out⟩
set_option maxRecDepth 100000 in
set_option maxHeartbeats 4000000 in
theorem list_texts (u most : Nat) (s : ByteArray) (l : List UInt8) (er : Int) (w : World) (hs : s.size ≤ 140737488351232) (hm : most ≤ 16777216) (hU : UnIs w u s l er) (he : er ≠ 22) :
    Calls Tryd.prog 29 #[.pointer (some ⟨u, 0, none⟩), .int .i64 most, .func (.func 30) #[.pointer (some ⟨u, 0, none⟩)] #[]] w
      (ListPost u s 9 ((listT most l er).1.map Value.string, (listT most l er).2) w) := by
  obtain ⟨i0, hi, hz0, hz1, hz2⟩ := info_parts infoStr
  have huB := hU.1
  have HU := Lib.hid hU
  have HE := Lib.hid he
  obtain ⟨B, hB⟩ : ∃ B, B = w.heap.size := ⟨_, rfl⟩
  rw [← hB] at huB
  have HB := Lib.hid hB
  obtain ⟨n, l1, e1, hti⟩ : ∃ n l1 e1, Wire.tInt l er = (n, l1, e1) := ⟨_, _, _, rfl⟩
  have he1 : e1 ≠ 22 := by have := tInt22 (l := l) he; rw [hti] at this; exact this
  have HTI := Lib.hid hti
  have HE1 := Lib.hid he1
  have HLI : Hid (listT most l er = if n < 0 ∨ (most : Int) < n then ([], l1, 21) else takeT n.toNat l1 e1) := Lib.hid (by unfold listT; rw [hti])
  clear hU he hB hti he1
  go_enter Tryd.func29, Tryd.ntmps29
  go_wp2_with (fail)
  refine (uint_any u s l er w hs HU.out).mono ?_
  rw [HTI.out]
  rintro e w1 ⟨rfl, hU1, hg1⟩
  have U1 := Lib.hid hU1
  have G1 := Lib.hid hg1
  clear hU1 hg1
  by_cases h0 : n < 0
  · have HN := Lib.hid (show listT most l er = ([], l1, 21) by rw [HLI.out, if_pos (.inl h0)])
    go_wp2
    go_ret2
    exact ⟨.slice none 0 0, by rw [HN.out]; rfl, by rw [HN.out]; exact ⟨rfl, .inl ⟨rfl, rfl⟩⟩, .inl (by rw [HN.out]), G1.out⟩
  · by_cases h1 : (most : Int) < n
    · have HN := Lib.hid (show listT most l er = ([], l1, 21) by rw [HLI.out, if_pos (.inr h1)])
      go_wp2
      go_ret2
      exact ⟨.slice none 0 0, by rw [HN.out]; rfl, by rw [HN.out]; exact ⟨rfl, .inl ⟨rfl, rfl⟩⟩, .inl (by rw [HN.out]), G1.out⟩
    · obtain ⟨N, rfl⟩ : ∃ N : Nat, n = (N : Int) := ⟨n.toNat, by omega⟩
      have HN := Lib.hid (show listT most l er = takeT N l1 e1 by rw [HLI.out, if_neg (by omega)]; rfl)
      have hNm : N ≤ most := by omega
      have hd1 : decide ((N : Int) < 0) = false := decide_eq_false (by omega)
      have hd2 : decide (most < N) = false := decide_eq_false (by omega)
      have hd3 : ¬ most < N := by omega
      go_wp2_with (fail)
      have HI := Lib.hid hi
      have HZ0 := Lib.hid hz0
      have HZ1 := Lib.hid hz1
      have HZ2 := Lib.hid hz2
      have HMM := Lib.hid (And.intro hm hNm)
      clear hi hz0 hz1 hz2 hm hNm h1 h0 HLI HTI
      go_loopg [8, 21] N (fun m s8 s21 wr => ∃ (j : Nat) (acc : List ByteArray) (l' : List UInt8) (e' : Int), j ≤ N ∧ Hid (m = N - j) ∧ s21 = .int .i64 (j : Int) ∧ Hid (takeT N l1 e1 = (acc ++ (takeT (N - j) l' e').1, (takeT (N - j) l' e').2)) ∧ Hid (acc.length = j ∧ e' ≠ 22) ∧ Hid (UnIs wr u s l' e') ∧ Hid (wr.ownsRow B 9 1 s8 acc.length (acc.map Value.string)) ∧ Hid (w.grownBy wr (some u)))
      case atStart => exact ⟨0, [], l1, e1, by omega, rfl, rfl, by show _ = _; simp, ⟨rfl, HE1.out⟩, U1, ⟨rfl, .inl ⟨rfl, rfl⟩⟩, G1⟩
      case round =>
        obtain ⟨j, acc, l', e', hj, HJ, rfl, HT, HAJ, U2, HO, G2⟩ := hrel
        clear U1 G1 HE1
        by_cases hlt : j < N
        · obtain ⟨x, l2, e2, hx⟩ : ∃ x l2 e2, Wire.tText l' e' = (x, l2, e2) := ⟨_, _, _, rfl⟩
          have he2 : e2 ≠ 22 := by have := tText22 (l := l') HAJ.out.2; rw [hx] at this; exact this
          have HX := Lib.hid hx
          have HE2 := Lib.hid he2
          clear hx he2
          go_wp2_with (fail)
          refine (utext_any u s l' e' wr hs U2.out).mono ?_
          rw [HX.out]
          rintro e w2 ⟨rfl, hU3, hg3⟩
          have U3 := Lib.hid hU3
          have G3 := Lib.hid (grown_trans G2.out hg3)
          have HO3 := Lib.hid (ownsRow_grown HO.out hg3 huB)
          clear hU3 hg3 U2 G2 HO
          go_wp2_with (fail)
          refine (fault_any u s l2 e2 w2 hs U3.out HE2.out).mono ?_
          rintro e w3 ⟨rfl, hU4, hg4⟩
          have U4 := Lib.hid hU4
          have G4 := Lib.hid (grown_trans G3.out hg4)
          have HO4 := Lib.hid (ownsRow_grown HO3.out hg4 huB)
          clear hU4 hg4 U3 G3 HO3
          by_cases hz : e2 = 0
          · subst hz
            have HT2 : Hid (takeT N l1 e1 = ((acc ++ [S x]) ++ (takeT (N - (j + 1)) l2 0).1, (takeT (N - (j + 1)) l2 0).2)) := Lib.hid (by
              rw [HT.out, show N - j = (N - (j + 1)) + 1 by omega, takeT_ok HX.out]
              simp)
            have HHB := Lib.hid HO4.out
            have hjb : j ≤ 16777216 := by have := HMM.out.1; have := HMM.out.2; omega
            have HBZ : Hid (B ≤ w3.heap.size) := Lib.hid (by have := G4.out.size; have := HB.out; omega)
            go_wp2_with (at_builtin; refine wpList_append_own _ rfl _ _ 23 rfl B 9 i0 (.string ⟨#[]⟩) 1 16 Tryd.underlying23 HI.out HZ0.out HZ1.out HZ2.out rfl (by decide) _ _ _ rfl (HHB.out.alloc _) ⟨w3.heap.size, 0, none⟩ 1 1 [.string (S x)] rfl rfl ?c1 ?c2 ?c3 ?c4 ?c5 ?_)
            case c1 =>
              intro k v hk
              match k, hk with
              | 0, hk => simp at hk; subst hk; simp [Addr.add]
            case c2 => first | rfl | (intro v hv; simp at hv; subst hv; rfl)
            case c3 => have := HBZ.out; have := HAJ.out.1; have := HMM.out.1; have := HMM.out.2; (try unfold maxLen); omega
            case c4 => have := HBZ.out; have := HAJ.out.1; have := HMM.out.1; have := HMM.out.2; (try unfold maxLen); omega
            case c5 => have := HBZ.out; have := HAJ.out.1; have := HMM.out.1; have := HMM.out.2; (try simp); omega
            intro v' w4 hown' hgrow' _
            have U5 := Lib.hid (un_app U4.out huB HHB.out hgrow')
            have G5 := Lib.hid (by have h := HHB.out; rw [HB.out] at h; exact grown_app G4.out h hgrow')
            have HO5 : Hid (w4.ownsRow B 9 1 v' (acc ++ [S x]).length ((acc ++ [S x]).map Value.string)) := Lib.hid (by
              rw [List.length_append, List.map_append]; exact hown')
            clear hown' hgrow' U4 G4 HO4 HHB
            go_wp2
            go_roundg (N - (j + 1))
            case measure => have := HJ.out; omega
            case rel => exact ⟨j + 1, acc ++ [S x], l2, 0, by omega, rfl, by go_num, HT2.out, ⟨by have := HAJ.out.1; simp; omega, by decide⟩, U5, HO5, G5⟩
          · have t0 : (e2 != 0) = true := by simpa using hz
            have HR : Hid (listT most l er = (acc, l2, e2)) := Lib.hid (by
              rw [HN.out, HT.out, show N - j = (N - (j + 1)) + 1 by omega, takeT_bad HX.out hz]
              simp)
            clear hz
            go_wp2_with (fail)
            refine (fault_any u s l2 e2 w3 hs U4.out HE2.out).mono ?_
            rintro e w5 ⟨rfl, hU6, hg6⟩
            have U6 := Lib.hid hU6
            have G6 := Lib.hid (grown_trans G4.out hg6)
            have HO6 := Lib.hid (ownsRow_grown HO4.out hg6 huB)
            clear hU6 hg6 U4 G4 HO4
            go_wp2
            go_ret2
            exact ⟨_, by rw [HR.out]; rfl, by rw [HR.out, ← HB.out, List.length_map]; exact HO6.out, .inr (by rw [HR.out]; exact U6.out), G6.out⟩
        · obtain rfl : j = N := by omega
          have HR : Hid (listT most l er = (acc, l', e')) := Lib.hid (by
            rw [HN.out, HT.out, Nat.sub_self]
            simp [takeT])
          go_wp2_with (fail)
          refine (fault_any u s l' e' wr hs U2.out HAJ.out.2).mono ?_
          rintro e w5 ⟨rfl, hU6, hg6⟩
          have U6 := Lib.hid hU6
          have G6 := Lib.hid (grown_trans G2.out hg6)
          have HO6 := Lib.hid (ownsRow_grown HO.out hg6 huB)
          clear hU6 hg6 U2 G2 HO
          go_wp2
          go_ret2
          exact ⟨_, by rw [HR.out]; rfl, by rw [HR.out, ← HB.out, List.length_map]; exact HO6.out, .inr (by rw [HR.out]; exact U6.out), G6.out⟩
end Go.Proofs.YtndcmjgjecdgcaaDoor
