/- where.Near. -/
import Derived.Test.YtjjmflkdfgneoaaNear1
import Derived.Test.YtjjmflkdfgneoaaWhereFnsB
import Derived.Laws.MakeOwn
import Derived.Test.YtjjmflkdfgneoaaSlices
namespace Go.Proofs.Ytjjmflkdfgneoaa
open Go.RowKit Go.Lib Go.Sort Go.Shelf

theorem info64n : (Try.prog.info? 3).map (fun i => (i.zero, i.size, i.bytes)) = some (some (.int .i64 0), 1, 8) := by kernel_rfl
theorem make64 (n : Nat) (hn : n ≤ 35184372088832) : ∀ w : World, (Instr.makeSlice 28 (.int .i64 (n : Int)) (.int .i64 (n : Int))).run Try.prog w =
    .ok (.slice (some ⟨w.heap.size, 0, none⟩) n n) (w.alloc (.cells (madeCells #[.int .i64 0] n) 3)) := by
  intro w
  obtain ⟨i, hi, hz0, hz1, hz2⟩ := info_parts info64n
  have := run_make (P := Try.prog) w 28 3 i (.int .i64 0) Try.underlying28 hi hz0 .i64 .i64 n n (by omega) (by omega) (by rw [hz2]; omega) (by omega)
  simpa [hz1, Value.cells] using this
/-- the worlds that the loop passes: the numbers and the distances, as far as they are written -/
structure NearW (W : World) (n k : Nat) (D : Nat → Int) (wr : World) : Prop where
  size : wr.heap.size = W.heap.size + 3
  below : Below W.heap.size W wr
  num : ∀ i, i < n → wr.cell? ⟨W.heap.size, i, none⟩ = some (.int .i64 (if i < k then (i : Int) else 0)) ∧ wr.frozen? ⟨W.heap.size, i, none⟩ = false
  dist : ∀ i, i < n → wr.cell? ⟨W.heap.size + 1, i, none⟩ = some (.int .i64 (if i < k then D i else 0)) ∧ wr.frozen? ⟨W.heap.size + 1, i, none⟩ = false
  box : wr.cell? ⟨W.heap.size + 2, 0, none⟩ = some (.slice (some ⟨W.heap.size + 1, 0, none⟩) n n)
def farI (x : Int) : Int := if x < 0 then 9223372036854775807 else x
theorem cell_other {w : World} {a b : Addr} {v : Value} (h : a ≠ b) : (w.setCell a v).cell? b = w.cell? b := by
  apply World.cell?_setCell_other
  exact h
theorem cell_same {w : World} {a : Addr} {u v : Value} (h : w.cell? a = some u) : (w.setCell a v).cell? a = some v := by
  apply World.cell?_setCell_same
  exact h
theorem NearW.step {W wr : World} {n k : Nat} {D : Nat → Int} {z : Int} (h : NearW W n k D wr) (hk : k < n) (v : Int) (hv : v = D k) {wx : World}
    (hx : wx = ((wr.setCell ⟨W.heap.size, k, none⟩ (.int .i64 (k : Int))).setCell ⟨W.heap.size + 1, k, none⟩ (.int .i64 z)).drew) : NearW W n (k + 1) D (wx.setCell ⟨W.heap.size + 1, k, none⟩ (.int .i64 v)) := by
  have h1 := h.num
  have h2 := h.dist
  have hs := h.size
  subst hx
  have nb : ∀ i, (⟨W.heap.size + 1, k, none⟩ : Addr) ≠ ⟨W.heap.size, i, none⟩ := fun i e => by have := congrArg Addr.block e; simp at this
  have nb2 : ∀ i, (⟨W.heap.size, k, none⟩ : Addr) ≠ ⟨W.heap.size + 1, i, none⟩ := fun i e => by have := congrArg Addr.block e; simp at this
  have no : ∀ (m i : Nat), i ≠ k → (⟨m, k, none⟩ : Addr) ≠ ⟨m, i, none⟩ := fun m i e f => by have := congrArg Addr.off f; simp at this; omega
  refine ⟨by simp [hs], ?_, fun i hi => ?_, fun i hi => ?_, ?_⟩
  · exact (((h.below.setCell (Nat.le_refl _) _).setCell (Nat.le_succ _) _).drew).setCell (Nat.le_succ _) _
  · refine ⟨?_, by simp [h1 i hi]⟩
    rw [cell_other (nb i), World.cell?_drew, cell_other (nb i)]
    by_cases e : i = k
    · subst e
      rw [cell_same (h1 i hi).1, if_pos (Nat.lt_succ_self i)]
    · rw [cell_other (no _ _ e), (h1 i hi).1]
      by_cases f : i < k
      · rw [if_pos f, if_pos (by omega)]
      · rw [if_neg f, if_neg (by omega)]
  · refine ⟨?_, by simp [h2 i hi]⟩
    by_cases e : i = k
    · subst e
      have c := h2 i hi
      have c' := (cell_other (w := wr) (v := .int .i64 (i : Int)) (nb2 i)).trans c.1
      have c2 := cell_same (v := .int .i64 z) c'
      rw [cell_same (u := .int .i64 z) (by rw [World.cell?_drew]; exact c2), if_pos (Nat.lt_succ_self i), hv]
    · rw [cell_other (no _ _ e), World.cell?_drew, cell_other (no _ _ e), cell_other (nb2 i), (h2 i hi).1]
      by_cases f : i < k
      · rw [if_pos f, if_pos (by omega)]
      · rw [if_neg f, if_neg (by omega)]
  · have n1 : (⟨W.heap.size + 1, k, none⟩ : Addr) ≠ ⟨W.heap.size + 2, 0, none⟩ := fun e => by have := congrArg Addr.block e; simp at this
    have n2 : (⟨W.heap.size, k, none⟩ : Addr) ≠ ⟨W.heap.size + 2, 0, none⟩ := fun e => by have := congrArg Addr.block e; simp at this
    rw [cell_other n1, World.cell?_drew, cell_other n1, cell_other n2]
    exact h.box
theorem NearW.step0 {W wr : World} {n k : Nat} {D : Nat → Int} {z : Int} (h : NearW W n k D wr) (hk : k < n) (hv : z = D k) {wx : World}
    (hx : wx = ((wr.setCell ⟨W.heap.size, k, none⟩ (.int .i64 (k : Int))).setCell ⟨W.heap.size + 1, k, none⟩ (.int .i64 z)).drew) : NearW W n (k + 1) D wx := by
  have h1 := h.num
  have h2 := h.dist
  have hs := h.size
  subst hx
  have nb : ∀ i, (⟨W.heap.size + 1, k, none⟩ : Addr) ≠ ⟨W.heap.size, i, none⟩ := fun i e => by have := congrArg Addr.block e; simp at this
  have nb2 : ∀ i, (⟨W.heap.size, k, none⟩ : Addr) ≠ ⟨W.heap.size + 1, i, none⟩ := fun i e => by have := congrArg Addr.block e; simp at this
  have no : ∀ (m i : Nat), i ≠ k → (⟨m, k, none⟩ : Addr) ≠ ⟨m, i, none⟩ := fun m i e f => by have := congrArg Addr.off f; simp at this; omega
  refine ⟨by simp [hs], ?_, fun i hi => ?_, fun i hi => ?_, ?_⟩
  · exact ((h.below.setCell (Nat.le_refl _) _).setCell (Nat.le_succ _) _).drew
  · refine ⟨?_, by simp [h1 i hi]⟩
    rw [World.cell?_drew, cell_other (nb i)]
    by_cases e : i = k
    · subst e
      rw [cell_same (h1 i hi).1, if_pos (Nat.lt_succ_self i)]
    · rw [cell_other (no _ _ e), (h1 i hi).1]
      by_cases f : i < k
      · rw [if_pos f, if_pos (by omega)]
      · rw [if_neg f, if_neg (by omega)]
  · refine ⟨?_, by simp [h2 i hi]⟩
    by_cases e : i = k
    · subst e
      have c := h2 i hi
      have c' := (cell_other (w := wr) (v := .int .i64 (i : Int)) (nb2 i)).trans c.1
      have c2 := cell_same (v := .int .i64 z) c'
      rw [World.cell?_drew, c2, if_pos (Nat.lt_succ_self i), hv]
    · rw [World.cell?_drew, cell_other (no _ _ e), cell_other (nb2 i), (h2 i hi).1]
      by_cases f : i < k
      · rw [if_pos f, if_pos (by omega)]
      · rw [if_neg f, if_neg (by omega)]
  · have n1 : (⟨W.heap.size + 1, k, none⟩ : Addr) ≠ ⟨W.heap.size + 2, 0, none⟩ := fun e => by have := congrArg Addr.block e; simp at this
    have n2 : (⟨W.heap.size, k, none⟩ : Addr) ≠ ⟨W.heap.size + 2, 0, none⟩ := fun e => by have := congrArg Addr.block e; simp at this
    rw [World.cell?_drew, cell_other n1, cell_other n2]
    exact h.box
theorem NearW.other {W wr : World} {n k : Nat} {D D' : Nat → Int} (h : NearW W n k D wr) (e : ∀ i, i < k → D' i = D i) : NearW W n k D' wr :=
  ⟨h.size, h.below, h.num, fun i hi => ⟨by
    rw [(h.dist i hi).1]
    by_cases f : i < k
    · rw [if_pos f, if_pos f, e i f]
    · rw [if_neg f, if_neg f], (h.dist i hi).2⟩, h.box⟩
/-- what the world says behind the two stores -/
theorem NearW.mid {W wr : World} {n k : Nat} {D : Nat → Int} {z : Int} (h : NearW W n k D wr) (hk : k < n) {wx : World}
    (hx : wx = ((wr.setCell ⟨W.heap.size, k, none⟩ (.int .i64 (k : Int))).setCell ⟨W.heap.size + 1, k, none⟩ (.int .i64 z)).drew) :
    wx.cell? ⟨W.heap.size + 2, 0, none⟩ = some (.slice (some ⟨W.heap.size + 1, 0, none⟩) n n) ∧ wx.cell? ⟨W.heap.size + 1, k, none⟩ = some (.int .i64 z) ∧ wx.frozen? ⟨W.heap.size + 1, k, none⟩ = false := by
  have h2 := (h.other (D' := fun i => if i = k then z else D i) (fun i hi => if_neg (by omega))).step0 (z := z) hk (by simp) hx
  refine ⟨h2.box, ?_, (h2.dist k hk).2⟩
  rw [(h2.dist k hk).1, if_pos (Nat.lt_succ_self k)]
  simp
theorem NearW.start (W : World) (n : Nat) (D : Nat → Int) : NearW W n 0 D (((W.alloc (.cells (madeCells #[.int .i64 0] n) 3)).alloc (.cells (madeCells #[.int .i64 0] n) 3)).alloc (.cells #[.slice (some ⟨W.heap.size + 1, 0, none⟩) n n] 28)) := by
  have hz : ∀ i, i < n → (madeCells #[.int .i64 0] n)[i]? = some (Value.int .i64 0) := fun i hi => by
    simp [madeCells, hi, Nat.mod_one]
  have push3 : ∀ (h : Array Obj) (x y z : Obj), (((h.push x).push y).push z)[h.size]? = some x ∧ (((h.push x).push y).push z)[h.size + 1]? = some y ∧ (((h.push x).push y).push z)[h.size + 2]? = some z := fun h x y z => by
    refine ⟨?_, ?_, ?_⟩ <;> (simp only [Array.getElem?_push, Array.size_push]; first | (simp; done) | (simp; intro e; omega))
  have p3 := push3 W.heap (.cells (madeCells #[.int .i64 0] n) 3) (.cells (madeCells #[.int .i64 0] n) 3) (.cells #[.slice (some ⟨W.heap.size + 1, 0, none⟩) n n] 28)
  have q0 : ((((W.alloc (.cells (madeCells #[.int .i64 0] n) 3)).alloc (.cells (madeCells #[.int .i64 0] n) 3)).alloc (.cells #[.slice (some ⟨W.heap.size + 1, 0, none⟩) n n] 28))).heap[W.heap.size]? = some (.cells (madeCells #[.int .i64 0] n) 3) := p3.1
  have q1 : ((((W.alloc (.cells (madeCells #[.int .i64 0] n) 3)).alloc (.cells (madeCells #[.int .i64 0] n) 3)).alloc (.cells #[.slice (some ⟨W.heap.size + 1, 0, none⟩) n n] 28))).heap[W.heap.size + 1]? = some (.cells (madeCells #[.int .i64 0] n) 3) := p3.2.1
  have q2 : ((((W.alloc (.cells (madeCells #[.int .i64 0] n) 3)).alloc (.cells (madeCells #[.int .i64 0] n) 3)).alloc (.cells #[.slice (some ⟨W.heap.size + 1, 0, none⟩) n n] 28))).heap[W.heap.size + 2]? = some (.cells #[.slice (some ⟨W.heap.size + 1, 0, none⟩) n n] 28) := p3.2.2
  refine ⟨by simp, ?_, fun i hi => ⟨?_, ?_⟩, fun i hi => ⟨?_, ?_⟩, ?_⟩
  · exact (((Below.refl _ _).alloc (Nat.le_refl _) _).alloc (by simp) _).alloc (by simp; omega) _
  · simp only [World.cell?, q0]; simp [hz i hi]
  · simp only [World.frozen?, q0]; simp
  · simp only [World.cell?, q1]; simp [hz i hi]
  · simp only [World.frozen?, q1]; simp
  · simp only [World.cell?, q2]; simp
/-- the sort of the numbers, where there is one at least -/
theorem near_sort {W wr : World} {n : Nat} {D : Nat → Int} (hn0 : 0 < n) (hn : n ≤ 35184372088832) (h : NearW W n n D wr) :
    letI : Inhabited (Fin n) := ⟨⟨0, hn0⟩⟩
    Calls Try.prog 25 #[.slice (some ⟨W.heap.size, 0, none⟩) n n, .func (.func 26) #[] #[.pointer (some ⟨W.heap.size + 2, 0, none⟩)]] wr fun e w' => e = .returned (.tuple #[]) ∧ ∃ S' : List (Fin n), Hid (S'.Perm (List.finRange n) ∧ SrtT (fun x : Fin n => D x.val) (fun x : Fin n => x.val) S' ∧ SW (encF n) wr W.heap.size 0 S'.toArray w') := by
  letI : Inhabited (Fin n) := ⟨⟨0, hn0⟩⟩
  have e : (List.finRange n).toArray.size = n := by simp
  have hH : Holds (encF n) wr W.heap.size 0 (List.finRange n).toArray := fun j hj => by
    rw [e] at hj
    have h1 := h.num j hj
    rw [if_pos hj] at h1
    rw [Nat.zero_add]
    refine ⟨?_, h1.2⟩
    rw [h1.1, getElem!_pos _ j (by rw [e]; exact hj)]
    simp [encF]
  have hs := h.size
  have R : Row1 (encF n) wr W.heap.size 0 (List.finRange n).toArray := ⟨fun _ => rfl, hH, by omega⟩
  have C := near1_cmp (n := n) n (W.heap.size + 2) (W.heap.size + 1) D wr W.heap.size 0 (by omega) (by omega) (by omega) (by omega) (by omega) h.box (fun i hi => by rw [(h.dist i hi).1, if_pos hi])
  have hc := sortStable_S (num := fun x : Fin n => x.val) R (by rw [e]; omega) n (by rw [e]; exact C) (List.finRange n) wr (Lib.hid (by
    have := List.pairwise_lt_finRange n
    exact this.imp fun h => h)) (Lib.hid (by simp)) (SW.start hH)
  rw [e] at hc
  exact hc
set_option maxRecDepth 100000 in
set_option maxHeartbeats 4000000 in
theorem near_ok (n cap : Nat) (A : Option Addr) (a b : Nat) (ca cb : Nat → Nat) (W : World) (hn0 : 0 < n) (hn : n ≤ 35184372088832) (D : Nat → Int) (hD : D = fun i => farI (distO (plc a b) (plc (ca i) (cb i)))) (hS : SlOf W W.heap.size A n (fun i => .complex .f64 (ca i) (cb i))) :
    Calls Try.prog 23 #[.complex .f64 a b, .slice A n cap] W fun e w' => e = .returned (.slice (some ⟨W.heap.size, 0, none⟩) n n) ∧ ∃ (wr : World) (S' : List (Fin n)), Hid (NearW W n n D wr ∧ S'.Perm (List.finRange n) ∧ SrtT (fun x : Fin n => D x.val) (fun x : Fin n => x.val) S' ∧ @SW (Fin n) ⟨⟨0, hn0⟩⟩ (encF n) wr W.heap.size 0 S'.toArray w') := by
  have mixed : Try.prog.follows Departure.mixedOrders = true := by kernel_rfl
  have b0 : (n : Int) ≤ 9223372036854775807 := by omega
  have hmk := make64 n hn
  have HS := Lib.hid hS
  have HD := Lib.hid hD
  have HN := Lib.hid hn
  clear hD hS
  go_enter Try.func23, Try.ntmps23
  go_wp2_with fail
  clear hmk
  have S0 := NearW.start W n D
  go_loopg [17] n (fun g1 vi wr => ∃ k : Nat, vi = .int .i64 k ∧ Hid (k ≤ n ∧ n - k ≤ g1) ∧ Aside (NearW W n k D wr))
  case atStart => exact ⟨0, rfl, Lib.hid ⟨Nat.zero_le _, by omega⟩, S0⟩
  case round =>
    clear S0
    obtain ⟨k, rfl, HK, S1⟩ := hrel
    by_cases hlt : k < n
    · have hltz : (k : Int) < (n : Int) := by omega
      obtain ⟨bb, off, hA, hB, hc⟩ := HS.out k hlt
      subst hA
      have hcell := (S1.out.below.cell (p := ⟨bb, off + k, none⟩) hB).trans hc
      have c1 := (S1.out.num k hlt).1
      have f1 := (S1.out.num k hlt).2
      have c2 := (S1.out.dist k hlt).1
      have f2 := (S1.out.dist k hlt).2
      have c3 := S1.out.box
      rw [if_neg (Nat.lt_irrefl k)] at c1 c2
      have HLT := Lib.hid hlt
      clear hlt hc
      obtain ⟨M, hM⟩ : ∃ M, M = W.heap.size := ⟨_, rfl⟩
      have HM := Lib.hid hM
      rw [← hM] at c1 c2 c3 f1 f2 ⊢
      clear hM
      go_wp2_with fail
      clear hcell
      have hd := dist_any a b (ca k) (cb k)
      obtain ⟨z, hz⟩ : ∃ z, z = distO (plc a b) (plc (ca k) (cb k)) := ⟨_, rfl⟩
      have HZ := Lib.hid hz
      rw [← hz] at hd
      clear hz
      go_cut [] (fun wx => Hid (wx = ((wr.setCell ⟨M, k, none⟩ (.int .i64 (k : Int))).setCell ⟨M + 1, k, none⟩ (.int .i64 z)).drew))
      case first =>
        go_region_with (go_at_call 10; refine (hd _).mono ?_; rintro e w' ⟨rfl, rfl⟩)
        all_goals first | (go_meet; exact Lib.hid rfl) | (go_wp2; go_meet; exact Lib.hid rfl)
      case rest =>
        have HX := S1.out.mid (z := z) HLT.out (wx := wc) (by rw [← HM.out]; exact hcut.out)
        rw [← HM.out] at HX
        have S2 := hcut
        clear hcut c1 c2 c3 f1 f2 hd
        have x0 := HX.1
        have x1 := HX.2.1
        have x2 := HX.2.2
        have HRW : Hid (wrap64 ((k : Int) + 1) = ((k + 1 : Nat) : Int)) := Lib.hid (by have := HLT.out; have := HN.out; rw [show (k : Int) + 1 = ((k + 1 : Nat) : Int) by omega]; exact IntWalk.wrap64_in _ (by omega))
        clear HX
        by_cases hz : z < 0
        · have S3 : Aside (NearW W n (k + 1) D (wc.setCell ⟨M + 1, k, none⟩ (.int .i64 9223372036854775807))) := by
            have h := S1.out.step (z := z) HLT.out 9223372036854775807 (by rw [HD.out]; show _ = farI _; rw [← HZ.out, farI, if_pos hz]) (wx := wc) (by rw [← HM.out]; exact S2.out)
            rw [← HM.out] at h
            exact h
          go_wp2
          generalize wc.setCell ⟨M + 1, k, none⟩ (.int .i64 9223372036854775807) = w5 at S3 ⊢
          have hm := HM.out
          subst hm
          go_roundg (n - (k + 1))
          case measure => have := HLT.out; have := HK.out; omega
          case rel => exact ⟨k + 1, by first | rfl | rw [HRW.out] | go_num, Lib.hid ⟨HLT.out, Nat.le_refl _⟩, S3⟩
        · have S3 : Aside (NearW W n (k + 1) D wc) := S1.out.step0 (z := z) HLT.out (by rw [HD.out]; show _ = farI _; rw [← HZ.out, farI, if_neg hz]) (by rw [← HM.out]; exact S2.out)
          go_wp2
          have hm := HM.out
          subst hm
          go_roundg (n - (k + 1))
          case measure => have := HLT.out; have := HK.out; omega
          case rel => exact ⟨k + 1, by first | rfl | rw [HRW.out] | go_num, Lib.hid ⟨HLT.out, Nat.le_refl _⟩, S3⟩
    · have hltz : ¬ (k : Int) < (n : Int) := by omega
      have hkn : k = n := by have := HK.out; omega
      have S2 : Aside (NearW W n n D wr) := by rw [← hkn]; rw [← hkn] at S1; exact S1
      have hcall := near_sort hn0 HN.out S2.out
      clear S1
      go_wp2_with fail
      refine hcall.mono ?_
      rintro e w' ⟨rfl, S', HF⟩
      clear hcall
      go_wp2
      first
        | (go_end0; exact ⟨rfl, _, S', Lib.hid ⟨S2.out, HF.out⟩⟩)
        | (go_ret; exact ⟨rfl, _, S', Lib.hid ⟨S2.out, HF.out⟩⟩)
end Go.Proofs.Ytjjmflkdfgneoaa
