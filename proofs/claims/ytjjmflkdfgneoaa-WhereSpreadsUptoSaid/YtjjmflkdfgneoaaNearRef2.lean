/- The reference's Near: the same list as the program's. -/
import Derived.Test.YtjjmflkdfgneoaaNearRef
import Derived.Test.YtjjmflkdfgneoaaNumbers
import Derived.Laws.MakeOwn
import Derived.Deep.AppendLies
namespace Go.Proofs.Ytjjmflkdfgneoaa
open Go.RowKit

theorem infoBool : (Try.prog.info? 4).map (fun i => (i.zero, i.size, i.bytes)) = some (some (.bool false), 1, 1) := by kernel_rfl
theorem makeB (n : Nat) (hn : n ≤ 35184372088832) : ∀ w : World, (Instr.makeSlice 38 (.int .i64 (n : Int)) (.int .i64 (n : Int))).run Try.prog w =
    .ok (.slice (some ⟨w.heap.size, 0, none⟩) n n) (w.alloc (.cells (madeCells #[.bool false] n) 4)) := by
  intro w
  obtain ⟨i, hi, hz0, hz1, hz2⟩ := info_parts infoBool
  have := run_make (P := Try.prog) w 38 4 i (.bool false) Try.underlying38 hi hz0 .i64 .i64 n n (by omega) (by omega) (by rw [hz2]; omega) (by omega)
  simpa [hz1, Value.cells] using this
/-- which numbers are taken behind k rounds -/
def tkB (f : Nat → Nat) (k m : Nat) : Bool := (List.range k).any fun i => f i == m
def tkL (f : Nat → Nat) (n k : Nat) : List Value := (List.range n).map fun m => .bool (tkB f k m)
def outL (f : Nat → Nat) (k : Nat) : List Value := (List.range k).map fun i => .int .i64 (f i : Int)
theorem tkB_iff (f : Nat → Nat) (k m : Nat) : tkB f k m = true ↔ ∃ i, i < k ∧ f i = m := by
  unfold tkB
  rw [List.any_eq_true]
  simp
theorem tkL_set (f : Nat → Nat) (n k : Nat) : (tkL f n k).set (f k) (.bool true) = tkL f n (k + 1) := by
  apply List.ext_getElem
  · simp [tkL]
  · intro j h1 h2
    rw [List.getElem_set]
    simp only [tkL, List.getElem_map, List.getElem_range]
    split
    · rename_i h
      have : tkB f (k + 1) j = true := (tkB_iff _ _ _).2 ⟨k, by omega, h⟩
      rw [this]
    · rename_i h
      congr 1
      rw [Bool.eq_iff_iff, tkB_iff, tkB_iff]
      constructor
      · rintro ⟨i, hi, e⟩; exact ⟨i, by omega, e⟩
      · rintro ⟨i, hi, e⟩
        refine ⟨i, ?_, e⟩
        rcases Nat.lt_or_ge i k with h3 | h3
        · exact h3
        · exact absurd (by rw [show k = i by omega]; exact e) h
/-- i stands ahead of k -/
def TT (D : Nat → Int) (i k : Nat) : Prop := D i < D k ∨ (D i = D k ∧ i < k)
/-- the best among the first j that aren't taken -/
def Best (D : Nat → Int) (f : Nat → Nat) (k j : Nat) (b : Int) : Prop :=
  (b = -1 ∧ ∀ m, m < j → tkB f k m = true) ∨ (∃ m0 : Nat, b = (m0 : Int) ∧ m0 < j ∧ tkB f k m0 = false ∧ ∀ m, m < j → tkB f k m = false → m ≠ m0 → TT D m0 m)
theorem best_fin {D : Nat → Int} {f : Nat → Nat} {n k : Nat} {b : Int} (hf : NearF n D f) (hk : k < n) (h : Best D f k n b) : b = (f k : Int) := by
  obtain ⟨h1, h2, h3⟩ := hf
  have hfk : tkB f k (f k) = false := by
    rw [Bool.eq_false_iff]
    intro h
    obtain ⟨i, hi, e⟩ := (tkB_iff _ _ _).1 h
    have := h3 i k hi hk
    rw [e] at this
    omega
  rcases h with ⟨_, h⟩ | ⟨m0, rfl, hm0, ht, hb⟩
  · rw [h _ (h1 k hk)] at hfk; cases hfk
  · obtain ⟨i, hi, rfl⟩ := h2 m0 hm0
    have hik : k ≤ i := by
      rcases Nat.lt_or_ge i k with h | h
      · have : tkB f k (f i) = true := (tkB_iff _ _ _).2 ⟨i, h, rfl⟩
        rw [this] at ht; cases ht
      · exact h
    rcases Nat.lt_or_ge k i with h | h
    · exfalso
      have h4 := h3 k i h hi
      by_cases he : f k = f i
      · rw [he] at h4; omega
      · have h5 := hb (f k) (h1 k hk) hfk he
        unfold TT at h5
        omega
    · rw [show i = k by omega]
/-- the two rows of the reference's Near behind k rounds -/
def RN (w wr : World) (B n k : Nat) (f : Nat → Nat) (vt vo : Value) : Prop :=
  wr.ownsRow B 4 1 vt n (tkL f n k) ∧ wr.ownsRow B 3 1 vo k (outL f k) ∧ Below B w wr
theorem rows_apart3 {W : World} {b b' sz sz' n n' : Nat} {e e' : TypeId} {v v' : Value} {xs xs' : List Value} (h : W.ownsRow b e sz v n xs) (h' : W.ownsRow b' e' sz' v' n' xs') (hne : e ≠ e') : v'.ownBlock = none ∨ v'.ownBlock ≠ v.ownBlock := by
  rcases h'.2 with ⟨rfl, _⟩ | ⟨g', cap', cur', rfl, _, hg', _⟩
  · exact .inl rfl
  · refine .inr fun e1 => ?_
    rcases h.2 with ⟨rfl, _⟩ | ⟨g, cap, cur, rfl, _, hg, _⟩
    · simp [Value.ownBlock] at e1
    · obtain rfl : g' = g := by simpa [Value.ownBlock] using e1
      have := hg.symm.trans hg'
      simp at this
      exact hne this.2
theorem new_one (W : World) (u : Value) (t : TypeId) : (W.alloc (.cells #[u] t)).cell? ⟨W.heap.size, 0, none⟩ = some u := by simp
def slen : Value → Nat
  | .slice _ k _ => k
  | _ => 0
theorem best_taken {D : Nat → Int} {f : Nat → Nat} {k j : Nat} {b : Int} (h : Best D f k j b) (ht : tkB f k j = true) : Best D f k (j + 1) b := by
  rcases h with ⟨rfl, h⟩ | ⟨m0, rfl, h1, h2, h3⟩
  · refine .inl ⟨rfl, fun m hm => ?_⟩
    rcases Nat.lt_or_ge m j with h4 | h4
    · exact h m h4
    · rw [show m = j by omega]; exact ht
  · refine .inr ⟨m0, rfl, by omega, h2, fun m hm hu hne => ?_⟩
    rcases Nat.lt_or_ge m j with h4 | h4
    · exact h3 m h4 hu hne
    · rw [show m = j by omega, ht] at hu; cases hu
theorem best_first {D : Nat → Int} {f : Nat → Nat} {k j : Nat} (h : ∀ m, m < j → tkB f k m = true) (ht : tkB f k j = false) : Best D f k (j + 1) (j : Int) := by
  refine .inr ⟨j, rfl, by omega, ht, fun m hm hu hne => ?_⟩
  rw [h m (by omega)] at hu
  cases hu
theorem best_yes {D : Nat → Int} {f : Nat → Nat} {k j m0 : Nat} (h3 : ∀ m, m < j → tkB f k m = false → m ≠ m0 → TT D m0 m) (ht : tkB f k j = false) (hy : TT D j m0) : Best D f k (j + 1) (j : Int) := by
  refine .inr ⟨j, rfl, by omega, ht, fun m hm hu hne => ?_⟩
  by_cases he : m = m0
  · rw [he]; exact hy
  · have := h3 m (by omega) hu he
    unfold TT at *
    omega
theorem best_no {D : Nat → Int} {f : Nat → Nat} {k j m0 : Nat} (h1 : m0 < j) (h2 : tkB f k m0 = false) (h3 : ∀ m, m < j → tkB f k m = false → m ≠ m0 → TT D m0 m) (hy : ¬ TT D j m0) : Best D f k (j + 1) (m0 : Int) := by
  refine .inr ⟨m0, rfl, by omega, h2, fun m hm hu hne => ?_⟩
  rcases Nat.lt_or_ge m j with h4 | h4
  · exact h3 m h4 hu hne
  · rw [show m = j by omega]
    unfold TT at *
    omega
set_option maxRecDepth 100000 in
set_option maxHeartbeats 4000000 in
theorem rnear_any (n cap : Nat) (A : Option Addr) (p1 p2 : Nat) (ca cb : Nat → Nat) (w : World) (hn : n ≤ 5864062014810) (dst : Nat → Int) (hdst : dst = fun i => distO (plc p1 p2) (plc (ca i) (cb i))) (hlo : ∀ i, -1 ≤ dst i ∧ dst i < 9223372036854775807) (f : Nat → Nat) (hf : NearF n (fun i => farI (dst i)) f)
    (hS : SlOf w w.heap.size A n (fun i => .complex .f64 (ca i) (cb i))) :
    Calls Try.prog 12 #[.complex .f64 p1 p2, .slice A n cap] w fun e w' => ∃ v, e = .returned v ∧ w'.ownsRow w.heap.size 3 1 v n (outL f n) ∧ Below w.heap.size w w' := by
  obtain ⟨i0, hi, hz0, hz1, hz2⟩ := info_parts info64n
  obtain ⟨B, hB⟩ : ∃ B, B = w.heap.size := ⟨_, rfl⟩
  have hmk := makeB n (by omega)
  have HS := Lib.hid hS
  have HF := Lib.hid hf
  have HDST := Lib.hid hdst
  have HLO := Lib.hid hlo
  have HB := Lib.hid hB
  have HT0 : ∀ W : World, B ≤ W.heap.size → (W.alloc (.cells (madeCells #[.bool false] n) 4)).ownsRow B 4 1 (.slice (some ⟨W.heap.size, 0, none⟩) n n) n (tkL f n 0) := fun W hW => by
    have h := World.ownsRow_lit (e := 4) (size := 1) (base := B) W (madeCells #[.bool false] n) n hW (by unfold maxLen; omega) (by rw [size_madeCells]; omega)
    rw [toList_madeCells_one] at h
    have e : tkL f n 0 = List.replicate n (.bool false) := by
      unfold tkL tkB
      apply List.ext_getElem <;> simp
    rw [e]
    exact h
  have HT := Lib.hid HT0
  rw [← hB]
  clear hS hf hdst hlo hB HT0
  go_enter Try.func12, Try.ntmps12
  go_wp2_with fail
  clear hmk
  have hT := HT.out w (by rw [HB.out]; exact Nat.le_refl _)
  obtain ⟨tb, htb⟩ : ∃ tb, tb = w.heap.size := ⟨_, rfl⟩
  rw [← htb] at hT ⊢
  have hRN : RN w (w.alloc (.cells (madeCells #[.bool false] n) 4)) B n 0 f (.slice (some ⟨tb, 0, none⟩) n n) (.slice none 0 0) := ⟨hT, World.ownsRow_nil _ _ _ _, (Below.refl _ _).alloc (by rw [HB.out]; exact Nat.le_refl _) _⟩
  have HRN := Lib.hid hRN
  clear hT hRN htb HT
  go_loopw [5] (fun vo wr => ∃ (k : Nat) (a : Option Addr) (c : Nat), vo = .slice a k c ∧ k ≤ n ∧ Hid (RN w wr B n k f (.slice (some ⟨tb, 0, none⟩) n n) vo)) (fun vo _ => n - slen vo)
  case atStart => exact ⟨0, none, 0, rfl, Nat.zero_le _, HRN⟩
  case round =>
    clear HRN
    obtain ⟨k, a, c, rfl, hk, HR⟩ := hrel
    by_cases hlt : k < n
    · have hcells : ∀ j, j < n → ∃ b off, A = some ⟨b, off, none⟩ ∧ wr.cell? ⟨b, off + j, none⟩ = some (.complex .f64 (ca j) (cb j)) ∧ wr.cell? ⟨tb, j, none⟩ = some (.bool (tkB f k j)) := fun j hj => by
        obtain ⟨b, off, e, hb, hc⟩ := HS.out j hj
        refine ⟨b, off, e, (HR.out.2.2.cell (p := ⟨b, off + j, none⟩) (by rw [HB.out]; exact hb)).trans hc, ?_⟩
        rw [HR.out.1.cellAt j (by omega)]
        simp [tkL, hj]
      have HC := Lib.hid hcells
      clear hcells
      go_wp2
      go_loopw [7, 8] (fun bv iv w2 => ∃ (j : Nat) (b : Int), j ≤ n ∧ iv = .int .i64 (j : Int) ∧ bv = .int .i64 b ∧ Hid (Best (fun i => farI (dst i)) f k j b) ∧ ∃ q, w2 = wr.drewN q) (fun _ iv _ => n - (intOf iv).toNat)
      case atStart => exact ⟨0, -1, Nat.zero_le _, rfl, rfl, Lib.hid (.inl ⟨rfl, fun m h => absurd h (Nat.not_lt_zero _)⟩), 0, rfl⟩
      case round =>
        obtain ⟨j, b, hj, rfl, rfl, HBS, q, rfl⟩ := hrel
        by_cases hjn : j < n
        · obtain ⟨b1, off, rfl, c1, c2⟩ := HC.out j hjn
          cases ht : tkB f k j with
          | true =>
            have HB2 := Lib.hid (best_taken HBS.out ht)
            rw [ht] at c2
            clear ht c1
            go_wp2
            go_roundw
            case rel => exact ⟨j + 1, b, by omega, by first | rfl | go_num, rfl, HB2, _, rfl⟩
            case measure => simp [intOf]; omega
          | false =>
            rw [ht] at c2
            rcases HBS.out with ⟨rfl, hall⟩ | ⟨m0, rfl, g1, g2, g3⟩
            · have HB2 := Lib.hid (best_first (D := fun i => farI (dst i)) hall ht)
              clear ht c1 hall
              go_wp2
              go_roundw
              case rel => exact ⟨j + 1, (j : Int), by omega, by first | rfl | go_num, rfl, HB2, _, rfl⟩
              case measure => simp [intOf]; omega
            · obtain ⟨b2, off2, e, c3, _⟩ := HC.out m0 (by omega)
              injection e with e
              injection e with e1 e2
              subst e1 e2
              have hah := fun q => ahead_any n cap b1 off p1 p2 ca cb (wr.drewN q) (by omega) dst HDST.out j m0 hjn (by omega) c1 c3 HLO.out
              have g4 : (0 : Int) ≤ (m0 : Int) := by omega
              by_cases hy : TT (fun i => farI (dst i)) j m0
              · have HB2 := Lib.hid (best_yes g3 ht hy)
                have e3 : decide (farI (dst j) < farI (dst m0) ∨ (farI (dst j) = farI (dst m0) ∧ j < m0)) = true := decide_eq_true hy
                rw [e3] at hah
                clear ht g1 g2 g3 hy e3 c1 c3
                go_wp2_with (fail)
                refine (hah _).mono ?_
                rintro e w9 ⟨rfl, q9, rfl⟩
                clear hah
                go_wp2
                go_roundw
                case rel => exact ⟨j + 1, (j : Int), by omega, by first | rfl | go_num, rfl, HB2, _, rfl⟩
                case measure => simp [intOf]; omega
              · have HB2 := Lib.hid (best_no g1 g2 g3 hy)
                have e3 : decide (farI (dst j) < farI (dst m0) ∨ (farI (dst j) = farI (dst m0) ∧ j < m0)) = false := decide_eq_false hy
                rw [e3] at hah
                clear ht g1 g2 g3 hy e3 c1 c3
                go_wp2_with (fail)
                refine (hah _).mono ?_
                rintro e w9 ⟨rfl, q9, rfl⟩
                clear hah
                go_wp2
                go_roundw
                case rel => exact ⟨j + 1, (m0 : Int), by omega, by first | rfl | go_num, rfl, HB2, _, rfl⟩
                case measure => simp [intOf]; omega
        · obtain rfl : j = n := by omega
          have hbf := best_fin HF.out hlt HBS.out
          subst hbf
          have hfk := HF.out.1 k hlt
          have r1 : (wr.drewN q).ownsRow B 4 1 (.slice (some ⟨tb, 0, none⟩) j j) j (tkL f j k) := HR.out.1
          have r2 : (wr.drewN q).ownsRow B 3 1 (.slice a k c) k (outL f k) := HR.out.2.1
          have c1 : (wr.drewN q).cell? ⟨tb, f k, none⟩ = some (.bool (tkB f k (f k))) := by
            rw [r1.cellAt (f k) (by omega)]
            simp [tkL, hfk]
          have f1 : (wr.drewN q).frozen? ⟨tb, f k, none⟩ = false := r1.frozenAt (f k)
          obtain ⟨s1, s2⟩ := r1.stored (f k) (.bool true)
          rw [tkL_set] at s1
          have s3 := r2.kept s2 (rows_apart3 r1 r2 (by decide))
          have hbt : B ≤ tb := (r1.lt tb (by simp [Value.ownBlock])).1
          have s4 : Below B w ((wr.drewN q).setCell ⟨tb, f k, none⟩ (.bool true)) := (show Below B w (wr.drewN q) from ⟨HR.out.2.2.os, HR.out.2.2.tape, HR.out.2.2.output, HR.out.2.2.size, HR.out.2.2.block⟩).setCell (p := ⟨tb, f k, none⟩) hbt _
          have S1 := Lib.hid s1
          have S3 := Lib.hid s3
          have S4 := Lib.hid s4
          have hfki : (f k : Int) < (j : Int) := by omega
          have k3 : k + 1 ≤ maxLen := by unfold maxLen; omega
          have k4 : (k + 1) * 8 ≤ 140737488355328 := by omega
          obtain ⟨x, hx⟩ : ∃ x, x = f k := ⟨_, rfl⟩
          have HX := Lib.hid hx
          rw [← hx] at c1 f1 S1 S3 S4 hfki hfk ⊢
          clear r1 r2 s1 s2 s3 s4 hx
          have hBz : B ≤ wr.heap.size := by have := HR.out.2.2.size; rw [HB.out]; exact Nat.le_trans (Nat.le_of_eq rfl) this
          have hsz : ((wr.drewN q).setCell ⟨tb, x, none⟩ (.bool true)).heap.size = wr.heap.size := by simp [World.setCell]
          have hown := S3.out
          go_wp2_with (at_builtin; refine wpList_append_own _ rfl _ _ 28 rfl B 3 i0 _ 1 8 Try.underlying28 hi hz0 hz1 hz2 rfl (by decide) _ _ _ rfl (hown.alloc _) ⟨wr.heap.size, 0, none⟩ 1 1 [.int .i64 (x : Int)] rfl rfl ?c1 (by simp [Value.oneCell']) k3 k4 (by simp; omega) ?_)
          case c1 =>
            intro j2 u hj2
            match j2, hj2 with
            | 0, hj2 =>
              simp at hj2
              subst hj2
              have h8 := new_one ((wr.drewN q).setCell ⟨tb, x, none⟩ (.bool true)) (.int .i64 (x : Int)) 3
              rw [hsz] at h8
              simpa [Addr.add] using h8
          intro v' w3 hown' hgrow' hnn
          have t1 := (S1.out.alloc (.cells #[.int .i64 (x : Int)] 3)).kept hgrow' (rows_apart3 (hown.alloc (.cells #[.int .i64 (x : Int)] 3)) (S1.out.alloc (.cells #[.int .i64 (x : Int)] 3)) (by decide))
          have t2 : outL f k ++ [.int .i64 (x : Int)] = outL f (k + 1) := by rw [HX.out]; simp [outL, List.range_succ]
          have t3 : Below B w w3 := by
            refine (S4.out.alloc (by rw [hsz]; exact hBz) (.cells #[.int .i64 (x : Int)] 3)).grown hgrow' (by have := HB.out; have := HR.out.2.2.size; simp; omega) (fun j ej => ?_)
            exact (hown.lt j ej).1
          obtain ⟨g9, c9, rfl, _, _⟩ := hown'.form (by omega)
          rw [t2] at hown'
          have HN : Hid (RN w w3 B j (k + 1) f (.slice (some ⟨tb, 0, none⟩) j j) (.slice (some ⟨g9, 0, none⟩) (k + 1) c9)) := Lib.hid ⟨t1, hown', t3⟩
          clear hown hown' hgrow' t1 t2 t3 hnn
          go_wp2
          go_roundw
          case rel => exact ⟨k + 1, _, _, rfl, by omega, HN⟩
          case measure => simp [slen]; omega
    · obtain rfl : k = n := by omega
      go_wp2
      go_ret
      exact ⟨_, rfl, HR.out.2.1, HR.out.2.2⟩
end Go.Proofs.Ytjjmflkdfgneoaa
