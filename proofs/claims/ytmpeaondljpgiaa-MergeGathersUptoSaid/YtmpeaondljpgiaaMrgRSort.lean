/- Merging: the reference's Sort. -/
import Derived.Test.YtmpeaondljpgiaaMrgSort
import Derived.Laws.NewBlocks
namespace Go.Proofs.Ytmpeaondljpgiaa
open Go.RowKit Go.Lib Go.Sort Go.Shelf

def prF {n : Nat} (K V : Nat → ByteArray) (S : List (Fin (n + 1))) : List Value := S.flatMap fun x => [.string (K x.val), .string (V x.val)]
theorem prF_app {n : Nat} (K V : Nat → ByteArray) (S T : List (Fin (n + 1))) : prF K V (S ++ T) = prF K V S ++ prF K V T := by simp [prF]
theorem prF_len {n : Nat} (K V : Nat → ByteArray) (S : List (Fin (n + 1))) : (prF K V S).length = S.length * 2 := by
  induction S with
  | nil => rfl
  | cons x S ih => show ([_, _] ++ prF K V S).length = _; rw [List.length_append, ih]; simp only [List.length_cons, List.length_nil]; omega
theorem prF_get {n : Nat} (K V : Nat → ByteArray) (U W : List (Fin (n + 1))) (x : Fin (n + 1)) : (prF K V (U ++ x :: W))[U.length * 2]? = some (.string (K x.val)) ∧ (prF K V (U ++ x :: W))[U.length * 2 + 1]? = some (.string (V x.val)) := by
  have hl := prF_len K V U
  rw [prF_app, List.getElem?_append_right (by omega), List.getElem?_append_right (by omega), hl, show U.length * 2 - U.length * 2 = 0 by omega, show U.length * 2 + 1 - U.length * 2 = 1 by omega]
  exact ⟨rfl, rfl⟩
theorem prF_swap {n : Nat} (K V : Nat → ByteArray) (U W : List (Fin (n + 1))) (u x : Fin (n + 1)) :
    ((((prF K V (U ++ u :: x :: W)).set ((U.length + 1) * 2) (.string (K u.val))).set ((U.length + 1) * 2 + 1) (.string (V u.val))).set (U.length * 2) (.string (K x.val))).set (U.length * 2 + 1) (.string (V x.val)) = prF K V (U ++ x :: u :: W) := by
  have hl := prF_len K V U
  rw [prF_app, prF_app]
  show ((((prF K V U ++ (([.string (K u.val), .string (V u.val), .string (K x.val), .string (V x.val)] : List Value) ++ prF K V W)).set _ _).set _ _).set _ _).set _ _ = prF K V U ++ (([.string (K x.val), .string (V x.val), .string (K u.val), .string (V u.val)] : List Value) ++ prF K V W)
  rw [List.set_append_right _ _ (by omega), hl, show (U.length + 1) * 2 - U.length * 2 = 2 by omega, List.set_append_right _ _ (by omega), hl, show (U.length + 1) * 2 + 1 - U.length * 2 = 3 by omega, List.set_append_right _ _ (by omega), hl, show U.length * 2 - U.length * 2 = 0 by omega, List.set_append_right _ _ (by omega), hl, show U.length * 2 + 1 - U.length * 2 = 1 by omega]
  rfl
theorem less_key (n : Nat) (K : Nat → ByteArray) (x y : Fin (n + 1)) : Go.Op.bytesLess (K x.val).data.toList (K y.val).data.toList = decide (keyP n K x < keyP n K y) := by
  have h := keyP_lt n K x y
  rw [cmp_bytes] at h
  rw [less_cmp]
  rcases e : compare (K x.val).data.toList (K y.val).data.toList with _ | _ | _ <;> rw [e] at h
  · rw [decide_eq_true (h.1 (by decide))]; rfl
  · rw [decide_eq_false (fun k => absurd (h.2 k) (by decide))]; rfl
  · rw [decide_eq_false (fun k => absurd (h.2 k) (by decide))]; rfl
theorem dF_take (n k : Nat) (h : k < n) : (dF n).take (k + 1) = (dF n).take k ++ [(⟨k, by omega⟩ : Fin (n + 1))] := by
  rw [List.take_add_one, List.getElem?_eq_getElem (by rw [dF_len]; exact h)]
  simp [dF]
theorem dF_lt {n k : Nat} {T : List (Fin (n + 1))} (hT : T.Perm ((dF n).take k)) : ∀ u ∈ T, u.val < k := fun u hu => by
  have h := hT.mem_iff.1 hu
  obtain ⟨i, hi, e⟩ := List.mem_iff_getElem.1 h
  simp [dF] at e hi
  rw [← e]
  show i < k
  omega
theorem ins_done {n k : Nat} {K : Nat → ByteArray} {T U Z : List (Fin (n + 1))} {x : Fin (n + 1)} (hk : k < n) (hx : x.val = k) (hT1 : T.Perm ((dF n).take k)) (hT2 : SrtT (keyP n K) (fun x => x.val) T) (e : T = U ++ Z) (hZ : ∀ z ∈ Z, Tl (keyP n K) (fun x => x.val) x z)
    (hs : ∀ U' u, U = U' ++ [u] → keyP n K u ≤ keyP n K x) : (U ++ x :: Z).Perm ((dF n).take (k + 1)) ∧ SrtT (keyP n K) (fun x => x.val) (U ++ x :: Z) := by
  refine ⟨?_, ins_stop (by rw [← e]; exact hT2) hZ (fun u hu => ?_) hs⟩
  · rw [dF_take n k hk]
    have hx' : x = ⟨k, by omega⟩ := Fin.ext hx
    rw [← hx']
    refine List.perm_middle.trans ?_
    rw [← e]
    exact (hT1.cons x).trans (List.perm_append_singleton x _).symm
  · have := dF_lt hT1 u (by rw [e]; exact List.mem_append_left _ hu)
    show u.val < x.val
    omega
abbrev S4 (g p : Nat) (wr : World) (a b c d : ByteArray) (w : World) : Prop :=
  w.cell? ⟨g, p * 2, none⟩ = some (.string a) ∧ w.cell? ⟨g, p * 2 + 1, none⟩ = some (.string b) ∧ w.cell? ⟨g, (p + 1) * 2, none⟩ = some (.string c) ∧ w.cell? ⟨g, (p + 1) * 2 + 1, none⟩ = some (.string d) ∧ Hid (RowKit.Below wr.heap.size wr w)
theorem s4_on {g p : Nat} {wr w w' : World} {a b c d : ByteArray} (hg : g < wr.heap.size) (h : S4 g p wr a b c d w) (hb : RowKit.Below wr.heap.size w w') : S4 g p wr a b c d w' :=
  ⟨(hb.cell (p := ⟨g, _, none⟩) hg).trans h.1, (hb.cell (p := ⟨g, _, none⟩) hg).trans h.2.1, (hb.cell (p := ⟨g, _, none⟩) hg).trans h.2.2.1, (hb.cell (p := ⟨g, _, none⟩) hg).trans h.2.2.2.1, Lib.hid (h.2.2.2.2.out.trans hb)⟩
theorem s4_drewN {g p : Nat} {wr w : World} {a b c d : ByteArray} (h : S4 g p wr a b c d w) (m : Nat) : S4 g p wr a b c d (w.drewN m) := by
  obtain ⟨h1, h2, h3, h4, h5⟩ := h
  exact ⟨h1, h2, h3, h4, Lib.hid ⟨h5.out.os, h5.out.tape, h5.out.output, h5.out.size, h5.out.block⟩⟩
theorem s4_alloc {g p : Nat} {wr w : World} {a b c d : ByteArray} (hg : g < wr.heap.size) (h : S4 g p wr a b c d w) (o : Obj) : S4 g p wr a b c d (w.alloc o) :=
  s4_on hg h ((RowKit.Below.refl _ _).alloc h.2.2.2.2.out.size o)
theorem s4_set {g p q i : Nat} {wr w : World} {a b c d : ByteArray} {v : Value} (hg : g < wr.heap.size) (h : S4 g p wr a b c d w) (hq : wr.heap.size ≤ q) : S4 g p wr a b c d (w.setCell ⟨q, i, none⟩ v) :=
  s4_on hg h ((RowKit.Below.refl wr.heap.size w).setCell (p := ⟨q, i, none⟩) hq v)
set_option maxRecDepth 100000 in
set_option maxHeartbeats 8000000 in
theorem rsort_any (A : Option Addr) (n cap : Nat) (K V : Nat → ByteArray) (w : World) (hn : n ≤ 1099511627776) (hP : PrAt w w.heap.size A n K V) :
    Calls Try.prog 13 #[.slice A n cap] w fun e w' => ∃ (v : Value) (S : List (Fin (n + 1))), e = .returned v ∧ S.Perm (dF n) ∧ SrtT (keyP n K) (fun x => x.val) S ∧ w'.ownsRow w.heap.size 53 2 v n (prF K V S) ∧ Below w.heap.size w w' := by
  have mixed : Try.prog.follows Departure.mixedOrders = true := by kernel_rfl
  obtain ⟨i0, hi, hz0, hz1, hz2⟩ := info_parts infoPairR
  obtain ⟨B, hB⟩ : ∃ B, B = w.heap.size := ⟨_, rfl⟩
  rw [← hB] at hP ⊢
  have HP := Lib.hid hP
  have HB := Lib.hid hB
  have HN := Lib.hid hn
  clear hP hB hn
  go_enter Try.func13, Try.ntmps13
  go_wp2_with (fail)
  go_loopw [3, 4] (fun v iv wr => ∃ k : Nat, k ≤ n ∧ iv = .int .i64 (k : Int) ∧ Hid (∃ T : List (Fin (n + 1)), T.Perm ((dF n).take k) ∧ SrtT (keyP n K) (fun x => x.val) T ∧ wr.ownsRow B 53 2 v k (prF K V T) ∧ Below B w wr)) (fun _ iv _ => n - (intOf iv).toNat)
  case atStart => exact ⟨0, Nat.zero_le _, rfl, Lib.hid ⟨[], by simp, List.Pairwise.nil, World.ownsRow_nil _ _ _ _, Below.refl _ _⟩⟩
  case round =>
    obtain ⟨k, hk, rfl, HI⟩ := hrel
    by_cases hlt : k < n
    · obtain ⟨T, hT1, hT2, hown, hbel⟩ := HI.out
      obtain ⟨b, off, rfl, hbb, h0, h1⟩ := (HP.out.below hbel) k hlt
      have hBz : B ≤ wr.heap.size := by have h2 := hbel.size; rw [HB.out]; exact h2
      have k3 : k + 1 ≤ maxLen := by have := HN.out; unfold maxLen; omega
      have k4 : (k + 1) * 32 ≤ 140737488355328 := by have := HN.out; omega
      have HT1 := Lib.hid hT1
      have HT2 := Lib.hid hT2
      have HBL := Lib.hid hbel
      clear hT1 hT2 hbel HI
      go_wp2_with (at_builtin; refine wpList_append_own _ rfl _ _ 27 rfl B 53 i0 _ 2 32 Try.underlying27 hi hz0 hz1 hz2 rfl (by decide) _ _ _ rfl (hown.alloc _) ⟨wr.heap.size, 0, none⟩ 1 1 [.string (K k), .string (V k)] rfl rfl (item_new _ _ _ _) (by simp [Value.oneCell']) k3 k4 (by simp; omega) ?_)
      intro v' w3 hown3 hg3 _
      obtain ⟨x, hx⟩ : ∃ x : Fin (n + 1), x = ⟨k, by omega⟩ := ⟨_, rfl⟩
      have hxk : x.val = k := by rw [hx]
      have hown3 : w3.ownsRow B 53 2 v' (k + 1) (prF K V (T ++ [x])) := by
        rw [prF_app, hx]
        exact hown3
      have hb3 : Below B w w3 := (HBL.out.alloc hBz _).grown hg3 (by have := HB.out; have := HBL.out.size; simp; omega) (fun j ej => (hown.lt j ej).1)
      obtain ⟨g, c3, rfl, hBg, hg⟩ := hown3.form (by omega)
      have hTl : T.length = k := by
        have := HT1.out.length_eq
        rw [this, List.length_take, dF_len]
        omega
      have HX := Lib.hid (And.intro hx hxk)
      have HBG := Lib.hid hBg
      have HS : Hid (∃ U Z : List (Fin (n + 1)), U.length = k ∧ T = U ++ Z ∧ (∀ z ∈ Z, Tl (keyP n K) (fun x => x.val) x z) ∧ w3.ownsRow B 53 2 (.slice (some ⟨g, 0, none⟩) (k + 1) c3) (k + 1) (prF K V (U ++ x :: Z)) ∧ Below B w w3) := Lib.hid ⟨T, [], hTl, by simp, (fun z hz => by cases hz), hown3, hb3⟩
      clear hown hown3 hg3 hb3 hx hxk hTl h0 h1 hBg hg
      go_wp2
      go_loopw [5] (fun jv w4 => ∃ j : Nat, j ≤ k ∧ jv = .int .i64 (j : Int) ∧ Hid (∃ U Z : List (Fin (n + 1)), U.length = j ∧ T = U ++ Z ∧ (∀ z ∈ Z, Tl (keyP n K) (fun x => x.val) x z) ∧ w4.ownsRow B 53 2 (.slice (some ⟨g, 0, none⟩) (k + 1) c3) (k + 1) (prF K V (U ++ x :: Z)) ∧ Below B w w4)) (fun jv _ => (intOf jv).toNat)
      case atStart => exact ⟨k, Nat.le_refl _, by first | rfl | go_num, HS⟩
      case round =>
        clear HS
        obtain ⟨j, hj, rfl, HJ⟩ := hrel
        have hend : (∃ U Z : List (Fin (n + 1)), U.length = j ∧ T = U ++ Z ∧ (∀ z ∈ Z, Tl (keyP n K) (fun x => x.val) x z) ∧ wr.ownsRow B 53 2 (.slice (some ⟨g, 0, none⟩) (k + 1) c3) (k + 1) (prF K V (U ++ x :: Z)) ∧ Below B w wr ∧ ∀ U' u, U = U' ++ [u] → keyP n K u ≤ keyP n K x) → Hid (∃ T' : List (Fin (n + 1)), T'.Perm ((dF n).take (k + 1)) ∧ SrtT (keyP n K) (fun x => x.val) T' ∧ wr.ownsRow B 53 2 (.slice (some ⟨g, 0, none⟩) (k + 1) c3) (k + 1) (prF K V T') ∧ Below B w wr) := fun ⟨U, Z, _, e2, e3, e4, e5, e6⟩ => Lib.hid (by
          obtain ⟨d1, d2⟩ := ins_done hlt HX.out.2 HT1.out HT2.out e2 e3 e6
          exact ⟨_, d1, d2, e4, e5⟩)
        by_cases hj0 : j = 0
        · subst hj0
          have hdone := hend (by
            obtain ⟨U, Z, e1, e2, e3, e4, e5⟩ := HJ.out
            refine ⟨U, Z, e1, e2, e3, e4, e5, fun U' u e => ?_⟩
            rw [e] at e1
            simp at e1)
          clear HJ hend
          go_wp2_with (fail)
          go_quiet (fail)
          go_wp2
          go_roundw
          case rel => exact ⟨k + 1, by omega, by first | rfl | go_num, Lib.hid (by obtain ⟨T', d1, d2, d3, d4⟩ := hdone.out; exact ⟨T', d1, d2, d3, d4.os, d4.tape, d4.output, d4.size, d4.block⟩)⟩
          case measure => simp [intOf]; omega
        · obtain ⟨U, Z, e1, e2, e3, e4, e5⟩ := HJ.out
          obtain ⟨U', u, rfl⟩ : ∃ U' u, U = U' ++ [u] := by
            rcases List.eq_nil_or_concat U with rfl | ⟨U', u, e⟩
            · exact absurd e1.symm hj0
            · exact ⟨U', u, by simpa using e⟩
          obtain ⟨p, hp⟩ : ∃ p, p = U'.length := ⟨_, rfl⟩
          have ejp : j = p + 1 := by rw [← e1, hp]; simp
          subst ejp
          have el : (U' ++ [u]) ++ x :: Z = U' ++ u :: x :: Z := by simp
          rw [el] at e4
          have hpz : p < k := by omega
          have q1 := prF_get K V U' (x :: Z) u
          have q2 := prF_get K V (U' ++ [u]) Z x
          rw [el] at q2
          rw [List.length_append, List.length_singleton, ← hp] at q2
          rw [← hp] at q1
          have k1 : wr.cell? ⟨g, p * 2, none⟩ = some (.string (K u.val)) := by rw [e4.cellAt _ (by omega)]; exact q1.1
          have k2 : wr.cell? ⟨g, p * 2 + 1, none⟩ = some (.string (V u.val)) := by rw [e4.cellAt _ (by omega)]; exact q1.2
          have k5 : wr.cell? ⟨g, (p + 1) * 2, none⟩ = some (.string (K x.val)) := by rw [e4.cellAt _ (by omega)]; exact q2.1
          have k6 : wr.cell? ⟨g, (p + 1) * 2 + 1, none⟩ = some (.string (V x.val)) := by rw [e4.cellAt _ (by omega)]; exact q2.2
          have HPP := Lib.hid hp
          have HE1 := Lib.hid e1
          clear hp
          have hls := less_key n K x u
          simp only [← ByteArray.toList_eq] at hls
          have z1 : (0 : Int) < ((p + 1 : Nat) : Int) := by omega
          have z2 : decide (0 < p + 1) = true := decide_eq_true (by omega)
          have z3 : (p : Int) + 1 < (k : Int) + 1 := by omega
          have z4 : (p : Int) < (k : Int) + 1 := by omega
          have z5 : wrap64 ((p : Int) + 1 - 1) = (p : Int) := by rw [IntWalk.wrap64_in _ (by have := HN.out; omega)]; omega
          by_cases hy : keyP n K x < keyP n K u
          · rw [decide_eq_true hy] at hls
            clear HJ hend q1 q2 e1 el hj0
            go_wp2_with (fail)
            go_quiet (fail)
            go_wp2
            have hgw : g < wr.heap.size := by
              rcases e4.2 with ⟨e, _⟩ | ⟨g', _, _, e, _, hg, _⟩
              · cases e
              · injection e with e _ _
                injection e with e
                injection e with e _ _
                rw [e]
                exact (Array.getElem?_eq_some_iff.1 hg).1
            have n1 : ∀ (m : Nat) (c : Array Value) (i : Nat), ((wr.drewN m).alloc (.cells c 53)).cell? ⟨wr.heap.size, i, none⟩ = c[i]? := fun m c i => World.cell?_alloc_at (w := wr.drewN m) c _ _ i rfl
            have n2 : ∀ (m : Nat) (c : Array Value) (i : Nat), ((wr.drewN m).alloc (.cells c 53)).frozen? ⟨wr.heap.size, i, none⟩ = false := fun m c i => World.frozen?_alloc_at (w := wr.drewN m) c _ _ i rfl
            have n3 : ∀ (m : Nat) (c : Array Value) (i : Nat) (v : Value), ((wr.drewN m).alloc (.cells c 53)).setCell ⟨wr.heap.size, i, none⟩ v = (wr.drewN m).alloc (.cells (c.setIfInBounds i v) 53) := fun m c i v => World.setCell_alloc_at (w := wr.drewN m) c _ _ i v rfl
            have n4 : ∀ (m : Nat) (c d : Array Value) (i : Nat), (((wr.drewN m).alloc (.cells c 53)).alloc (.cells d 53)).cell? ⟨wr.heap.size, i, none⟩ = c[i]? := fun m c d i => (World.cell?_alloc_past (w := (wr.drewN m).alloc (.cells c 53)) _ _ i (by simp)).trans (n1 m c i)
            have n5 : ∀ (m : Nat) (c d : Array Value) (i : Nat), (((wr.drewN m).alloc (.cells c 53)).alloc (.cells d 53)).frozen? ⟨wr.heap.size, i, none⟩ = false := fun m c d i => (World.frozen?_alloc_past (w := (wr.drewN m).alloc (.cells c 53)) _ _ i (by simp)).trans (n2 m c i)
            have n6 : ∀ (m : Nat) (c d : Array Value) (i : Nat) (v : Value), (((wr.drewN m).alloc (.cells c 53)).alloc (.cells d 53)).setCell ⟨wr.heap.size, i, none⟩ v = ((wr.drewN m).alloc (.cells (c.setIfInBounds i v) 53)).alloc (.cells d 53) := fun m c d i v => by
              rw [World.setCell_alloc_past (w := (wr.drewN m).alloc (.cells c 53)) _ _ i v (by simp), n3]
            have n7 : ∀ (m : Nat) (c d : Array Value) (i : Nat), (((wr.drewN m).alloc (.cells c 53)).alloc (.cells d 53)).cell? ⟨wr.heap.size + 1, i, none⟩ = d[i]? := fun m c d i => World.cell?_alloc_at (w := (wr.drewN m).alloc (.cells c 53)) d _ _ i (by simp)
            have n8 : ∀ (m : Nat) (c d : Array Value) (i : Nat), (((wr.drewN m).alloc (.cells c 53)).alloc (.cells d 53)).frozen? ⟨wr.heap.size + 1, i, none⟩ = false := fun m c d i => World.frozen?_alloc_at (w := (wr.drewN m).alloc (.cells c 53)) d _ _ i (by simp)
            have n9 : ∀ (m : Nat) (c d : Array Value) (i : Nat) (v : Value), (((wr.drewN m).alloc (.cells c 53)).alloc (.cells d 53)).setCell ⟨wr.heap.size + 1, i, none⟩ v = ((wr.drewN m).alloc (.cells c 53)).alloc (.cells (d.setIfInBounds i v) 53) := fun m c d i v => World.setCell_alloc_at (w := (wr.drewN m).alloc (.cells c 53)) d _ _ i v (by simp)
            have z6 : IntKind.i64.wrap (((p + 1 : Nat) : Int) - 1) = (p : Int) := by rw [show ((p + 1 : Nat) : Int) - 1 = (p : Int) by omega]; have := HN.out; simp [IntKind.wrap, IntKind.bits, IntKind.signed]; omega
            have z7 : IntKind.i64.wrap ((p : Int) + 1 - 1) = (p : Int) := by rw [show (p : Int) + 1 - 1 = (p : Int) by omega]; have := HN.out; simp [IntKind.wrap, IntKind.bits, IntKind.signed]; omega
            have z8 : p < k + 1 := by omega
            have z10 : IntKind.i64.wrap (p : Int) = (p : Int) := by have := HN.out; simp [IntKind.wrap, IntKind.bits, IntKind.signed]; omega
            have z9 : (0 : Int) ≤ (p : Int) := by omega
            have z11 : (0 : Int) ≤ (p : Int) + 1 := by omega
            have z12 : (0 : Int) ≤ ((p + 1 : Nat) : Int) := by omega
            have z13 : ((p + 1 : Nat) : Int) < ((k + 1 : Nat) : Int) := by omega
            have z14 : ((p + 1 : Nat) : Int) < (k : Int) + 1 := by omega
            have z15 : (p : Int) + 1 < ((k + 1 : Nat) : Int) := by omega
            have z16 : p + 1 < k + 1 := by omega
            clear z5
            have hS : S4 g p wr (K u.val) (V u.val) (K x.val) (V x.val) wr := ⟨k1, k2, k5, k6, Lib.hid (Below.refl _ _)⟩
            have HGW := Lib.hid hgw
            have HS4 := Lib.hid hS
            go_region_held3 (fun w' => S4 g p wr (K u.val) (V u.val) (K x.val) (V x.val) w') (first | assumption | exact ⟨k1, k2, k5, k6, Lib.hid ⟨rfl, rfl, rfl, Nat.le_refl _, fun _ _ => rfl⟩⟩ | exact s4_alloc HGW.out (s4_alloc HGW.out (s4_drewN HS4.out _) _) _ | exact s4_alloc HGW.out (s4_drewN HS4.out _) _ | exact s4_drewN HS4.out _ | exact s4_drewN (by assumption) _ | exact s4_alloc HGW.out (by assumption) _ | exact s4_set HGW.out (by assumption) (by simp)) (fail)
            all_goals first
              | (obtain ⟨W5, hW5⟩ : ∃ W5, W5 = ((wr.drewN (nq + 1)).alloc (.cells #[.string (K x.val), .string (V x.val)] 53)).alloc (.cells #[.string (K u.val), .string (V u.val)] 53) := ⟨_, rfl⟩; have hs5 : S4 g p wr (K u.val) (V u.val) (K x.val) (V x.val) W5 := (by rw [hW5]; exact s4_alloc HGW.out (s4_alloc HGW.out (s4_drewN HS4.out _) _) _); have b0 : W5.cell? ⟨wr.heap.size, 0, none⟩ = some (.string (K x.val)) := (by rw [hW5]; exact n4 _ _ _ 0); have b1 : W5.cell? ⟨wr.heap.size, 1, none⟩ = some (.string (V x.val)) := (by rw [hW5]; exact n4 _ _ _ 1); have b2 : W5.cell? ⟨wr.heap.size + 1, 0, none⟩ = some (.string (K u.val)) := (by rw [hW5]; exact n7 _ _ _ 0); have b3 : W5.cell? ⟨wr.heap.size + 1, 1, none⟩ = some (.string (V u.val)) := (by rw [hW5]; exact n7 _ _ _ 1); rw [← hW5]; clear hW5)
              | (obtain ⟨W5, hW5⟩ : ∃ W5, W5 = ((wr.drewN (nq + 1)).alloc (.cells #[.string (K u.val), .string (V u.val)] 53)).alloc (.cells #[.string (K x.val), .string (V x.val)] 53) := ⟨_, rfl⟩; have hs5 : S4 g p wr (K u.val) (V u.val) (K x.val) (V x.val) W5 := (by rw [hW5]; exact s4_alloc HGW.out (s4_alloc HGW.out (s4_drewN HS4.out _) _) _); have b0 : W5.cell? ⟨wr.heap.size + 1, 0, none⟩ = some (.string (K x.val)) := (by rw [hW5]; exact n7 _ _ _ 0); have b1 : W5.cell? ⟨wr.heap.size + 1, 1, none⟩ = some (.string (V x.val)) := (by rw [hW5]; exact n7 _ _ _ 1); have b2 : W5.cell? ⟨wr.heap.size, 0, none⟩ = some (.string (K u.val)) := (by rw [hW5]; exact n4 _ _ _ 0); have b3 : W5.cell? ⟨wr.heap.size, 1, none⟩ = some (.string (V u.val)) := (by rw [hW5]; exact n4 _ _ _ 1); rw [← hW5]; clear hW5)
            all_goals
              have hb5 := hs5.2.2.2.2.out
              have hw5 := own_below2 hb5 e4
              have hbl5 : Below B w W5 := e5.trans (hb5.mono (by have := e5.size; have := HB.out; omega))
              have hxl : (prF K V (U' ++ u :: x :: Z)).length = (k + 1) * 2 := hw5.1
              obtain ⟨t1, t2, t3, t4, _⟩ := hs5
              have f1 := hw5.frozenAt ((p + 1) * 2)
              obtain ⟨s1, _⟩ := hw5.stored ((p + 1) * 2) (.string (K u.val))
              obtain ⟨y1, ck1⟩ : ∃ y, (W5.setCell ⟨g, (p + 1) * 2, none⟩ (.string (K u.val))).cell? ⟨g, (p + 1) * 2 + 1, none⟩ = some y := ⟨_, by rw [s1.cellAt _ (by omega)]; exact List.getElem?_eq_getElem (by rw [List.length_set]; omega)⟩
              have f2 := s1.frozenAt ((p + 1) * 2 + 1)
              obtain ⟨s2, _⟩ := s1.stored ((p + 1) * 2 + 1) (.string (V u.val))
              obtain ⟨y2, ck2⟩ : ∃ y, ((W5.setCell ⟨g, (p + 1) * 2, none⟩ (.string (K u.val))).setCell ⟨g, (p + 1) * 2 + 1, none⟩ (.string (V u.val))).cell? ⟨g, p * 2, none⟩ = some y := ⟨_, by rw [s2.cellAt _ (by omega)]; exact List.getElem?_eq_getElem (by rw [List.length_set, List.length_set]; omega)⟩
              have f3 := s2.frozenAt (p * 2)
              obtain ⟨s3, _⟩ := s2.stored (p * 2) (.string (K x.val))
              obtain ⟨y3, ck3⟩ : ∃ y, (((W5.setCell ⟨g, (p + 1) * 2, none⟩ (.string (K u.val))).setCell ⟨g, (p + 1) * 2 + 1, none⟩ (.string (V u.val))).setCell ⟨g, p * 2, none⟩ (.string (K x.val))).cell? ⟨g, p * 2 + 1, none⟩ = some y := ⟨_, by rw [s3.cellAt _ (by omega)]; exact List.getElem?_eq_getElem (by rw [List.length_set, List.length_set, List.length_set]; omega)⟩
              have f4 := s3.frozenAt (p * 2 + 1)
              obtain ⟨s4, _⟩ := s3.stored (p * 2 + 1) (.string (V x.val))
              have hsw := prF_swap K V U' Z u x
              rw [← HPP.out] at hsw
              rw [hsw] at s4
              have hBg5 : B ≤ g := HBG.out
              have hbl6 : Below B w ((((W5.setCell ⟨g, (p + 1) * 2, none⟩ (.string (K u.val))).setCell ⟨g, (p + 1) * 2 + 1, none⟩ (.string (V u.val))).setCell ⟨g, p * 2, none⟩ (.string (K x.val))).setCell ⟨g, p * 2 + 1, none⟩ (.string (V x.val))) := (((hbl5.setCell (p := ⟨g, _, none⟩) hBg5 _).setCell (p := ⟨g, _, none⟩) hBg5 _).setCell (p := ⟨g, _, none⟩) hBg5 _).setCell (p := ⟨g, _, none⟩) hBg5 _
              have HJ2 : Hid (∃ U Z : List (Fin (n + 1)), U.length = p ∧ T = U ++ Z ∧ (∀ z ∈ Z, Tl (keyP n K) (fun x => x.val) x z) ∧ ((((W5.setCell ⟨g, (p + 1) * 2, none⟩ (.string (K u.val))).setCell ⟨g, (p + 1) * 2 + 1, none⟩ (.string (V u.val))).setCell ⟨g, p * 2, none⟩ (.string (K x.val))).setCell ⟨g, p * 2 + 1, none⟩ (.string (V x.val))).ownsRow B 53 2 (.slice (some ⟨g, 0, none⟩) (k + 1) c3) (k + 1) (prF K V (U ++ x :: Z)) ∧ Below B w ((((W5.setCell ⟨g, (p + 1) * 2, none⟩ (.string (K u.val))).setCell ⟨g, (p + 1) * 2 + 1, none⟩ (.string (V u.val))).setCell ⟨g, p * 2, none⟩ (.string (K x.val))).setCell ⟨g, p * 2 + 1, none⟩ (.string (V x.val)))) := Lib.hid ⟨U', u :: Z, HPP.out.symm, by rw [e2]; simp, fun z hz => by
                rcases List.mem_cons.1 hz with rfl | hz
                · exact .inl hy
                · exact e3 z hz, s4, hbl6⟩
              clear s1 s2 s3 s4 hw5 hb5 hbl5 hbl6 hsw hxl n1 n2 n3 n4 n5 n6 n7 n8 n9 e2 e3 e4 e5 hy hS k1 k2 k5 k6
              go_wp2
              have hg9 : ¬ g = wr.heap.size := by have := HGW.out; omega
              have hg8 : ¬ g = wr.heap.size + 1 := by have := HGW.out; omega
              have gz1 : ¬ wr.heap.size = g := by omega
              have gz2 : ¬ wr.heap.size + 1 = g := by omega
              have gs1 : ∀ (W : World) (i j : Nat) (v : Value), (W.setCell ⟨g, i, none⟩ v).cell? ⟨wr.heap.size, j, none⟩ = W.cell? ⟨wr.heap.size, j, none⟩ := fun W i j v => World.cell?_setCell_far W _ _ v (by simpa using hg9)
              have gs2 : ∀ (W : World) (i j : Nat) (v : Value), (W.setCell ⟨g, i, none⟩ v).cell? ⟨wr.heap.size + 1, j, none⟩ = W.cell? ⟨wr.heap.size + 1, j, none⟩ := fun W i j v => World.cell?_setCell_far W _ _ v (by simpa using hg8)
              go_region_with (fail)
              all_goals
                go_wp2
                go_roundw
                case rel => exact ⟨p, by omega, by first | rfl | go_num, Lib.hid (by obtain ⟨U2, Z2, d1, d2, d3, d4, d5⟩ := HJ2.out; exact ⟨U2, Z2, d1, d2, d3, d4, d5.os, d5.tape, d5.output, d5.size, d5.block⟩)⟩
                case measure => first | (simp [intOf]; done) | (simp [intOf]; omega)
          · rw [decide_eq_false hy] at hls
            have hdone := hend ⟨U' ++ [u], Z, HE1.out, e2, e3, by rw [el]; exact e4, e5, fun U2 u2 e => by
              have := List.append_inj' e rfl
              have h2 := this.2
              injection h2 with h2
              rw [← h2]
              omega⟩
            clear HJ hend q1 q2 e1 el hj0 e2 e3 e4 e5 hy
            go_wp2_with (fail)
            go_quiet (fail)
            go_wp2
            go_roundw
            case rel => exact ⟨k + 1, by omega, by first | rfl | go_num, Lib.hid (by obtain ⟨T', d1, d2, d3, d4⟩ := hdone.out; exact ⟨T', d1, d2, d3, d4.os, d4.tape, d4.output, d4.size, d4.block⟩)⟩
            case measure => simp [intOf]; omega
    · obtain rfl : k = n := by omega
      have hfin : ∃ S : List (Fin (k + 1)), S.Perm (dF k) ∧ SrtT (keyP k K) (fun x => x.val) S ∧ wr.ownsRow B 53 2 u3 k (prF K V S) ∧ Below B w wr := by
        obtain ⟨T, hT1, hT2, hown, hbel⟩ := HI.out
        rw [List.take_of_length_le (by rw [dF_len]; exact Nat.le_refl _)] at hT1
        exact ⟨T, hT1, hT2, hown, hbel⟩
      have HF := Lib.hid hfin
      clear hfin HI
      go_wp2
      go_ret
      obtain ⟨S, h1, h2, h3, h4⟩ := HF.out
      exact ⟨_, S, rfl, h1, h2, h3, h4⟩
end Go.Proofs.Ytmpeaondljpgiaa
