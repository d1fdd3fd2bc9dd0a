/- Merging: the heap of sources in memory. -/
import Derived.Test.YtcgilgihmapipaaMrgMath
import Derived.Test.YtcgilgihmapipaaTch
import Derived.Test.YtcgilgihmapipaaPlainKit
import Derived.Lib.Hide
import Derived.IntWalk
import Derived.BigQuiet
import Derived.Deep.RegionWith
import Derived.Laws.OwnMore
import Derived.Sort.WalkB12
import Derived.Shelf.SlSortCmp.QuietGrown
namespace Go.Proofs.Ytcgilgihmapipaa
open Go.RowKit

/-- the runs: how many; each one's row, and its pairs -/
structure Rn where
  n : Nat
  bk : Nat → Nat
  of : Nat → Nat
  ln : Nat → Nat
  cp : Nat → Nat
  K : Nat → Nat → ByteArray
  V : Nat → Nat → ByteArray
/-- the pairs lie in memory below B -/
def RnAt (R : Rn) (B : Nat) (W : World) : Prop := ∀ i, i < R.n → ∀ p, p < R.ln i → R.bk i < B ∧ W.cell? ⟨R.bk i, R.of i + p * 2, none⟩ = some (.string (R.K i p)) ∧ W.cell? ⟨R.bk i, R.of i + p * 2 + 1, none⟩ = some (.string (R.V i p))
/-- what is left of a run from a pair on: the run's number, the pair's place -/
abbrev It := Nat × Nat
abbrev itC (R : Rn) (x : It) : List Value := [.slice (some ⟨R.bk x.1, R.of x.1 + x.2 * 2, none⟩) (R.ln x.1 - x.2) (R.cp x.1 - x.2), .int .i64 (x.1 : Int)]
def itCs (R : Rn) (l : List It) : List Value := l.flatMap (itC R)
theorem itCs_len (R : Rn) (l : List It) : (itCs R l).length = l.length * 2 := by
  induction l with
  | nil => rfl
  | cons x l ih => show ([_, _] ++ itCs R l).length = _; rw [List.length_append, ih]; simp only [List.length_cons, List.length_nil]; omega
theorem itCs_get (R : Rn) (l : List It) (i : Nat) (x : It) (h : l[i]? = some x) : (itCs R l)[i * 2]? = some (.slice (some ⟨R.bk x.1, R.of x.1 + x.2 * 2, none⟩) (R.ln x.1 - x.2) (R.cp x.1 - x.2)) ∧ (itCs R l)[i * 2 + 1]? = some (.int .i64 (x.1 : Int)) := by
  induction l generalizing i with
  | nil => simp at h
  | cons y l ih =>
    show ([_, _] ++ itCs R l)[i * 2]? = _ ∧ ([_, _] ++ itCs R l)[i * 2 + 1]? = _
    cases i with
    | zero => simp at h; subst h; simp
    | succ i =>
      simp at h
      have := ih i h
      rw [show (i + 1) * 2 = i * 2 + 2 by omega]
      rw [List.getElem?_append_right (by simp), List.getElem?_append_right (by simp)]
      simpa using this
theorem itCs_set (R : Rn) (l : List It) (i : Nat) (x : It) (h : i < l.length) : ((itCs R l).set (i * 2) (.slice (some ⟨R.bk x.1, R.of x.1 + x.2 * 2, none⟩) (R.ln x.1 - x.2) (R.cp x.1 - x.2))).set (i * 2 + 1) (.int .i64 (x.1 : Int)) = itCs R (l.set i x) := by
  induction l generalizing i with
  | nil => simp at h
  | cons y l ih =>
    cases i with
    | zero => rfl
    | succ i =>
      have := ih i (by simpa using h)
      show ((_ :: _ :: itCs R l).set ((i + 1) * 2) _).set ((i + 1) * 2 + 1) _ = _ :: _ :: itCs R (l.set i x)
      rw [show (i + 1) * 2 = i * 2 + 1 + 1 by omega, ← this]
      simp only [List.set_cons_succ]
/-- the heap's own two cells, and its row -/
structure HpAt (R : Rn) (B hp : Nat) (l : List It) (W : World) : Prop where
  le : B ≤ hp
  row : ∃ v, W.heap[hp]? = some (.cells #[v, .func (.func 31) #[] #[]] 65 (0, 0)) ∧ W.ownsRow B 67 2 v l.length (itCs R l)
/-- nothing has turned but new blocks, a heap's, a heap's row's -/
structure Kp (B : Nat) (w w' : World) : Prop where
  os : w'.os = w.os
  tape : w'.tape = w.tape
  output : w'.output = w.output
  size : w.heap.size ≤ w'.heap.size
  block : ∀ k, k < w.heap.size → (k < B ∨ (¬ Bears w k 65 ∧ ¬ Bears w k 67)) → w'.heap[k]? = w.heap[k]?
theorem Kp.refl (B : Nat) (w : World) : Kp B w w := ⟨rfl, rfl, rfl, Nat.le_refl _, fun _ _ _ => rfl⟩
theorem Kp.trans {B : Nat} {a b c : World} (h : Kp B a b) (k : Kp B b c) : Kp B a c :=
  ⟨k.os.trans h.os, k.tape.trans h.tape, k.output.trans h.output, Nat.le_trans h.size k.size, fun j hj hn => by
    have e := h.block j hj hn
    refine (k.block j (Nat.lt_of_lt_of_le hj h.size) ?_).trans e
    rcases hn with hn | ⟨n1, n2⟩
    · exact .inl hn
    · exact .inr ⟨fun ⟨cs, hc⟩ => n1 ⟨cs, by rw [← e]; exact hc⟩, fun ⟨cs, hc⟩ => n2 ⟨cs, by rw [← e]; exact hc⟩⟩⟩
theorem Kp.below {B : Nat} {w w' : World} (h : Kp B w w') (hB : B ≤ w.heap.size) : Below B w w' := ⟨h.os, h.tape, h.output, h.size, fun k hk => h.block k (by omega) (.inl hk)⟩
theorem kp_below {B : Nat} {w w' : World} (h : Below w.heap.size w w') : Kp B w w' := ⟨h.os, h.tape, h.output, h.size, fun k hk _ => h.block k hk⟩
theorem kp_drew {B : Nat} {w w' : World} (h : Kp B w w') : Kp B w w'.drew := ⟨h.os, h.tape, h.output, h.size, h.block⟩
/-- a block that is set bears one of the two types -/
theorem kp_set {B : Nat} {w : World} {a : Addr} {v : Value} (hb : B ≤ a.block) (h : Bears w a.block 65 ∨ Bears w a.block 67) : Kp B w (w.setCell a v) :=
  ⟨rfl, rfl, rfl, by simp [World.setCell], fun k hk hn => Below.heap_setCell _ _ _ _ (by
    rintro rfl
    rcases hn with hn | ⟨n1, n2⟩
    · omega
    · rcases h with h | h
      · exact n1 h
      · exact n2 h)⟩
theorem HpAt.cells {R : Rn} {B hp : Nat} {l : List It} {W : World} (h : HpAt R B hp l W) : ∃ (a : Option Addr) (c : Nat), W.cell? ⟨hp, 0, none⟩ = some (.slice a l.length c) ∧ W.cell? ⟨hp, 1, none⟩ = some (.func (.func 31) #[] #[]) ∧ l.length ≤ c ∧ ∀ i x, l[i]? = some x → ∃ g, a = some ⟨g, 0, none⟩ ∧ B ≤ g ∧ g < W.heap.size ∧ g ≠ hp ∧ Bears W g 67 ∧ W.cell? ⟨g, i * 2, none⟩ = some (.slice (some ⟨R.bk x.1, R.of x.1 + x.2 * 2, none⟩) (R.ln x.1 - x.2) (R.cp x.1 - x.2)) ∧ W.cell? ⟨g, i * 2 + 1, none⟩ = some (.int .i64 (x.1 : Int)) ∧ ∀ j, W.frozen? ⟨g, j, none⟩ = false := by
  obtain ⟨v, h1, h2⟩ := h.row
  have e0 : W.cell? ⟨hp, 0, none⟩ = some v := by simp [World.cell?, h1]
  have e1 : W.cell? ⟨hp, 1, none⟩ = some (.func (.func 31) #[] #[]) := by simp [World.cell?, h1]
  rcases h2.2 with ⟨rfl, h3⟩ | ⟨g, cap, cur, rfl, hb, hg, hnc, _⟩
  · have hl : l = [] := List.eq_nil_of_length_eq_zero h3
    refine ⟨none, 0, by rw [e0, h3], e1, by omega, fun i x hx => by rw [hl] at hx; simp at hx⟩
  · refine ⟨some ⟨g, 0, none⟩, cap, e0, e1, hnc, fun i x hx => ⟨g, rfl, hb, (Array.getElem?_eq_some_iff.1 hg).1, ?_, ⟨cur, hg⟩, ?_, ?_, h2.frozenAt⟩⟩
    · rintro rfl
      rw [h1] at hg
      simp at hg
    · have hi := (List.getElem?_eq_some_iff.1 hx).1
      rw [h2.cellAt _ (by omega)]
      exact (itCs_get R l i x hx).1
    · have hi := (List.getElem?_eq_some_iff.1 hx).1
      rw [h2.cellAt _ (by omega)]
      exact (itCs_get R l i x hx).2
theorem HpAt.bears {R : Rn} {B hp : Nat} {l : List It} {W : World} (h : HpAt R B hp l W) : Bears W hp 65 := by
  obtain ⟨v, h1, h2⟩ := h.row
  exact ⟨_, h1⟩
theorem HpAt.lt {R : Rn} {B hp : Nat} {l : List It} {W : World} (h : HpAt R B hp l W) : hp < W.heap.size := h.bears.lt
/-- new blocks turn nothing of it -/
theorem HpAt.below {R : Rn} {B hp : Nat} {l : List It} {W W' : World} (h : HpAt R B hp l W) (hb : Below W.heap.size W W') : HpAt R B hp l W' := by
  obtain ⟨v, h1, h2⟩ := h.row
  refine ⟨h.le, v, (hb.block hp h.lt).trans h1, h2.kept (row := none) ⟨hb.os, hb.tape, hb.output, hb.size, fun k hk _ => hb.block k hk⟩ ?_⟩
  rcases h2.2 with ⟨rfl, _⟩ | ⟨g, cap, cur, rfl, _, _, _⟩
  · exact .inl rfl
  · exact .inr (by simp [Value.ownBlock])
/-- one item is laid in -/
theorem HpAt.set {R : Rn} {B hp g c : Nat} {l : List It} {W : World} (h : HpAt R B hp l W) (ha : W.cell? ⟨hp, 0, none⟩ = some (.slice (some ⟨g, 0, none⟩) l.length c)) (i : Nat) (x : It) (hi : i < l.length) :
    HpAt R B hp (l.set i x) ((W.setCell ⟨g, i * 2, none⟩ (.slice (some ⟨R.bk x.1, R.of x.1 + x.2 * 2, none⟩) (R.ln x.1 - x.2) (R.cp x.1 - x.2))).setCell ⟨g, i * 2 + 1, none⟩ (.int .i64 (x.1 : Int))) ∧ Kp B W ((W.setCell ⟨g, i * 2, none⟩ (.slice (some ⟨R.bk x.1, R.of x.1 + x.2 * 2, none⟩) (R.ln x.1 - x.2) (R.cp x.1 - x.2))).setCell ⟨g, i * 2 + 1, none⟩ (.int .i64 (x.1 : Int))) := by
  obtain ⟨v, h1, h2⟩ := h.row
  have e0 : W.cell? ⟨hp, 0, none⟩ = some v := by simp [World.cell?, h1]
  rw [ha] at e0
  injection e0 with e0
  subst e0
  obtain ⟨s1, s2⟩ := h2.stored (i * 2) (.slice (some ⟨R.bk x.1, R.of x.1 + x.2 * 2, none⟩) (R.ln x.1 - x.2) (R.cp x.1 - x.2))
  obtain ⟨s3, s4⟩ := s1.stored (i * 2 + 1) (.int .i64 (x.1 : Int))
  rw [itCs_set R l i x hi] at s3
  obtain ⟨a, cc, c0, c1, hc, hx⟩ := h.cells
  rw [ha] at c0
  injection c0 with c0
  injection c0 with c0 c2 c3
  obtain ⟨g', e', hBg, hg, hgh, hbg, _⟩ := hx i l[i] (by simp [hi])
  rw [← c0] at e'
  injection e' with e'
  injection e' with e'
  subst e'
  have hgh' : hp ≠ g := fun e => hgh e.symm
  refine ⟨⟨h.le, _, ?_, by rw [List.length_set]; exact s3⟩, ?_⟩
  · exact (Below.heap_setCell _ _ _ _ hgh').trans ((Below.heap_setCell _ _ _ _ hgh').trans h1)
  · exact (kp_set (a := ⟨g, _, none⟩) hBg (.inr hbg)).trans (kp_set (a := ⟨g, _, none⟩) hBg (.inr (bears_set _ hbg)))
theorem HpAt.drew {R : Rn} {B hp : Nat} {l : List It} {W : World} (h : HpAt R B hp l W) : HpAt R B hp l W.drew := h.below ⟨rfl, rfl, rfl, Nat.le_refl _, fun _ _ => rfl⟩
/-- an exchange -/
def swpI (l : List It) (a b : Nat) : List It := (l.set a (l.getD b (0, 0))).set b (l.getD a (0, 0))
set_option maxRecDepth 100000 in
set_option maxHeartbeats 4000000 in
theorem swap_any (R : Rn) (B hp : Nat) (l : List It) (a b : Nat) (w : World) (ha : a < l.length) (hb : b < l.length) (hl : l.length ≤ 4398046511104) (H : HpAt R B hp l w) :
    Calls Try.prog 34 #[.pointer (some ⟨hp, 0, none⟩), .int .i64 (a : Int), .int .i64 (b : Int)] w fun e w' => e = .returned (.tuple #[]) ∧ HpAt R B hp (swpI l a b) w' ∧ Kp B w w' := by
  have mixed : Try.prog.follows Departure.mixedOrders = true := by kernel_rfl
  obtain ⟨ar, c, c0, c1, hc, hx⟩ := H.cells
  obtain ⟨x, hxe⟩ : ∃ x, x = l.getD a (0, 0) := ⟨_, rfl⟩
  obtain ⟨y, hye⟩ : ∃ y, y = l.getD b (0, 0) := ⟨_, rfl⟩
  have hxa : l[a]? = some x := by rw [hxe, List.getD_eq_getElem?_getD, List.getElem?_eq_getElem ha]; rfl
  have hyb : l[b]? = some y := by rw [hye, List.getD_eq_getElem?_getD, List.getElem?_eq_getElem hb]; rfl
  obtain ⟨g, rfl, hBg, hg, hgh, hbg, x0, x1, hf⟩ := hx a x hxa
  obtain ⟨g', e', _, _, _, _, y0, y1, _⟩ := hx b y hyb
  injection e' with e'
  injection e' with e'
  subst e'
  obtain ⟨s1, s2⟩ := H.set c0 a y ha
  have hc0 := c0
  have c0' : (((w.setCell ⟨g, a * 2, none⟩ (.slice (some ⟨R.bk y.1, R.of y.1 + y.2 * 2, none⟩) (R.ln y.1 - y.2) (R.cp y.1 - y.2))).setCell ⟨g, a * 2 + 1, none⟩ (.int .i64 (y.1 : Int)))).cell? ⟨hp, 0, none⟩ = some (.slice (some ⟨g, 0, none⟩) (l.set a y).length c) := by
    rw [List.length_set, ← c0]
    exact (World.cell?_setCell_other _ _ _ _ (by intro e; injection e with e; exact hgh e)).trans (World.cell?_setCell_other _ _ _ _ (by intro e; injection e with e; exact hgh e))
  obtain ⟨s3, s4⟩ := s1.set c0' b x (by simpa using hb)
  have hfin : (l.set a y).set b x = swpI l a b := by unfold swpI; rw [← hxe, ← hye]
  rw [hfin] at s3
  have S3 := Lib.hid (And.intro s3 (s2.trans s4))
  have some_on : ∀ (X : World) (a b : Addr) (u : Value), (∃ z, X.cell? b = some z) → ∃ z, (X.setCell a u).cell? b = some z := fun X a b u ⟨z, hz⟩ => by
    by_cases e : a = b
    · subst e; exact ⟨u, World.cell?_setCell_same' _ _ _ (by rw [hz]; rfl)⟩
    · exact ⟨z, (World.cell?_setCell_other _ _ _ _ e).trans hz⟩
  have d1 : (w.setCell ⟨g, a * 2, none⟩ (.slice (some ⟨R.bk y.1, R.of y.1 + y.2 * 2, none⟩) (R.ln y.1 - y.2) (R.cp y.1 - y.2))).cell? ⟨g, a * 2 + 1, none⟩ = some (.int .i64 (x.1 : Int)) := (World.cell?_setCell_other _ _ _ _ (by intro e; injection e with _ e; omega)).trans x1
  obtain ⟨u2, d2⟩ := some_on _ ⟨g, a * 2 + 1, none⟩ ⟨g, b * 2, none⟩ (.int .i64 (y.1 : Int)) (some_on w ⟨g, a * 2, none⟩ ⟨g, b * 2, none⟩ (.slice (some ⟨R.bk y.1, R.of y.1 + y.2 * 2, none⟩) (R.ln y.1 - y.2) (R.cp y.1 - y.2)) ⟨_, y0⟩)
  obtain ⟨u3, d3⟩ := some_on _ ⟨g, b * 2, none⟩ ⟨g, b * 2 + 1, none⟩ (.slice (some ⟨R.bk x.1, R.of x.1 + x.2 * 2, none⟩) (R.ln x.1 - x.2) (R.cp x.1 - x.2)) (some_on _ ⟨g, a * 2 + 1, none⟩ ⟨g, b * 2 + 1, none⟩ (.int .i64 (y.1 : Int)) (some_on w ⟨g, a * 2, none⟩ ⟨g, b * 2 + 1, none⟩ (.slice (some ⟨R.bk y.1, R.of y.1 + y.2 * 2, none⟩) (R.ln y.1 - y.2) (R.cp y.1 - y.2)) ⟨_, y1⟩))
  have i1 : (a : Int) < (l.length : Int) := by omega
  have i2 : (b : Int) < (l.length : Int) := by omega
  obtain ⟨N, hN⟩ : ∃ N, N = l.length := ⟨_, rfl⟩
  rw [← hN] at c0 i1 i2
  obtain ⟨V1, hV1⟩ : ∃ v, v = Value.slice (some ⟨R.bk x.1, R.of x.1 + x.2 * 2, none⟩) (R.ln x.1 - x.2) (R.cp x.1 - x.2) := ⟨_, rfl⟩
  obtain ⟨V2, hV2⟩ : ∃ v, v = Value.slice (some ⟨R.bk y.1, R.of y.1 + y.2 * 2, none⟩) (R.ln y.1 - y.2) (R.cp y.1 - y.2) := ⟨_, rfl⟩
  clear s1 s2 s3 s4 c0' hc0 hx hxa hyb hxe hye H hfin some_on hN hBg hg hbg hc
  go_enter Try.func34, Try.ntmps34
  go_wp2_with (fail)
  go_big_region_o
  clear c0 c1 x0 x1 y0 y1 d1 d2 d3
  first
    | (go_end0; exact ⟨rfl, S3.out.1.drew, kp_drew S3.out.2⟩)
    | (go_wp2; go_end0; exact ⟨rfl, S3.out.1.drew, kp_drew S3.out.2⟩)
end Go.Proofs.Ytcgilgihmapipaa
