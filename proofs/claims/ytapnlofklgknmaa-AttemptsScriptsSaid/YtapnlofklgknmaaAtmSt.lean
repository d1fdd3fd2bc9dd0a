/- Package attempts: a board: what it is, and its cells in memory. -/
import Derived.Test.YtapnlofklgknmaaPlainKit
import Derived.Test.YtapnlofklgknmaaTch
import Derived.Lib.Hide
import Derived.IntWalk
import Derived.Deep.QuietTactic
import Derived.BigQuiet
import Derived.Deep.AppendLies
namespace Go.Proofs.Ytapnlofklgknmaa
open Go.RowKit

def mom (n : Int) : Int := min (max n 0) 1099511627776
theorem mom_b (n : Int) : 0 ≤ mom n ∧ mom n ≤ 1099511627776 := by unfold mom; omega
/-- an attempt: its state (0 running, 1 good, 2 failed, 3 gone), its node, when it began -/
structure Att where
  st : Nat
  nd : Int
  bg : Int
def rn1 (a : Att) : Bool := decide (a.st = 0)
/-- a task: its attempts, how many were full, its winner's number -/
structure Tk where
  A : List Att
  fu : Nat
  wi : Nat
def lvA (A : List Att) : Nat := A.countP rn1
def fiA (A : List Att) : Nat := A.findIdx rn1
def Tk.lv (t : Tk) : Nat := lvA t.A
def Tk.fi (t : Tk) : Nat := fiA t.A
structure Bd where
  m : Nat
  n : Nat
  T : Nat → Tk
  lim : Int
  pat : Int
  dead : Bool
/-- how many of these tasks aren't done -/
def opn (T : Nat → Tk) (a k : Nat) : Nat := (List.range k).countP fun i => decide ((T (a + i)).wi = 0)
def Bd.om (b : Bd) : Nat := opn b.T 0 b.m
def Bd.orr (b : Bd) : Nat := opn b.T b.m (b.n - b.m)
def atC (A : List Att) : List Value := A.flatMap fun a => [.int .i64 (a.st : Int), .int .i64 a.nd, .int .i64 a.bg]
theorem atC_len (A : List Att) : (atC A).length = A.length * 3 := by
  induction A with
  | nil => rfl
  | cons a A ih => simp only [atC, List.flatMap_cons, List.length_append, List.length_cons, List.length_nil] at ih ⊢; omega
theorem atC_app (A B : List Att) : atC (A ++ B) = atC A ++ atC B := by simp [atC]
theorem atC_get : ∀ (A : List Att) (j : Nat) (h : j < A.length), (atC A)[j * 3]? = some (.int .i64 (A[j].st : Int)) ∧ (atC A)[j * 3 + 1]? = some (.int .i64 A[j].nd) ∧ (atC A)[j * 3 + 2]? = some (.int .i64 A[j].bg)
  | [], j, h => absurd h (Nat.not_lt_zero _)
  | a :: A, 0, _ => ⟨rfl, rfl, rfl⟩
  | a :: A, j + 1, h => by
    have ih := atC_get A j (by simpa using h)
    have e : atC (a :: A) = [.int .i64 (a.st : Int), .int .i64 a.nd, .int .i64 a.bg] ++ atC A := rfl
    rw [e]
    refine ⟨?_, ?_, ?_⟩
    · rw [List.getElem?_append_right (by simp; omega)]
      simp only [List.length_cons, List.length_nil, List.getElem_cons_succ]
      rw [show (j + 1) * 3 - (0 + 1 + 1 + 1) = j * 3 by omega]
      exact ih.1
    · rw [List.getElem?_append_right (by simp; omega)]
      simp only [List.length_cons, List.length_nil, List.getElem_cons_succ]
      rw [show (j + 1) * 3 + 1 - (0 + 1 + 1 + 1) = j * 3 + 1 by omega]
      exact ih.2.1
    · rw [List.getElem?_append_right (by simp; omega)]
      simp only [List.length_cons, List.length_nil, List.getElem_cons_succ]
      rw [show (j + 1) * 3 + 2 - (0 + 1 + 1 + 1) = j * 3 + 2 by omega]
      exact ih.2.2
def setSt (A : List Att) (j s : Nat) : List Att := A.modify j fun a => { a with st := s }
theorem setSt_len (A : List Att) (j s : Nat) : (setSt A j s).length = A.length := by simp [setSt]
theorem atC_set : ∀ (A : List Att) (j s : Nat) (h : j < A.length), (atC A).set (j * 3) (.int .i64 (s : Int)) = atC (setSt A j s)
  | [], j, s, h => absurd h (Nat.not_lt_zero _)
  | a :: A, 0, s, _ => rfl
  | a :: A, j + 1, s, h => by
    have ih := atC_set A j s (by simpa using h)
    have e : atC (a :: A) = [.int .i64 (a.st : Int), .int .i64 a.nd, .int .i64 a.bg] ++ atC A := rfl
    have e2 : atC (setSt (a :: A) (j + 1) s) = [.int .i64 (a.st : Int), .int .i64 a.nd, .int .i64 a.bg] ++ atC (setSt A j s) := by simp [setSt, atC]
    rw [e, e2, ← ih, List.set_append_right _ _ (by simp; omega)]
    simp only [List.length_cons, List.length_nil]
    rw [show (j + 1) * 3 - (0 + 1 + 1 + 1) = j * 3 by omega]
/-- a task's cells, raw -/
structure TkR where
  h : Value
  fi : Int
  lv : Int
  fu : Int
  wi : Int
def updN {α : Type} (f : Nat → α) (i : Nat) (x : α) (j : Nat) : α := if j = i then x else f j
theorem updN_same {α : Type} (f : Nat → α) (i : Nat) (x : α) : updN f i x i = x := by simp [updN]
theorem updN_other {α : Type} (f : Nat → α) {i j : Nat} (x : α) (h : j ≠ i) : updN f i x j = f j := by simp [updN, h]
/-- a board's cells, raw -/
structure Raw where
  m : Nat
  n : Nat
  R : Nat → TkR
  A : Nat → List Att
  lim : Int
  pat : Int
  om : Int
  orr : Int
  dead : Bool
structure RawAt (B : Nat) (w : World) (p tb : Nat) (q : Raw) : Prop where
  hp : B ≤ p
  ht : B ≤ tb
  ty : Bears w p 58
  tt : Bears w tb 63
  c0 : w.cell? ⟨p, 0, none⟩ = some (.int .i64 (q.m : Int))
  c1 : w.cell? ⟨p, 1, none⟩ = some (.slice (some ⟨tb, 0, none⟩) q.n q.n)
  c2 : w.cell? ⟨p, 2, none⟩ = some (.int .i64 q.lim)
  c3 : w.cell? ⟨p, 3, none⟩ = some (.int .i64 q.pat)
  c4 : w.cell? ⟨p, 4, none⟩ = some (.int .i64 q.om)
  c5 : w.cell? ⟨p, 5, none⟩ = some (.int .i64 q.orr)
  c6 : w.cell? ⟨p, 6, none⟩ = some (.bool q.dead)
  t0 : ∀ i, i < q.n → w.cell? ⟨tb, i * 5, none⟩ = some (q.R i).h
  t1 : ∀ i, i < q.n → w.cell? ⟨tb, i * 5 + 1, none⟩ = some (.int .i64 (q.R i).fi)
  t2 : ∀ i, i < q.n → w.cell? ⟨tb, i * 5 + 2, none⟩ = some (.int .i64 (q.R i).lv)
  t3 : ∀ i, i < q.n → w.cell? ⟨tb, i * 5 + 3, none⟩ = some (.int .i64 (q.R i).fu)
  t4 : ∀ i, i < q.n → w.cell? ⟨tb, i * 5 + 4, none⟩ = some (.int .i64 (q.R i).wi)
  at' : ∀ i, i < q.n → w.ownsRow B 73 3 (q.R i).h (q.A i).length (atC (q.A i))
  ap : ∀ i j k, i < q.n → j < q.n → (q.R i).h.ownBlock = some k → (q.R j).h.ownBlock = some k → i = j
theorem bears_free {w : World} {p : Nat} {e : TypeId} (h : Bears w p e) (i : Nat) : w.frozen? ⟨p, i, none⟩ = false := by
  obtain ⟨cs, h⟩ := h
  simp [World.frozen?, h]
theorem own_bears {w : World} {B n sz : Nat} {e : TypeId} {v : Value} {xs : List Value} (h : w.ownsRow B e sz v n xs) {g : Nat} (hg : v.ownBlock = some g) : Bears w g e := by
  rcases h.2 with ⟨rfl, _⟩ | ⟨g', cap, cur, rfl, _, hgg, _⟩
  · simp [Value.ownBlock] at hg
  · simp [Value.ownBlock] at hg
    subst hg
    exact ⟨cur, hgg⟩
theorem own_same {w w' : World} {B n sz : Nat} {e : TypeId} {v : Value} {xs : List Value} (h : w.ownsRow B e sz v n xs) (hb : ∀ g, v.ownBlock = some g → w'.heap[g]? = w.heap[g]?) : w'.ownsRow B e sz v n xs := by
  refine ⟨h.1, ?_⟩
  rcases h.2 with hn | ⟨g, cap, cur, rfl, hB, hg, rest⟩
  · exact .inl hn
  · exact .inr ⟨g, cap, cur, rfl, hB, (hb g rfl).trans hg, rest⟩
section
variable {B p tb : Nat} {w w' : World} {q : Raw}
/-- the board's own blocks stay: the board stays -/
theorem RawAt.same (h : RawAt B w p tb q) (hb : ∀ b e, Bears w b e → e = 58 ∨ e = 63 ∨ e = 73 → w'.heap[b]? = w.heap[b]?) : RawAt B w' p tb q := by
  have ep := hb p _ h.ty (.inl rfl)
  have et := hb tb _ h.tt (.inr (.inl rfl))
  exact ⟨h.hp, h.ht, by obtain ⟨cs, k⟩ := h.ty; exact ⟨cs, ep.trans k⟩, by obtain ⟨cs, k⟩ := h.tt; exact ⟨cs, et.trans k⟩,
    (cell_eq ep 0).trans h.c0, (cell_eq ep 1).trans h.c1, (cell_eq ep 2).trans h.c2, (cell_eq ep 3).trans h.c3, (cell_eq ep 4).trans h.c4, (cell_eq ep 5).trans h.c5, (cell_eq ep 6).trans h.c6,
    fun i hi => (cell_eq et _).trans (h.t0 i hi), fun i hi => (cell_eq et _).trans (h.t1 i hi), fun i hi => (cell_eq et _).trans (h.t2 i hi), fun i hi => (cell_eq et _).trans (h.t3 i hi), fun i hi => (cell_eq et _).trans (h.t4 i hi),
    fun i hi => own_same (h.at' i hi) fun g hg => hb g _ (own_bears (h.at' i hi) hg) (.inr (.inr rfl)), h.ap⟩
theorem RawAt.below (h : RawAt B w p tb q) (hb : Below w.heap.size w w') : RawAt B w' p tb q := h.same fun b _ hB _ => hb.block b hB.lt
theorem RawAt.drew (h : RawAt B w p tb q) : RawAt B w.drew p tb q := h.same fun _ _ _ _ => rfl
theorem RawAt.drewN (h : RawAt B w p tb q) (n : Nat) : RawAt B (w.drewN n) p tb q := h.same fun _ _ _ _ => rfl
theorem RawAt.pt (h : RawAt B w p tb q) : ¬ p = tb := bears_apart h.ty h.tt (by decide)
theorem set_block (w : World) (a : Addr) (v : Value) {b : Nat} (h : ¬ b = a.block) : (w.setCell a v).heap[b]? = w.heap[b]? := Below.heap_setCell _ _ _ _ h
/-- a cell of the board's block is set: tasks and attempts stay -/
theorem RawAt.inP (h : RawAt B w p tb q) (hb : ∀ b, ¬ b = p → w'.heap[b]? = w.heap[b]?) :
    Bears w' tb 63 ∧ (∀ j, w'.cell? ⟨tb, j, none⟩ = w.cell? ⟨tb, j, none⟩) ∧ (∀ i, i < q.n → w'.ownsRow B 73 3 (q.R i).h (q.A i).length (atC (q.A i))) := by
  have et := hb tb (fun e => h.pt e.symm)
  refine ⟨by obtain ⟨cs, k⟩ := h.tt; exact ⟨cs, et.trans k⟩, fun j => cell_eq et j, fun i hi => own_same (h.at' i hi) fun g hg => hb g (bears_apart (own_bears (h.at' i hi) hg) h.ty (by decide))⟩
theorem RawAt.setOm (h : RawAt B w p tb q) (x : Int) : RawAt B (w.setCell ⟨p, 4, none⟩ (.int .i64 x)) p tb { q with om := x } := by
  obtain ⟨h1, h2, h3⟩ := h.inP (w' := w.setCell ⟨p, 4, none⟩ (.int .i64 x)) fun b hb => set_block _ _ _ hb
  exact ⟨h.hp, h.ht, bears_set _ h.ty, h1, (World.cell?_setCell_other _ _ _ _ (by simp)).trans h.c0, (World.cell?_setCell_other _ _ _ _ (by simp)).trans h.c1, (World.cell?_setCell_other _ _ _ _ (by simp)).trans h.c2, (World.cell?_setCell_other _ _ _ _ (by simp)).trans h.c3, World.cell?_setCell_same _ _ _ h.c4, (World.cell?_setCell_other _ _ _ _ (by simp)).trans h.c5, (World.cell?_setCell_other _ _ _ _ (by simp)).trans h.c6,
    fun i hi => (h2 _).trans (h.t0 i hi), fun i hi => (h2 _).trans (h.t1 i hi), fun i hi => (h2 _).trans (h.t2 i hi), fun i hi => (h2 _).trans (h.t3 i hi), fun i hi => (h2 _).trans (h.t4 i hi), h3, h.ap⟩
theorem RawAt.setOr (h : RawAt B w p tb q) (x : Int) : RawAt B (w.setCell ⟨p, 5, none⟩ (.int .i64 x)) p tb { q with orr := x } := by
  obtain ⟨h1, h2, h3⟩ := h.inP (w' := w.setCell ⟨p, 5, none⟩ (.int .i64 x)) fun b hb => set_block _ _ _ hb
  exact ⟨h.hp, h.ht, bears_set _ h.ty, h1, (World.cell?_setCell_other _ _ _ _ (by simp)).trans h.c0, (World.cell?_setCell_other _ _ _ _ (by simp)).trans h.c1, (World.cell?_setCell_other _ _ _ _ (by simp)).trans h.c2, (World.cell?_setCell_other _ _ _ _ (by simp)).trans h.c3, (World.cell?_setCell_other _ _ _ _ (by simp)).trans h.c4, World.cell?_setCell_same _ _ _ h.c5, (World.cell?_setCell_other _ _ _ _ (by simp)).trans h.c6,
    fun i hi => (h2 _).trans (h.t0 i hi), fun i hi => (h2 _).trans (h.t1 i hi), fun i hi => (h2 _).trans (h.t2 i hi), fun i hi => (h2 _).trans (h.t3 i hi), fun i hi => (h2 _).trans (h.t4 i hi), h3, h.ap⟩
theorem RawAt.setDead (h : RawAt B w p tb q) (x : Bool) : RawAt B (w.setCell ⟨p, 6, none⟩ (.bool x)) p tb { q with dead := x } := by
  obtain ⟨h1, h2, h3⟩ := h.inP (w' := w.setCell ⟨p, 6, none⟩ (.bool x)) fun b hb => set_block _ _ _ hb
  exact ⟨h.hp, h.ht, bears_set _ h.ty, h1, (World.cell?_setCell_other _ _ _ _ (by simp)).trans h.c0, (World.cell?_setCell_other _ _ _ _ (by simp)).trans h.c1, (World.cell?_setCell_other _ _ _ _ (by simp)).trans h.c2, (World.cell?_setCell_other _ _ _ _ (by simp)).trans h.c3, (World.cell?_setCell_other _ _ _ _ (by simp)).trans h.c4, (World.cell?_setCell_other _ _ _ _ (by simp)).trans h.c5, World.cell?_setCell_same _ _ _ h.c6,
    fun i hi => (h2 _).trans (h.t0 i hi), fun i hi => (h2 _).trans (h.t1 i hi), fun i hi => (h2 _).trans (h.t2 i hi), fun i hi => (h2 _).trans (h.t3 i hi), fun i hi => (h2 _).trans (h.t4 i hi), h3, h.ap⟩
/-- a cell of the tasks' block is set -/
theorem RawAt.inT (h : RawAt B w p tb q) (hb : ∀ b, ¬ b = tb → w'.heap[b]? = w.heap[b]?) :
    Bears w' p 58 ∧ (∀ j, w'.cell? ⟨p, j, none⟩ = w.cell? ⟨p, j, none⟩) ∧ (∀ i, i < q.n → w'.ownsRow B 73 3 (q.R i).h (q.A i).length (atC (q.A i))) := by
  have et := hb p h.pt
  refine ⟨by obtain ⟨cs, k⟩ := h.ty; exact ⟨cs, et.trans k⟩, fun j => cell_eq et j, fun i hi => own_same (h.at' i hi) fun g hg => hb g (bears_apart (own_bears (h.at' i hi) hg) h.tt (by decide))⟩
theorem tcell {α : Type} {w : World} {tb n i c : Nat} {F : Nat → α} {g : α → Value} {x : α} {v : Value} {j : Nat} (h : ∀ i, i < n → w.cell? ⟨tb, i * 5 + c, none⟩ = some (g (F i))) (hj : j < n) (hv : v = g x) : (w.setCell ⟨tb, i * 5 + c, none⟩ v).cell? ⟨tb, j * 5 + c, none⟩ = some (g (updN F i x j)) := by
  by_cases e : j = i
  · subst e
    rw [updN_same, hv]
    exact World.cell?_setCell_same _ _ _ (h j hj)
  · rw [updN_other _ _ e]
    exact (World.cell?_setCell_other _ _ _ _ (by simp <;> omega)).trans (h j hj)
theorem tcell_off {w : World} {tb n i c d : Nat} {F : Nat → Value} {v : Value} {j : Nat} (h : ∀ i, i < n → w.cell? ⟨tb, i * 5 + c, none⟩ = some (F i)) (hj : j < n) (hc : c < 5) (hd : d < 5) (hcd : ¬ c = d) : (w.setCell ⟨tb, i * 5 + d, none⟩ v).cell? ⟨tb, j * 5 + c, none⟩ = some (F j) :=
  (World.cell?_setCell_other _ _ _ _ (by simp <;> omega)).trans (h j hj)
theorem upd_off {α β : Type} (f : Nat → α) (g : α → β) (i j : Nat) (x : α) (h : g x = g (f i)) : g (updN f i x j) = g (f j) := by
  by_cases e : j = i
  · subst e; rw [updN_same, h]
  · rw [updN_other _ _ e]
theorem RawAt.setFi (h : RawAt B w p tb q) (i : Nat) (x : Int) : RawAt B (w.setCell ⟨tb, i * 5 + 1, none⟩ (.int .i64 x)) p tb { q with R := updN q.R i { q.R i with fi := x } } := by
  obtain ⟨h1, h2, h3⟩ := h.inT (w' := w.setCell ⟨tb, i * 5 + 1, none⟩ (.int .i64 x)) fun b hb => set_block _ _ _ hb
  refine ⟨h.hp, h.ht, h1, bears_set _ h.tt, (h2 _).trans h.c0, (h2 _).trans h.c1, (h2 _).trans h.c2, (h2 _).trans h.c3, (h2 _).trans h.c4, (h2 _).trans h.c5, (h2 _).trans h.c6, fun j hj => ?_, fun j hj => ?_, fun j hj => ?_, fun j hj => ?_, fun j hj => ?_, fun j hj => ?_, fun j k b hj hk => ?_⟩
  · exact (tcell_off (c := 0) (d := 1) h.t0 hj (by decide) (by decide) (by decide)).trans (congrArg some (upd_off q.R TkR.h i j { q.R i with fi := x } rfl).symm)
  · exact tcell (c := 1) (F := q.R) (g := fun r => .int .i64 r.fi) h.t1 hj rfl
  · exact (tcell_off (c := 2) (d := 1) h.t2 hj (by decide) (by decide) (by decide)).trans (congrArg (fun z => some (Value.int .i64 z)) (upd_off q.R TkR.lv i j { q.R i with fi := x } rfl).symm)
  · exact (tcell_off (c := 3) (d := 1) h.t3 hj (by decide) (by decide) (by decide)).trans (congrArg (fun z => some (Value.int .i64 z)) (upd_off q.R TkR.fu i j { q.R i with fi := x } rfl).symm)
  · exact (tcell_off (c := 4) (d := 1) h.t4 hj (by decide) (by decide) (by decide)).trans (congrArg (fun z => some (Value.int .i64 z)) (upd_off q.R TkR.wi i j { q.R i with fi := x } rfl).symm)
  · have e := upd_off q.R TkR.h i j { q.R i with fi := x } rfl
    show World.ownsRow _ B _ 3 (updN q.R i _ j).h _ _
    rw [e]
    exact h3 j hj
  · have e1 := upd_off q.R TkR.h i j { q.R i with fi := x } rfl
    have e2 := upd_off q.R TkR.h i k { q.R i with fi := x } rfl
    show (updN q.R i _ j).h.ownBlock = _ → (updN q.R i _ k).h.ownBlock = _ → _
    rw [e1, e2]
    exact h.ap j k b hj hk
theorem RawAt.setLv (h : RawAt B w p tb q) (i : Nat) (x : Int) : RawAt B (w.setCell ⟨tb, i * 5 + 2, none⟩ (.int .i64 x)) p tb { q with R := updN q.R i { q.R i with lv := x } } := by
  obtain ⟨h1, h2, h3⟩ := h.inT (w' := w.setCell ⟨tb, i * 5 + 2, none⟩ (.int .i64 x)) fun b hb => set_block _ _ _ hb
  refine ⟨h.hp, h.ht, h1, bears_set _ h.tt, (h2 _).trans h.c0, (h2 _).trans h.c1, (h2 _).trans h.c2, (h2 _).trans h.c3, (h2 _).trans h.c4, (h2 _).trans h.c5, (h2 _).trans h.c6, fun j hj => ?_, fun j hj => ?_, fun j hj => ?_, fun j hj => ?_, fun j hj => ?_, fun j hj => ?_, fun j k b hj hk => ?_⟩
  · exact (tcell_off (c := 0) (d := 2) h.t0 hj (by decide) (by decide) (by decide)).trans (congrArg some (upd_off q.R TkR.h i j { q.R i with lv := x } rfl).symm)
  · exact (tcell_off (c := 1) (d := 2) h.t1 hj (by decide) (by decide) (by decide)).trans (congrArg (fun z => some (Value.int .i64 z)) (upd_off q.R TkR.fi i j { q.R i with lv := x } rfl).symm)
  · exact tcell (c := 2) (F := q.R) (g := fun r => .int .i64 r.lv) h.t2 hj rfl
  · exact (tcell_off (c := 3) (d := 2) h.t3 hj (by decide) (by decide) (by decide)).trans (congrArg (fun z => some (Value.int .i64 z)) (upd_off q.R TkR.fu i j { q.R i with lv := x } rfl).symm)
  · exact (tcell_off (c := 4) (d := 2) h.t4 hj (by decide) (by decide) (by decide)).trans (congrArg (fun z => some (Value.int .i64 z)) (upd_off q.R TkR.wi i j { q.R i with lv := x } rfl).symm)
  · have e := upd_off q.R TkR.h i j { q.R i with lv := x } rfl
    show World.ownsRow _ B _ 3 (updN q.R i _ j).h _ _
    rw [e]
    exact h3 j hj
  · have e1 := upd_off q.R TkR.h i j { q.R i with lv := x } rfl
    have e2 := upd_off q.R TkR.h i k { q.R i with lv := x } rfl
    show (updN q.R i _ j).h.ownBlock = _ → (updN q.R i _ k).h.ownBlock = _ → _
    rw [e1, e2]
    exact h.ap j k b hj hk
theorem RawAt.setFu (h : RawAt B w p tb q) (i : Nat) (x : Int) : RawAt B (w.setCell ⟨tb, i * 5 + 3, none⟩ (.int .i64 x)) p tb { q with R := updN q.R i { q.R i with fu := x } } := by
  obtain ⟨h1, h2, h3⟩ := h.inT (w' := w.setCell ⟨tb, i * 5 + 3, none⟩ (.int .i64 x)) fun b hb => set_block _ _ _ hb
  refine ⟨h.hp, h.ht, h1, bears_set _ h.tt, (h2 _).trans h.c0, (h2 _).trans h.c1, (h2 _).trans h.c2, (h2 _).trans h.c3, (h2 _).trans h.c4, (h2 _).trans h.c5, (h2 _).trans h.c6, fun j hj => ?_, fun j hj => ?_, fun j hj => ?_, fun j hj => ?_, fun j hj => ?_, fun j hj => ?_, fun j k b hj hk => ?_⟩
  · exact (tcell_off (c := 0) (d := 3) h.t0 hj (by decide) (by decide) (by decide)).trans (congrArg some (upd_off q.R TkR.h i j { q.R i with fu := x } rfl).symm)
  · exact (tcell_off (c := 1) (d := 3) h.t1 hj (by decide) (by decide) (by decide)).trans (congrArg (fun z => some (Value.int .i64 z)) (upd_off q.R TkR.fi i j { q.R i with fu := x } rfl).symm)
  · exact (tcell_off (c := 2) (d := 3) h.t2 hj (by decide) (by decide) (by decide)).trans (congrArg (fun z => some (Value.int .i64 z)) (upd_off q.R TkR.lv i j { q.R i with fu := x } rfl).symm)
  · exact tcell (c := 3) (F := q.R) (g := fun r => .int .i64 r.fu) h.t3 hj rfl
  · exact (tcell_off (c := 4) (d := 3) h.t4 hj (by decide) (by decide) (by decide)).trans (congrArg (fun z => some (Value.int .i64 z)) (upd_off q.R TkR.wi i j { q.R i with fu := x } rfl).symm)
  · have e := upd_off q.R TkR.h i j { q.R i with fu := x } rfl
    show World.ownsRow _ B _ 3 (updN q.R i _ j).h _ _
    rw [e]
    exact h3 j hj
  · have e1 := upd_off q.R TkR.h i j { q.R i with fu := x } rfl
    have e2 := upd_off q.R TkR.h i k { q.R i with fu := x } rfl
    show (updN q.R i _ j).h.ownBlock = _ → (updN q.R i _ k).h.ownBlock = _ → _
    rw [e1, e2]
    exact h.ap j k b hj hk
theorem RawAt.setWi (h : RawAt B w p tb q) (i : Nat) (x : Int) : RawAt B (w.setCell ⟨tb, i * 5 + 4, none⟩ (.int .i64 x)) p tb { q with R := updN q.R i { q.R i with wi := x } } := by
  obtain ⟨h1, h2, h3⟩ := h.inT (w' := w.setCell ⟨tb, i * 5 + 4, none⟩ (.int .i64 x)) fun b hb => set_block _ _ _ hb
  refine ⟨h.hp, h.ht, h1, bears_set _ h.tt, (h2 _).trans h.c0, (h2 _).trans h.c1, (h2 _).trans h.c2, (h2 _).trans h.c3, (h2 _).trans h.c4, (h2 _).trans h.c5, (h2 _).trans h.c6, fun j hj => ?_, fun j hj => ?_, fun j hj => ?_, fun j hj => ?_, fun j hj => ?_, fun j hj => ?_, fun j k b hj hk => ?_⟩
  · exact (tcell_off (c := 0) (d := 4) h.t0 hj (by decide) (by decide) (by decide)).trans (congrArg some (upd_off q.R TkR.h i j { q.R i with wi := x } rfl).symm)
  · exact (tcell_off (c := 1) (d := 4) h.t1 hj (by decide) (by decide) (by decide)).trans (congrArg (fun z => some (Value.int .i64 z)) (upd_off q.R TkR.fi i j { q.R i with wi := x } rfl).symm)
  · exact (tcell_off (c := 2) (d := 4) h.t2 hj (by decide) (by decide) (by decide)).trans (congrArg (fun z => some (Value.int .i64 z)) (upd_off q.R TkR.lv i j { q.R i with wi := x } rfl).symm)
  · exact (tcell_off (c := 3) (d := 4) h.t3 hj (by decide) (by decide) (by decide)).trans (congrArg (fun z => some (Value.int .i64 z)) (upd_off q.R TkR.fu i j { q.R i with wi := x } rfl).symm)
  · exact tcell (c := 4) (F := q.R) (g := fun r => .int .i64 r.wi) h.t4 hj rfl
  · have e := upd_off q.R TkR.h i j { q.R i with wi := x } rfl
    show World.ownsRow _ B _ 3 (updN q.R i _ j).h _ _
    rw [e]
    exact h3 j hj
  · have e1 := upd_off q.R TkR.h i j { q.R i with wi := x } rfl
    have e2 := upd_off q.R TkR.h i k { q.R i with wi := x } rfl
    show (updN q.R i _ j).h.ownBlock = _ → (updN q.R i _ k).h.ownBlock = _ → _
    rw [e1, e2]
    exact h.ap j k b hj hk
/-- the state of a task's attempt is set -/
theorem RawAt.setA (h : RawAt B w p tb q) {i j g c s : Nat} (hi : i < q.n) (hj : j < (q.A i).length) (hv : (q.R i).h = .slice (some ⟨g, 0, none⟩) (q.A i).length c) : RawAt B (w.setCell ⟨g, j * 3, none⟩ (.int .i64 (s : Int))) p tb { q with A := updN q.A i (setSt (q.A i) j s) } := by
  have hown := h.at' i hi
  rw [hv] at hown
  have hg : (q.R i).h.ownBlock = some g := by rw [hv]; rfl
  have hty := own_bears (h.at' i hi) hg
  obtain ⟨s1, _⟩ := hown.stored (j * 3) (.int .i64 (s : Int))
  rw [atC_set _ _ _ hj] at s1
  have hb : ∀ b, ¬ b = g → (w.setCell ⟨g, j * 3, none⟩ (.int .i64 (s : Int))).heap[b]? = w.heap[b]? := fun b hb => set_block _ _ _ hb
  have ep := hb p (bears_apart h.ty hty (by decide))
  have et := hb tb (bears_apart h.tt hty (by decide))
  refine ⟨h.hp, h.ht, by obtain ⟨cs, k⟩ := h.ty; exact ⟨cs, ep.trans k⟩, by obtain ⟨cs, k⟩ := h.tt; exact ⟨cs, et.trans k⟩,
    (cell_eq ep 0).trans h.c0, (cell_eq ep 1).trans h.c1, (cell_eq ep 2).trans h.c2, (cell_eq ep 3).trans h.c3, (cell_eq ep 4).trans h.c4, (cell_eq ep 5).trans h.c5, (cell_eq ep 6).trans h.c6,
    fun i hi => (cell_eq et _).trans (h.t0 i hi), fun i hi => (cell_eq et _).trans (h.t1 i hi), fun i hi => (cell_eq et _).trans (h.t2 i hi), fun i hi => (cell_eq et _).trans (h.t3 i hi), fun i hi => (cell_eq et _).trans (h.t4 i hi), fun k hk => ?_, h.ap⟩
  show World.ownsRow _ B _ 3 (q.R k).h (updN q.A i (setSt (q.A i) j s) k).length (atC (updN q.A i (setSt (q.A i) j s) k))
  by_cases e : k = i
  · subst e
    rw [updN_same, setSt_len, hv]
    exact s1
  · rw [updN_other _ _ e]
    exact own_same (h.at' k hk) fun b hbk => hb b fun e2 => e (h.ap k i b hk hi hbk (e2 ▸ hg))
/-- an attempt more: behind the append, the header is set -/
theorem RawAt.addA (h : RawAt B w p tb q) {i : Nat} (hi : i < q.n) {w1 : World} {g c : Nat} {a : Att}
    (hg : w.grownBy w1 (q.R i).h.ownBlock) (hown : w1.ownsRow B 73 3 (.slice (some ⟨g, 0, none⟩) ((q.A i).length + 1) c) ((q.A i).length + 1) (atC (q.A i) ++ [.int .i64 (a.st : Int), .int .i64 a.nd, .int .i64 a.bg]))
    (hat : (q.R i).h.ownBlock = some g ∨ g = w.heap.size) : RawAt B (w1.setCell ⟨tb, i * 5, none⟩ (.slice (some ⟨g, 0, none⟩) ((q.A i).length + 1) c)) p tb { q with R := updN q.R i { q.R i with h := .slice (some ⟨g, 0, none⟩) ((q.A i).length + 1) c }, A := updN q.A i (q.A i ++ [a]) } := by
  have hne : ∀ b e, Bears w b e → e ≠ 73 → w1.heap[b]? = w.heap[b]? := fun b e hb he => hg.block b hb.lt fun e2 => he (by
    have := own_bears (h.at' i hi) e2.symm
    obtain ⟨c1, k1⟩ := this
    obtain ⟨c2, k2⟩ := hb
    rw [k1] at k2
    injection k2 with k2
    injection k2 with _ k2 _
    exact k2.symm)
  have ep := hne p _ h.ty (by decide)
  have et := hne tb _ h.tt (by decide)
  have hB1 : Bears w1 p 58 := by obtain ⟨cs, k⟩ := h.ty; exact ⟨cs, ep.trans k⟩
  have hB2 : Bears w1 tb 63 := by obtain ⟨cs, k⟩ := h.tt; exact ⟨cs, et.trans k⟩
  have ep2 : (w1.setCell ⟨tb, i * 5, none⟩ (.slice (some ⟨g, 0, none⟩) ((q.A i).length + 1) c)).heap[p]? = w1.heap[p]? := set_block _ _ _ h.pt
  have e2 := ep2.trans ep
  have hrow : ∀ k, k < q.n → k ≠ i → w1.ownsRow B 73 3 (q.R k).h (q.A k).length (atC (q.A k)) := fun k hk he => own_same (h.at' k hk) fun b hb => hg.block b (own_bears (h.at' k hk) hb).lt fun e3 => he (h.ap k i b hk hi hb e3.symm)
  have hS : ∀ {v n xs}, w1.ownsRow B 73 3 v n xs → (w1.setCell ⟨tb, i * 5, none⟩ (.slice (some ⟨g, 0, none⟩) ((q.A i).length + 1) c)).ownsRow B 73 3 v n xs := fun k => own_same k fun b hb => set_block _ _ _ (bears_apart (own_bears k hb) hB2 (by decide))
  have T0 : ∀ k, k < q.n → w1.cell? ⟨tb, k * 5 + 0, none⟩ = some (q.R k).h := fun k hk => (cell_eq et _).trans (h.t0 k hk)
  refine ⟨h.hp, h.ht, by obtain ⟨cs, k⟩ := h.ty; exact ⟨cs, e2.trans k⟩, bears_set _ hB2, (cell_eq e2 0).trans h.c0, (cell_eq e2 1).trans h.c1, (cell_eq e2 2).trans h.c2, (cell_eq e2 3).trans h.c3, (cell_eq e2 4).trans h.c4, (cell_eq e2 5).trans h.c5, (cell_eq e2 6).trans h.c6, fun j hj => ?_, fun j hj => ?_, fun j hj => ?_, fun j hj => ?_, fun j hj => ?_, fun j hj => ?_, fun j k b hj hk => ?_⟩
  · exact tcell (c := 0) (F := q.R) (g := TkR.h) T0 hj rfl
  · exact (tcell_off (c := 1) (d := 0) (fun k hk => (cell_eq et _).trans (h.t1 k hk)) hj (by decide) (by decide) (by decide)).trans (congrArg (fun z => some (Value.int .i64 z)) (upd_off q.R TkR.fi i j { q.R i with h := .slice (some ⟨g, 0, none⟩) ((q.A i).length + 1) c } rfl).symm)
  · exact (tcell_off (c := 2) (d := 0) (fun k hk => (cell_eq et _).trans (h.t2 k hk)) hj (by decide) (by decide) (by decide)).trans (congrArg (fun z => some (Value.int .i64 z)) (upd_off q.R TkR.lv i j { q.R i with h := .slice (some ⟨g, 0, none⟩) ((q.A i).length + 1) c } rfl).symm)
  · exact (tcell_off (c := 3) (d := 0) (fun k hk => (cell_eq et _).trans (h.t3 k hk)) hj (by decide) (by decide) (by decide)).trans (congrArg (fun z => some (Value.int .i64 z)) (upd_off q.R TkR.fu i j { q.R i with h := .slice (some ⟨g, 0, none⟩) ((q.A i).length + 1) c } rfl).symm)
  · exact (tcell_off (c := 4) (d := 0) (fun k hk => (cell_eq et _).trans (h.t4 k hk)) hj (by decide) (by decide) (by decide)).trans (congrArg (fun z => some (Value.int .i64 z)) (upd_off q.R TkR.wi i j { q.R i with h := .slice (some ⟨g, 0, none⟩) ((q.A i).length + 1) c } rfl).symm)
  · show World.ownsRow _ B _ 3 (updN q.R i _ j).h (updN q.A i _ j).length (atC (updN q.A i _ j))
    by_cases e : j = i
    · subst e
      rw [updN_same, updN_same, List.length_append, atC_app]
      exact hS hown
    · rw [updN_other _ _ e, updN_other _ _ e]
      exact hS (hrow j hj e)
  · show (updN q.R i _ j).h.ownBlock = _ → (updN q.R i _ k).h.ownBlock = _ → _
    have key : ∀ l, l < q.n → l ≠ i → (q.R l).h.ownBlock ≠ some g := fun l hl he e3 => by
      rcases hat with e4 | e4
      · exact he (h.ap l i g hl hi e3 e4)
      · have := (own_bears (h.at' l hl) e3).lt
        omega
    by_cases ej : j = i
    · subst ej
      rw [updN_same]
      intro h1
      have h1 : g = b := by simpa [Value.ownBlock] using h1
      subst h1
      by_cases ek : k = j
      · exact fun _ => ek.symm
      · rw [updN_other _ _ ek]
        exact fun h2 => absurd h2 (key k hk ek)
    · rw [updN_other _ _ ej]
      by_cases ek : k = i
      · subst ek
        rw [updN_same]
        intro h1 h2
        have h2 : g = b := by simpa [Value.ownBlock] using h2
        subst h2
        exact absurd h1 (key j hj ej)
      · rw [updN_other _ _ ek]
        exact h.ap j k b hj hk
end
/-- a board's cells as its model says -/
def rawB (hs : Nat → Value) (b : Bd) : Raw := ⟨b.m, b.n, fun i => ⟨hs i, ((b.T i).fi : Int), ((b.T i).lv : Int), ((b.T i).fu : Int), ((b.T i).wi : Int)⟩, fun i => (b.T i).A, b.lim, b.pat, (b.om : Int), (b.orr : Int), b.dead⟩
/-- a board of the law's own at p -/
structure AB (w0 w : World) (p : Nat) (b : Bd) : Prop where
  bel : Below w0.heap.size w0 w
  raw : ∃ tb hs, RawAt w0.heap.size w p tb (rawB hs b)
  mn : b.m ≤ b.n
  nn : b.n ≤ 8192
  lim : 1 ≤ b.lim ∧ b.lim ≤ 9223372036854775807
  pat : 1 ≤ b.pat ∧ b.pat ≤ 1099511627776
theorem AB.below {w0 w w' : World} {p : Nat} {b : Bd} (h : AB w0 w p b) (hb : Below w.heap.size w w') : AB w0 w' p b :=
  ⟨h.bel.trans (hb.mono h.bel.size), by obtain ⟨tb, hs, k⟩ := h.raw; exact ⟨tb, hs, k.below hb⟩, h.mn, h.nn, h.lim, h.pat⟩
/-- all blocks stay but those of boards, tasks and attempts -/
def AF (w w' : World) : Prop := ∀ b e, Bears w b e → e ≠ 58 → e ≠ 63 → e ≠ 73 → w'.heap[b]? = w.heap[b]?
theorem af_below {w w' : World} (h : Below w.heap.size w w') : AF w w' := fun b _ hb _ _ _ => h.block b hb.lt
theorem af_refl (w : World) : AF w w := fun _ _ _ _ _ _ => rfl
theorem af_trans {w w1 w2 : World} (h : AF w w1) (k : AF w1 w2) : AF w w2 := fun b e hb h1 h2 h3 => by
  have e1 := h b e hb h1 h2 h3
  have hb1 : Bears w1 b e := by obtain ⟨cs, hc⟩ := hb; exact ⟨cs, e1.trans hc⟩
  exact (k b e hb1 h1 h2 h3).trans e1
end Go.Proofs.Ytapnlofklgknmaa
