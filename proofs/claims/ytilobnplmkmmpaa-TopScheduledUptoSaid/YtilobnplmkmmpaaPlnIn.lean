/- The laws' list of tasks: a row of tasks of the law's own, each with a row of places of its own. -/
import Derived.Test.YtilobnplmkmmpaaPlnOpen
import Derived.Test.YtilobnplmkmmpaaPlnSpk
import Derived.Deep.Onto
import Derived.Deep.Upon
namespace Go.Proofs.Ytilobnplmkmmpaa
open Go.RowKit

noncomputable def TT (R : Nat → PrR) (a : Nat → Option Addr) (c : Nat → Nat) : Nat → Tsk := fun j => ⟨(j : Int), a j, (R j).n, c j, fun k => floatOfInt .f64 ((R j).it k).1, fun k => floatOfInt .f64 ((R j).it k).2⟩
def tkL (T : Nat → Tsk) (n : Nat) : List Value := (List.range n).flatMap fun j => tkC (T j)
theorem tkL_succ (T : Nat → Tsk) (n : Nat) : tkL T (n + 1) = tkL T n ++ tkC (T n) := by unfold tkL; rw [List.range_succ, List.flatMap_append]; simp
theorem tkL_len (T : Nat → Tsk) (n : Nat) : (tkL T n).length = n * 2 := by
  induction n with
  | zero => rfl
  | succ n ih => rw [tkL_succ, List.length_append, ih]; simp [tkC]; omega
theorem tkL_at (T : Nat → Tsk) : ∀ (n i : Nat), i < n → ∀ q, q < 2 → (tkL T n)[i * 2 + q]? = (tkC (T i))[q]?
  | n + 1, i, hi, q, hq => by
    rw [tkL_succ]
    by_cases h : i < n
    · rw [List.getElem?_append_left (by rw [tkL_len]; omega)]
      exact tkL_at T n i h q hq
    · obtain rfl : i = n := by omega
      rw [List.getElem?_append_right (by rw [tkL_len]; omega), tkL_len, show i * 2 + q - i * 2 = q by omega]
theorem tkL_congr {T T' : Nat → Tsk} {n : Nat} (h : ∀ j, j < n → T j = T' j) : tkL T n = tkL T' n := by
  induction n with
  | zero => rfl
  | succ n ih => rw [tkL_succ, tkL_succ, ih fun j hj => h j (by omega), h n (by omega)]
theorem cxL_len (it : Nat → Pr) (n : Nat) : (cxL it n).length = n := by simp [cxL]
theorem cxL_at (it : Nat → Pr) (n i : Nat) (h : i < n) : (cxL it n)[i]? = some (.complex .f64 (floatOfInt .f64 (it i).1) (floatOfInt .f64 (it i).2)) := by
  unfold cxL
  rw [List.getElem?_map, List.getElem?_range h]
  rfl
theorem own_form {w : World} {B n sz : Nat} {e : TypeId} {v : Value} {xs : List Value} (h : w.ownsRow B e sz v n xs) : ∃ a c, v = .slice a n c := by
  rcases h.2 with ⟨rfl, h0⟩ | ⟨g, cap, cur, rfl, _⟩
  · exact ⟨none, 0, by rw [h0]⟩
  · exact ⟨_, _, rfl⟩
theorem own_form2 {w : World} {B n sz : Nat} {e : TypeId} {v : Value} {xs : List Value} (h : w.ownsRow B e sz v n xs) : ∃ a c, v = .slice a n c ∧ n ≤ c := by
  rcases h.2 with ⟨rfl, h0⟩ | ⟨g, cap, cur, rfl, _, _, hc, _⟩
  · exact ⟨none, 0, by rw [h0], by omega⟩
  · exact ⟨_, _, rfl, hc⟩
theorem rows_apart5 {W : World} {b b' sz sz' n n' : Nat} {e e' : TypeId} {v v' : Value} {xs xs' : List Value} (h : W.ownsRow b e sz v n xs) (h' : W.ownsRow b' e' sz' v' n' xs') (hne : e ≠ e') : v'.ownBlock = none ∨ v'.ownBlock ≠ v.ownBlock := by
  rcases h'.2 with ⟨rfl, _⟩ | ⟨g', cap', cur', rfl, _, hg', _⟩
  · exact .inl rfl
  · refine .inr fun e1 => ?_
    rcases h.2 with ⟨rfl, _⟩ | ⟨g, cap, cur, rfl, _, hg, _⟩
    · simp [Value.ownBlock] at e1
    · obtain rfl : g' = g := by simpa [Value.ownBlock] using e1
      have := hg.symm.trans hg'
      simp at this
      exact hne this.2
theorem own_below {w w' : World} {B n sz : Nat} {e : TypeId} {v : Value} {xs : List Value} (h : w.ownsRow B e sz v n xs) (hb : Below w.heap.size w w') : w'.ownsRow B e sz v n xs :=
  h.kept (row := none) ⟨hb.os, hb.tape, hb.output, hb.size, fun k hk _ => hb.block k hk⟩ (by
    rcases h.2 with ⟨rfl, _⟩ | ⟨g, cp, cur, rfl, _, _, _⟩
    · exact .inl rfl
    · exact .inr (by simp [Value.ownBlock]))
theorem lt_of_cell' {w : World} {g o : Nat} {v : Value} (h : w.cell? ⟨g, o, none⟩ = some v) : g < w.heap.size := by
  rcases Nat.lt_or_ge g w.heap.size with hlt | hge
  · exact hlt
  · simp [World.cell?, Array.getElem?_eq_none hge] at h
/-- a row of places, as a task's data -/
theorem own_cx {w : World} {B B' n : Nat} {a : Option Addr} {c : Nat} {it : Nat → Pr} (h : w.ownsRow B 32 1 (.slice a n c) n (cxL it n)) (hB : w.heap.size ≤ B') : SlOf w B' a n fun i => .complex .f64 (floatOfInt .f64 (it i).1) (floatOfInt .f64 (it i).2) := fun i hi => by
  obtain ⟨g, c', e, _, hlt⟩ := h.form (by omega)
  injection e with e _ _
  subst e
  have k := h.cellAt i (by omega)
  rw [cxL_at it n i hi] at k
  exact ⟨g, 0, rfl, by have := lt_of_cell' k; omega, by simpa using k⟩
theorem wpList_append_nothing {P : Program} (w : World) {ops : Array Oper} {rest : List Oper} {o : Oper} {a : Act} {Q : Exit → Act → World → Prop} (hgd : o.guard = none) (s x : Operand) (t : TypeId)
    (ho : o.op = .call { callee := .builtin .append, args := #[s, x], argTypes := #[t, t] })
    (e : TypeId) (i : TypeInfo) (ht : P.underlying t = some (.slice e)) (hi : P.info? e = some i) (base : Option Addr) (sLen sCap : Nat) (hle : sLen ≤ sCap) (hs : a.eval s = .slice base sLen sCap)
    (ao : Option Addr) (m c : Nat) (hm : m = 0) (hx : a.eval x = .slice ao m c) (h : ∀ u, Hid (u = Value.slice base sLen sCap) → wpList P ops Q rest (a.put o.dst u) w) : wpList P ops Q (o :: rest) a w := by
  subst hm
  have hS : Src P i.size t (.slice ao 0 c) 0 [] w := by
    cases ao with
    | none => exact Src.ofNil w ht c
    | some ad => exact Src.ofSlice w ht ad 0 c [] (by simp) (by simp) (by simp)
  have hr := run_append_nothing (P := P) w t t o.type e i ht hi base sLen sCap hle _ hS
  refine wpList_plain hgd fun K hK' => ?_
  unfold Oper.wp
  simp [execOp, ho, resolve, invoke, builtin, hs, hx, hr, Result.andThen]
  exact hK' _ _ (h _ (Lib.hid rfl))
structure InAt (B : Nat) (w : World) (v : Value) (i : Nat) (R : Nat → PrR) (a : Nat → Option Addr) (c : Nat → Nat) : Prop where
  row : w.ownsRow B 31 2 v i (tkL (TT R a c) i)
  hd : ∀ j, j < i → w.ownsRow B 32 1 (.slice (a j) (R j).n (c j)) (R j).n (cxL (R j).it (R j).n)
section
variable {B i : Nat} {w w1 w' : World} {v v' : Value} {R : Nat → PrR} {a : Nat → Option Addr} {c : Nat → Nat}
theorem InAt.below (h : InAt B w v i R a c) (hb : Below w.heap.size w w') : InAt B w' v i R a c := ⟨own_below h.row hb, fun j hj => own_below (h.hd j hj) hb⟩
/-- .. as an argument -/
theorem InAt.tks {A : Option Addr} {cap : Nat} (h : InAt B w (.slice A i cap) i R a c) (hR : ∀ j, j < i → (R j).n ≤ 1048576) : Tks w w.heap.size A i (TT R a c) := fun j hj => by
  obtain ⟨g, c', e, _, _⟩ := h.row.form (by omega)
  injection e with e _ _
  subst e
  have k := fun q (hq : q < 2) => (h.row.cellAt (j * 2 + q) (show j * 2 + q < i * 2 by omega)).trans (tkL_at (TT R a c) i j hj q hq)
  have k0 := k 0 (by omega)
  have k1 := k 1 (by omega)
  exact ⟨⟨hR j hj, own_cx (h.hd j hj) (Nat.le_refl _)⟩, g, 0, rfl, lt_of_cell' k0, by rw [Nat.zero_add]; exact k0, by rw [Nat.zero_add]; exact k1⟩
/-- one more task -/
theorem InAt.push (h : InAt B w v i R a c) (hB : B ≤ w.heap.size) {ai : Option Addr} {ci : Nat} (hb : Below w.heap.size w w1) (hr : w1.ownsRow w.heap.size 32 1 (.slice ai (R i).n ci) (R i).n (cxL (R i).it (R i).n))
    (hg : w1.grownBy w' v.ownBlock) (ho : w'.ownsRow B 31 2 v' (i + 1) (tkL (TT R a c) i ++ [.int .i64 (i : Int), .slice ai (R i).n ci])) :
    ∃ a' c', InAt B w' v' (i + 1) R a' c' := by
  have h1 := h.below hb
  have hrr := h1.row
  refine ⟨fun j => if j = i then ai else a j, fun j => if j = i then ci else c j, ?_, fun j hj => ?_⟩
  · have e : tkL (TT R (fun j => if j = i then ai else a j) fun j => if j = i then ci else c j) (i + 1) = tkL (TT R a c) i ++ [.int .i64 (i : Int), .slice ai (R i).n ci] := by
      rw [tkL_succ, tkL_congr (T' := TT R a c) fun j hj => by simp [TT, show ¬ j = i by omega]]
      simp [tkC, TT]
    rw [e]
    exact ho
  · by_cases e : j = i
    · subst e
      simp only [if_true]
      exact ((hr.kept hg (rows_apart5 hrr hr (by decide))).mono hB)
    · simp only [if_neg e]
      have hj' := h1.hd j (by omega)
      exact hj'.kept hg (rows_apart5 hrr hj' (by decide))
/-- what lies below B is as it was -/
theorem own_grown {w0 : World} {v : Value} {n sz : Nat} {e : TypeId} {xs : List Value} (h : w.ownsRow B e sz v n xs) (hb : Below B w0 w1) (hg : w1.grownBy w' v.ownBlock) (hB : B ≤ w1.heap.size) : Below B w0 w' :=
  hb.grown hg hB (fun j ej => by
    rcases h.2 with ⟨rfl, _⟩ | ⟨g, cp, cur, rfl, hb, _, _⟩
    · simp [Value.ownBlock] at ej
    · obtain rfl : g = j := by simpa [Value.ownBlock] using ej
      exact hb)
end
end Go.Proofs.Ytilobnplmkmmpaa
