/- Package net: the ways that are cut: a map whose keys are structs. -/
import Derived.Test.YtcahiogjmclnjaaNetDlv
import Derived.DeepKeys5
import Derived.Maps.Own
import Derived.Maps.OwnSet
import Derived.Maps.Views
import Derived.Test.YtcahiogjmclnjaaPlainKit
namespace Go.Proofs.Ytcahiogjmclnjaa
open Go.RowKit Go.Maps

theorem wayLaw : Keyed Try.prog 67 := Keyed.of_law (deep_law_gate laidOut (of_decide_eq_true (by kernel_rfl)) (of_decide_eq_true (by kernel_rfl)) (by kernel_rfl) (by kernel_rfl))
theorem zeroUnit (w : World) : (zeroValue 69).run Try.prog w = .ok (.agg #[]) w := by kernel_rfl
/-- a way as the map's reader tells it -/
def kl (x y : Int) : Lit := .string (keyBytes [.int .i64 x, .int .i64 y])
theorem kl_is (x y : Int) : WideAt.IsKeyLit (kl x y) := trivial
/-- a number of 64 bits -/
def node4 (x : Int) : Prop := -9223372036854775808 ≤ x ∧ x ≤ 9223372036854775807
theorem wf_of {x : Int} (h : node4 x) : (Lit.int .i64 x).wf = true := by
  obtain ⟨h1, h2⟩ := h
  simp [Lit.wf, IntKind.min, IntKind.max, IntKind.signed, IntKind.bits]
  omega
theorem keyOf_way {x y : Int} (hx : node4 x) (hy : node4 y) : keyOf Try.prog 67 (.agg #[.int .i64 x, .int .i64 y]) = some (kl x y) := by
  have h1 := wf_of hx
  have h2 := wf_of hy
  have hk : Try.prog.keyType 67 = true := by kernel_rfl
  have hf : Value.formed Try.prog 67 (.agg #[.int .i64 x, .int .i64 y]) = true := by kernel_rfl
  have e8 : Try.prog.cellsOf 3 = 1 := by kernel_rfl
  have e9 : Try.prog.cellsOf 67 = 2 := by kernel_rfl
  have hl : ∀ n, Try.prog.keyLits (n + 2) 67 [.int .i64 x, .int .i64 y] = some [.int .i64 x, .int .i64 y] := by
    intro n
    simp [Program.keyLits, Try.underlying67, Try.underlying3, e8, e9, h1, h2]
  obtain ⟨m, hm⟩ : ∃ m, Try.prog.types.size + 1 = m + 2 := ⟨Try.prog.types.size - 1, by have : 1 ≤ Try.prog.types.size := of_decide_eq_true (by kernel_rfl); omega⟩
  unfold keyOf
  rw [Try.underlying67]
  simp only [hk, hf, Bool.and_self, if_true, Value.cells]
  rw [hm, hl]
  rfl
theorem kl_inj {x y x' y' : Int} (hx : node4 x) (hy : node4 y) (hx' : node4 x') (hy' : node4 y') (h : kl x y = kl x' y') : x = x' ∧ y = y' := by
  have e : keyBytes [.int .i64 x, .int .i64 y] = keyBytes [.int .i64 x', .int .i64 y'] := by
    unfold kl at h
    injection h
  have hw : ∀ {u v : Int}, node4 u → node4 v → ∀ a ∈ [Lit.int .i64 u, Lit.int .i64 v], Lit.keyWf a := by
    intro u v hu hv a ha
    simp at ha
    rcases ha with rfl | rfl
    · exact wf_of hu
    · exact wf_of hv
  have := keyBytes_inj (l := [.int .i64 x, .int .i64 y]) (l' := [.int .i64 x', .int .i64 y']) (And.intro rfl (And.intro rfl trivial)) (hw hx hy) (hw hx' hy') e
  simpa using this
def kk (a b : Int) : Lit := kl (min a b) (max a b)
theorem node4_min {a b : Int} (ha : node4 a) (hb : node4 b) : node4 (min a b) := by unfold node4 at *; omega
theorem node4_max {a b : Int} (ha : node4 a) (hb : node4 b) : node4 (max a b) := by unfold node4 at *; omega
theorem kk_comm (a b : Int) : kk a b = kk b a := by unfold kk; rw [Int.min_comm, Int.max_comm]
theorem kk_ne2 {a b c d : Int} (ha : node4 a) (hb : node4 b) (hc : node4 c) (hd : node4 d) (h : ¬ ((a = c ∧ b = d) ∨ (a = d ∧ b = c))) : kk a b ≠ kk c d := by
  intro e
  obtain ⟨e1, e2⟩ := kl_inj (node4_min ha hb) (node4_max ha hb) (node4_min hc hd) (node4_max hc hd) e
  omega
theorem between_exact (a b : Int) (w : World) :
    Calls Try.prog 28 #[.int .i64 a, .int .i64 b] w fun e w' => e = .returned (.agg #[.int .i64 (min a b), .int .i64 (max a b)]) ∧ Below w.heap.size w w' := by
  have hB := (Below.refl _ w).alloc (Nat.le_refl _) (.cells #[.int .i64 0, .int .i64 0] 67)
  rcases Int.lt_trichotomy a b with h | h | h
  · rw [show min a b = a by omega, show max a b = b by omega]
    go_enter Try.func28, Try.ntmps28
    go_wp2
    exact bodyPost_ret (v := .agg #[.int .i64 a, .int .i64 b]) (by simp [results, Try.results28, go_sem]) rfl ⟨rfl, ((Below.refl _ w).alloc (Nat.le_refl _) _)⟩
  · subst h
    rw [show min a a = a by omega, show max a a = a by omega]
    go_enter Try.func28, Try.ntmps28
    go_wp2
    exact bodyPost_ret (v := .agg #[.int .i64 a, .int .i64 a]) (by simp [results, Try.results28, go_sem]) rfl ⟨rfl, ((Below.refl _ w).alloc (Nat.le_refl _) _)⟩
  · rw [show min a b = b by omega, show max a b = a by omega]
    go_enter Try.func28, Try.ntmps28
    go_wp2
    exact bodyPost_ret (v := .agg #[.int .i64 b, .int .i64 a]) (by simp [results, Try.results28, go_sem]) rfl ⟨rfl, ((Below.refl _ w).alloc (Nat.le_refl _) _)⟩
abbrev Owns (w : World) (m n : Nat) (D : DataW Unit) : Prop := w.ownsMap Try.prog 67 unitElem m n D
theorem Owns.below {w w' : World} {m n : Nat} {D : DataW Unit} (h : Owns w m n D) (hb : Below w.heap.size w w') : Owns w' m n D := by
  obtain ⟨es, clock, h1, h2⟩ := h
  have hm : m < w.heap.size := by
    rcases Nat.lt_or_ge m w.heap.size with h | h
    · exact h
    · simp [Array.getElem?_eq_none h] at h1
  exact ⟨es, clock, (hb.block m hm).trans h1, h2⟩
abbrev MI (wc : World) (p m n : Nat) (D : DataW Unit) (w' : World) : Prop := Hid (Below wc.heap.size wc w' ∧ Owns w' m n D) ∧ w'.cell? ⟨p, 3, none⟩ = some (.map (some m))
theorem mi_of {wc w' : World} {p m n : Nat} {D : DataW Unit} (hc : wc.cell? ⟨p, 3, none⟩ = some (.map (some m))) (ho : Owns wc m n D) (hb : Below wc.heap.size wc w') : MI wc p m n D w' := by
  have hp : p < wc.heap.size := by
    rcases Nat.lt_or_ge p wc.heap.size with h | h
    · exact h
    · simp [World.cell?, Array.getElem?_eq_none h] at hc
  exact ⟨Lib.hid ⟨hb, ho.below hb⟩, (hb.cell (p := ⟨p, 3, none⟩) hp).trans hc⟩
theorem mi_drew {wc w' : World} {p m n : Nat} {D : DataW Unit} (k : MI wc p m n D w') : MI wc p m n D w'.drew := ⟨Lib.hid ⟨k.1.out.1.drew, k.1.out.2⟩, k.2⟩
theorem mi_alloc {wc w' : World} {p m n : Nat} {D : DataW Unit} (hc : wc.cell? ⟨p, 3, none⟩ = some (.map (some m))) (ho : Owns wc m n D) {o : Obj} (k : MI wc p m n D w') : MI wc p m n D (w'.alloc o) := mi_of hc ho (k.1.out.1.alloc k.1.out.1.size _)
theorem mi_own {wc w' : World} {p m n : Nat} {D : DataW Unit} (k : MI wc p m n D w') : Owns w' m n D := k.1.out.2
theorem mi_out {wc w' : World} {p m n : Nat} {D : DataW Unit} (k : MI wc p m n D w') : Below wc.heap.size wc w' := k.1.out.1
theorem between_M {wc w' : World} {p m n : Nat} {D : DataW Unit} (hc : wc.cell? ⟨p, 3, none⟩ = some (.map (some m))) (ho : Owns wc m n D) (a b : Int) (k : MI wc p m n D w') :
    Calls Try.prog 28 #[.int .i64 a, .int .i64 b] w' fun e w'' => e = .returned (.agg #[.int .i64 (min a b), .int .i64 (max a b)]) ∧ MI wc p m n D w'' :=
  (between_exact a b w').mono fun _ _ ⟨he, hb⟩ => ⟨he, mi_of hc ho (k.1.out.1.trans (hb.mono k.1.out.1.size))⟩
theorem look_run {w : World} {m n : Nat} {D : DataW Unit} {x y : Int} (h : Owns w m n D) (hkey : keyOf Try.prog 67 (.agg #[.int .i64 x, .int .i64 y]) = some (kl x y)) :
    (Instr.lookup 57 (.map (some m)) (.agg #[.int .i64 x, .int .i64 y]) true).run Try.prog w = .ok (.tuple #[.agg #[], .bool (Maps.has D (kl x y))]) w := by
  obtain ⟨v, ps, hrun, hv⟩ := h.look_ok wayLaw Try.underlying57 (zeroUnit _) unitElem_mk hkey
  obtain ⟨rfl, _⟩ := unitElem_inv hv
  exact hrun
set_option maxRecDepth 100000 in
set_option maxHeartbeats 2000000 in
theorem parted_own (p m n : Nat) (a b : Int) (D : DataW Unit) (w : World) (c3 : w.cell? ⟨p, 3, none⟩ = some (.map (some m))) (ho : Owns w m n D) (ha : node4 a) (hb : node4 b) :
    Calls Try.prog 19 #[.pointer (some ⟨p, 0, none⟩), .int .i64 a, .int .i64 b] w fun e w' => e = .returned (.bool (Maps.has D (kk a b))) ∧ Below w.heap.size w w' := by
  have hS : MI w p m n D w := mi_of c3 ho (Below.refl _ _)
  have HO := Lib.hid ho
  have hkey := Lib.hid (keyOf_way (node4_min ha hb) (node4_max ha hb))
  clear ho ha hb
  go_enter Try.func19, Try.ntmps19
  go_wp2
  go_region_held3 (fun w' => MI w p m n D w') (first | assumption | exact mi_drew (by assumption) | exact mi_alloc c3 HO.out (by assumption) | exact mi_drew (mi_alloc c3 HO.out (by assumption)))
    (first
      | (go_at_call 28; refine (between_M c3 HO.out a b (by first | assumption | exact mi_drew (by assumption) | exact mi_alloc c3 HO.out (by assumption))).mono ?_; rintro e w' ⟨rfl, hS⟩; have hl0 := look_run (mi_own hS) hkey.out; have hl1 := fun o => look_run (mi_own (mi_alloc c3 HO.out (o := o) hS)) hkey.out))
  all_goals (go_wp2; go_ret; exact ⟨rfl, mi_out (p := p) (m := m) (n := n) (D := D) (by first | assumption | exact mi_alloc c3 HO.out (by assumption))⟩)
end Go.Proofs.Ytcahiogjmclnjaa
