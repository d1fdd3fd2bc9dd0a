/- Package net: a letter arrives at a net that holds one. -/
import Derived.Test.YtcahiogjmclnjaaNetOne
import Derived.Laws.IdiomCopy
namespace Go.Proofs.Ytcahiogjmclnjaa
open Go.RowKit

theorem clear_run (g c : Nat) (id a b : Int) (s : ByteArray) (w : World) (h0 : w.cell? ⟨g, 0, none⟩ = some (.int .i64 id)) (h1 : w.cell? ⟨g, 1, none⟩ = some (.int .i64 a)) (h2 : w.cell? ⟨g, 2, none⟩ = some (.int .i64 b)) (h3 : w.cell? ⟨g, 3, none⟩ = some (.string s))
    (f0 : w.frozen? ⟨g, 0, none⟩ = false) (f1 : w.frozen? ⟨g, 1, none⟩ = false) (f2 : w.frozen? ⟨g, 2, none⟩ = false) (f3 : w.frozen? ⟨g, 3, none⟩ = false) :
    (Builtin.clear_ #[46] 0 #[.slice (some ⟨g, 0, none⟩) 1 c]).run Try.prog w.drew = .ok (.tuple #[]) (((((w.drew).setCell ⟨g, 0, none⟩ (.int .i64 0)).setCell ⟨g, 1, none⟩ (.int .i64 0)).setCell ⟨g, 2, none⟩ (.int .i64 0)).setCell ⟨g, 3, none⟩ (.string ⟨#[]⟩)) := by
  have hz : (zeroValue 36).run Try.prog w.drew = .ok (.agg #[.int .i64 0, .int .i64 0, .int .i64 0, .string ⟨#[]⟩]) w.drew := Try.zeroValue36 _
  have hs := run_storeCells_cells (P := Try.prog) g 0 [.int .i64 0, .int .i64 0, .int .i64 0, .string ⟨#[]⟩] 0 w.drew
    (fun j hj => by
      match j, hj with
      | 0, _ => simp [h0]
      | 1, _ => simp [h1]
      | 2, _ => simp [h2]
      | 3, _ => simp [h3])
    (fun j hj => by
      match j, hj with
      | 0, _ => simpa using f0
      | 1, _ => simpa using f1
      | 2, _ => simpa using f2
      | 3, _ => simpa using f3) (by simp [Value.oneCell'])
  have e : Builtin.zeroCells #[.int .i64 0, .int .i64 0, .int .i64 0, .string ⟨#[]⟩] 1 = #[.int .i64 0, .int .i64 0, .int .i64 0, .string ⟨#[]⟩] := by kernel_rfl
  simp [Builtin.clear_, run_underlying Try.underlying46, hz, Value.cells, e, Result.andThen]
  rw [hs]
  rfl
set_option maxRecDepth 100000 in
set_option maxHeartbeats 2000000 in
theorem delete_one (g c : Nat) (id a b : Int) (s : ByteArray) (w : World) (hc : 1 ≤ c) (h0 : w.cell? ⟨g, 0, none⟩ = some (.int .i64 id)) (h1 : w.cell? ⟨g, 1, none⟩ = some (.int .i64 a)) (h2 : w.cell? ⟨g, 2, none⟩ = some (.int .i64 b)) (h3 : w.cell? ⟨g, 3, none⟩ = some (.string s))
    (f0 : w.frozen? ⟨g, 0, none⟩ = false) (f1 : w.frozen? ⟨g, 1, none⟩ = false) (f2 : w.frozen? ⟨g, 2, none⟩ = false) (f3 : w.frozen? ⟨g, 3, none⟩ = false) :
    Calls Try.prog 30 #[.slice (some ⟨g, 0, none⟩) 1 c, .int .i64 0, .int .i64 1] w fun e w' => e = .returned (.slice (some ⟨g, 0, none⟩) 0 c) ∧ ∃ x0 x1 x2 x3, (((w.drew.setCell ⟨g, 0, none⟩ x0).setCell ⟨g, 1, none⟩ x1).setCell ⟨g, 2, none⟩ x2).setCell ⟨g, 3, none⟩ x3 = w' := by
  have hc' : (1 : Int) ≤ (c : Int) := by omega
  have hcl := fun c => clear_run g c id a b s w h0 h1 h2 h3 f0 f1 f2 f3
  go_enter Try.func30, Try.ntmps30
  go_wp2
  by_cases hc1 : c = 1
  · subst hc1
    go_region
    go_wp2
    go_ret
    exact ⟨rfl, _, _, _, _, rfl⟩
  · go_region
    go_wp2
    go_ret
    exact ⟨rfl, _, _, _, _, rfl⟩
theorem cut_drew {wc w' : World} {p : Nat} {v : Value} (k : Hid (Below wc.heap.size wc w') ∧ w'.cell? ⟨p, 3, none⟩ = some v) : Hid (Below wc.heap.size wc w'.drew) ∧ w'.drew.cell? ⟨p, 3, none⟩ = some v := ⟨Lib.hid k.1.out.drew, k.2⟩
theorem cut_out {wc w' : World} {p : Nat} {v : Value} (k : Hid (Below wc.heap.size wc w') ∧ w'.cell? ⟨p, 3, none⟩ = some v) : Below wc.heap.size wc w' := k.1.out
theorem cut_alloc {wc w' : World} {p : Nat} {v : Value} {o : Obj} (k : Hid (Below wc.heap.size wc w') ∧ w'.cell? ⟨p, 3, none⟩ = some v) : Hid (Below wc.heap.size wc (w'.alloc o)) ∧ (w'.alloc o).cell? ⟨p, 3, none⟩ = some v := by
  have hp : p < w'.heap.size := by
    rcases Nat.lt_or_ge p w'.heap.size with h | h
    · exact h
    · have := k.2; simp [World.cell?, Array.getElem?_eq_none h] at this
  exact ⟨Lib.hid (k.1.out.alloc k.1.out.size _), (((Below.refl _ w').alloc (Nat.le_refl _) o).cell (p := ⟨p, 3, none⟩) hp).trans k.2⟩
theorem between_S {wc w' : World} {p : Nat} {v : Value} (hc : wc.cell? ⟨p, 3, none⟩ = some v) (a b : Int) (k : Hid (Below wc.heap.size wc w') ∧ w'.cell? ⟨p, 3, none⟩ = some v) :
    Calls Try.prog 28 #[.int .i64 a, .int .i64 b] w' fun e w'' => (∃ x y, e = .returned (.agg #[.int .i64 x, .int .i64 y])) ∧ Hid (Below wc.heap.size wc w'') ∧ w''.cell? ⟨p, 3, none⟩ = some v := by
  have hp : p < wc.heap.size := by
    rcases Nat.lt_or_ge p wc.heap.size with h | h
    · exact h
    · simp [World.cell?, Array.getElem?_eq_none h] at hc
  have hfin : ∀ w'', Below w'.heap.size w' w'' → Hid (Below wc.heap.size wc w'') ∧ w''.cell? ⟨p, 3, none⟩ = some v := fun w'' hb => by
    have h := k.1.out.trans (hb.mono k.1.out.size)
    exact ⟨Lib.hid h, (h.cell (p := ⟨p, 3, none⟩) hp).trans hc⟩
  have HF := Lib.hid hfin
  clear hfin k hc
  rcases Int.lt_trichotomy a b with h | h | h
  · go_enter Try.func28, Try.ntmps28
    go_wp2
    exact bodyPost_ret (v := .agg #[.int .i64 a, .int .i64 b]) (by simp [results, Try.results28, go_sem]) rfl ⟨⟨_, _, rfl⟩, HF.out _ ((Below.refl _ w').alloc (Nat.le_refl _) _)⟩
  · subst h
    go_enter Try.func28, Try.ntmps28
    go_wp2
    exact bodyPost_ret (v := .agg #[.int .i64 a, .int .i64 a]) (by simp [results, Try.results28, go_sem]) rfl ⟨⟨_, _, rfl⟩, HF.out _ ((Below.refl _ w').alloc (Nat.le_refl _) _)⟩
  · go_enter Try.func28, Try.ntmps28
    go_wp2
    exact bodyPost_ret (v := .agg #[.int .i64 b, .int .i64 a]) (by simp [results, Try.results28, go_sem]) rfl ⟨⟨_, _, rfl⟩, HF.out _ ((Below.refl _ w').alloc (Nat.le_refl _) _)⟩
theorem look_none (x y : Int) (w : World) : (Instr.lookup 57 (.map none) (.agg #[.int .i64 x, .int .i64 y]) true).run Try.prog w = .ok (.tuple #[.agg #[], .bool false]) w := by
  first
    | rfl
    | kernel_rfl
set_option maxRecDepth 100000 in
set_option maxHeartbeats 2000000 in
theorem parted_none (p : Nat) (N sent a b : Int) (fl : Value) (w : World) (hn : NetAt w p N sent fl (.map none)) :
    Calls Try.prog 19 #[.pointer (some ⟨p, 0, none⟩), .int .i64 a, .int .i64 b] w fun e w' => e = .returned (.bool false) ∧ Below w.heap.size w w' := by
  obtain ⟨c0, c1, c2, c3, f1, f2, f3⟩ := hn
  have hS : Hid (Below w.heap.size w w) ∧ w.cell? ⟨p, 3, none⟩ = some (.map none) := ⟨Lib.hid (Below.refl _ _), c3⟩
  clear c0 c1 c2 f1 f2 f3
  have hlk := look_none
  go_enter Try.func19, Try.ntmps19
  go_wp2
  go_region_held3 (fun w' => Hid (Below w.heap.size w w') ∧ w'.cell? ⟨p, 3, none⟩ = some (.map none)) (first | assumption | exact cut_drew (by assumption) | exact cut_alloc (by assumption) | exact cut_drew (cut_alloc (by assumption)))
    (first | (go_at_call 28; refine (between_S c3 a b (by first | assumption | exact cut_drew (by assumption))).mono ?_; rintro e w' ⟨⟨x, y, rfl⟩, hS⟩))
  all_goals (go_wp2; go_ret; exact ⟨rfl, cut_out (p := p) (v := .map none) (by assumption)⟩)
theorem netAt_drew {w : World} {p : Nat} {N sent : Int} {fl cut : Value} (h : NetAt w p N sent fl cut) : NetAt w.drew p N sent fl cut := ⟨h.c0, h.c1, h.c2, h.c3, h.f1, h.f2, h.f3⟩
theorem NetAt.other {w : World} {p g : Nat} {N sent : Int} {fl cut : Value} (h : NetAt w p N sent fl cut) (hg : ¬ g = p) (i : Nat) (v : Value) : NetAt (w.setCell ⟨g, i, none⟩ v) p N sent fl cut :=
  ⟨(World.cell?_setCell_other _ _ _ _ (by intro e; injection e with e1; exact hg e1)).trans h.c0, (World.cell?_setCell_other _ _ _ _ (by intro e; injection e with e1; exact hg e1)).trans h.c1, (World.cell?_setCell_other _ _ _ _ (by intro e; injection e with e1; exact hg e1)).trans h.c2, (World.cell?_setCell_other _ _ _ _ (by intro e; injection e with e1; exact hg e1)).trans h.c3,
    by rw [World.frozen?_setCell]; exact h.f1, by rw [World.frozen?_setCell]; exact h.f2, by rw [World.frozen?_setCell]; exact h.f3⟩
theorem setCell_block (w : World) (a : Addr) (v : Value) {k : Nat} (h : ¬ k = a.block) : (w.setCell a v).heap[k]? = w.heap[k]? := by
  simp only [World.setCell, Array.getElem?_modify]
  rw [if_neg (fun e => h e.symm)]
/-- a net that held one letter, behind its delivery; nothing else has turned -/
def Gone (w w' : World) (p g c : Nat) (N : Int) (cut : Value) : Prop := NetAt w' p N 1 (.slice (some ⟨g, 0, none⟩) 0 c) cut ∧ w'.heap.size = w.heap.size ∧ (∀ k, ¬ k = g → ¬ k = p → w'.heap[k]? = w.heap[k]?) ∧ ∀ w0 : World, w0.heap.size ≤ g → w0.heap.size ≤ p → Below w0.heap.size w0 w → Below w0.heap.size w0 w'
set_option maxRecDepth 100000 in
set_option maxHeartbeats 2000000 in
theorem remove_one (p g c : Nat) (N a b : Int) (cut : Value) (s : ByteArray) (w : World) (hgp : ¬ g = p) (hc1 : 1 ≤ c) (hn : NetAt w p N 1 (.slice (some ⟨g, 0, none⟩) 1 c) cut)
    (k0 : w.cell? ⟨g, 0, none⟩ = some (.int .i64 1)) (k1 : w.cell? ⟨g, 1, none⟩ = some (.int .i64 a)) (k2 : w.cell? ⟨g, 2, none⟩ = some (.int .i64 b)) (k3 : w.cell? ⟨g, 3, none⟩ = some (.string s)) (kf : ∀ i, w.frozen? ⟨g, i, none⟩ = false) :
    Calls Try.prog 26 #[.pointer (some ⟨p, 0, none⟩), .int .i64 0] w fun e w' => e = .returned (.tuple #[]) ∧ Gone w w' p g c N cut := by
  have hd := delete_one g c 1 a b s w hc1 k0 k1 k2 k3 (kf 0) (kf 1) (kf 2) (kf 3)
  have HN := Lib.hid hn
  obtain ⟨c0, c1, c2, c3, f1, f2, f3⟩ := hn
  clear k0 k1 k2 k3 kf
  go_enter Try.func26, Try.ntmps26
  go_wp2_with (fail)
  refine hd.mono ?_
  rintro e w1 ⟨rfl, x0, x1, x2, x3, hw⟩
  have hn1 : NetAt w1 p N 1 (.slice (some ⟨g, 0, none⟩) 1 c) cut := by
    rw [← hw]
    exact (((((netAt_drew HN.out).other hgp _ _).other hgp _ _).other hgp _ _).other hgp _ _)
  have hs1 : w1.heap.size = w.heap.size := by rw [← hw]; simp only [World.setCell, Array.size_modify]; rfl
  have hb1 : ∀ k, ¬ k = g → w1.heap[k]? = w.heap[k]? := fun k hk => by
    rw [← hw, setCell_block _ _ _ hk, setCell_block _ _ _ hk, setCell_block _ _ _ hk, setCell_block _ _ _ hk]
    rfl
  have hbb : ∀ w0 : World, w0.heap.size ≤ g → Below w0.heap.size w0 w → Below w0.heap.size w0 w1 := fun w0 hg0 hb => by
    rw [← hw]
    exact ((((hb.drew).setCell hg0 _).setCell hg0 _).setCell hg0 _).setCell hg0 _
  have HN1 := Lib.hid hn1
  have HS1 := Lib.hid hs1
  have HB1 := Lib.hid hb1
  have HBB := Lib.hid hbb
  have d2 := hn1.c2
  have e2 := hn1.f2
  clear hd hw hn1 hs1 hb1 hbb c0 c1 c2 c3 f1 f2 f3
  go_wp2
  have hfin : Gone w (w1.setCell ⟨p, 2, none⟩ (.slice (some ⟨g, 0, none⟩) 0 c)) p g c N cut := ⟨HN1.out.fly _, (by rw [← HS1.out]; simp [World.setCell]), fun k hk hkp => (setCell_block _ _ _ hkp).trans (HB1.out k hk), fun w0 hg0 hp0 hb => (HBB.out w0 hg0 hb).setCell hp0 _⟩
  first
    | (go_ret; exact ⟨rfl, hfin⟩)
    | exact bodyPost_ret (v := .tuple #[]) (results_none rfl _ _ _) rfl ⟨rfl, hfin⟩
end Go.Proofs.Ytcahiogjmclnjaa
