/- Package rpc: a desk: what it knows of each client, and what each of its calls makes of it. -/
import Derived.Test.YtddgigkalagpoaaRpcClr
import Derived.Test.YtddgigkalagpoaaCloneN
import Derived.Maps.Own
import Derived.Maps.OwnSet
import Derived.Maps.Views
import Derived.Deep.RegionHeld3
import Derived.StillTailTactics
import Derived.Deep.DeepCutAuto
import Derived.Deep.RegionLaw
namespace Go.Proofs.Ytddgigkalagpoaa
open Go.RowKit Go.Maps

structure LCall where
  n : Int
  r : Bool
  s : ByteArray
abbrev lcV (c : LCall) : Value := .agg #[.int .i64 c.n, .bool c.r, .string c.s]
def lc0 : LCall := ⟨0, false, ⟨#[]⟩⟩
def lcD (c : LCall) : DataW Unit := .agg [.lit (.int .i64 c.n), .lit (.bool c.r), .lit (.string c.s.data.toList)]
def lcRL : List Value → Option (DataW Unit × List MemPlace)
  | [.int .i64 n, .bool r, .string s] => some (lcD ⟨n, r, s⟩, [])
  | _ => none
/-- a last call as the map's reader tells it -/
def lcR : Value → Option (DataW Unit × List MemPlace)
  | .agg cs => lcRL cs.toList
  | _ => none
theorem lcR_mk (c : LCall) : lcR (lcV c) = some (lcD c, []) := rfl
theorem lcD_inj {c d : LCall} (h : lcD c = lcD d) : c = d := by
  obtain ⟨n, r, s⟩ := c
  obtain ⟨n', r', s'⟩ := d
  simp only [lcD, DataW.agg.injEq, List.cons.injEq, DataW.lit.injEq, Lit.int.injEq, Lit.bool.injEq, Lit.string.injEq, true_and, and_true] at h
  obtain ⟨h1, h2, h3⟩ := h
  have : s = s' := ByteArray.ext (Array.toList_inj.1 h3)
  rw [h1, h2, this]
theorem lcR_inv {v : Value} {c : LCall} {ps : List MemPlace} (h : lcR v = some (lcD c, ps)) : v = lcV c := by
  unfold lcR at h
  split at h
  · rename_i cs
    unfold lcRL at h
    split at h
    · rename_i n r s hcs
      simp only [Option.some.injEq, Prod.mk.injEq] at h
      have e := lcD_inj h.1
      subst e
      have : cs = #[.int .i64 n, .bool r, .string s] := by
        apply Array.toList_inj.1
        rw [hcs]
      rw [this]
    · cases h
  · cases h
theorem intLaw : Keyed Try.prog 3 := int_keyed Try.underlying3
theorem zeroLast (w : World) : (zeroValue 65).run Try.prog w = .ok (lcV lc0) w := by kernel_rfl
def wf64 (x : Int) : Prop := -9223372036854775808 ≤ x ∧ x ≤ 9223372036854775807
theorem isKeyInt {k : Int} : WideAt.IsKeyLit (.int .i64 k) := by unfold WideAt.IsKeyLit; trivial
theorem lit_wf {x : Int} (h : wf64 x) : (Lit.int .i64 x).wf = true := by
  obtain ⟨h1, h2⟩ := h
  simp [Lit.wf, IntKind.min, IntKind.max, IntKind.signed, IntKind.bits]
  omega
theorem key_int {x : Int} (h : wf64 x) : keyOf Try.prog 3 (.int .i64 x) = some (.int .i64 x) := keyOf_int_mk Try.underlying3 (lit_wf h)
/-- what is known of each client -/
abbrev Known := Int → Option LCall
def upd (M : Known) (k : Int) (c : LCall) : Known := fun x => if x = k then some c else M x
abbrev LM (w : World) (m n : Nat) (D : DataW Unit) : Prop := w.ownsMap Try.prog 3 lcR m n D
/-- the map m tells M -/
def DM (w : World) (m n : Nat) (M : Known) : Prop := ∃ D, LM w m n D ∧ ∀ k, wf64 k → Maps.has D (.int .i64 k) = (M k).isSome ∧ D.atKey (.int .i64 k) (lcD lc0) = lcD ((M k).getD lc0)
theorem look_dm {w : World} {m n : Nat} {M : Known} {k : Int} (h : DM w m n M) (hk : wf64 k) :
    (Instr.lookup 27 (.map (some m)) (.int .i64 k) true).run Try.prog w = .ok (.tuple #[lcV ((M k).getD lc0), .bool (M k).isSome]) w := by
  obtain ⟨D, h1, h2⟩ := h
  obtain ⟨v, ps, hrun, hv⟩ := h1.look_ok intLaw Try.underlying27 (zeroLast _) (zd := lcD lc0) (zp := []) rfl (key_int hk)
  rw [(h2 k hk).2] at hv
  rw [lcR_inv hv, (h2 k hk).1] at hrun
  exact hrun
theorem lookc_none {w : World} {k : Int} (hk : wf64 k) :
    (Instr.lookup 27 (.map none) (.int .i64 k) true).run Try.prog w = .ok (.tuple #[lcV lc0, .bool false]) w := by
  have := Maps.look_nil (w := w) true intLaw Try.underlying27 (zeroLast _) (key_int hk)
  simpa using this
theorem dm_made (w : World) : DM (w.alloc (.map #[] 0)) w.heap.size 0 (fun _ => none) :=
  ⟨_, World.ownsMap_made _ _ _ _, fun _ _ => ⟨rfl, rfl⟩⟩
theorem DM.same {w w' : World} {m n : Nat} {M : Known} (h : DM w m n M) (e : w'.heap[m]? = w.heap[m]?) : DM w' m n M := by
  obtain ⟨D, ⟨es, clock, h1, h2⟩, h3⟩ := h
  exact ⟨D, ⟨es, clock, e.trans h1, h2⟩, h3⟩
theorem DM.map {w : World} {m n : Nat} {M : Known} (h : DM w m n M) : ∃ es clock, w.heap[m]? = some (.map es clock) := by
  obtain ⟨D, ⟨es, clock, h1, _⟩, _⟩ := h
  exact ⟨es, clock, h1⟩
theorem DM.lt {w : World} {m n : Nat} {M : Known} (h : DM w m n M) : m < w.heap.size := by
  obtain ⟨es, clock, h1⟩ := h.map
  exact (Array.getElem?_eq_some_iff.1 h1).1
theorem put_dm {w : World} {m n : Nat} {M : Known} {k : Int} {c : LCall} (h : DM w m n M) (hn : n < maxLen) (hk : wf64 k) :
    ∃ w', (Instr.mapUpdate 27 (.map (some m)) (.int .i64 k) (lcV c)).run Try.prog w = .ok () w' ∧ DM w' m (n + 1) (upd M k c) ∧ w.grownBy w' (some m) := by
  obtain ⟨D, h1, h2⟩ := h
  obtain ⟨w', hrun, h3, h4⟩ := h1.update intLaw Try.underlying27 hn (key_int hk) (lcR_mk c)
  refine ⟨w', hrun, ⟨_, h3, fun x hx => ?_⟩, h4⟩
  have hm := h1.isMap
  by_cases e : x = k
  · subst e
    rw [Maps.has_put_same hm isKeyInt, Maps.atKey_put_same hm isKeyInt]
    simp [upd]
  · have hne : (Lit.int .i64 x) ≠ .int .i64 k := fun he => e (by injection he)
    rw [Maps.has_put_other hne, Maps.atKey_put_other hne]
    simp only [upd, if_neg e]
    exact h2 x hx
/-- a desk of the law's own at p: of at most n clients it knows M -/
structure DeskSt (w0 w : World) (p n : Nat) (M : Known) : Prop where
  bel : Below w0.heap.size w0 w
  lo : w0.heap.size ≤ p
  ty : Bears w p 29
  v : (w.cell? ⟨p, 0, none⟩ = some (.map none) ∧ M = fun _ => none) ∨ ∃ m, w0.heap.size ≤ m ∧ w.cell? ⟨p, 0, none⟩ = some (.map (some m)) ∧ DM w m n M
/-- all cells that were there stay but those of block p -/
def DF (p : Nat) (w w' : World) : Prop := ∀ b e, Bears w b e → ¬ b = p → w'.heap[b]? = w.heap[b]?
theorem df_below (p : Nat) {w w' : World} (h : Below w.heap.size w w') : DF p w w' := fun b _ hb _ => h.block b hb.lt
theorem df_trans {p : Nat} {w w1 w2 : World} (h : DF p w w1) (k : DF p w1 w2) : DF p w w2 := fun b e hb hn => by
  have e1 := h b e hb hn
  have hb1 : Bears w1 b e := by obtain ⟨cs, hc⟩ := hb; exact ⟨cs, e1.trans hc⟩
  exact (k b e hb1 hn).trans e1
theorem DeskSt.below {w0 w w' : World} {p n : Nat} {M : Known} (h : DeskSt w0 w p n M) (hb : Below w.heap.size w w') : DeskSt w0 w' p n M := by
  have hp := hb.block p h.ty.lt
  refine ⟨h.bel.trans (hb.mono h.bel.size), h.lo, by obtain ⟨cs, k⟩ := h.ty; exact ⟨cs, hp.trans k⟩, ?_⟩
  rcases h.v with ⟨h1, h2⟩ | ⟨m, h1, h2, h3⟩
  · exact .inl ⟨(cell_eq hp 0).trans h1, h2⟩
  · exact .inr ⟨m, h1, (cell_eq hp 0).trans h2, h3.same (hb.block m h3.lt)⟩
theorem DeskSt.more {w0 w : World} {p n n' : Nat} {M : Known} (h : DeskSt w0 w p n M) (hn : n ≤ n') : DeskSt w0 w p n' M := by
  refine ⟨h.bel, h.lo, h.ty, h.v.imp id ?_⟩
  rintro ⟨m, h1, h2, D, ⟨es, clock, q3, q4, q5, q6⟩, h4⟩
  exact ⟨m, h1, h2, D, ⟨es, clock, q3, q4, by omega, q6⟩, h4⟩
theorem desk_new {w0 w : World} (hb : Below w0.heap.size w0 w) : DeskSt w0 (w.alloc (.cells #[.map none] 29)) w.heap.size 0 (fun _ => none) := by
  have hbl : Below w.heap.size w (w.alloc (.cells #[.map none] 29)) := (Below.refl _ w).alloc (Nat.le_refl _) _
  exact ⟨hb.trans (hbl.mono hb.size), hb.size, ⟨_, heap_alloc_new w _⟩, .inl ⟨by simp, rfl⟩⟩
theorem map_nil_eq (w : World) : (binOp .eql 27 (.map none) (.map none)).run Try.prog w = .ok (.bool true) w := run_eql_map_nil w _ _ _ _ Try.underlying27
theorem map_some_eq (m : Nat) (w : World) : (binOp .eql 27 (.map (some m)) (.map none)).run Try.prog w = .ok (.bool false) w := run_eql_map_nil w _ _ _ _ Try.underlying27
/-- the world behind a store into the map m of the desk at p -/
theorem put_end {w0 w w2 w3 : World} {p m n : Nat} {M' : Known} (hbel : Below w0.heap.size w0 w) (hlo : w0.heap.size ≤ p) (hm : w0.heap.size ≤ m) (hb : DF p w w2) (hos : w2.os = w.os ∧ w2.tape = w.tape ∧ w2.output = w.output) (hsz : w.heap.size ≤ w2.heap.size)
    (h0 : ∀ b, b < w0.heap.size → w2.heap[b]? = w0.heap[b]?) (hty : Bears w2 p 29) (hc : w2.cell? ⟨p, 0, none⟩ = some (.map (some m))) (hg : w2.grownBy w3 (some m)) (hpm : ∃ es clock, w2.heap[m]? = some (.map es clock)) (h : DM w3 m n M') :
    DeskSt w0 w3 p n M' ∧ DF p w w3 := by
  have hne : ∀ b e, Bears w2 b e → ¬ b = m := by
    rintro b e ⟨cs, h1⟩ rfl
    obtain ⟨es, clock, h2⟩ := hpm
    rw [h1] at h2
    cases h2
  have hp : w3.heap[p]? = w2.heap[p]? := hg.block p hty.lt (fun e => hne p _ hty (by injection e))
  refine ⟨⟨⟨hg.os.trans (hos.1.trans hbel.os), hg.tape.trans (hos.2.1.trans hbel.tape), hg.output.trans (hos.2.2.trans hbel.output), Nat.le_trans hbel.size (Nat.le_trans hsz hg.size), fun b hb' => ?_⟩, hlo, ?_, .inr ⟨m, hm, (cell_eq hp 0).trans hc, h⟩⟩, fun b e hbe hn => ?_⟩
  · exact (hg.block b (by have := hbel.size; omega) (fun e => by injection e with e; omega)).trans (h0 b hb')
  · obtain ⟨cs, k⟩ := hty
    exact ⟨cs, hp.trans k⟩
  · have e1 := hb b e hbe hn
    have hb1 : Bears w2 b e := by obtain ⟨cs, hc⟩ := hbe; exact ⟨cs, e1.trans hc⟩
    exact (hg.block b hb1.lt (fun e' => hne b e hb1 (by injection e'))).trans e1
/-- the post of a call that makes the desk know M' -/
def DPost (w0 w : World) (p n : Nat) (M' : Known) (v : Value) (e : Ending) (w' : World) : Prop := e = .returned v ∧ Hid (DeskSt w0 w' p n M' ∧ DF p w w')
set_option maxHeartbeats 4000000 in
set_option maxRecDepth 100000 in
theorem put_any {w0 : World} (p n : Nat) (M : Known) (k : Int) (c : LCall) (w : World) (hn : n < maxLen) (hk : wf64 k) (h : Hid (DeskSt w0 w p n M)) :
    Calls Try.prog 27 #[.pointer (some ⟨p, 0, none⟩), .int .i64 k, lcV c] w (DPost w0 w p (n + 1) (upd M k c) (.tuple #[])) := by
  have hb1 : Below w.heap.size w (w.alloc (.cells #[.int .i64 c.n, .bool c.r, .string c.s] 65)) := (Below.refl _ w).alloc (Nat.le_refl _) _
  have hplt := h.out.ty.lt
  have hpw : ¬ p = w.heap.size := by omega
  rcases h.out.v with ⟨hc0, hM⟩ | ⟨m, hm, hc0, hdm⟩
  · have hmm := @run_makeMap Try.prog
    obtain ⟨w1, hw1⟩ : ∃ w1, w1 = w.setCell ⟨p, 0, none⟩ (.map (some (w.heap.size + 1))) := ⟨_, rfl⟩
    have hs1 : w1.heap.size = w.heap.size := by rw [hw1]; simp
    obtain ⟨w2, hw2⟩ : ∃ w2, w2 = (w1.alloc (.cells #[.int .i64 c.n, .bool c.r, .string c.s] 65)).alloc (.map #[] 0) := ⟨_, rfl⟩
    have hb2 : Below w.heap.size w1 w2 := by rw [hw2]; exact ((Below.refl _ w1).alloc (by omega) _).alloc (by simp; omega) _
    have hdm1 : DM w2.drew (w.heap.size + 1) 0 (fun _ => none) := by
      have := dm_made (w1.alloc (.cells #[.int .i64 c.n, .bool c.r, .string c.s] 65))
      rw [World.size_alloc, hs1, ← hw2] at this
      exact this.same rfl
    have hfr1 : ∀ b, b < w.heap.size → ¬ b = p → w2.heap[b]? = w.heap[b]? := fun b hb hn => (hb2.block b hb).trans (by rw [hw1]; exact Below.heap_setCell _ _ _ _ hn)
    have hty1 : Bears w1 p 29 := by rw [hw1]; exact bears_set _ h.out.ty
    have hp2 := hb2.block p hplt
    have hty2 : Bears w2 p 29 := by obtain ⟨cs, k⟩ := hty1; exact ⟨cs, hp2.trans k⟩
    have hc2 : w2.cell? ⟨p, 0, none⟩ = some (.map (some (w.heap.size + 1))) := (cell_eq hp2 0).trans (by rw [hw1]; exact World.cell?_setCell_same _ _ _ hc0)
    have hbx : w2.cell? ⟨w.heap.size, 0, none⟩ = some (.int .i64 c.n) ∧ w2.cell? ⟨w.heap.size, 1, none⟩ = some (.bool c.r) ∧ w2.cell? ⟨w.heap.size, 2, none⟩ = some (.string c.s) := by
      rw [hw2, ← hs1]; simp
    obtain ⟨w3, hrun, hd3, hg3⟩ := put_dm (M := fun _ => none) (c := c) (k := k) hdm1 (by unfold maxLen; omega) hk
    have hsz2 : w.heap.size ≤ w2.heap.size := by have := hb2.size; omega
    have hos2 : w2.os = w.os ∧ w2.tape = w.tape ∧ w2.output = w.output := ⟨hb2.os.trans (by rw [hw1]; rfl), hb2.tape.trans (by rw [hw1]; rfl), hb2.output.trans (by rw [hw1]; rfl)⟩
    have HFIN : Hid (DeskSt w0 w3 p (n + 1) (upd M k c) ∧ DF p w w3) := by
      refine Lib.hid ?_
      rw [hM]
      have hd4 : DM w3 (w.heap.size + 1) (n + 1) (upd (fun _ => none) k c) := by
        obtain ⟨D, ⟨es, clock, q3, q4, q5, q6⟩, h4⟩ := hd3
        exact ⟨D, ⟨es, clock, q3, q4, by omega, q6⟩, h4⟩
      refine put_end (w := w) (w2 := w2.drew) (m := w.heap.size + 1) h.out.bel h.out.lo (by have := h.out.bel.size; omega) (fun b e hb hn => hfr1 b hb.lt hn) hos2 hsz2 (fun b hb => ?_) hty2 hc2 hg3 hdm1.map hd4
      have := h.out.bel.size
      have := h.out.lo
      exact (hfr1 b (by omega) (by omega)).trans (h.out.bel.block b hb)
    have heq := map_nil_eq
    have hf0 : (w.alloc (.cells #[.int .i64 c.n, .bool c.r, .string c.s] 65)).frozen? ⟨p, 0, none⟩ = false := bears_free (h.out.below hb1).ty 0
    have HW := Lib.hid hw2
    rw [hw1] at HW
    clear h hty1 hty2 hdm1 hd3 hg3 hM hb1 hb2 hw2 hw1 hfr1 hp2 hsz2 hos2 hs1
    go_enter Try.func27, Try.ntmps27
    go_upto_region 3 with (fail)
    rw [← HW.out]
    go_still_tail 6, (by kernel_rfl)
    change wpList _ _ _ _ _ w2.drew
    go_wp2
    first
      | (go_end0; exact ⟨rfl, HFIN.out⟩)
      | exact bodyPost_ret (v := .tuple #[]) (results_none rfl _ _ _) rfl ⟨rfl, HFIN⟩
  · have hm1 : m < w.heap.size := hdm.lt
    obtain ⟨w1, hw1⟩ : ∃ w1, w1 = w.alloc (.cells #[.int .i64 c.n, .bool c.r, .string c.s] 65) := ⟨_, rfl⟩
    rw [← hw1] at hb1
    have hdm1 : DM w1.drew m n M := (hdm.same (hb1.block m hm1)).same rfl
    have hp1 := hb1.block p hplt
    have hc1 : w1.cell? ⟨p, 0, none⟩ = some (.map (some m)) := (cell_eq hp1 0).trans hc0
    have hty1 : Bears w1 p 29 := (h.out.below hb1).ty
    have hbx : w1.cell? ⟨w.heap.size, 0, none⟩ = some (.int .i64 c.n) ∧ w1.cell? ⟨w.heap.size, 1, none⟩ = some (.bool c.r) ∧ w1.cell? ⟨w.heap.size, 2, none⟩ = some (.string c.s) := by
      rw [hw1]; simp
    obtain ⟨w3, hrun, hd3, hg3⟩ := put_dm (M := M) (c := c) (k := k) hdm1 hn hk
    have HFIN : Hid (DeskSt w0 w3 p (n + 1) (upd M k c) ∧ DF p w w3) := by
      refine Lib.hid (put_end (w := w) (w2 := w1.drew) (m := m) h.out.bel h.out.lo hm (fun b e hb hn => hb1.block b hb.lt) ⟨hb1.os, hb1.tape, hb1.output⟩ hb1.size (fun b hb => ?_) hty1 hc1 hg3 hdm1.map hd3)
      have := h.out.bel.size
      exact (hb1.block b (by omega)).trans (h.out.bel.block b hb)
    have heq := map_some_eq m
    have HW := Lib.hid hw1
    clear h hty1 hdm1 hd3 hg3 hb1 hw1 hp1 hdm
    go_enter Try.func27, Try.ntmps27
    go_upto_region 3 with (fail)
    rw [← HW.out]
    go_still_tail 6, (by kernel_rfl)
    change wpList _ _ _ _ _ w1.drew
    go_wp2
    first
      | (go_end0; exact ⟨rfl, HFIN.out⟩)
      | exact bodyPost_ret (v := .tuple #[]) (results_none rfl _ _ _) rfl ⟨rfl, HFIN⟩
theorem look_desk {w0 w : World} {p n : Nat} {M : Known} {k : Int} (h : DeskSt w0 w p n M) (hk : wf64 k) :
    ∃ v, w.cell? ⟨p, 0, none⟩ = some v ∧ (Instr.lookup 27 v (.int .i64 k) true).run Try.prog w = .ok (.tuple #[lcV ((M k).getD lc0), .bool (M k).isSome]) w := by
  rcases h.v with ⟨h1, rfl⟩ | ⟨m, _, h1, h2⟩
  · exact ⟨_, h1, lookc_none hk⟩
  · exact ⟨_, h1, look_dm h2 hk⟩
/-- what a desk that knows o of a client answers to its call -/
def askN (o : Option LCall) (call : Int) : Int := match o with
  | none => 0
  | some c => if c.n < call then 0 else if call < c.n then 3 else if c.r then 2 else 1
def askS (o : Option LCall) (call : Int) : ByteArray := if askN o call = 2 then (o.getD lc0).s else ⟨#[]⟩
def askM (M : Known) (k call : Int) : Known := if askN (M k) call = 0 then upd M k ⟨call, false, ⟨#[]⟩⟩ else M
/-- texts that can be copied -/
def Small (M : Known) : Prop := ∀ k c, M k = some c → c.s.size ≤ 140737488351232
theorem small_upd {M : Known} {k : Int} {c : LCall} (h : Small M) (hc : c.s.size ≤ 140737488351232) : Small (upd M k c) := by
  intro x d hd
  unfold upd at hd
  split at hd
  · injection hd with hd
    subst hd
    exact hc
  · exact h x d hd
theorem dpost_of {w0 w w1 w' : World} {p n n' : Nat} {M : Known} {v : Value} (hb : Below w.heap.size w w1) (hn : n ≤ n') (h : Hid (DeskSt w0 w' p n M ∧ DF p w1 w')) : DPost w0 w p n' M v (.returned v) w' :=
  ⟨rfl, Lib.hid ⟨h.out.1.more hn, df_trans (df_below p hb) h.out.2⟩⟩
theorem dpost_same {w0 w w1 : World} {p n n' : Nat} {M : Known} {v : Value} (hb : Below w.heap.size w w1) (hn : n ≤ n') (h : Hid (DeskSt w0 w p n M)) : DPost w0 w p n' M v (.returned v) w1 :=
  ⟨rfl, Lib.hid ⟨(h.out.below hb).more hn, df_below p hb⟩⟩
/-- the box of a call that the desk was asked for -/
theorem below_box (w : World) (c : LCall) : Below w.heap.size w (w.alloc (.cells #[.int .i64 c.n, .bool c.r, .string c.s] 65)) := (Below.refl _ w).alloc (Nat.le_refl _) _
set_option maxHeartbeats 4000000 in
set_option maxRecDepth 100000 in
theorem ask_any {w0 : World} (p n : Nat) (M : Known) (k call : Int) (w : World) (hn : n < maxLen) (hk : wf64 k) (hS : Small M) (h : Hid (DeskSt w0 w p n M)) :
    Calls Try.prog 12 #[.pointer (some ⟨p, 0, none⟩), .int .i64 k, .int .i64 call] w (DPost w0 w p (n + 1) (askM M k call) (.tuple #[.int .i64 (askN (M k) call), .string (askS (M k) call)])) := by
  obtain ⟨v, hc, hlk⟩ := look_desk h.out hk
  cases ho : M k with
  | none =>
    rw [ho] at hlk
    simp only [Option.getD_none, Option.isSome_none, lc0] at hlk
    have hA : askN none call = 0 := rfl
    have hM : askM M k call = upd M k ⟨call, false, ⟨#[]⟩⟩ := by unfold askM; rw [ho]; rfl
    have hs : askS none call = ⟨#[]⟩ := rfl
    rw [hA, hM, hs]
    have HB := Lib.hid (below_box w lc0)
    have H1 := Lib.hid (h.out.below HB.out)
    clear hA hM hs ho
    go_enter Try.func12, Try.ntmps12
    go_wp2_with (fail)
    refine (put_any p n M k ⟨call, false, ⟨#[]⟩⟩ _ hn hk H1).mono ?_
    rintro e w' ⟨rfl, H2⟩
    go_wp2
    go_ret2
    exact dpost_of HB.out (Nat.le_refl _) H2
  | some c =>
    rw [ho] at hlk
    simp only [Option.getD_some, Option.isSome_some] at hlk
    have HB := Lib.hid (below_box w c)
    have H1 := Lib.hid (h.out.below HB.out)
    have hcs := hS k c ho
    obtain ⟨cn, cr, cs⟩ := c
    by_cases h1 : cn < call
    · have hA : askN (some ⟨cn, cr, cs⟩) call = 0 := by simp [askN, h1]
      have hM : askM M k call = upd M k ⟨call, false, ⟨#[]⟩⟩ := by unfold askM; rw [ho, hA]; rfl
      have hs : askS (some ⟨cn, cr, cs⟩) call = ⟨#[]⟩ := by unfold askS; rw [hA]; rfl
      rw [hA, hM, hs]
      have h2 : decide (cn < call) = true := by simpa using h1
      clear hA hM hs ho hcs
      go_enter Try.func12, Try.ntmps12
      go_wp2_with (fail)
      refine (put_any p n M k ⟨call, false, ⟨#[]⟩⟩ _ hn hk H1).mono ?_
      rintro e w' ⟨rfl, H2⟩
      go_wp2
      go_ret2
      exact dpost_of HB.out (Nat.le_refl _) H2
    · have h2 : decide (cn < call) = false := by simpa using h1
      by_cases h3 : call < cn
      · have hA : askN (some ⟨cn, cr, cs⟩) call = 3 := by simp [askN, h1, h3]
        have hM : askM M k call = M := by unfold askM; rw [ho, hA]; rfl
        have hs : askS (some ⟨cn, cr, cs⟩) call = ⟨#[]⟩ := by unfold askS; rw [hA]; rfl
        rw [hA, hM, hs]
        have h4 : decide (call < cn) = true := by simpa using h3
        clear hA hM hs ho hcs
        go_enter Try.func12, Try.ntmps12
        go_wp2
        go_ret2
        exact dpost_same HB.out (by omega) h
      · have h4 : decide (call < cn) = false := by simpa using h3
        cases cr
        · have hA : askN (some ⟨cn, false, cs⟩) call = 1 := by simp [askN, h1, h3]
          have hM : askM M k call = M := by unfold askM; rw [ho, hA]; rfl
          have hs : askS (some ⟨cn, false, cs⟩) call = ⟨#[]⟩ := by unfold askS; rw [hA]; rfl
          rw [hA, hM, hs]
          clear hA hM hs ho hcs
          go_enter Try.func12, Try.ntmps12
          go_wp2
          go_ret2
          exact dpost_same HB.out (by omega) h
        · have hA : askN (some ⟨cn, true, cs⟩) call = 2 := by simp [askN, h1, h3]
          have hM : askM M k call = M := by unfold askM; rw [ho, hA]; rfl
          have hs : askS (some ⟨cn, true, cs⟩) call = cs := by unfold askS; rw [hA]; rfl
          rw [hA, hM, hs]
          clear hA hM hs ho
          have HCS := Lib.hid hcs
          simp only at HCS
          clear hcs
          go_enter Try.func12, Try.ntmps12
          go_wp2_with (fail)
          refine (clone_any cs _ (by have := HCS.out; omega)).mono ?_
          rintro e w' ⟨rfl, hb2⟩
          have HB2 := Lib.hid (HB.out.trans (hb2.mono HB.out.size))
          clear hb2
          go_wp2
          go_ret2
          exact dpost_same HB2.out (by omega) h
theorem ask_nil (k call : Int) (w : World) : Calls Try.prog 12 #[.pointer none, .int .i64 k, .int .i64 call] w fun e w' => e = .returned (.tuple #[.int .i64 3, .string ⟨#[]⟩]) ∧ w = w' := by
  go_enter Try.func12, Try.ntmps12
  go_wp2
  go_ret2
  exact ⟨rfl, rfl⟩
set_option maxHeartbeats 4000000 in
set_option maxRecDepth 100000 in
theorem set_any {w0 : World} (p n : Nat) (M : Known) (k call : Int) (s : ByteArray) (w : World) (hn : n < maxLen) (hk : wf64 k) (hs : s.size ≤ 140737488351232) (h : Hid (DeskSt w0 w p n M)) :
    Calls Try.prog 29 #[.pointer (some ⟨p, 0, none⟩), .int .i64 k, .int .i64 call, .string s] w (DPost w0 w p (n + 1) (upd M k ⟨call, true, s⟩) (.tuple #[])) := by
  go_enter Try.func29, Try.ntmps29
  go_wp2_with (fail)
  refine (clone_any s _ (by omega)).mono ?_
  rintro e w1 ⟨rfl, hb⟩
  have HB := Lib.hid hb
  have H1 := Lib.hid (h.out.below hb)
  clear hb
  go_wp2_with (fail)
  refine (put_any p n M k ⟨call, true, s⟩ _ hn hk H1).mono ?_
  rintro e w' ⟨rfl, H2⟩
  go_wp2
  first
    | (go_ret; exact dpost_of HB.out (Nat.le_refl _) H2)
    | exact bodyPost_ret (v := .tuple #[]) (results_none rfl _ _ _) rfl (dpost_of HB.out (Nat.le_refl _) H2)
theorem set_nil (k call : Int) (s : ByteArray) (w : World) : Calls Try.prog 29 #[.pointer none, .int .i64 k, .int .i64 call, .string s] w fun e w' => e = .returned (.tuple #[]) ∧ w = w' := by
  go_enter Try.func29, Try.ntmps29
  go_wp2
  first
    | (go_ret; exact ⟨rfl, rfl⟩)
    | exact bodyPost_ret (v := .tuple #[]) (results_none rfl _ _ _) rfl ⟨rfl, rfl⟩
def repB (o : Option LCall) (call : Int) : Bool := match o with
  | none => false
  | some c => decide (c.n = call) && !c.r
def repM (M : Known) (k call : Int) (s : ByteArray) : Known := if repB (M k) call then upd M k ⟨call, true, s⟩ else M
set_option maxHeartbeats 4000000 in
set_option maxRecDepth 100000 in
theorem reply_any {w0 : World} (p n : Nat) (M : Known) (k call : Int) (s : ByteArray) (w : World) (hn : n < maxLen) (hk : wf64 k) (hs : s.size ≤ 140737488351232) (h : Hid (DeskSt w0 w p n M)) :
    Calls Try.prog 13 #[.pointer (some ⟨p, 0, none⟩), .int .i64 k, .int .i64 call, .string s] w (DPost w0 w p (n + 1) (repM M k call s) (.bool (repB (M k) call))) := by
  obtain ⟨v, hc, hlk⟩ := look_desk h.out hk
  cases ho : M k with
  | none =>
    rw [ho] at hlk
    simp only [Option.getD_none, Option.isSome_none, lc0] at hlk
    have hA : repB none call = false := rfl
    have hM : repM M k call s = M := by unfold repM; rw [ho]; rfl
    rw [hA, hM]
    have HB := Lib.hid (below_box w lc0)
    clear hA hM ho
    go_enter Try.func13, Try.ntmps13
    go_wp2
    go_ret
    exact dpost_same HB.out (by omega) h
  | some c =>
    rw [ho] at hlk
    simp only [Option.getD_some, Option.isSome_some] at hlk
    have HB := Lib.hid (below_box w c)
    have H1 := Lib.hid (h.out.below HB.out)
    obtain ⟨cn, cr, cs⟩ := c
    by_cases h1 : cn = call
    · have h2 : (cn != call) = false := by simpa using h1
      cases cr
      · have hA : repB (some ⟨cn, false, cs⟩) call = true := by simp [repB, h1]
        have hM : repM M k call s = upd M k ⟨call, true, s⟩ := by unfold repM; rw [ho, hA]; rfl
        rw [hA, hM]
        clear hA hM ho h1
        go_enter Try.func13, Try.ntmps13
        go_wp2_with (fail)
        refine (set_any p n M k call s _ hn hk hs H1).mono ?_
        rintro e w' ⟨rfl, H2⟩
        go_wp2
        go_ret
        exact dpost_of HB.out (Nat.le_refl _) H2
      · have hA : repB (some ⟨cn, true, cs⟩) call = false := by simp [repB]
        have hM : repM M k call s = M := by unfold repM; rw [ho, hA]; rfl
        rw [hA, hM]
        clear hA hM ho h1
        go_enter Try.func13, Try.ntmps13
        go_wp2
        go_ret
        exact dpost_same HB.out (by omega) h
    · have h2 : (cn != call) = true := by simpa using h1
      have hA : repB (some ⟨cn, cr, cs⟩) call = false := by simp [repB, h1]
      have hM : repM M k call s = M := by unfold repM; rw [ho, hA]; rfl
      rw [hA, hM]
      clear hA hM ho h1
      go_enter Try.func13, Try.ntmps13
      go_wp2
      go_ret
      exact dpost_same HB.out (by omega) h
theorem reply_nil (k call : Int) (s : ByteArray) (w : World) : Calls Try.prog 13 #[.pointer none, .int .i64 k, .int .i64 call, .string s] w fun e w' => e = .returned (.bool false) ∧ w = w' := by
  go_enter Try.func13, Try.ntmps13
  go_wp2
  go_ret
  exact ⟨rfl, rfl⟩
end Go.Proofs.Ytddgigkalagpoaa
