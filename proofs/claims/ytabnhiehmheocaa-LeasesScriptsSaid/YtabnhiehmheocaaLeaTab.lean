/- Package leases: a table: what it is, and what each of its calls makes of it. -/
import Derived.Test.YtabnhiehmheocaaLeaMap
import Derived.Test.YtabnhiehmheocaaLeaMath
import Derived.Test.YtabnhiehmheocaaCloneN
import Derived.IntWalk
import Derived.Deep.QuietTactic
import Derived.BigQuiet
import Derived.Deep.RegionHeld3
import Derived.StillTailTactics
import Derived.Deep.DeepCutAuto
import Derived.Deep.RegionLaw
namespace Go.Proofs.Ytabnhiehmheocaa
open Go.RowKit Go.Maps

/-- a moment, a length of time -/
def mom (n : Int) : Int := min (max n 0) 1099511627776
def lenT (n : Int) : Int := min (max n 1) 1099511627776
theorem mom_b (n : Int) : 0 ≤ mom n ∧ mom n ≤ 1099511627776 := by unfold mom; omega
theorem lenT_b (n : Int) : 1 ≤ lenT n ∧ lenT n ≤ 1099511627776 := by unfold lenT; omega
theorem bears_free {w : World} {p : Nat} {e : TypeId} (h : Bears w p e) (i : Nat) : w.frozen? ⟨p, i, none⟩ = false := by
  obtain ⟨cs, h⟩ := h
  simp [World.frozen?, h]
theorem moment_any (n : Int) (w : World) : Calls Try.prog 19 #[.int .i64 n] w fun e w' => e = .returned (.int .i64 (mom n)) ∧ w = w' := by
  rcases Int.lt_or_le n 0 with h | h
  · rw [show mom n = 0 by unfold mom; omega]
    go_enter Try.func19, Try.ntmps19
    go_wp2
    go_ret
    exact ⟨rfl, rfl⟩
  · rcases Int.lt_or_le 1099511627776 n with h2 | h2
    · rw [show mom n = 1099511627776 by unfold mom; omega]
      go_enter Try.func19, Try.ntmps19
      go_wp2
      go_ret
      exact ⟨rfl, rfl⟩
    · rw [show mom n = n by unfold mom; omega]
      go_enter Try.func19, Try.ntmps19
      go_wp2
      go_ret
      exact ⟨rfl, rfl⟩
/-- a lease's block -/
structure LeAt (w : World) (b : Nat) (c h : Int) : Prop where
  c0 : w.cell? ⟨b, 0, none⟩ = some (.int .i64 c)
  c1 : w.cell? ⟨b, 1, none⟩ = some (.int .i64 h)
  ty : Bears w b 58
theorem LeAt.same {w w' : World} {b : Nat} {c h : Int} (k : LeAt w b c h) (e : w'.heap[b]? = w.heap[b]?) : LeAt w' b c h :=
  ⟨(cell_eq e 0).trans k.c0, (cell_eq e 1).trans k.c1, by obtain ⟨cs, q⟩ := k.ty; exact ⟨cs, e.trans q⟩⟩
/-- the map m leads each path of L to a block of its own, new since B -/
structure Held (B : Nat) (w : World) (m n : Nat) (G : Blk) (L : List Ls) : Prop where
  gm : GM w m n G
  at' : ∀ x ∈ L, ∃ b, G x.p = some b ∧ LeAt w b x.c x.h
  only : ∀ q b, G q = some b → B ≤ b ∧ ∃ x ∈ L, x.p = q
  one : ∀ q q' b, G q = some b → G q' = some b → q = q'
/-- a table of the law's own at p -/
structure TabSt (w0 w : World) (p : Nat) (len : Int) (n : Nat) (L : List Ls) : Prop where
  bel : Below w0.heap.size w0 w
  lo : w0.heap.size ≤ p
  ty : Bears w p 54
  c0 : w.cell? ⟨p, 0, none⟩ = some (.int .i64 (lenT len))
  v : (w.cell? ⟨p, 1, none⟩ = some (.map none) ∧ L = []) ∨ ∃ m G, w0.heap.size ≤ m ∧ w.cell? ⟨p, 1, none⟩ = some (.map (some m)) ∧ Held w0.heap.size w m n G L
  srt : Srt L
  sz : ∀ x ∈ L, x.p.size ≤ 140737488351232
/-- all blocks that bear a type stay but those of block p and of leases -/
def TF (p : Nat) (w w' : World) : Prop := ∀ b e, Bears w b e → ¬ b = p → e ≠ 58 → w'.heap[b]? = w.heap[b]?
theorem tf_below (p : Nat) {w w' : World} (h : Below w.heap.size w w') : TF p w w' := fun b _ hb _ _ => h.block b hb.lt
theorem tf_trans {p : Nat} {w w1 w2 : World} (h : TF p w w1) (k : TF p w1 w2) : TF p w w2 := fun b e hb hn he => by
  have e1 := h b e hb hn he
  have hb1 : Bears w1 b e := by obtain ⟨cs, hc⟩ := hb; exact ⟨cs, e1.trans hc⟩
  exact (k b e hb1 hn he).trans e1
theorem Held.same {B : Nat} {w w' : World} {m n : Nat} {G : Blk} {L : List Ls} (h : Held B w m n G L) (hb : ∀ b, b < w.heap.size → w'.heap[b]? = w.heap[b]?) : Held B w' m n G L :=
  ⟨h.gm.same (hb m h.gm.lt), fun x hx => by obtain ⟨b, h1, h2⟩ := h.at' x hx; exact ⟨b, h1, h2.same (hb b h2.ty.lt)⟩, h.only, h.one⟩
theorem TabSt.below {w0 w w' : World} {p n : Nat} {len : Int} {L : List Ls} (h : TabSt w0 w p len n L) (hb : Below w.heap.size w w') : TabSt w0 w' p len n L := by
  have hp := hb.block p h.ty.lt
  refine ⟨h.bel.trans (hb.mono h.bel.size), h.lo, by obtain ⟨cs, k⟩ := h.ty; exact ⟨cs, hp.trans k⟩, (cell_eq hp 0).trans h.c0, ?_, h.srt, h.sz⟩
  rcases h.v with ⟨h1, h2⟩ | ⟨m, G, h1, h2, h3⟩
  · exact .inl ⟨(cell_eq hp 1).trans h1, h2⟩
  · exact .inr ⟨m, G, h1, (cell_eq hp 1).trans h2, h3.same hb.block⟩
theorem TabSt.more {w0 w : World} {p n n' : Nat} {len : Int} {L : List Ls} (h : TabSt w0 w p len n L) (hn : n ≤ n') : TabSt w0 w p len n' L :=
  ⟨h.bel, h.lo, h.ty, h.c0, h.v.imp id fun ⟨m, G, h1, h2, h3⟩ => ⟨m, G, h1, h2, h3.gm.mono hn, h3.at', h3.only, h3.one⟩, h.srt, h.sz⟩
theorem newtab_any {w0 : World} (a : Int) (w : World) (hb : Below w0.heap.size w0 w) : Calls Try.prog 8 #[.int .i64 a] w fun e w' =>
    e = .returned (.pointer (some ⟨w.heap.size, 0, none⟩)) ∧ Hid (TabSt w0 w' w.heap.size a 0 [] ∧ Below w.heap.size w w') := by
  obtain ⟨b, hbd⟩ : ∃ b, b = lenT a := ⟨_, rfl⟩
  have hfin : TabSt w0 (w.alloc (.cells #[.int .i64 b, .map none] 54)) w.heap.size a 0 [] ∧ Below w.heap.size w (w.alloc (.cells #[.int .i64 b, .map none] 54)) := by
    have hbl : Below w.heap.size w (w.alloc (.cells #[.int .i64 b, .map none] 54)) := (Below.refl _ w).alloc (Nat.le_refl _) _
    exact ⟨⟨hb.trans (hbl.mono hb.size), hb.size, ⟨_, heap_alloc_new w _⟩, by simp [hbd], .inl ⟨by simp, rfl⟩, List.Pairwise.nil, by simp⟩, hbl⟩
  have HF := Lib.hid hfin
  clear hfin hb
  rcases Int.lt_or_le a 1 with h | h
  · rw [show b = 1 by rw [hbd]; unfold lenT; omega] at HF
    clear hbd
    go_enter Try.func8, Try.ntmps8
    go_wp2
    go_ret
    exact ⟨rfl, HF⟩
  · rcases Int.lt_or_le 1099511627776 a with h2 | h2
    · rw [show b = 1099511627776 by rw [hbd]; unfold lenT; omega] at HF
      clear hbd
      go_enter Try.func8, Try.ntmps8
      go_wp2
      go_ret
      exact ⟨rfl, HF⟩
    · rw [show b = a by rw [hbd]; unfold lenT; omega] at HF
      clear hbd
      go_enter Try.func8, Try.ntmps8
      go_wp2
      go_ret
      exact ⟨rfl, HF⟩
theorem grant_nil (q : ByteArray) (c n : Int) (w : World) : Calls Try.prog 9 #[.pointer none, .string q, .int .i64 c, .int .i64 n] w fun e w' => e = .returned (.tuple #[]) ∧ w = w' := by
  go_enter Try.func9, Try.ntmps9
  go_wp2
  first
    | (go_ret; exact ⟨rfl, rfl⟩)
    | exact bodyPost_ret (v := .tuple #[]) (results_none rfl _ _ _) rfl ⟨rfl, rfl⟩
theorem renew_nil (c n : Int) (w : World) : Calls Try.prog 11 #[.pointer none, .int .i64 c, .int .i64 n] w fun e w' => e = .returned (.tuple #[]) ∧ w = w' := by
  go_enter Try.func11, Try.ntmps11
  go_wp2
  first
    | (go_ret; exact ⟨rfl, rfl⟩)
    | exact bodyPost_ret (v := .tuple #[]) (results_none rfl _ _ _) rfl ⟨rfl, rfl⟩
theorem drop_nil (q : ByteArray) (w : World) : Calls Try.prog 13 #[.pointer none, .string q] w fun e w' => e = .returned (.tuple #[]) ∧ w = w' := by
  go_enter Try.func13, Try.ntmps13
  go_wp2
  first
    | (go_ret; exact ⟨rfl, rfl⟩)
    | exact bodyPost_ret (v := .tuple #[]) (results_none rfl _ _ _) rfl ⟨rfl, rfl⟩
theorem holder_nil (q : ByteArray) (w : World) : Calls Try.prog 15 #[.pointer none, .string q] w fun e w' => e = .returned (.tuple #[.int .i64 0, .bool false]) ∧ w = w' := by
  go_enter Try.func15, Try.ntmps15
  go_wp2
  go_ret2
  exact ⟨rfl, rfl⟩
theorem due_nil (n : Int) (w : World) : Calls Try.prog 16 #[.pointer none, .int .i64 n] w fun e w' => e = .returned (.slice none 0 0) ∧ w = w' := by
  go_enter Try.func16, Try.ntmps16
  go_wp2
  go_ret
  exact ⟨rfl, rfl⟩
def TPost (w0 w : World) (p : Nat) (len : Int) (n : Nat) (L' : List Ls) (v : Value) (e : Ending) (w' : World) : Prop := e = .returned v ∧ Hid (TabSt w0 w' p len n L' ∧ TF p w w')
set_option maxHeartbeats 4000000 in
set_option maxRecDepth 100000 in
theorem holder_any {w0 : World} (p n : Nat) (len : Int) (L : List Ls) (q : ByteArray) (w : World) (hq : q.size ≤ 140737488351232) (h : Hid (TabSt w0 w p len n L)) :
    Calls Try.prog 15 #[.pointer (some ⟨p, 0, none⟩), .string q] w fun e w' => e = .returned (.tuple #[.int .i64 ((holdL L q).map (·.c) |>.getD 0), .bool (holdL L q).isSome]) ∧ Hid (TabSt w0 w' p len n L ∧ Below w.heap.size w w') := by
  have hqm : q.size ≤ maxLen := by unfold maxLen; omega
  have HS := h
  rcases h.out.v with ⟨hc, rfl⟩ | ⟨m, G, hm, hc, hh⟩
  · have hlk := fun w => @look_gm0 w q hqm
    have e1 : holdL [] q = none := rfl
    rw [e1]
    simp only [Option.map_none, Option.getD_none, Option.isSome_none]
    clear h e1
    go_enter Try.func15, Try.ntmps15
    go_wp2
    go_ret2
    exact ⟨rfl, Lib.hid ⟨HS.out, Below.refl _ _⟩⟩
  · have hlk := look_gm hh.gm hqm
    cases hd : holdL L q with
    | none =>
      have hg : G q = none := by
        cases k : G q with
        | none => rfl
        | some b => obtain ⟨_, x, hx, e⟩ := hh.only q b k; exact absurd e (not_holdL hd x hx)
      rw [hg] at hlk
      simp only [pvo, Option.isSome_none, Option.map_none, Option.getD_none] at hlk ⊢
      clear h hh
      go_enter Try.func15, Try.ntmps15
      go_wp2
      go_ret2
      exact ⟨rfl, Lib.hid ⟨HS.out, Below.refl _ _⟩⟩
    | some x =>
      obtain ⟨hx, rfl⟩ := mem_holdL hd
      obtain ⟨b, hg, hat⟩ := hh.at' x hx
      rw [hg] at hlk
      simp only [pvo, Option.isSome_some, Option.map_some, Option.getD_some] at hlk ⊢
      have c0 := hat.c0
      clear h hh hat
      go_enter Try.func15, Try.ntmps15
      go_wp2
      go_ret2
      exact ⟨rfl, Lib.hid ⟨HS.out, Below.refl _ _⟩⟩
end Go.Proofs.Ytabnhiehmheocaa
