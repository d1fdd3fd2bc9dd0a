/- Both nets and a copy of what is under way: the two are compared, the ways are asked for, the copy is spoilt. -/
import Derived.Test.YtcahiogjmclnjaaNetNN
namespace Go.Proofs.Ytcahiogjmclnjaa
open Go.RowKit
/-- a block of room enough -/
def Room (w : World) (f m : Nat) : Prop := ∃ cs t, w.heap[f]? = some (.cells cs t (0, 0)) ∧ m * 4 ≤ cs.size
theorem Room.cell {w : World} {f m : Nat} (h : Room w f m) (i : Nat) (hi : i < m * 4) : (∃ u, w.cell? ⟨f, i, none⟩ = some u) ∧ w.frozen? ⟨f, i, none⟩ = false := by
  obtain ⟨cs, t, h1, h2⟩ := h
  refine ⟨⟨cs[i]'(by omega), ?_⟩, by simp [World.frozen?, h1]⟩
  simp [World.cell?, h1, Array.getElem?_eq_getElem (show i < cs.size by omega)]
theorem Room.set {w : World} {f m : Nat} (h : Room w f m) (i : Nat) (v : Value) : Room (w.setCell ⟨f, i, none⟩ v) f m := by
  obtain ⟨cs, t, h1, h2⟩ := h
  refine ⟨cs.set! i v, t, ?_, by simp; exact h2⟩
  simp only [World.setCell, Array.getElem?_modify, h1]
  simp
theorem room_row {w : World} {f : Nat} {L : List Letr} (h : RowL w f 0 L.length L) : Room w f L.length := by
  obtain ⟨cur, h1, h2, _⟩ := h.blk
  exact ⟨cur, _, h1, by omega⟩
/-- the state between the copy and the comparisons -/
structure NZ (w0 w : World) (p q o g f : Nat) (N sent : Int) (n : Nat) (L : List Letr) (S : Int → Int → Bool) (x : Ac) (v : Value) (wc : World) : Prop where
  nx : NX w0 w p q o g N sent n L S sent L S x
  row : RowL w f 0 L.length L
  c2 : w.cell? ⟨q, 2, none⟩ = some v
  fly : Fly w 39 4 w0.heap.size v L.length (cellsOf L)
  bel : Below wc.heap.size wc w
section
variable {w0 w w' wc : World} {p q o g f n : Nat} {N sent : Int} {L : List Letr} {S : Int → Int → Bool} {x : Ac} {v : Value}
theorem NZ.below (h : NZ w0 w p q o g f N sent n L S x v wc) (hb : Below w.heap.size w w') : NZ w0 w' p q o g f N sent n L S x v wc :=
  ⟨h.nx.below hb, h.row.same (hb.block _ h.row.lt), (cell_eq (hb.block q h.nx.1.qty.lt) 2).trans h.c2, h.fly.same (fun b hv => hb.block b (h.fly.lt b hv).2), h.bel.trans (hb.mono h.bel.size)⟩
theorem NZ.drew (h : NZ w0 w p q o g f N sent n L S x v wc) : NZ w0 w.drew p q o g f N sent n L S x v wc := h.below ⟨rfl, rfl, rfl, Nat.le_refl _, fun _ _ => rfl⟩
theorem NZ.cells (h : Hid (NZ w0 w p q o g f N sent n L S x v wc)) : w.cell? ⟨g, 1, none⟩ = some (.int .i64 x.a) ∧ w.cell? ⟨g, 2, none⟩ = some (.int .i64 x.b) ∧ w.cell? ⟨q, 2, none⟩ = some v := ⟨h.out.nx.2.c1, h.out.nx.2.c2, h.out.c2⟩
theorem nz_of (h : NX w0 w p q o g N sent n L S sent L S x) (hr : RowL w f 0 L.length L) (hb : Below wc.heap.size wc w) : ∃ v, NZ w0 w p q o g f N sent n L S x v wc := by
  obtain ⟨_, v, hR⟩ := h.1.ref
  exact ⟨v, h, hr, hR.c2, hR.fly, hb⟩
theorem nz_same (hF : Fine N L) (h : Hid (NZ w0 w p q o g f N sent n L S x v wc)) :
    Calls Try.prog 18 #[.slice (some ⟨f, 0, none⟩) L.length L.length, v] w fun e w' => e = .returned (.bool true) ∧ Hid (NZ w0 w' p q o g f N sent n L S x v wc) :=
  (same_any f v L w hF.len h.out.row h.out.fly).mono fun _ _ ⟨he, k⟩ => ⟨he, Lib.hid (h.out.below k.1)⟩
theorem nz_parted (ha : node4 x.a) (hb : node4 x.b) (h : Hid (NZ w0 w p q o g f N sent n L S x v wc)) :
    Calls Try.prog 19 #[.pointer (some ⟨p, 0, none⟩), .int .i64 x.a, .int .i64 x.b] w fun e w' => e = .returned (.bool (S x.a x.b)) ∧ Hid (NZ w0 w' p q o g f N sent n L S x v wc) :=
  (nwb_parted x.a x.b w (Lib.hid h.out.nx.1.net) ha hb).mono fun _ _ ⟨he, k⟩ => ⟨he, Lib.hid (h.out.below k)⟩
theorem nz_rparted (hN : N ≤ 64) (hS : Only N S) (h : Hid (NZ w0 w p q o g f N sent n L S x v wc)) :
    Calls Try.prog 20 #[.pointer (some ⟨q, 0, none⟩), .int .i64 x.a, .int .i64 x.b] w fun e w' => e = .returned (.bool (S x.a x.b)) ∧ Hid (NZ w0 w' p q o g f N sent n L S x v wc) :=
  (rparted_any x.a x.b w hN hS (Lib.hid h.out.nx.1.ref)).mono fun _ _ ⟨he, k⟩ => ⟨he, by subst k; exact h⟩
/-- a box that holds the letter delivered -/
structure LB (w : World) (r : Nat) (li la lb : Int) (ls : ByteArray) : Prop where
  ty : Bears w r 36
  c0 : w.cell? ⟨r, 0, none⟩ = some (.int .i64 li)
  c1 : w.cell? ⟨r, 1, none⟩ = some (.int .i64 la)
  c2 : w.cell? ⟨r, 2, none⟩ = some (.int .i64 lb)
  c3 : w.cell? ⟨r, 3, none⟩ = some (.string ls)
theorem LB.same {w w' : World} {r : Nat} {li la lb : Int} {ls : ByteArray} (h : LB w r li la lb ls) (e : w'.heap[r]? = w.heap[r]?) : LB w' r li la lb ls :=
  ⟨by obtain ⟨cs, k⟩ := h.ty; exact ⟨cs, e.trans k⟩, (cell_eq e 0).trans h.c0, (cell_eq e 1).trans h.c1, (cell_eq e 2).trans h.c2, (cell_eq e 3).trans h.c3⟩
theorem lb_new (w : World) (li la lb : Int) (ls : ByteArray) : LB (w.alloc (.cells #[.int .i64 li, .int .i64 la, .int .i64 lb, .string ls] 36)) w.heap.size li la lb ls := by
  refine ⟨⟨_, heap_alloc_new w _⟩, ?_, ?_, ?_, ?_⟩ <;> simp
theorem nb_rdeliver {w0 w : World} {p q o g n r : Nat} {N sent : Int} {L : List Letr} {S : Int → Int → Bool} {x : Ac} {n1 : Int} {L1 : List Letr} {S1 : Int → Int → Bool} {li la lb : Int} {ls : ByteArray} (k : Int) (hN : N ≤ 64) (hF : Fine N L) (h : Hid (NX w0 w p q o g N n1 n L1 S1 sent L S x ∧ LB w r li la lb ls)) :
    Calls Try.prog 10 #[.pointer (some ⟨q, 0, none⟩), .int .i64 k] w fun e w' => e = .returned (.tuple #[letV (dlvX L S k), .int .i64 (dlvE L S k)]) ∧ Hid (NX w0 w' p q o g N n1 n L1 S1 sent (dlvL L S k) S x ∧ LB w' r li la lb ls) := by
  have hkeep : ∀ {w' : World}, RFr w w' → LB w' r li la lb ls := fun f => h.out.2.same (f r h.out.2.ty.lt (not_brs h.out.2.ty (by decide)) (not_brs h.out.2.ty (by decide)))
  unfold dlvX dlvE dlvL
  by_cases hk : okK L k = true
  · simp only [hk, if_true]
    obtain ⟨j, rfl, hj, hjk, hl⟩ := ok_nat hk
    rw [hjk]
    have hm := List.mem_of_getElem? hl
    refine (rdeliver_any j _ w hl hF.len hN (hF.a _ hm) (hF.b _ hm) (Lib.hid h.out.1.1.ref)).mono fun _ _ ⟨he, k⟩ => ?_
    generalize S (atL L (j : Int)).a (atL L (j : Int)).b = u at he k ⊢
    cases u
    · exact ⟨he, Lib.hid ⟨h.out.1.right k.out.1 k.out.2, hkeep k.out.2⟩⟩
    · exact ⟨he, Lib.hid ⟨h.out.1.right k.out.1 k.out.2, hkeep k.out.2⟩⟩
  · simp only [hk, if_false, Bool.false_eq_true]
    exact (rdeliver_no k w (ok_no hk) hF.len (Lib.hid h.out.1.1.ref)).mono fun _ _ ⟨he, k⟩ => ⟨he, Lib.hid ⟨h.out.1.right k.out.1 k.out.2, hkeep k.out.2⟩⟩
/-- at the end: the net, the reference's list, the net to which nothing was done -/
structure NE (w0 w : World) (p q o : Nat) (N sent : Int) (n : Nat) (L : List Letr) (S : Int → Int → Bool) (v : Value) : Prop where
  nn : NN w0 w p q o N sent n L S sent L S
  c2 : w.cell? ⟨q, 2, none⟩ = some v
  fly : Fly w 39 4 w0.heap.size v L.length (cellsOf L)
theorem NE.below (h : NE w0 w p q o N sent n L S v) (hb : Below w.heap.size w w') : NE w0 w' p q o N sent n L S v :=
  ⟨h.nn.below hb, (cell_eq (hb.block q h.nn.qty.lt) 2).trans h.c2, h.fly.same (fun b hv => hb.block b (h.fly.lt b hv).2)⟩
theorem NE.drew (h : NE w0 w p q o N sent n L S v) : NE w0 w.drew p q o N sent n L S v := h.below ⟨rfl, rfl, rfl, Nat.le_refl _, fun _ _ => rfl⟩
theorem ne_of (h : NN w0 w p q o N sent n L S sent L S) : ∃ v, NE w0 w p q o N sent n L S v := by
  obtain ⟨_, v, hR⟩ := h.ref
  exact ⟨v, h, hR.c2, hR.fly⟩
/-- the copy of the net's at block f -/
def NEF (w0 w : World) (p q o : Nat) (N sent : Int) (n : Nat) (L : List Letr) (S : Int → Int → Bool) (v : Value) (f : Nat) : Prop := NE w0 w p q o N sent n L S v ∧ RowL w f 0 L.length L
theorem nef_c2 (h : Hid (NEF w0 w p q o N sent n L S v f)) : w.cell? ⟨q, 2, none⟩ = some v := h.out.1.c2
theorem ne_c2 (h : Hid (NE w0 w p q o N sent n L S v)) : w.cell? ⟨q, 2, none⟩ = some v := h.out.c2
theorem ne_fly (hF : Fine N L) (h : Hid (NE w0 w p q o N sent n L S v)) :
    Calls Try.prog 17 #[.pointer (some ⟨p, 0, none⟩)] w fun e w' => ∃ f, e = .returned (.slice (some ⟨f, 0, none⟩) L.length L.length) ∧ Hid (NEF w0 w' p q o N sent n L S v f) :=
  (nwb_fly w hF.len hF.s (Lib.hid h.out.nn.net)).mono fun _ _ ⟨he, k⟩ => ⟨_, he, Lib.hid ⟨h.out.below k.out.2.1, k.out.2.2⟩⟩
theorem ne_same (hF : Fine N L) (h : Hid (NEF w0 w p q o N sent n L S v f)) :
    Calls Try.prog 18 #[.slice (some ⟨f, 0, none⟩) L.length L.length, v] w fun e w' => e = .returned (.bool true) ∧ Hid (NE w0 w' p q o N sent n L S v) :=
  (same_any f v L w hF.len h.out.2 h.out.1.fly).mono fun _ _ ⟨he, k⟩ => ⟨he, Lib.hid (h.out.1.below k.1)⟩
theorem ne_oth (h : Hid (NE w0 w p q o N sent n L S v)) :
    Calls Try.prog 17 #[.pointer (some ⟨o, 0, none⟩)] w fun e w' => (∃ a, e = .returned (.slice a 0 0)) ∧ Hid (NE w0 w' p q o N sent n L S v) :=
  (flying_L w0.heap.size o N 0 (.map none) (.slice none 0 0) [] w (by simp) (by simp) h.out.nn.oth).mono fun _ _ ⟨he, hb, _⟩ => ⟨⟨_, he⟩, Lib.hid (h.out.below hb)⟩
end
end Go.Proofs.Ytcahiogjmclnjaa
