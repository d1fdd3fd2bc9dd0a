/- Package net, for its laws: a net seen from the world in which the law began; a list of texts as it came in. -/
import Derived.Test.YtcahiogjmclnjaaNetFlyL
import Derived.Test.YtcahiogjmclnjaaNetRef
import Derived.Test.YtcahiogjmclnjaaSlices
import Derived.SliceStrings
namespace Go.Proofs.Ytcahiogjmclnjaa
open Go.RowKit Go.ChangeShapes Go.WideShapes

/-- a net of the law's own, at p -/
def NSt (w0 w : World) (p : Nat) (N sent : Int) (cut : Value) (L : List Letr) : Prop :=
  Below w0.heap.size w0 w ∧ w0.heap.size ≤ p ∧ ∃ v, NetL w w0.heap.size p N sent cut v L
/-- blocks of other types stay -/
def Frm (w w' : World) : Prop := ∀ b e, Bears w b e → e ≠ 36 → e ≠ 59 → w'.heap[b]? = w.heap[b]?
theorem frm_below {w w' : World} (h : Below w.heap.size w w') : Frm w w' := fun b e hb _ _ => h.block b hb.lt
theorem NSt.below {w0 w w' : World} {p : Nat} {N sent : Int} {cut : Value} {L : List Letr} (h : NSt w0 w p N sent cut L) (hb : Below w.heap.size w w') : NSt w0 w' p N sent cut L := by
  obtain ⟨h1, h2, v, h3⟩ := h
  exact ⟨h1.trans (hb.mono h1.size), h2, v, h3.below hb⟩
theorem nst_of {w0 w w' : World} {p : Nat} {N sent sent' : Int} {cut v v' : Value} {L L' : List Letr} (h1 : Below w0.heap.size w0 w) (h2 : w0.heap.size ≤ p) (h3 : NetL w w0.heap.size p N sent cut v L)
    (h : NetL w' w0.heap.size p N sent' cut v' L') (t : Tch w w' (own2 p v)) : NSt w0 w' p N sent' cut L' ∧ Frm w w' :=
  ⟨⟨t.from h1 (fun i hi => hi.elim (fun e => by omega) (fun e => (h3.fly.lt i e.symm).1)), h2, v', h⟩,
    fun b e hb he1 he2 => t.block b hb.lt (fun hi => hi.elim (fun e' => bears_apart hb (e' ▸ h3.ty) he2 rfl) (fun e' => bears_apart hb (h3.fly.ty b e'.symm) he1 rfl))⟩
section
variable {w0 : World} {p : Nat} {N sent : Int} {cut : Value} {L : List Letr}
theorem nst_new (n N : Int) (hN : N = min (max n 0) 64) (w : World) (hb : Below w0.heap.size w0 w) :
    Calls Try.prog 5 #[.int .i64 n] w fun e w' => e = .returned (.pointer (some ⟨w.heap.size, 0, none⟩)) ∧ NSt w0 w' w.heap.size N 0 (.map none) [] ∧ Frm w w' := by
  refine (new_any n N hN w).mono ?_
  rintro e w' ⟨he, rfl⟩
  have hbl : Below w.heap.size w (w.alloc (.cells #[.int .i64 N, .int .i64 0, .slice none 0 0, .map none] 59)) := (Below.refl _ w).alloc (Nat.le_refl _) _
  refine ⟨he, ⟨hb.trans (hbl.mono hb.size), hb.size, .slice none 0 0, ⟨?_, ?_, ?_, ?_, ?_, ?_, ?_⟩, ⟨_, heap_alloc_new w _⟩, rfl, .inl ⟨rfl, rfl⟩⟩, frm_below hbl⟩ <;> simp
theorem nst_send (a b : Int) (s : ByteArray) (w : World) (hs : s.size ≤ 1048576) (hL : L.length < 65536) (hsn : 0 ≤ sent ∧ sent ≤ 9223372036854775806) (ha : nodeB N a = true) (hb : nodeB N b = true) (h : Hid (NSt w0 w p N sent cut L)) :
    Calls Try.prog 7 #[.pointer (some ⟨p, 0, none⟩), .int .i64 a, .int .i64 b, .string s] w fun e w' => e = .returned (.tuple #[.int .i64 (sent + 1), .int .i64 0]) ∧ Hid (NSt w0 w' p N (sent + 1) cut (L ++ [⟨sent + 1, a, b, s⟩]) ∧ Frm w w') := by
  obtain ⟨h1, h2, v, h3⟩ := h.out
  refine (send_L w0.heap.size p N sent a b cut v s L w hs hL hsn ha hb h1.size h3).mono ?_
  rintro e w' ⟨he, v', h4, _, t⟩
  exact ⟨he, Lib.hid (nst_of h1 h2 h3 h4 t)⟩
theorem nst_deliver (k : Nat) (l : Letr) (pt : Bool) (w : World) (hs : l.s.size ≤ 1048576) (hk : L[k]? = some l) (hL : L.length ≤ 65536) (h : Hid (NSt w0 w p N sent cut L))
    (hpt : ∀ w2, Below w.heap.size w w2 → Calls Try.prog 19 #[.pointer (some ⟨p, 0, none⟩), .int .i64 l.a, .int .i64 l.b] w2 fun e w' => e = .returned (.bool pt) ∧ Below w2.heap.size w2 w') :
    Calls Try.prog 9 #[.pointer (some ⟨p, 0, none⟩), .int .i64 k] w fun e w' =>
      e = .returned (.tuple #[if pt then noLet else letV l, .int .i64 (if pt then 140 else 0)]) ∧ Hid (NSt w0 w' p N sent cut (if pt then L else L.eraseIdx k) ∧ Frm w w') := by
  obtain ⟨h1, h2, v, h3⟩ := h.out
  refine (deliver_L w0.heap.size p k N sent cut v L l pt w hs hk hL h3 hpt).mono ?_
  rintro e w' ⟨he, v', h4, _, t⟩
  exact ⟨he, Lib.hid (nst_of h1 h2 h3 h4 t)⟩
theorem nst_deliver_none (k : Nat) (l : Letr) (w : World) (hs : l.s.size ≤ 1048576) (hk : L[k]? = some l) (hL : L.length ≤ 65536) (h : Hid (NSt w0 w p N sent (.map none) L)) :
    Calls Try.prog 9 #[.pointer (some ⟨p, 0, none⟩), .int .i64 k] w fun e w' => e = .returned (.tuple #[letV l, .int .i64 0]) ∧ Hid (NSt w0 w' p N sent (.map none) (L.eraseIdx k) ∧ Frm w w') :=
  nst_deliver k l false w hs hk hL h (fun w2 hb => by
    obtain ⟨_, _, v, h3⟩ := h.out
    exact parted_none p N sent l.a l.b v w2 (h3.below hb).at')
theorem nst_deliver_arg (k : Int) (w : World) (hk : ¬ (0 ≤ k ∧ k < (L.length : Int))) (h : Hid (NSt w0 w p N sent cut L)) :
    Calls Try.prog 9 #[.pointer (some ⟨p, 0, none⟩), .int .i64 k] w fun e w' => e = .returned (.tuple #[noLet, .int .i64 2]) ∧ Hid (NSt w0 w' p N sent cut L ∧ Frm w w') := by
  obtain ⟨h1, h2, v, h3⟩ := h.out
  refine (deliver_arg w0.heap.size p N sent cut v L k w hk h3).mono ?_
  rintro e w' ⟨he, hb⟩
  exact ⟨he, Lib.hid ⟨h.out.below hb, frm_below hb⟩⟩
theorem nst_fly (w : World) (hL : L.length ≤ 65536) (hs : ∀ l ∈ L, l.s.size ≤ 1048576) (h : Hid (NSt w0 w p N sent cut L)) :
    Calls Try.prog 17 #[.pointer (some ⟨p, 0, none⟩)] w fun e w' => e = .returned (.slice (some ⟨w.heap.size, 0, none⟩) L.length L.length) ∧ Hid (NSt w0 w' p N sent cut L ∧ Below w.heap.size w w' ∧ RowL w' w.heap.size 0 L.length L) := by
  obtain ⟨h1, h2, v, h3⟩ := h.out
  refine (flying_L w0.heap.size p N sent cut v L w hL hs h3).mono ?_
  rintro e w' ⟨he, hb, hr⟩
  exact ⟨he, Lib.hid ⟨h.out.below hb, hb, hr⟩⟩
theorem nst_send_long (a b : Int) (s : ByteArray) (w : World) (hs : ¬ s.size ≤ 1048576) (ha : nodeB N a = true) (hb : nodeB N b = true) (h : Hid (NSt w0 w p N sent cut L)) :
    Calls Try.prog 7 #[.pointer (some ⟨p, 0, none⟩), .int .i64 a, .int .i64 b, .string s] w fun e w' => e = .returned (.tuple #[.int .i64 0, .int .i64 1]) ∧ Hid (NSt w0 w' p N sent cut L ∧ Frm w w') := by
  obtain ⟨h1, h2, v, h3⟩ := h.out
  refine (send_long w0.heap.size p N sent cut v L w a b s h3 (by rw [ha, hb]; rfl) hs).mono ?_
  rintro e w' ⟨he, hbl⟩
  exact ⟨he, Lib.hid ⟨h.out.below hbl, frm_below hbl⟩⟩
theorem nst_send_full (a b : Int) (s : ByteArray) (w : World) (hs : s.size ≤ 1048576) (hL : 65536 ≤ L.length) (ha : nodeB N a = true) (hb : nodeB N b = true) (h : Hid (NSt w0 w p N sent cut L)) :
    Calls Try.prog 7 #[.pointer (some ⟨p, 0, none⟩), .int .i64 a, .int .i64 b, .string s] w fun e w' => e = .returned (.tuple #[.int .i64 0, .int .i64 40]) ∧ Hid (NSt w0 w' p N sent cut L ∧ Frm w w') := by
  obtain ⟨h1, h2, v, h3⟩ := h.out
  refine (send_full w0.heap.size p N sent cut v L w a b s h3 (by rw [ha, hb]; rfl) hs hL).mono ?_
  rintro e w' ⟨he, hbl⟩
  exact ⟨he, Lib.hid ⟨h.out.below hbl, frm_below hbl⟩⟩
theorem nst_send_arg (a b : Int) (s : ByteArray) (w : World) (hab : (nodeB N a && nodeB N b) = false) (h : Hid (NSt w0 w p N sent cut L)) :
    Calls Try.prog 7 #[.pointer (some ⟨p, 0, none⟩), .int .i64 a, .int .i64 b, .string s] w fun e w' => e = .returned (.tuple #[.int .i64 0, .int .i64 2]) ∧ Hid (NSt w0 w' p N sent cut L ∧ Frm w w') := by
  obtain ⟨h1, h2, v, h3⟩ := h.out
  refine (send_arg w0.heap.size p N sent cut v L w a b s h3 hab).mono ?_
  rintro e w' ⟨he, hbl⟩
  exact ⟨he, Lib.hid ⟨h.out.below hbl, frm_below hbl⟩⟩
end
end Go.Proofs.Ytcahiogjmclnjaa
