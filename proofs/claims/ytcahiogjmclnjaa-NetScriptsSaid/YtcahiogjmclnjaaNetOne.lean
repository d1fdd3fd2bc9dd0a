/- Package net: the first letter of a net, and how it arrives. -/
import Derived.Test.YtcahiogjmclnjaaNetFns
import Derived.Deep.RegionHeld3
import Derived.Deep.AppendLies
import Derived.OwnWalk
namespace Go.Proofs.Ytcahiogjmclnjaa
open Go.RowKit

/-- a net's cells -/
structure NetAt (w : World) (p : Nat) (N sent : Int) (fl cut : Value) : Prop where
  c0 : w.cell? ⟨p, 0, none⟩ = some (.int .i64 N)
  c1 : w.cell? ⟨p, 1, none⟩ = some (.int .i64 sent)
  c2 : w.cell? ⟨p, 2, none⟩ = some fl
  c3 : w.cell? ⟨p, 3, none⟩ = some cut
  f1 : w.frozen? ⟨p, 1, none⟩ = false
  f2 : w.frozen? ⟨p, 2, none⟩ = false
  f3 : w.frozen? ⟨p, 3, none⟩ = false
theorem infoLetter : (Try.prog.info? 36).map (fun i => (i.zero, i.size, i.bytes)) = some (some (.agg #[.int .i64 0, .int .i64 0, .int .i64 0, .string ⟨#[]⟩]), 4, 40) := by kernel_rfl
/-- nothing that lay in w0 has turned -/
abbrev Since (w0 w : World) : Prop := Hid (Below w0.heap.size w0 w)
theorem since_of {w0 w w' : World} (h : Since w0 w) (hb : Below w.heap.size w w') : Since w0 w' := Lib.hid (h.out.trans (hb.mono h.out.size))
theorem NetAt.lt {w : World} {p : Nat} {N sent : Int} {fl cut : Value} (h : NetAt w p N sent fl cut) : p < w.heap.size := by
  have c0 := h.c0
  rcases Nat.lt_or_ge p w.heap.size with h | h
  · exact h
  · simp [World.cell?, Array.getElem?_eq_none h] at c0
theorem NetAt.below {w w' : World} {p B : Nat} {N sent : Int} {fl cut : Value} (h : NetAt w p N sent fl cut) (hb : Below B w w') (hB : p < B) : NetAt w' p N sent fl cut :=
  ⟨(hb.cell (p := ⟨p, 0, none⟩) hB).trans h.c0, (hb.cell (p := ⟨p, 1, none⟩) hB).trans h.c1, (hb.cell (p := ⟨p, 2, none⟩) hB).trans h.c2, (hb.cell (p := ⟨p, 3, none⟩) hB).trans h.c3,
    (hb.frozen (p := ⟨p, 1, none⟩) hB).trans h.f1, (hb.frozen (p := ⟨p, 2, none⟩) hB).trans h.f2, (hb.frozen (p := ⟨p, 3, none⟩) hB).trans h.f3⟩
theorem NetAt.sent {w : World} {p : Nat} {N sent : Int} {fl cut : Value} (h : NetAt w p N sent fl cut) (k : Int) : NetAt (w.setCell ⟨p, 1, none⟩ (.int .i64 k)) p N k fl cut :=
  ⟨(World.cell?_setCell_other _ _ _ _ (by simp)).trans h.c0, World.cell?_setCell_same _ _ _ h.c1, (World.cell?_setCell_other _ _ _ _ (by simp)).trans h.c2, (World.cell?_setCell_other _ _ _ _ (by simp)).trans h.c3,
    by rw [World.frozen?_setCell]; exact h.f1, by rw [World.frozen?_setCell]; exact h.f2, by rw [World.frozen?_setCell]; exact h.f3⟩
theorem NetAt.fly {w : World} {p : Nat} {N sent : Int} {fl cut : Value} (h : NetAt w p N sent fl cut) (v : Value) : NetAt (w.setCell ⟨p, 2, none⟩ v) p N sent v cut :=
  ⟨(World.cell?_setCell_other _ _ _ _ (by simp)).trans h.c0, (World.cell?_setCell_other _ _ _ _ (by simp)).trans h.c1, World.cell?_setCell_same _ _ _ h.c2, (World.cell?_setCell_other _ _ _ _ (by simp)).trans h.c3,
    by rw [World.frozen?_setCell]; exact h.f1, by rw [World.frozen?_setCell]; exact h.f2, by rw [World.frozen?_setCell]; exact h.f3⟩
abbrev SX (wc : World) (p : Nat) (w' : World) : Prop := Hid (Below wc.heap.size wc w') ∧ w'.cell? ⟨p, 1, none⟩ = some (.int .i64 1) ∧ w'.cell? ⟨p, 2, none⟩ = some (.slice none 0 0) ∧ w'.frozen? ⟨p, 2, none⟩ = false
theorem sx_of {wc w' : World} {p : Nat} {N : Int} {cut : Value} (h : NetAt wc p N 1 (.slice none 0 0) cut) (hb : Below wc.heap.size wc w') : SX wc p w' :=
  ⟨Lib.hid hb, (hb.cell (p := ⟨p, 1, none⟩) h.lt).trans h.c1, (hb.cell (p := ⟨p, 2, none⟩) h.lt).trans h.c2, (hb.frozen (p := ⟨p, 2, none⟩) h.lt).trans h.f2⟩
theorem sx_drew {wc w' : World} {p : Nat} (k : SX wc p w') : SX wc p w'.drew := ⟨Lib.hid k.1.out.drew, k.2⟩
theorem hx_drew {wc w' : World} (k : Hid (Below wc.heap.size wc w')) : Hid (Below wc.heap.size wc w'.drew) := Lib.hid k.out.drew
theorem sx_alloc {wc w' : World} {p : Nat} {N : Int} {cut : Value} (h : NetAt wc p N 1 (.slice none 0 0) cut) (o : Obj) (k : SX wc p w') : SX wc p (w'.alloc o) := sx_of h (k.1.out.alloc k.1.out.size _)
theorem letter_cap : ¬ 281474976710656 < Builtin.nextslicecap 1 0 * Try.t36.bytes := by decide +kernel
def After (p : Nat) (w : World) : Prop := (∀ o1 : Obj, (w.alloc o1).cell? ⟨p, 2, none⟩ = some (.slice none 0 0)) ∧ (∀ o1 o2 : Obj, ((w.alloc o1).alloc o2).cell? ⟨p, 2, none⟩ = some (.slice none 0 0)) ∧ (∀ o1 o2 : Obj, ((w.alloc o1).alloc o2).frozen? ⟨p, 2, none⟩ = false)
theorem copied_T {wc w' : World} {p : Nat} {N : Int} {cut : Value} (h : NetAt wc p N 1 (.slice none 0 0) cut) (a b : Int) (s : ByteArray) (hs : s.size ≤ 281474976710656) (k : SX wc p w') :
    Calls Try.prog 23 #[.agg #[.int .i64 1, .int .i64 a, .int .i64 b, .string s]] w' fun e w'' => e = .returned (.agg #[.int .i64 1, .int .i64 a, .int .i64 b, .string s]) ∧ SX wc p w'' ∧ ¬ w''.heap.size = p ∧ ¬ w''.heap.size + 1 = p ∧ After p w'' :=
  (copied_any 1 a b s w' hs).mono fun _ w2 ⟨he, hb⟩ => by
    have hx := sx_of h (k.1.out.trans (hb.mono k.1.out.size))
    have h1 := h.lt; have h2 := k.1.out.size; have h3 := hb.size
    refine ⟨he, hx, by omega, by omega, fun o1 => ?_, fun o1 o2 => ?_, fun o1 o2 => ?_⟩
    · exact (sx_alloc h o1 hx).2.2.1
    · exact (sx_alloc h o2 (sx_alloc h o1 hx)).2.2.1
    · exact (sx_alloc h o2 (sx_alloc h o1 hx)).2.2.2
theorem copied_S {wc w' : World} {p : Nat} {N : Int} {cut : Value} (h : NetAt wc p N 1 (.slice none 0 0) cut) (a b : Int) (s : ByteArray) (hs : s.size ≤ 281474976710656) (k : SX wc p w') :
    Calls Try.prog 23 #[.agg #[.int .i64 1, .int .i64 a, .int .i64 b, .string s]] w' fun e w'' => e = .returned (.agg #[.int .i64 1, .int .i64 a, .int .i64 b, .string s]) ∧ SX wc p w'' :=
  (copied_any 1 a b s w' hs).mono fun _ _ ⟨he, hb⟩ => ⟨he, sx_of h (k.1.out.trans (hb.mono k.1.out.size))⟩
/-- a net with one letter -/
def One (w0 w : World) (p : Nat) (N a b : Int) (cut : Value) (s : ByteArray) : Prop :=
  Since w0 w ∧ ∃ g c, NetAt w p N 1 (.slice (some ⟨g, 0, none⟩) 1 c) cut ∧ w0.heap.size ≤ g ∧ ¬ g = p ∧ 1 ≤ c ∧ g < w.heap.size ∧
    w.cell? ⟨g, 0, none⟩ = some (.int .i64 1) ∧ w.cell? ⟨g, 1, none⟩ = some (.int .i64 a) ∧ w.cell? ⟨g, 2, none⟩ = some (.int .i64 b) ∧ w.cell? ⟨g, 3, none⟩ = some (.string s) ∧ ∀ i, w.frozen? ⟨g, i, none⟩ = false
theorem one_mk {w0 wc w' : World} {p : Nat} {N a b : Int} {cut : Value} {s : ByteArray} {O : Obj} {Z : Array Value} {c : Nat} (hc : NetAt wc p N 1 (.slice none 0 0) cut) (hS : Since w0 wc) (hp : w0.heap.size ≤ p) (k : Hid (Below wc.heap.size wc w')) (h1 : 1 ≤ c) :
    One w0 (((w'.alloc O).alloc (.cells (#[.int .i64 1, .int .i64 a, .int .i64 b, .string s] ++ Z) 36)).setCell ⟨p, 2, none⟩ (.slice (some ⟨w'.heap.size + 1, 0, none⟩) 1 c)).drew p N a b cut s := by
  have hlt := hc.lt
  have hsz := k.out.size
  have hb : Below wc.heap.size wc ((w'.alloc O).alloc (.cells (#[.int .i64 1, .int .i64 a, .int .i64 b, .string s] ++ Z) 36)) := (k.out.alloc hsz _).alloc (by simp; omega) _
  have hn := (hc.below hb hlt).fly (.slice (some ⟨w'.heap.size + 1, 0, none⟩) 1 c)
  have hne : ¬ w'.heap.size + 1 = p := by omega
  refine ⟨Lib.hid (((hS.out.trans (hb.mono hS.out.size)).setCell hp _).drew), w'.heap.size + 1, c, ⟨hn.c0, hn.c1, hn.c2, hn.c3, hn.f1, hn.f2, hn.f3⟩, by have := hS.out.size; omega, hne, h1, ?_, ?_, ?_, ?_, ?_, fun i => ?_⟩
  · simp [World.setCell, World.drew]
  all_goals
    first
      | (refine (World.cell?_setCell_other _ _ _ _ (by intro e; injection e with e1; omega)).trans ?_; simp; rw [Array.getElem?_append_left (by simp)]; rfl)
      | (show World.frozen? (World.setCell _ _ _) _ = false; rw [World.frozen?_setCell]; simp)
set_option maxRecDepth 100000 in
set_option maxHeartbeats 4000000 in
theorem send_first {w0 : World} (p : Nat) (N a b : Int) (cut : Value) (s : ByteArray) (w : World) (hs : s.size ≤ 1048576) (ha : nodeB N a = true) (hb : nodeB N b = true) (hn : NetAt w p N 0 (.slice none 0 0) cut) (h0 : Since w0 w) (hp : w0.heap.size ≤ p) :
    Calls Try.prog 7 #[.pointer (some ⟨p, 0, none⟩), .int .i64 a, .int .i64 b, .string s] w fun e w' => e = .returned (.tuple #[.int .i64 1, .int .i64 0]) ∧ One w0 w' p N a b cut s := by
  have HN := Lib.hid hn
  have hpw := hn.lt
  obtain ⟨c0, c1, c2, c3, f1, f2, f3⟩ := hn
  obtain ⟨i0, hi, hz0, hz1, hz2⟩ := info_parts infoLetter
  have HT : Hid ((nodeB N a && nodeB N b) = true) := Lib.hid (by rw [ha, hb]; rfl)
  have hss : s.size ≤ 281474976710656 := by omega
  have hne : ¬ w.heap.size = p := by omega
  have hc0 : (w.alloc (.cells #[.int .i64 a, .int .i64 b] 3)).cell? ⟨p, 0, none⟩ = some (.int .i64 N) := (((Below.refl _ w).alloc (Nat.le_refl _) _).cell (p := ⟨p, 0, none⟩) hpw).trans c0
  have hb1 : Below w.heap.size w (w.alloc (.cells #[.int .i64 a, .int .i64 b] 3)) := (Below.refl _ w).alloc (Nat.le_refl _) _
  have HB1 := Lib.hid hb1
  have hh := has_two p w.heap.size N a b _ hc0 (by simp) (by simp)
  rw [HT.out] at hh
  clear ha hb hb1 hc0
  go_enter Try.func7, Try.ntmps7
  go_upto_region 7 with (first | (go_at_call 21; refine hh.mono ?_; rintro e w' ⟨rfl, rfl⟩) | go_in)
  go_cut [8] (fun _ wx => Hid (NetAt wx p N 1 (.slice none 0 0) cut) ∧ Since w0 wx)
  case first =>
    go_wp2
    go_meet
    exact ⟨Lib.hid ((HN.out.sent 1).below ((Below.refl _ _).alloc (Nat.le_refl _) _) (by simpa [World.setCell] using hpw)), Lib.hid ((h0.out.setCell hp _).alloc (by have := h0.out.size; simpa [World.setCell] using this) _)⟩
  case rest =>
    rename_i wc
    obtain ⟨HC, HS⟩ := hcut
    have hC : SX wc p wc := ⟨Lib.hid (Below.refl _ _), HC.out.c1, HC.out.c2, HC.out.f2⟩
    have d1 := hC.2.1
    have d2 := hC.2.2.1
    have d3 := hC.2.2.2
    have hk := hC.1
    have hcp := letter_cap
    have hk2 : Hid (Below wc.heap.size wc wc.drew) := Lib.hid hk.out.drew
    clear c0 c1 c2 c3 f1 f2 f3 hh HB1 hne HN hpw
    go_upto_region 8 with (fail)
    go_cut [48] (fun _ wx => Hid (One w0 wx p N a b cut s))
    case first =>
      go_wp2_with (fail)
      go_region_with (first | (go_at_call 23; refine (copied_T HC.out a b s hss (by first | assumption | exact sx_drew (by assumption))).mono ?_; rintro e w' ⟨rfl, ⟨hS0, hS1, hS2, hS3⟩, hS4, hS5, hS6, hS7, hS8⟩))
      all_goals
        first | go_meet | (go_wp2; go_meet)
        exact Lib.hid (one_mk HC.out HS hp (by assumption) (grownCap_ge _ 1 0 _))
    case rest =>
      have hO := hcut.out
      obtain ⟨_, g, c, hn1, _⟩ := hO
      have e1 := hn1.c1
      clear hn1 d1 d2 d3 hk hk2 hC
      go_wp2
      go_ret2
      exact ⟨rfl, hcut.out⟩
end Go.Proofs.Ytcahiogjmclnjaa
