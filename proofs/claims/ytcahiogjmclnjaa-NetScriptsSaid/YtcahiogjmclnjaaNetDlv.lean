/- Package net: a letter arrives at a net that holds one; what the laws ask of every net. -/
import Derived.Test.YtcahiogjmclnjaaNetDel
namespace Go.Proofs.Ytcahiogjmclnjaa
open Go.RowKit

set_option maxHeartbeats 1000000 in
theorem carries_one (p g c : Nat) (w : World) (c2 : w.cell? ⟨p, 2, none⟩ = some (.slice (some ⟨g, 0, none⟩) 1 c)) :
    Calls Try.prog 25 #[.pointer (some ⟨p, 0, none⟩), .int .i64 0] w fun e w' => e = .returned (.bool true) ∧ w = w' := by
  go_enter Try.func25, Try.ntmps25
  go_wp2
  go_ret
  exact ⟨rfl, rfl⟩
/-- a net with one letter, in block g -/
structure OneAt (w : World) (p g c : Nat) (N a b : Int) (cut : Value) (s : ByteArray) : Prop where
  net : NetAt w p N 1 (.slice (some ⟨g, 0, none⟩) 1 c) cut
  gp : ¬ g = p
  cap : 1 ≤ c
  gs : g < w.heap.size
  k0 : w.cell? ⟨g, 0, none⟩ = some (.int .i64 1)
  k1 : w.cell? ⟨g, 1, none⟩ = some (.int .i64 a)
  k2 : w.cell? ⟨g, 2, none⟩ = some (.int .i64 b)
  k3 : w.cell? ⟨g, 3, none⟩ = some (.string s)
  kf : ∀ i, w.frozen? ⟨g, i, none⟩ = false
theorem One.get {w0 w : World} {p : Nat} {N a b : Int} {cut : Value} {s : ByteArray} (h : One w0 w p N a b cut s) : ∃ g c, w0.heap.size ≤ g ∧ OneAt w p g c N a b cut s := by
  obtain ⟨_, g, c, hn, hg0, hgp, hc1, hgs, k0, k1, k2, k3, kf⟩ := h
  exact ⟨g, c, hg0, hn, hgp, hc1, hgs, k0, k1, k2, k3, kf⟩
theorem OneAt.below {w w' : World} {p g c : Nat} {N a b : Int} {cut : Value} {s : ByteArray} (h : OneAt w p g c N a b cut s) (hb : Below w.heap.size w w') : OneAt w' p g c N a b cut s :=
  ⟨h.net.below hb h.net.lt, h.gp, h.cap, by have := h.gs; have := hb.size; omega, (hb.cell (p := ⟨g, 0, none⟩) h.gs).trans h.k0, (hb.cell (p := ⟨g, 1, none⟩) h.gs).trans h.k1, (hb.cell (p := ⟨g, 2, none⟩) h.gs).trans h.k2, (hb.cell (p := ⟨g, 3, none⟩) h.gs).trans h.k3,
    fun i => (hb.frozen (p := ⟨g, i, none⟩) h.gs).trans (h.kf i)⟩
/-- the two boxes of a delivery: the answer's, still empty, and the letter's -/
structure Boxes (w : World) (r l : Nat) (id a b : Int) (s : ByteArray) : Prop where
  rl : ¬ r = l
  rs : r < w.heap.size
  ls : l < w.heap.size
  r0 : w.cell? ⟨r, 0, none⟩ = some (.int .i64 0)
  r1 : w.cell? ⟨r, 1, none⟩ = some (.int .i64 0)
  r2 : w.cell? ⟨r, 2, none⟩ = some (.int .i64 0)
  r3 : w.cell? ⟨r, 3, none⟩ = some (.string ⟨#[]⟩)
  l0 : w.cell? ⟨l, 0, none⟩ = some (.int .i64 id)
  l1 : w.cell? ⟨l, 1, none⟩ = some (.int .i64 a)
  l2 : w.cell? ⟨l, 2, none⟩ = some (.int .i64 b)
  l3 : w.cell? ⟨l, 3, none⟩ = some (.string s)
  rf : ∀ i, w.frozen? ⟨r, i, none⟩ = false
theorem cell_same {w w' : World} {k : Nat} (h : w'.heap[k]? = w.heap[k]?) (i : Nat) : w'.cell? ⟨k, i, none⟩ = w.cell? ⟨k, i, none⟩ := by simp [World.cell?, h]
theorem frozen_same {w w' : World} {k : Nat} (h : w'.heap[k]? = w.heap[k]?) (i : Nat) : w'.frozen? ⟨k, i, none⟩ = w.frozen? ⟨k, i, none⟩ := by simp [World.frozen?, h]
theorem Boxes.same {w w' : World} {r l : Nat} {id a b : Int} {s : ByteArray} (h : Boxes w r l id a b s) (hz : w.heap.size ≤ w'.heap.size) (hr : w'.heap[r]? = w.heap[r]?) (hl : w'.heap[l]? = w.heap[l]?) : Boxes w' r l id a b s :=
  ⟨h.rl, Nat.lt_of_lt_of_le h.rs hz, Nat.lt_of_lt_of_le h.ls hz, (cell_same hr 0).trans h.r0, (cell_same hr 1).trans h.r1, (cell_same hr 2).trans h.r2, (cell_same hr 3).trans h.r3, (cell_same hl 0).trans h.l0, (cell_same hl 1).trans h.l1, (cell_same hl 2).trans h.l2, (cell_same hl 3).trans h.l3,
    fun i => (frozen_same hr i).trans (h.rf i)⟩
theorem Boxes.below {w w' : World} {r l : Nat} {id a b : Int} {s : ByteArray} (h : Boxes w r l id a b s) (hb : Below w.heap.size w w') : Boxes w' r l id a b s := h.same hb.size (hb.block r h.rs) (hb.block l h.ls)
theorem boxes_mk (w : World) (id a b : Int) (s : ByteArray) : Boxes ((w.alloc (.cells #[.int .i64 0, .int .i64 0, .int .i64 0, .string ⟨#[]⟩] 36)).alloc (.cells #[.int .i64 id, .int .i64 a, .int .i64 b, .string s] 36)) w.heap.size (w.heap.size + 1) id a b s := by
  refine ⟨by omega, by simp; omega, by simp, ?_, ?_, ?_, ?_, ?_, ?_, ?_, ?_, fun i => ?_⟩ <;> simp
set_option maxRecDepth 100000 in
set_option maxHeartbeats 4000000 in
theorem deliver_one {w0 : World} (p : Nat) (N a b : Int) (s : ByteArray) (w : World) (hs : s.size ≤ 1048576) (hp : w0.heap.size ≤ p) (h : One w0 w p N a b (.map none) s) :
    Calls Try.prog 9 #[.pointer (some ⟨p, 0, none⟩), .int .i64 0] w fun e w' => e = .returned (.tuple #[.agg #[.int .i64 1, .int .i64 a, .int .i64 b, .string s], .int .i64 0]) ∧ Since w0 w' := by
  have HS := Lib.hid h.1
  obtain ⟨g, c, hg0, ho⟩ := h.get
  obtain ⟨W1, hW1⟩ : ∃ W1, W1 = w.alloc (.cells #[.int .i64 0, .int .i64 0, .int .i64 0, .string ⟨#[]⟩] 36) := ⟨_, rfl⟩
  have hb1 : Below w.heap.size w W1 := by rw [hW1]; exact (Below.refl _ w).alloc (Nat.le_refl _) _
  have ho1 := ho.below hb1
  have hcar := carries_one p g c W1 ho1.net.c2
  have HW := Lib.hid hW1
  have HO := Lib.hid ho
  rw [hW1] at hcar
  have hb1' : Below w.heap.size w (w.alloc (.cells #[.int .i64 0, .int .i64 0, .int .i64 0, .string ⟨#[]⟩] 36)) := (Below.refl _ w).alloc (Nat.le_refl _) _
  clear ho ho1 hb1 hW1 h
  go_enter Try.func9, Try.ntmps9
  go_wp2_with (fail)
  refine hcar.mono ?_
  rintro e w' ⟨rfl, rfl⟩
  go_upto_region 3 with (fail)
  go_cut [6] (fun s6 wx => (∃ l, s6 = .pointer (some ⟨l, 0, none⟩) ∧ Hid (Boxes wx w.heap.size l 1 a b s ∧ w.heap.size ≤ l)) ∧ Hid (OneAt wx p g c N a b (.map none) s) ∧ Since w0 wx)
  case first =>
    have ho2 := HO.out.below hb1'
    have q2 := ho2.net.c2
    have q3 := ho2.k0
    have q4 := ho2.k1
    have q5 := ho2.k2
    have q6 := ho2.k3
    have hne1 : ¬ w.heap.size = p := by have := HO.out.net.lt; omega
    have hne2 : ¬ w.heap.size = g := by have := HO.out.gs; omega
    have e2 := HO.out.net.c2
    have e3 := HO.out.k0
    have e4 := HO.out.k1
    have e5 := HO.out.k2
    have e6 := HO.out.k3
    clear hb1' ho2 hcar
    go_wp2
    go_meet
    have hb2 : Below w.heap.size w ((w.alloc (.cells #[.int .i64 0, .int .i64 0, .int .i64 0, .string ⟨#[]⟩] 36)).alloc (.cells #[.int .i64 1, .int .i64 a, .int .i64 b, .string s] 36)) := ((Below.refl _ w).alloc (Nat.le_refl _) _).alloc (by simp) _
    exact ⟨⟨_, rfl, Lib.hid ⟨boxes_mk w 1 a b s, by omega⟩⟩, Lib.hid (HO.out.below hb2), since_of HS.out hb2⟩
  case rest =>
    obtain ⟨⟨l, rfl, HB⟩, HO2, HS2⟩ := hcut
    have hgp' : ¬ w.heap.size = g := by have := HO.out.gs; omega
    have hpp' : ¬ w.heap.size = p := by have := HO.out.net.lt; omega
    have hgl : ¬ l = g := by have := HO.out.gs; have := HB.out.2; omega
    have hpl : ¬ l = p := by have := HO.out.net.lt; have := HB.out.2; omega
    have HNE := Lib.hid (And.intro (And.intro hgp' hpp') (And.intro hgl hpl))
    have m1 := HB.out.1.l1
    have m2 := HB.out.1.l2
    have hpt := parted_none p N 1 a b _ _ HO2.out.net
    have hrw : w0.heap.size ≤ w.heap.size := HS.out.out.size
    have HRW := Lib.hid hrw
    clear hgp' hpp' hgl hpl hcar hb1' hrw
    go_wp2_with (fail)
    refine hpt.mono ?_
    rintro e w3 ⟨rfl, hb3⟩
    have HB3 := Lib.hid (HB.out.1.below hb3)
    have ho3 := HO2.out.below hb3
    have HS3 := since_of HS2 hb3
    have hrm := remove_one p g c N a b (.map none) s w3 ho3.gp ho3.cap ho3.net ho3.k0 ho3.k1 ho3.k2 ho3.k3 ho3.kf
    clear m1 m2 hpt hb3 ho3
    go_wp2_with (fail)
    refine hrm.mono ?_
    rintro e w4 ⟨rfl, hgn⟩
    have HB4 : Hid (Boxes w4 w.heap.size l 1 a b s) := Lib.hid (HB3.out.same (Nat.le_of_eq hgn.2.1.symm) (hgn.2.2.1 _ HNE.out.1.1 HNE.out.1.2) (hgn.2.2.1 _ HNE.out.2.1 HNE.out.2.2))
    have HS4 : Since w0 w4 := Lib.hid (hgn.2.2.2 w0 hg0 hp HS3.out)
    have m0 := HB4.out.l0
    have m1 := HB4.out.l1
    have m2 := HB4.out.l2
    have m3 := HB4.out.l3
    have hcp := copied_any 1 a b s w4 (by omega)
    clear hrm hgn
    go_wp2_with (fail)
    refine hcp.mono ?_
    rintro e w5 ⟨rfl, hb5⟩
    have HB5 := Lib.hid (HB4.out.below hb5)
    have HS5 := since_of HS4 hb5
    have n0 := HB5.out.r0
    have n1 := HB5.out.r1
    have n2 := HB5.out.r2
    have n3 := HB5.out.r3
    have g0 := HB5.out.rf 0
    have g1 := HB5.out.rf 1
    have g2 := HB5.out.rf 2
    have g3 := HB5.out.rf 3
    clear m0 m1 m2 m3 hcp hb5
    go_wp2
    refine bodyPost_ret (v := .tuple #[.agg #[.int .i64 1, .int .i64 a, .int .i64 b, .string s], .int .i64 0]) ?_ rfl ⟨rfl, ?_⟩
    · simp [results, Try.results9, go_sem, n0, n1, n2, n3]
    · exact Lib.hid ((((HS5.out.setCell HRW.out _).setCell HRW.out _).setCell HRW.out _).setCell HRW.out _)
/-- the one letter of the laws' own check -/
def sLetter : ByteArray := ⟨#[97]⟩
set_option maxRecDepth 100000 in
set_option maxHeartbeats 4000000 in
theorem speaks_any (w : World) : Calls Try.prog 4 #[] w fun e w' => e = .returned (.bool true) ∧ Below w.heap.size w w' := by
  have c1 := new_any 2 2 (by decide) w
  have hn : NetAt (w.alloc (.cells #[.int .i64 2, .int .i64 0, .slice none 0 0, .map none] 59)) w.heap.size 2 0 (.slice none 0 0) (.map none) := by
    refine ⟨?_, ?_, ?_, ?_, ?_, ?_, ?_⟩ <;> simp
  have h0 : Since w (w.alloc (.cells #[.int .i64 2, .int .i64 0, .slice none 0 0, .map none] 59)) := Lib.hid ((Below.refl _ w).alloc (Nat.le_refl _) _)
  have c2 := send_first w.heap.size 2 0 1 (.map none) ⟨#[97]⟩ _ (by decide) (by decide) (by decide) hn h0 (Nat.le_refl _)
  have c3 := fun (w2 : World) (h : One w w2 w.heap.size 2 0 1 (.map none) ⟨#[97]⟩) => deliver_one w.heap.size 2 0 1 ⟨#[97]⟩ w2 (by decide) (Nat.le_refl _) h
  clear hn h0
  go_enter Try.func4, Try.ntmps4
  go_wp2_with (fail)
  refine c1.mono ?_
  rintro e w1 ⟨rfl, rfl⟩
  go_wp2_with (fail)
  refine c2.mono ?_
  rintro e w2 ⟨rfl, h2⟩
  have H2 := Lib.hid h2
  clear h2 c1 c2
  go_wp2_with (fail)
  refine (c3 w2 H2.out).mono ?_
  rintro e w3 ⟨rfl, h3⟩
  clear c3
  go_wp2
  go_ret
  exact ⟨rfl, h3.out.alloc h3.out.size _⟩
end Go.Proofs.Ytcahiogjmclnjaa
