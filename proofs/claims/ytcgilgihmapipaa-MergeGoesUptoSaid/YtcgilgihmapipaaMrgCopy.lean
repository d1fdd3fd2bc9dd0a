/- Merging: copies of pairs. -/
import Derived.Test.YtcgilgihmapipaaMrgIter
import Derived.Deep.RegionHeld3
namespace Go.Proofs.Ytcgilgihmapipaa
open Go.RowKit

theorem clone_any (s : ByteArray) (w : World) (hlim : s.size ≤ 281474976710656) :
    Calls Try.prog 23 #[.string s] w fun e w' => e = .returned (.string s) ∧ Below w.heap.size w w' := by
  go_enter Try.func23, Try.ntmps23
  go_wp2_with (fail)
  refine (Try.stringslite_Clone s _ hlim).mono ?_
  rintro e w1 ⟨rfl, hb⟩
  have HB := Lib.hid hb
  clear hb
  go_wp2
  go_ret
  exact ⟨rfl, HB.out⟩
abbrev CpS (W1 : World) (nb : Nat) (k v : ByteArray) (w : World) : Prop :=
  Hid (Below W1.heap.size W1 w) ∧ w.cell? ⟨nb, 0, none⟩ = some (.string k) ∧ w.cell? ⟨nb, 1, none⟩ = some (.string v) ∧ w.cell? ⟨nb + 1, 0, none⟩ = some (.string ⟨#[]⟩) ∧ w.cell? ⟨nb + 1, 1, none⟩ = some (.string ⟨#[]⟩) ∧ w.frozen? ⟨nb + 1, 0, none⟩ = false ∧ w.frozen? ⟨nb + 1, 1, none⟩ = false
theorem cpS_on {W1 a b : World} {nb : Nat} {k v : ByteArray} (h : CpS W1 nb k v a) (hl : nb + 1 < W1.heap.size) (hb : Below a.heap.size a b) : CpS W1 nb k v b := by
  have hs := h.1.out.size
  have e := hb.block (nb + 1) (by omega)
  exact ⟨Lib.hid (h.1.out.trans (hb.mono h.1.out.size)), cell_bel h.2.1 hb, cell_bel h.2.2.1 hb, cell_bel h.2.2.2.1 hb, cell_bel h.2.2.2.2.1 hb, (frozen_eq e 0).trans h.2.2.2.2.2.1, (frozen_eq e 1).trans h.2.2.2.2.2.2⟩
theorem cpS_drew {W1 a : World} {nb : Nat} {k v : ByteArray} (h : CpS W1 nb k v a) (hl : nb + 1 < W1.heap.size) : CpS W1 nb k v a.drew := cpS_on h hl ⟨rfl, rfl, rfl, Nat.le_refl _, fun _ _ => rfl⟩
theorem copyRes (tmps : Array Value) (W : World) (b o : Nat) (k v : ByteArray) (h6 : tmps.getD 2 undef = .pointer (some ⟨b, o, none⟩)) (h0 : W.cell? ⟨b, o, none⟩ = some (.string k)) (h1 : W.cell? ⟨b, o + 1, none⟩ = some (.string v)) : (results Try.f19 tmps).run Try.prog W = .ok (.agg #[.string k, .string v]) W := by
  have hres : Try.f19.results = #[.cell 2 34] := by kernel_rfl
  have h6' : tmps[2]?.getD undef = .pointer (some ⟨b, o, none⟩) := by simpa using h6
  simp only [results, hres]
  go_simp
set_option maxRecDepth 100000 in
set_option maxHeartbeats 4000000 in
theorem copyOf_any (k v : ByteArray) (w : World) (hk : k.size ≤ 140737488351232) (hv : v.size ≤ 140737488351232) :
    Calls Try.prog 19 #[.agg #[.string k, .string v]] w fun e w' => e = .returned (.agg #[.string k, .string v]) ∧ Below w.heap.size w w' := by
  have mixed : Try.prog.follows Departure.mixedOrders = true := by kernel_rfl
  obtain ⟨W1, hW1⟩ : ∃ W1, W1 = (w.alloc (.cells #[.string k, .string v] 34)).alloc (.cells #[.string ⟨#[]⟩, .string ⟨#[]⟩] 34) := ⟨_, rfl⟩
  have hb1 : Below w.heap.size w W1 := by rw [hW1]; exact ((Below.refl _ _).alloc (Nat.le_refl _) _).alloc (by simp) _
  have hS : CpS W1 w.heap.size k v W1 := ⟨Lib.hid (Below.refl _ _), by rw [hW1]; simp, by rw [hW1]; simp, by rw [hW1]; simp, by rw [hW1]; simp, by rw [hW1]; simp, by rw [hW1]; simp⟩
  have hl : w.heap.size + 1 < W1.heap.size := by rw [hW1]; simp
  have HW1 := Lib.hid hW1
  have HB1 := Lib.hid hb1
  obtain ⟨nb, hnb⟩ : ∃ nb, nb = w.heap.size := ⟨_, rfl⟩
  rw [← hnb] at hS hl
  have HL := Lib.hid hl
  have HNB := Lib.hid hnb
  have ck := fun w => clone_any k w (by omega)
  have cv := fun w => clone_any v w (by omega)
  have CK := Lib.hid ck
  have CV := Lib.hid cv
  clear hW1 hb1 hnb ck cv hk hv hl
  go_enter Try.func19, Try.ntmps19
  go_wp2_with (fail)
  rw [← HW1.out, ← HNB.out]
  have hS0 := cpS_drew hS HL.out
  obtain ⟨a1, a2, a3, a4, a5, a6, a7⟩ := hS
  go_region_with (first
      | (go_at_call 23; have hfst := hS2; (with_reducible refine (CV.out _).mono ?_); rintro e w3 ⟨rfl, hb⟩; have hS3 := cpS_on hS2 HL.out hb; obtain ⟨d1, d2, d3, d4, d5, d6, d7⟩ := hS3)
      | (go_at_call 23; (with_reducible refine (CK.out _).mono ?_); rintro e w2 ⟨rfl, hb⟩; have hS2 := cpS_on hS0 HL.out hb; obtain ⟨b1, b2, b3, b4, b5, b6, b7⟩ := hS2; have hS2 := cpS_on hS0 HL.out hb))
  all_goals
    have hb3 : Below w.heap.size w w3 := HB1.out.trans ((d1.out).mono HB1.out.size)
    obtain ⟨W4, hW4⟩ : ∃ W4, W4 = (w3.setCell ⟨nb + 1, 0, none⟩ (.string k)).setCell ⟨nb + 1, 1, none⟩ (.string v) := ⟨_, rfl⟩
    have hb4 : Below w.heap.size w W4 := by rw [hW4]; exact (hb3.setCell (p := ⟨nb + 1, 0, none⟩) (show w.heap.size ≤ nb + 1 by have := HNB.out; omega) _).setCell (p := ⟨nb + 1, 1, none⟩) (show w.heap.size ≤ nb + 1 by have := HNB.out; omega) _
    have q1 : W4.cell? ⟨nb + 1, 1, none⟩ = some (.string v) := by
      rw [hW4]
      exact World.cell?_setCell_same' _ _ _ (by rw [World.cell?_setCell_other _ _ _ _ (by intro e; injection e with _ e; omega), d5]; rfl)
    have q0 : W4.cell? ⟨nb + 1, 0, none⟩ = some (.string k) := by
      rw [hW4]
      exact (World.cell?_setCell_other _ _ _ _ (by intro e; injection e with _ e; omega)).trans (World.cell?_setCell_same' _ _ _ (by rw [d4]; rfl))
    rw [← hW4]
    have HB4 := Lib.hid hb4
    clear hb3 hb4 hW4 d1 d2 d3 d4 d5 d6 d7
    go_wp2
    exact bodyPost_ret (copyRes _ _ (nb + 1) 0 k v rfl q0 q1) rfl ⟨rfl, HB4.out⟩
end Go.Proofs.Ytcgilgihmapipaa
