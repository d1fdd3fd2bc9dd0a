/- Merging: speaks: two runs become one. -/
import Derived.Test.YtcgilgihmapipaaMrgRank
import Derived.Test.YtcgilgihmapipaaMrgMerge
namespace Go.Proofs.Ytcgilgihmapipaa
open Go.RowKit

def Rs (g : Nat) : Rn := ⟨2, fun i => g + i, fun _ => 0, fun _ => 1, fun _ => 1, fun i _ => if i = 0 then ⟨#[98]⟩ else ⟨#[97]⟩, fun i _ => if i = 0 then ⟨#[49]⟩ else ⟨#[50]⟩⟩
theorem rs_mrg (g : Nat) : mrgL (Rs g) (ordR (Rs g)) = [(1, 0), (0, 0)] := by
  have HI := ord_inj (Rs g)
  have v1 : VIt (Rs g) (1, 0) := ⟨by show 1 < 2; omega, by show 0 < 1; omega⟩
  have v0 : VIt (Rs g) (0, 0) := ⟨by show 0 < 2; omega, by show 0 < 1; omega⟩
  have hlt : ordR (Rs g) (1, 0) < ordR (Rs g) (0, 0) := ((ord_ok (Rs g) (1, 0) (0, 0) v1 v0).1 (by show Lib.compareBytes [97] [98] ≠ 0; decide)).2 (by show Lib.compareBytes [97] [98] < 0; decide)
  have s1 : BestI (Rs g) (ordR (Rs g)) (fun _ => 0) 1 := ⟨v1.1, v1.2, fun j hj _ => by
    have : j < 2 := hj
    rcases (by omega : j = 0 ∨ j = 1) with rfl | rfl
    · exact Int.le_of_lt hlt
    · exact Int.le_refl _⟩
  have s2 : BestI (Rs g) (ordR (Rs g)) (bump (fun _ => 0) 1) 0 := ⟨v0.1, by show bump (fun _ => 0) 1 0 < 1; decide, fun j hj hl => by
    have : j < 2 := hj
    rcases (by omega : j = 0 ∨ j = 1) with rfl | rfl
    · exact Int.le_refl _
    · exact absurd hl (by show ¬ bump (fun _ => 0) 1 1 < 1; decide)⟩
  unfold mrgL
  rw [mrg_step HI s1, mrg_step HI s2, mrg_end (fun i hi => by
    have : i < 2 := hi
    rcases (by omega : i = 0 ∨ i = 1) with rfl | rfl
    · show ¬ bump (bump (fun _ => 0) 1) 0 0 < 1; decide
    · show ¬ bump (bump (fun _ => 0) 1) 0 1 < 1; decide)]
  rfl
theorem cell_on {w w' : World} {a : Addr} {v : Value} (h : w.cell? a = some v) (hb : Below w.heap.size w w') : w'.cell? a = some v := by
  refine (hb.cell (p := a) ?_).trans h
  rcases Nat.lt_or_ge a.block w.heap.size with hlt | hge
  · exact hlt
  · have h0 := World.cell?_spot h
    obtain ⟨b, off, spot⟩ := a
    have hspot : spot = none := h0
    subst hspot
    simp [World.cell?, Array.getElem?_eq_none hge] at h
theorem cell_old {w : World} {a : Addr} {v : Value} (h : w.cell? a = some v) (o : Obj) : (w.alloc o).cell? a = some v := cell_on h ((Below.refl _ _).alloc (Nat.le_refl _) _)
theorem cell_new {w : World} {cs : Array Value} {t : TypeId} {i g : Nat} {v : Value} (hg : g = w.heap.size) (h : cs[i]? = some v) : (w.alloc (.cells cs t)).cell? ⟨g, i, none⟩ = some v := by
  subst hg
  simpa using h
set_option maxRecDepth 100000 in
set_option maxHeartbeats 4000000 in
theorem speaks19_any (w : World) : Calls Try.prog 5 #[] w fun e w' => e = .returned (.bool true) ∧ Below w.heap.size w w' := by
  obtain ⟨g, hg⟩ : ∃ g, g = w.heap.size := ⟨_, rfl⟩
  obtain ⟨W1, hW1⟩ : ∃ W1, W1 = ((w.alloc (.cells #[.string ⟨#[98]⟩, .string ⟨#[49]⟩] 34)).alloc (.cells #[.string ⟨#[97]⟩, .string ⟨#[50]⟩] 34)).alloc (.cells #[.slice (some ⟨w.heap.size, 0, none⟩) 1 1, .slice (some ⟨w.heap.size + 1, 0, none⟩) 1 1] 32) := ⟨_, rfl⟩
  have hb : Below w.heap.size w W1 := by rw [hW1]; exact (((Below.refl _ _).alloc (Nat.le_refl _) _).alloc (by simp) _).alloc (by simp; omega) _
  have hs : W1.heap.size = g + 3 := by rw [hW1, hg]; simp
  have c0 : W1.cell? ⟨g, 0, none⟩ = some (.string ⟨#[98]⟩) ∧ W1.cell? ⟨g, 1, none⟩ = some (.string ⟨#[49]⟩) := by rw [hW1, hg]; exact ⟨cell_old (cell_old (cell_new rfl rfl) _) _, cell_old (cell_old (cell_new rfl rfl) _) _⟩
  have c1 : W1.cell? ⟨g + 1, 0, none⟩ = some (.string ⟨#[97]⟩) ∧ W1.cell? ⟨g + 1, 1, none⟩ = some (.string ⟨#[50]⟩) := by rw [hW1, hg]; exact ⟨cell_old (cell_new (by simp) rfl) _, cell_old (cell_new (by simp) rfl) _⟩
  have c2 : W1.cell? ⟨g + 1 + 1, 0, none⟩ = some (.slice (some ⟨g, 0, none⟩) 1 1) ∧ W1.cell? ⟨g + 1 + 1, 1, none⟩ = some (.slice (some ⟨g + 1, 0, none⟩) 1 1) := by rw [hW1, hg]; exact ⟨cell_new (by simp) rfl, cell_new (by simp) rfl⟩
  have hR : RnAt (Rs g) W1.heap.size W1 := fun i hi p hp => by
    have h1 : i < 2 := hi
    have h2 : p < 1 := hp
    obtain rfl : p = 0 := by omega
    rcases (by omega : i = 0 ∨ i = 1) with rfl | rfl
    · exact ⟨by show g + 0 < _; omega, c0.1, c0.2⟩
    · exact ⟨by show g + 1 < _; omega, c1.1, c1.2⟩
  have hH : HdAt (Rs g) W1.heap.size (some ⟨g + 1 + 1, 0, none⟩) W1 := fun i hi => by
    have h1 : i < 2 := hi
    rcases (by omega : i = 0 ∨ i = 1) with rfl | rfl
    · exact ⟨g + 1 + 1, 0, _, rfl, by omega, c2.1, fun _ => rfl, by show 1 ≤ 1; omega⟩
    · exact ⟨g + 1 + 1, 0, _, rfl, by omega, c2.2, fun _ => rfl, by show 1 ≤ 1; omega⟩
  have hm := merge_any (Rs g) (ordR (Rs g)) (Lib.hid (ord_ok _)) (Lib.hid (ord_inj _)) (Lib.hid (fun i _ => by show 1 ≤ _; omega)) (by show 2 ≤ _; omega) (by show ((List.range 2).map fun _ => 1 - 0).sum ≤ _; decide) (fun i p => by
    show (if i = 0 then (⟨#[98]⟩ : ByteArray) else ⟨#[97]⟩).size ≤ _ ∧ (if i = 0 then (⟨#[49]⟩ : ByteArray) else ⟨#[50]⟩).size ≤ _
    split <;> exact ⟨by decide, by decide⟩) (some ⟨g + 1 + 1, 0, none⟩) 2 W1 hR hH
  rw [rs_mrg] at hm
  have HM := Lib.hid hm
  have HB := Lib.hid hb
  clear hm hR hH c0 c1 c2 hs hb
  go_enter Try.func5, Try.ntmps5
  go_wp2_with (fail)
  rw [← hW1, ← hg]
  refine HM.out.mono ?_
  rintro e w' ⟨v, rfl, ho, hb2⟩
  have hbb : Below w.heap.size w w' := HB.out.trans (hb2.mono HB.out.size)
  have ho : w'.ownsRow W1.heap.size 34 2 v 2 [.string ⟨#[97]⟩, .string ⟨#[50]⟩, .string ⟨#[98]⟩, .string ⟨#[49]⟩] := ho
  rcases ho.2 with ⟨_, h0⟩ | ⟨q, cap, cur, rfl, hB, hq, hnc, _⟩
  · omega
  have k0 : w'.cell? ⟨q, 0, none⟩ = some (.string ⟨#[97]⟩) := ho.cellAt 0 (by omega)
  have k1 : w'.cell? ⟨q, 1, none⟩ = some (.string ⟨#[50]⟩) := ho.cellAt 1 (by omega)
  have HBB := Lib.hid hbb
  clear ho hb2 hq hbb HM HB hW1 hB
  go_wp2
  go_ret
  exact ⟨rfl, HBB.out⟩
end Go.Proofs.Ytcgilgihmapipaa
