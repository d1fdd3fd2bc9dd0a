/- The contracts of package record: the shapes of messages. -/
import Derived.Test.YtndcmjgjecdgcaaDoorRecLaid
import Derived.Test.YtndcmjgjecdgcaaDoorWireSpeaks
import Derived.Test.YtndcmjgjecdgcaaDoorSlices
namespace Go.Proofs.YtndcmjgjecdgcaaDoor
open Go.RowKit

/-- may there be n, where there are at least 'least', and any number of groups of 'group' more? -/
def fitsB (n least group : Int) : Bool := if group = 0 then decide (n = least) else decide (least ≤ n) && decide ((n - least) % group = 0)
theorem fits_flat (n l : Int) : fitsB n l 0 = (n - l == 0) := by
  unfold fitsB
  rw [if_pos rfl]
  by_cases h : n = l
  · subst h; simp
  · rw [decide_eq_false h]; symm; simp; omega
theorem fits_less (n l g : Int) (hg : ¬ g = 0) (h : n < l) : fitsB n l g = false := by
  unfold fitsB
  rw [if_neg hg, decide_eq_false (by omega)]; rfl
theorem fits_more (n l g : Int) (hg : ¬ g = 0) (h : l ≤ n) : fitsB n l g = ((n - l) % g == 0) := by
  unfold fitsB
  rw [if_neg hg, decide_eq_true h, Bool.true_and]; rfl
set_option maxRecDepth 100000 in
theorem allows_any (l g n : Int) (w : World) (hl : 0 ≤ l ∧ l ≤ 9) (hg : 0 ≤ g ∧ g ≤ 5) (hn : 0 ≤ n ∧ n ≤ 9223372036854775807) :
    Calls Tryd.prog 22 #[.agg #[.int .i64 l, .int .i64 g], .int .i64 n] w fun e w' => e = .returned (.bool (fitsB n l g)) ∧ Below w.heap.size w w' := by
  have h0 : wrap64 (n - l) = n - l := by unfold wrap64; omega
  have hb : Below w.heap.size w (w.alloc (Obj.cells #[Value.int IntKind.i64 l, Value.int IntKind.i64 g] 65)) := (Below.refl _ _).alloc (Nat.le_refl _) _
  by_cases hgz : g = 0
  · subst hgz
    rw [fits_flat]
    go_enter Tryd.func22, Tryd.ntmps22
    go_wp2
    go_ret
    exact ⟨rfl, hb⟩
  · have h1 : (g == 0) = false := by simpa using hgz
    by_cases hnl : n < l
    · rw [fits_less n l g hgz hnl]
      have h2 : ¬ l ≤ n := by omega
      go_enter Tryd.func22, Tryd.ntmps22
      go_wp2
      go_ret
      exact ⟨rfl, hb⟩
    · have h2 : l ≤ n := by omega
      rw [fits_more n l g hgz h2]
      go_enter Tryd.func22, Tryd.ntmps22
      go_wp2
      go_ret
      exact ⟨rfl, hb⟩
theorem shp_bd : ∀ k : Fin 18, (0 ≤ (shpAt k.val).1 ∧ (shpAt k.val).1 ≤ 9) ∧ (0 ≤ (shpAt k.val).2.1 ∧ (shpAt k.val).2.1 ≤ 5) ∧ (0 ≤ (shpAt k.val).2.2.1 ∧ (shpAt k.val).2.2.1 ≤ 9) ∧ (0 ≤ (shpAt k.val).2.2.2 ∧ (shpAt k.val).2.2.2 ≤ 5) := by decide
/-- has a message the numbers and texts of its kind? -/
def validB (k : Int) (n t : Nat) : Bool := decide (1 ≤ k ∧ k ≤ 17) && (fitsB n (shpAt k.toNat).1 (shpAt k.toNat).2.1 && fitsB t (shpAt k.toNat).2.2.1 (shpAt k.toNat).2.2.2)
set_option maxRecDepth 100000 in
theorem valid_any (k c i : Int) (A B : Option Addr) (n t cn ct : Nat) (w : World) (hS : Shp w) (hn : n ≤ 140737488351232) (ht : t ≤ 140737488351232) :
    Calls Tryd.prog 10 #[.agg #[.int .i64 k, .int .i64 c, .int .i64 i, .slice A n cn, .slice B t ct]] w fun e w' => e = .returned (.bool (validB k n t)) ∧ Below w.heap.size w w' := by
  have HS := Lib.hid hS
  clear hS
  have hb1 : ∀ o, Below w.heap.size w (w.alloc o) := fun o => (Below.refl _ _).alloc (Nat.le_refl _) o
  by_cases hk1 : 1 ≤ k ∧ k ≤ 17
  · obtain ⟨q, rfl⟩ : ∃ q : Nat, k = (q : Int) := ⟨k.toNat, by omega⟩
    have hv : validB (q : Int) n t = (fitsB n (shpAt q).1 (shpAt q).2.1 && fitsB t (shpAt q).2.2.1 (shpAt q).2.2.2) := by unfold validB; rw [decide_eq_true hk1]; rfl
    rw [hv]
    clear hv
    obtain ⟨b0, b1, b2, b3⟩ := shp_bd ⟨q, by omega⟩
    have B0 := Lib.hid b0
    have B1 := Lib.hid b1
    have B2 := Lib.hid b2
    have B3 := Lib.hid b3
    clear b0 b1 b2 b3
    have hc : ∀ o, Shp (w.alloc o) := fun o => HS.out.below ((Below.refl _ _).alloc (Nat.le_refl _) o) (Nat.le_refl _)
    have c0 : ∀ o, (w.alloc o).cell? ⟨0, q * 4, none⟩ = some (.int .i64 (shpAt q).1) := fun o => (hc o q (by omega)).1
    have c1 : ∀ o, (w.alloc o).cell? ⟨0, q * 4 + 1, none⟩ = some (.int .i64 (shpAt q).2.1) := fun o => (hc o q (by omega)).2.1
    have c2 : ∀ o, (w.alloc o).cell? ⟨0, q * 4 + 2, none⟩ = some (.int .i64 (shpAt q).2.2.1) := fun o => (hc o q (by omega)).2.2.1
    have c3 : ∀ o, (w.alloc o).cell? ⟨0, q * 4 + 3, none⟩ = some (.int .i64 (shpAt q).2.2.2) := fun o => (hc o q (by omega)).2.2.2
    clear hc
    obtain ⟨a, ha⟩ : ∃ a, a = (shpAt q).1 := ⟨_, rfl⟩
    obtain ⟨b, hb⟩ : ∃ b, b = (shpAt q).2.1 := ⟨_, rfl⟩
    obtain ⟨d, hd⟩ : ∃ d, d = (shpAt q).2.2.1 := ⟨_, rfl⟩
    obtain ⟨f, hf⟩ : ∃ f, f = (shpAt q).2.2.2 := ⟨_, rfl⟩
    simp only [← ha, ← hb, ← hd, ← hf] at c0 c1 c2 c3 B0 B1 B2 B3 ⊢
    clear ha hb hd hf
    go_enter Tryd.func10, Tryd.ntmps10
    go_wp2_with (fail)
    refine (allows_any a b n _ B0.out B1.out (by omega)).mono ?_
    rintro e w1 ⟨rfl, hb⟩
    obtain ⟨w0, hw0⟩ : ∃ w0, w0 = (w.alloc (Obj.cells #[Value.int IntKind.i64 q, Value.int IntKind.i64 c, Value.int IntKind.i64 i, Value.slice A n cn, Value.slice B t ct] 27)).alloc (Obj.cells #[Value.int IntKind.i64 a, Value.int IntKind.i64 b, Value.int IntKind.i64 d, Value.int IntKind.i64 f] 67) := ⟨_, rfl⟩
    have hB0 : Below w.heap.size w w0 := by rw [hw0]; exact (hb1 _).alloc (by simp) _
    have hsz : w0.heap.size = w.heap.size + 2 := by rw [hw0]; simp
    have e0 : w1.cell? ⟨w.heap.size + 1, 2, none⟩ = some (.int .i64 d) := by
      rw [← hw0] at hb
      exact (hb.cell (p := ⟨_, _, none⟩) (by simp; omega)).trans (by rw [hw0]; simp)
    have e1 : w1.cell? ⟨w.heap.size + 1, 3, none⟩ = some (.int .i64 f) := by
      rw [← hw0] at hb
      exact (hb.cell (p := ⟨_, _, none⟩) (by simp; omega)).trans (by rw [hw0]; simp)
    have e2 : w1.cell? ⟨w.heap.size, 4, none⟩ = some (.slice B t ct) := by
      rw [← hw0] at hb
      exact (hb.cell (p := ⟨_, _, none⟩) (by simp; omega)).trans (by rw [hw0]; simp)
    rw [← hw0] at hb
    have BB := Lib.hid (hB0.trans (hb.mono (by omega)))
    clear hb hw0 hB0 hsz c0 c1 c2 c3 hb1
    cases hfit : fitsB n a b
    · go_wp2
      go_ret
      exact ⟨by rw [hfit]; rfl, BB.out⟩
    · go_wp2_with (fail)
      refine (allows_any d f t _ B2.out B3.out (by omega)).mono ?_
      rintro e w2 ⟨rfl, hb⟩
      have BB2 := Lib.hid (BB.out.trans (hb.mono BB.out.size))
      clear hb
      go_wp2
      go_ret
      exact ⟨by rw [hfit]; rfl, BB2.out⟩
  · have hv : validB k n t = false := by unfold validB; rw [decide_eq_false hk1]; rfl
    rw [hv]
    clear hv
    by_cases h1 : k < 1
    · go_enter Tryd.func10, Tryd.ntmps10
      go_wp2
      go_ret
      exact ⟨rfl, hb1 _⟩
    · have h2 : 17 < k := by omega
      go_enter Tryd.func10, Tryd.ntmps10
      go_wp2
      go_ret
      exact ⟨rfl, hb1 _⟩
end Go.Proofs.YtndcmjgjecdgcaaDoor
