/- Package tree: what stands at a path. -/
import Derived.Test.YtoaoikfhdeiabaaDoorTreeDes
import Derived.Test.YtoaoikfhdeiabaaDoorPathOps
namespace Go.Proofs.YtoaoikfhdeiabaaDoor
open Go.RowKit Go.Maps
/-- the parts of a path as texts -/
def psOf (xs : List Path.Bs) (i : Nat) : ByteArray := ⟨(xs.getD i []).toArray⟩
theorem parts_of {B : Nat} {w : World} {A : Option Addr} {c : Nat} {xs : List Path.Bs} (h : NewT B w A c xs) : PartsAt w A xs.length (psOf xs) := fun i hi => by
  obtain ⟨b, off, e, hb, hc⟩ := h.txts i hi
  refine ⟨b, off, e, hb, hc.trans ?_⟩
  simp [psOf, hi]
/-- the last part, or none -/
def lastP (xs : List Path.Bs) : ByteArray := if xs.length = 0 then ⟨#[]⟩ else psOf xs (xs.length - 1)
set_option maxRecDepth 100000 in
set_option maxHeartbeats 8000000 in
theorem find_ok (t : Nat) (s : ByteArray) (xs : List Path.Bs) (d : Nat → Nat) (e : Nd) (w : World) (hp : Path.pp (Ls s) = some xs) (hw : Way w xs.length (psOf xs) d e) (h0 : d 0 = t) :
    Calls Tryd.prog 12 #[.pointer (some ⟨t, 0, none⟩), .string s] w fun ex w' => ∃ g, ex = .returned (.tuple #[.agg #[.slice (some ⟨g, 0, none⟩) xs.length (xs.length + 1), .string (lastP xs), nvo (some e)], .int .i64 0]) ∧ Below w.heap.size w w' ∧ w.heap.size ≤ g ∧ ∃ cs, w'.heap[g]? = some (.cells cs 56 (0, 0)) ∧ cs.size = xs.length + 1 ∧ ∀ i, i < xs.length → cs[i]? = some (.pointer (some ⟨d i, 0, none⟩)) := by
  have hl := (Path.good_parts (good_of hp)).1
  have HPP := Lib.hid hp
  have HW := Lib.hid hw
  have H0 := Lib.hid h0
  obtain ⟨n, hn⟩ : ∃ n, n = xs.length := ⟨_, rfl⟩
  obtain ⟨lp, hlp⟩ : ∃ lp, lp = lastP xs := ⟨_, rfl⟩
  have HN := Lib.hid (And.intro hn hlp)
  rw [← hn] at hl
  rw [← hn, ← hlp]
  clear hp hw h0 hn hlp
  go_enter Tryd.func12, Tryd.ntmps12
  go_wp2_with (fail)
  obtain ⟨w1, hw1⟩ : ∃ w1, w1 = w.alloc (.cells #[.slice none 0 0, .string ⟨#[]⟩, .nilIface] 52) := ⟨_, rfl⟩
  have hb1 : Below w.heap.size w w1 := by rw [hw1]; exact (Below.refl _ _).alloc (Nat.le_refl _) _
  have hr1 : w1.heap[w.heap.size]? = some (.cells #[.slice none 0 0, .string ⟨#[]⟩, .nilIface] 52 (0, 0)) := by rw [hw1]; exact heap_alloc_new w _
  have hs1 : w1.heap.size = w.heap.size + 1 := by rw [hw1]; simp
  rw [← hw1]
  clear hw1
  refine (psplit_ok s xs w1 HPP.out).mono ?_
  rintro ex w2 ⟨A, c, rfl, hT, hb2⟩
  have HT := Lib.hid (And.intro hT (And.intro hb1 (And.intro hb2 (And.intro hr1 hs1))))
  rw [← HN.out.1]
  have hde := descend_any t n c A (psOf xs) d e w2 (by omega) (by rw [HN.out.1]; exact parts_of hT) (by rw [HN.out.1]; exact (HW.out.below hb1).below (hb2.mono (by omega))) H0.out
  rw [show (if n = 0 then (⟨#[]⟩ : ByteArray) else psOf xs (n - 1)) = lp by rw [HN.out.2, HN.out.1]; rfl] at hde
  have HDE := Lib.hid hde
  clear hT hb1 hb2 hr1 hs1 hde
  go_wp2_with (fail)
  refine HDE.out.mono ?_
  rintro ex w3 ⟨g, rfl, hb3, hg3, hrow⟩
  obtain ⟨nv, hnv⟩ : ∃ nv, nv = nvo (some e) := ⟨_, rfl⟩
  have hform : ∃ t v, nv = .iface t v := by
    rw [hnv]
    rcases e with ⟨_ | _, y⟩ <;> exact ⟨_, _, rfl⟩
  rw [← hnv]
  obtain ⟨ty, vv, rfl⟩ := hform
  have hrb : w3.heap[w.heap.size]? = some (.cells #[.slice none 0 0, .string ⟨#[]⟩, .nilIface] 52 (0, 0)) := by
    obtain ⟨_, _, hb2, hr1, hs1⟩ := HT.out
    have := hb2.size
    exact (hb3.block _ (by omega)).trans ((hb2.block _ (by omega)).trans hr1)
  have r0 : w3.cell? ⟨w.heap.size, 0, none⟩ = some (.slice none 0 0) := by simp [World.cell?, hrb]
  have r1 : w3.cell? ⟨w.heap.size, 1, none⟩ = some (.string ⟨#[]⟩) := by simp [World.cell?, hrb]
  have r2 : w3.cell? ⟨w.heap.size, 2, none⟩ = some .nilIface := by simp [World.cell?, hrb]
  have rf : ∀ j, w3.frozen? ⟨w.heap.size, j, none⟩ = false := fun j => by simp [World.frozen?, hrb]
  have HB : Hid (Below w.heap.size w w3 ∧ w.heap.size < g) := by
    obtain ⟨_, hb1, hb2, _, hs1⟩ := HT.out
    have := hb2.size
    exact Lib.hid ⟨(hb1.trans (hb2.mono (by omega))).trans (hb3.mono (by omega)), by omega⟩
  have HRW := Lib.hid hrow
  have HNV := Lib.hid hnv
  clear hrb hb3 hg3 hrow HDE hnv
  go_wp2
  refine bodyPost_ret (v := .tuple #[.agg #[.slice (some ⟨g, 0, none⟩) n (n + 1), .string lp, .iface ty vv], .int .i64 0]) (results_cell_two rfl _ _ w.heap.size _ _ _ rfl rfl (range3 ?_ ?_ ?_) Tryd.underlying52 rfl (by kernel_rfl)) rfl ⟨g, by rw [HNV.out], ?_, Nat.le_of_lt HB.out.2, ?_⟩
  · simp [go_sem, r0, r1, r2]
  · simp [go_sem, r0, r1, r2]
  · simp [go_sem, r0, r1, r2]
  · exact Below.setCell (p := ⟨w.heap.size, 2, none⟩) (Below.setCell (p := ⟨w.heap.size, 1, none⟩) (Below.setCell (p := ⟨w.heap.size, 0, none⟩) HB.out.1 (Nat.le_refl _) _) (Nat.le_refl _) _) (Nat.le_refl _) _
  · obtain ⟨cs, g1, g2, g3⟩ := HRW.out
    have hne : g ≠ w.heap.size := by have := HB.out.2; omega
    exact ⟨cs, (Below.heap_setCell _ _ _ _ hne).trans ((Below.heap_setCell _ _ _ _ hne).trans ((Below.heap_setCell _ _ _ _ hne).trans g1)), g2, g3⟩
end Go.Proofs.YtoaoikfhdeiabaaDoor
