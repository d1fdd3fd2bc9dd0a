/- Package tree: all ancestors of a place are told that more stand below them. -/
import Derived.Test.YtoaoikfhdeiabaaDoorTreePut
namespace Go.Proofs.YtoaoikfhdeiabaaDoor
open Go.RowKit Go.Maps
/-- the first k directories of a row have been told -/
structure Told (w w' : World) (ds : List Nat) (cs : Nat → Int) (more : Int) (k : Nat) : Prop where
  os : w'.os = w.os
  tape : w'.tape = w.tape
  output : w'.output = w.output
  size : w.heap.size ≤ w'.heap.size
  far : ∀ b, b < w.heap.size → b ∉ ds → w'.heap[b]? = w.heap[b]?
  cnt : ∀ i (h : i < ds.length), w'.cell? ⟨ds[i], 1, none⟩ = some (.int .i64 (if i < k then cs i + more else cs i)) ∧ w'.frozen? ⟨ds[i], 1, none⟩ = false
  oth : ∀ i (h : i < ds.length) j, j ≠ 1 → w'.cell? ⟨ds[i], j, none⟩ = w.cell? ⟨ds[i], j, none⟩
theorem Told.step {w w' : World} {ds : List Nat} {cs : Nat → Int} {more : Int} {k : Nat} (h : Told w w' ds cs more k) (hk : k < ds.length) (hnd : ds.Nodup) : Told w (w'.setCell ⟨ds[k], 1, none⟩ (.int .i64 (cs k + more))) ds cs more (k + 1) := by
  have hmem : ds[k] ∈ ds := List.getElem_mem _
  obtain ⟨c1, c2⟩ := h.cnt k hk
  refine ⟨h.os, h.tape, h.output, by have := h.size; simpa [World.setCell] using this, fun b hb hn => (Below.heap_setCell _ _ _ _ (fun e => hn (by rw [e]; exact hmem))).trans (h.far b hb hn), fun i hi => ?_, fun i hi j hj => ?_⟩
  · obtain ⟨d1, d2⟩ := h.cnt i hi
    by_cases e : i = k
    · subst e
      refine ⟨(World.cell?_setCell_same _ _ _ c1).trans (by simp), ?_⟩
      exact (World.frozen?_setCell _ _ _ _).trans d2
    · have hne : ds[i] ≠ ds[k] := fun q => e ((List.getElem_inj hnd).1 q)
      refine ⟨(World.cell?_setCell_other _ _ _ _ (fun q => hne (by injection q with q; exact q.symm))).trans (d1.trans ?_), (World.frozen?_setCell _ _ _ _).trans d2⟩
      by_cases h1 : i < k
      · rw [if_pos h1, if_pos (by omega)]
      · rw [if_neg h1, if_neg (by omega)]
  · exact (World.cell?_setCell_other _ _ _ _ (fun q => hj (by injection q with _ q; exact q.symm))).trans (h.oth i hi j hj)
set_option maxRecDepth 100000 in
set_option maxHeartbeats 4000000 in
theorem recount_any (g : Nat) (ds : List Nat) (cap : Nat) (nm : ByteArray) (nv : Value) (more : Int) (cs : Nat → Int) (w : World) (hl : ds.length ≤ 1048576) (hr : DirRow w g ds) (hnd : ds.Nodup) (hg : g ∉ ds) (hgl : g < w.heap.size) (hnv : nv = .nilIface ∨ ∃ t v, nv = .iface t v)
    (hd : Hid (∀ i (h : i < ds.length), w.cell? ⟨ds[i], 1, none⟩ = some (.int .i64 (cs i)) ∧ w.frozen? ⟨ds[i], 1, none⟩ = false ∧ IntKind.i64.wrap (cs i + more) = cs i + more)) :
    Calls Tryd.prog 68 #[.agg #[.slice (some ⟨g, 0, none⟩) ds.length cap, .string nm, nv], .int .i64 more] w fun e w' => e = .returned (.tuple #[]) ∧ Told w w' ds cs more ds.length := by
  have HR := Lib.hid hr
  have HP := Lib.hid (And.intro hnd (And.intro hg hgl))
  obtain ⟨N, hN⟩ : ∃ N, N = ds.length := ⟨_, rfl⟩
  have HN := Lib.hid hN
  rw [← hN] at hl ⊢
  clear hr hnd hg hgl hN
  rcases hnv with rfl | ⟨t, v, rfl⟩
  · go_enter Tryd.func68, Tryd.ntmps68
    have HT0 : Hid (Told w (w.alloc (.cells #[.slice (some ⟨g, 0, none⟩) N cap, .string nm, .nilIface] 52)) ds cs more 0) := Lib.hid ⟨rfl, rfl, rfl, by simp, fun b hb _ => Below.heap_alloc _ _ _ hb, fun i hi => ⟨(((Below.refl w.heap.size w).alloc (Nat.le_refl _) _).cell (p := ⟨ds[i], 1, none⟩) (cell_lt (hd.out i hi).1)).trans ((hd.out i hi).1.trans (by simp)), (((Below.refl w.heap.size w).alloc (Nat.le_refl _) _).frozen (p := ⟨ds[i], 1, none⟩) (cell_lt (hd.out i hi).1)).trans (hd.out i hi).2.1⟩, fun i hi j _ => ((Below.refl w.heap.size w).alloc (Nat.le_refl _) _).cell (p := ⟨ds[i], j, none⟩) (cell_lt (hd.out i hi).1)⟩
    go_wp2
    go_loopw [9] (fun iv wr => ∃ k : Nat, k ≤ N ∧ iv = .int .i64 (k : Int) ∧ Hid (Told w wr ds cs more k)) (fun iv _ => N - (intOf iv).toNat)
    case atStart => exact ⟨0, Nat.zero_le _, rfl, HT0⟩
    case round =>
      obtain ⟨k, hk, rfl, HT⟩ := hrel
      clear HT0
      by_cases hlt : k < N
      · have hkl : k < ds.length := by have := HN.out; omega
        have hc : wr.cell? ⟨g, k, none⟩ = some (.pointer (some ⟨ds[k], 0, none⟩)) := (ce (HT.out.far g HP.out.2.2 HP.out.2.1) k).trans (HR.out k hkl)
        obtain ⟨h1, h2⟩ := HT.out.cnt k hkl
        rw [if_neg (Nat.lt_irrefl k)] at h1
        have h3 := (hd.out k hkl).2.2
        have HS : Hid (Told w (wr.setCell ⟨ds[k], 1, none⟩ (.int .i64 (cs k + more))) ds cs more (k + 1)) := Lib.hid (HT.out.step hkl HP.out.1)
        obtain ⟨d, hdd⟩ : ∃ d, d = ds[k] := ⟨_, rfl⟩
        obtain ⟨ck, hck⟩ : ∃ c, c = cs k := ⟨_, rfl⟩
        rw [← hdd] at hc h1 h2 HS
        rw [← hck] at h1 h3 HS
        clear hdd hck HT
        go_wp2
        go_roundw
        case rel => exact ⟨k + 1, by omega, by first | rfl | go_num, HS⟩
        case measure => simp [intOf]; omega
      · obtain rfl : k = N := by omega
        have HT2 : Hid (Told w wr ds cs more k) := HT
        clear HT
        go_wp2
        go_end0
        exact ⟨rfl, HT2.out⟩
  · go_enter Tryd.func68, Tryd.ntmps68
    have HT0 : Hid (Told w (w.alloc (.cells #[.slice (some ⟨g, 0, none⟩) N cap, .string nm, .iface t v] 52)) ds cs more 0) := Lib.hid ⟨rfl, rfl, rfl, by simp, fun b hb _ => Below.heap_alloc _ _ _ hb, fun i hi => ⟨(((Below.refl w.heap.size w).alloc (Nat.le_refl _) _).cell (p := ⟨ds[i], 1, none⟩) (cell_lt (hd.out i hi).1)).trans ((hd.out i hi).1.trans (by simp)), (((Below.refl w.heap.size w).alloc (Nat.le_refl _) _).frozen (p := ⟨ds[i], 1, none⟩) (cell_lt (hd.out i hi).1)).trans (hd.out i hi).2.1⟩, fun i hi j _ => ((Below.refl w.heap.size w).alloc (Nat.le_refl _) _).cell (p := ⟨ds[i], j, none⟩) (cell_lt (hd.out i hi).1)⟩
    go_wp2
    go_loopw [9] (fun iv wr => ∃ k : Nat, k ≤ N ∧ iv = .int .i64 (k : Int) ∧ Hid (Told w wr ds cs more k)) (fun iv _ => N - (intOf iv).toNat)
    case atStart => exact ⟨0, Nat.zero_le _, rfl, HT0⟩
    case round =>
      obtain ⟨k, hk, rfl, HT⟩ := hrel
      clear HT0
      by_cases hlt : k < N
      · have hkl : k < ds.length := by have := HN.out; omega
        have hc : wr.cell? ⟨g, k, none⟩ = some (.pointer (some ⟨ds[k], 0, none⟩)) := (ce (HT.out.far g HP.out.2.2 HP.out.2.1) k).trans (HR.out k hkl)
        obtain ⟨h1, h2⟩ := HT.out.cnt k hkl
        rw [if_neg (Nat.lt_irrefl k)] at h1
        have h3 := (hd.out k hkl).2.2
        have HS : Hid (Told w (wr.setCell ⟨ds[k], 1, none⟩ (.int .i64 (cs k + more))) ds cs more (k + 1)) := Lib.hid (HT.out.step hkl HP.out.1)
        obtain ⟨d, hdd⟩ : ∃ d, d = ds[k] := ⟨_, rfl⟩
        obtain ⟨ck, hck⟩ : ∃ c, c = cs k := ⟨_, rfl⟩
        rw [← hdd] at hc h1 h2 HS
        rw [← hck] at h1 h3 HS
        clear hdd hck HT
        go_wp2
        go_roundw
        case rel => exact ⟨k + 1, by omega, by first | rfl | go_num, HS⟩
        case measure => simp [intOf]; omega
      · obtain rfl : k = N := by omega
        have HT2 : Hid (Told w wr ds cs more k) := HT
        clear HT
        go_wp2
        go_end0
        exact ⟨rfl, HT2.out⟩
end Go.Proofs.YtoaoikfhdeiabaaDoor
