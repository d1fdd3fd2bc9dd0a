/- Package tree: what puts a new node at a path where nothing stands. -/
import Derived.Test.YtoaoikfhdeiabaaDoorTreePlc
import Derived.Test.YtoaoikfhdeiabaaDoorTreeFill
namespace Go.Proofs.YtoaoikfhdeiabaaDoor
open Go.RowKit Go.Maps
/-- the ancestors as a list -/
def dsOf (d : Nat → Nat) (k : Nat) : List Nat := (List.range (k + 1)).map d
theorem dsOf_len (d : Nat → Nat) (k : Nat) : (dsOf d k).length = k + 1 := by simp [dsOf]
theorem dsOf_at (d : Nat → Nat) (k i : Nat) (h : i < (dsOf d k).length) : (dsOf d k)[i] = d i := by simp [dsOf]
theorem RowF.dirs {w : World} {g n k : Nat} {d : Nat → Nat} (h : RowF w g n d (k + 1)) : DirRow w g (dsOf d k) := by
  obtain ⟨cs, h1, h2, h3⟩ := h
  intro i hi
  rw [dsOf_at]
  have hi2 : i < k + 1 := by rw [dsOf_len] at hi; exact hi
  simp [World.cell?, h1, h3 i hi2]
/-- behind putting: the place's box, the node's, the row of ancestors -/
structure PtAt (w w' : World) (d : Nat → Nat) (k : Nat) (nm : ByteArray) (b : Nd) (q g : Nat) : Prop where
  bel : Below w.heap.size w w'
  box : w'.heap[q]? = some (.cells #[.slice (some ⟨g, 0, none⟩) (k + 1) (k + 1), .string nm, .nilIface] 52 (0, 0))
  nd : w'.heap[w.heap.size]? = some (.cells #[nvo (some b)] 50 (0, 0))
  row : RowF w' g (k + 1) d (k + 1)
  new : w.heap.size < g
set_option maxRecDepth 100000 in
set_option maxHeartbeats 4000000 in
theorem putting_new (t : Nat) (s : ByteArray) (xs : List Path.Bs) (d : Nat → Nat) (k : Nat) (mv : Value) (qn : Nat) (G : Blk) (b : Nd) (qs cs : Nat → Int) (w : World) (hp : Path.pp (Ls s) = some xs) (hk : xs.length = k + 1) (hw : Way w k (psOf xs) d (true, d k)) (h0 : d 0 = t)
    (hm0 : w.cell? ⟨d k, 2, none⟩ = some mv) (hm : DM w mv qn G) (hG : G (psOf xs k) = none) (hsz : (psOf xs k).size ≤ maxLen)
    (hd : Hid (∀ i, i ≤ k → w.cell? ⟨d i, 0, none⟩ = some (.int .i64 (qs i)) ∧ w.cell? ⟨d i, 1, none⟩ = some (.int .i64 (cs i)) ∧ IntKind.i64.wrap (cs i + 1) = cs i + 1 ∧ roomQ (qs i) (cs i) 1 = true)) :
    Calls Tryd.prog 21 #[.pointer (some ⟨t, 0, none⟩), .string s, nvo (some b)] w fun ex w' => ∃ q g, ex = .returned (.tuple #[.func (.func 36) #[] #[.pointer (some ⟨q, 0, none⟩), .pointer (some ⟨w.heap.size, 0, none⟩)], .int .i64 0]) ∧ PtAt w w' d k (psOf xs k) b q g := by
  have hk20 : k + 1 ≤ 1048576 := by
    have := (Path.good_parts (good_of hp)).1
    omega
  have hplc := fun w1 (hb : Below w.heap.size w w1) => placeFor_new t s xs d k mv qn G w1 hp hk (hw.below hb) h0 ((hb.cell (p := ⟨d k, 2, none⟩) (cell_lt hm0)).trans hm0) (dm_below hm hb) hG hsz
  have HPLC := Lib.hid hplc
  clear hplc hp hk hw h0 hm0 hm hG hsz
  rcases b with ⟨_ | _, f⟩
  · rw [show nvo (some (false, f)) = .iface 72 (.pointer (some ⟨f, 0, none⟩)) from rfl]
    go_enter Tryd.func21, Tryd.ntmps21
    go_wp2_with (fail)
    refine (HPLC.out _ ((Below.refl _ _).alloc (Nat.le_refl _) _)).mono ?_
    rintro ex w1 ⟨g, rfl, hb1, hg1, hrow⟩
    go_wp2_with (fail)
    obtain ⟨w2, hw2⟩ : ∃ w2, w2 = w1.alloc (.cells #[.slice (some ⟨g, 0, none⟩) (k + 1) (k + 1), .string (psOf xs k), .nilIface] 52) := ⟨_, rfl⟩
    have hr2 : w2.heap[w1.heap.size]? = some (.cells #[.slice (some ⟨g, 0, none⟩) (k + 1) (k + 1), .string (psOf xs k), .nilIface] 52 (0, 0)) := by rw [hw2]; exact heap_alloc_new w1 _
    have hs1 : w.heap.size + 1 ≤ w1.heap.size := by have := hb1.size; simpa using this
    have hn2 : w2.heap[w.heap.size]? = some (.cells #[.iface 72 (.pointer (some ⟨f, 0, none⟩))] 50 (0, 0)) := by
      rw [hw2]
      refine (Below.heap_alloc _ _ _ (by omega)).trans ?_
      refine (hb1.block _ (by simp)).trans (heap_alloc_new w _)
    have hb2 : Below w.heap.size w w2 := by
      rw [hw2]
      exact (((Below.refl _ _).alloc (Nat.le_refl _) _).trans (hb1.mono (by simp))).alloc (by omega) _
    have hrow2 : RowF w2 g (k + 1) d (k + 1) := hrow.same (by rw [hw2]; exact Below.heap_alloc _ _ _ hrow.lt)
    have hg2 : w.heap.size < g := by simp at hg1; omega
    have hr := rooms_any g (dsOf d k) (k + 1) 1 qs cs w2 (by rw [dsOf_len]; exact hk20) hrow2.dirs (Lib.hid fun i hi => by
      have hik : i ≤ k := by rw [dsOf_len] at hi; omega
      obtain ⟨a1, a2, a3, _⟩ := hd.out i hik
      rw [dsOf_at]
      exact ⟨(hb2.cell (p := ⟨d i, 0, none⟩) (cell_lt a1)).trans a1, (hb2.cell (p := ⟨d i, 1, none⟩) (cell_lt a2)).trans a2, a3⟩)
    rw [dsOf_len, show ((List.range (k + 1)).all fun i => roomQ (qs i) (cs i) 1) = true from List.all_eq_true.2 fun i hi => (hd.out i (by have := List.mem_range.1 hi; omega)).2.2.2] at hr
    have HZ := Lib.hid (And.intro hb2 (And.intro hr2 (And.intro hn2 (And.intro hrow2 (And.intro hs1 hg2)))))
    rw [← hw2]
    clear hw2 hr2 hn2 hb2 hrow2 hs1 hg2 hrow hb1 hg1
    refine hr.mono ?_
    rintro ex w3 ⟨rfl, m, rfl⟩
    go_wp2_with (fail)
    go_ret2
    exact ⟨_, g, rfl, HZ.out.1.trans ⟨rfl, rfl, rfl, Nat.le_refl _, fun _ _ => rfl⟩, HZ.out.2.1, HZ.out.2.2.1, HZ.out.2.2.2.1, HZ.out.2.2.2.2.2⟩
  · rw [show nvo (some (true, f)) = .iface 56 (.pointer (some ⟨f, 0, none⟩)) from rfl]
    go_enter Tryd.func21, Tryd.ntmps21
    go_wp2_with (fail)
    refine (HPLC.out _ ((Below.refl _ _).alloc (Nat.le_refl _) _)).mono ?_
    rintro ex w1 ⟨g, rfl, hb1, hg1, hrow⟩
    go_wp2_with (fail)
    obtain ⟨w2, hw2⟩ : ∃ w2, w2 = w1.alloc (.cells #[.slice (some ⟨g, 0, none⟩) (k + 1) (k + 1), .string (psOf xs k), .nilIface] 52) := ⟨_, rfl⟩
    have hr2 : w2.heap[w1.heap.size]? = some (.cells #[.slice (some ⟨g, 0, none⟩) (k + 1) (k + 1), .string (psOf xs k), .nilIface] 52 (0, 0)) := by rw [hw2]; exact heap_alloc_new w1 _
    have hs1 : w.heap.size + 1 ≤ w1.heap.size := by have := hb1.size; simpa using this
    have hn2 : w2.heap[w.heap.size]? = some (.cells #[.iface 56 (.pointer (some ⟨f, 0, none⟩))] 50 (0, 0)) := by
      rw [hw2]
      refine (Below.heap_alloc _ _ _ (by omega)).trans ?_
      refine (hb1.block _ (by simp)).trans (heap_alloc_new w _)
    have hb2 : Below w.heap.size w w2 := by
      rw [hw2]
      exact (((Below.refl _ _).alloc (Nat.le_refl _) _).trans (hb1.mono (by simp))).alloc (by omega) _
    have hrow2 : RowF w2 g (k + 1) d (k + 1) := hrow.same (by rw [hw2]; exact Below.heap_alloc _ _ _ hrow.lt)
    have hg2 : w.heap.size < g := by simp at hg1; omega
    have hr := rooms_any g (dsOf d k) (k + 1) 1 qs cs w2 (by rw [dsOf_len]; exact hk20) hrow2.dirs (Lib.hid fun i hi => by
      have hik : i ≤ k := by rw [dsOf_len] at hi; omega
      obtain ⟨a1, a2, a3, _⟩ := hd.out i hik
      rw [dsOf_at]
      exact ⟨(hb2.cell (p := ⟨d i, 0, none⟩) (cell_lt a1)).trans a1, (hb2.cell (p := ⟨d i, 1, none⟩) (cell_lt a2)).trans a2, a3⟩)
    rw [dsOf_len, show ((List.range (k + 1)).all fun i => roomQ (qs i) (cs i) 1) = true from List.all_eq_true.2 fun i hi => (hd.out i (by have := List.mem_range.1 hi; omega)).2.2.2] at hr
    have HZ := Lib.hid (And.intro hb2 (And.intro hr2 (And.intro hn2 (And.intro hrow2 (And.intro hs1 hg2)))))
    rw [← hw2]
    clear hw2 hr2 hn2 hb2 hrow2 hs1 hg2 hrow hb1 hg1
    refine hr.mono ?_
    rintro ex w3 ⟨rfl, m, rfl⟩
    go_wp2_with (fail)
    go_ret2
    exact ⟨_, g, rfl, HZ.out.1.trans ⟨rfl, rfl, rfl, Nat.le_refl _, fun _ _ => rfl⟩, HZ.out.2.1, HZ.out.2.2.1, HZ.out.2.2.2.1, HZ.out.2.2.2.2.2⟩
theorem PtAt.al {w w' : World} {d : Nat → Nat} {k : Nat} {nm : ByteArray} {b : Nd} {q g : Nat} (h : PtAt w w' d k nm b q g) : w'.cell? ⟨q, 0, none⟩ = some (.slice (some ⟨g, 0, none⟩) (k + 1) (k + 1)) ∧ w'.cell? ⟨q, 1, none⟩ = some (.string nm) ∧ w'.cell? ⟨q, 2, none⟩ = some .nilIface ∧ w'.cell? ⟨w.heap.size, 0, none⟩ = some (nvo (some b)) := by
  refine ⟨?_, ?_, ?_, ?_⟩ <;> simp [World.cell?, h.box, h.nd]
/-- what it makes: the node in the last ancestor's map, all ancestors told -/
def Done1 (w w' : World) (d : Nat → Nat) (k : Nat) (mv : Value) (qn : Nat) (G : Blk) (nm : ByteArray) (b : Nd) (cs : Nat → Int) (more : Int) : Prop := ∃ w0 w1, Below w.heap.size w w0 ∧ PutAt w0 w1 (d k) mv qn G nm b ∧ Told w1 w' (dsOf d k) cs more (k + 1)
set_option maxRecDepth 100000 in
set_option maxHeartbeats 4000000 in
theorem putting1_any (w9 : World) (d : Nat → Nat) (k qn q g : Nat) (nm : ByteArray) (mv : Value) (G : Blk) (b : Nd) (c : Int) (cs : Nat → Int) (w : World) (h : PtAt w9 w d k nm b q g) (hk20 : k + 1 ≤ 1048576) (hinj : ∀ i j, i ≤ k → j ≤ k → d i = d j → i = j) (hc : (b.1 = false ∧ c = 0) ∨ (b.1 = true ∧ w.cell? ⟨b.2, 1, none⟩ = some (.int .i64 c) ∧ IntKind.i64.wrap (1 + c) = 1 + c))
    (hd : Hid (∀ i, i ≤ k → d i < w9.heap.size ∧ w.cell? ⟨d i, 1, none⟩ = some (.int .i64 (cs i)) ∧ w.frozen? ⟨d i, 1, none⟩ = false ∧ IntKind.i64.wrap (cs i + (1 + c)) = cs i + (1 + c)))
    (hm0 : w.cell? ⟨d k, 2, none⟩ = some mv) (hf : w.frozen? ⟨d k, 2, none⟩ = false) (hm : DM w mv qn G) (hn : qn < 1048576) (hs : nm.size ≤ maxLen) :
    Calls Tryd.prog 36 #[.pointer (some ⟨q, 0, none⟩), .pointer (some ⟨w9.heap.size, 0, none⟩)] w fun e w' => e = .returned (.tuple #[]) ∧ Done1 w w' d k mv qn G nm b cs (1 + c) := by
  obtain ⟨a1, a2, a3, a4⟩ := h.al
  have hgd : g ∉ dsOf d k := by
    intro hi
    obtain ⟨i, hi1, hi2⟩ := List.mem_map.1 hi
    have := (hd.out i (by have := List.mem_range.1 hi1; omega)).1
    have := h.new
    omega
  have hnd : (dsOf d k).Nodup := by
    unfold dsOf
    refine List.pairwise_iff_getElem.2 fun i j hi hj hij e => ?_
    have hj2 : j < k + 1 := by simpa using hj
    simp only [List.getElem_map, List.getElem_range] at e
    have := hinj i j (by omega) (by omega) e
    omega
  have hdd : Hid (∀ i (hi : i < (dsOf d k).length), w.cell? ⟨(dsOf d k)[i], 1, none⟩ = some (.int .i64 (cs i)) ∧ w.frozen? ⟨(dsOf d k)[i], 1, none⟩ = false ∧ IntKind.i64.wrap (cs i + (1 + c)) = cs i + (1 + c)) := Lib.hid fun i hi => by
    rw [dsOf_at]
    exact (hd.out i (by rw [dsOf_len] at hi; omega)).2
  have hfill : Calls Tryd.prog 37 #[.agg #[.slice (some ⟨g, 0, none⟩) (k + 1) (k + 1), .string nm, .nilIface], nvo (some b)] w fun e w' => e = .returned (.tuple #[]) ∧ Done1 w w' d k mv qn G nm b cs (1 + c) := by
    rcases b with ⟨_ | _, f⟩
    · rcases hc with ⟨_, rfl⟩ | ⟨h9, _⟩
      · refine (fill_file g (dsOf d k) (k + 1) (d k) f qn k nm mv G cs w (by rw [dsOf_len]; exact hk20) h.row.dirs hnd hgd h.row.lt (dsOf_len d k) (dsOf_at d k k _) (by simpa using hdd) hm0 hf hm hn hs).mono ?_
        rintro e w' ⟨rfl, w0, w1, b1, b2, b3, b4⟩
        rw [dsOf_len] at b4
        exact ⟨rfl, w0, w1, b1, b3, b4⟩
      · cases h9
    · rcases hc with ⟨h9, _⟩ | ⟨_, hc2, hc3⟩
      · cases h9
      · refine (fill_dir g (dsOf d k) (k + 1) (d k) f qn k c nm mv G cs w hc2 hc3 (by rw [dsOf_len]; exact hk20) h.row.dirs hnd hgd h.row.lt (dsOf_len d k) (dsOf_at d k k _) hdd hm0 hf hm hn hs).mono ?_
        rintro e w' ⟨rfl, w0, w1, b1, b2, b3, b4⟩
        rw [dsOf_len] at b4
        exact ⟨rfl, w0, w1, b1, b3, b4⟩
  clear hm0 hf hm hn hs hd hdd hc hinj hgd hnd h hk20
  go_enter Tryd.func36, Tryd.ntmps36
  go_wp2_with (go_at_call 37; refine hfill.mono ?_; rintro e w5 ⟨rfl, HT⟩)
  go_end0
  exact ⟨rfl, HT⟩
end Go.Proofs.YtoaoikfhdeiabaaDoor
