/- Package store: a store as a state: its disk, what it knows. Package store: what the bytes of a file hold. Package store: a replica is looked at. Package store: a new replica is laid. -/
import Derived.Test.YtmlikkjahkdilaaGreatDoorStoFil
import Derived.Test.YtmlikkjahkdilaaGreatDoorDkList
import Derived.DeepKeys5
import Derived.Maps.Own
import Derived.Maps.OwnSet
import Derived.Maps.Views
import Derived.Test.YtmlikkjahkdilaaGreatDoorStkF
import Derived.StillTailTactics
namespace Go.Proofs.YtmlikkjahkdilaaGreatDoor
open Go.RowKit Go.Maps
theorem blkLaw : Keyed Tryz.prog 23 := Keyed.of_law (deep_law_gate laidOut (of_decide_eq_true (by kernel_rfl)) (of_decide_eq_true (by kernel_rfl)) (by kernel_rfl) (by kernel_rfl))
theorem zeroUnit (w : World) : (zeroValue 50).run Tryz.prog w = .ok (.agg #[]) w := by kernel_rfl
/-- a block as the map's reader tells it -/
def kbL (x y z : Int) : Lit := .string (keyBytes [.int .i64 x, .int .i64 y, .int .i64 z])
/-- a number of 64 bits -/
def n64 (x : Int) : Prop := -9223372036854775808 ≤ x ∧ x ≤ 9223372036854775807
theorem wf_n64 {x : Int} (h : n64 x) : (Lit.int .i64 x).wf = true := by
  obtain ⟨h1, h2⟩ := h
  simp [Lit.wf, IntKind.min, IntKind.max, IntKind.signed, IntKind.bits]
  omega
theorem keyOf_blk {x y z : Int} (hx : n64 x) (hy : n64 y) (hz : n64 z) : keyOf Tryz.prog 23 (.agg #[.int .i64 x, .int .i64 y, .int .i64 z]) = some (kbL x y z) := by
  have h1 := wf_n64 hx
  have h2 := wf_n64 hy
  have h3 := wf_n64 hz
  have hk : Tryz.prog.keyType 23 = true := by kernel_rfl
  have hf : Value.formed Tryz.prog 23 (.agg #[.int .i64 x, .int .i64 y, .int .i64 z]) = true := by kernel_rfl
  have e8 : Tryz.prog.cellsOf 3 = 1 := by kernel_rfl
  have e9 : Tryz.prog.cellsOf 23 = 3 := by kernel_rfl
  have hl : ∀ n, Tryz.prog.keyLits (n + 2) 23 [.int .i64 x, .int .i64 y, .int .i64 z] = some [.int .i64 x, .int .i64 y, .int .i64 z] := by
    intro n
    simp [Program.keyLits, Tryz.underlying23, Tryz.underlying3, e8, e9, h1, h2, h3]
  obtain ⟨m, hm⟩ : ∃ m, Tryz.prog.types.size + 1 = m + 2 := ⟨Tryz.prog.types.size - 1, by have : 1 ≤ Tryz.prog.types.size := of_decide_eq_true (by kernel_rfl); omega⟩
  unfold keyOf
  rw [Tryz.underlying23]
  simp only [hk, hf, Bool.and_self, if_true, Value.cells]
  rw [hm, hl]
  rfl
theorem kbL_inj {x y z x' y' z' : Int} (hx : n64 x) (hy : n64 y) (hz : n64 z) (hx' : n64 x') (hy' : n64 y') (hz' : n64 z') (h : kbL x y z = kbL x' y' z') : x = x' ∧ y = y' ∧ z = z' := by
  have e : keyBytes [.int .i64 x, .int .i64 y, .int .i64 z] = keyBytes [.int .i64 x', .int .i64 y', .int .i64 z'] := by
    unfold kbL at h
    injection h
  have hw : ∀ {u v t : Int}, n64 u → n64 v → n64 t → ∀ a ∈ [Lit.int .i64 u, Lit.int .i64 v, Lit.int .i64 t], Lit.keyWf a := by
    intro u v t hu hv ht a ha
    simp at ha
    rcases ha with rfl | rfl | rfl
    · exact wf_n64 hu
    · exact wf_n64 hv
    · exact wf_n64 ht
  have := keyBytes_inj (l := [.int .i64 x, .int .i64 y, .int .i64 z]) (l' := [.int .i64 x', .int .i64 y', .int .i64 z']) (And.intro rfl (And.intro rfl (And.intro rfl trivial))) (hw hx hy hz) (hw hx' hy' hz') e
  simpa using this
def kb (x : Blk) : Lit := kbL x.a x.b x.c
theorem okB_n64 {x : Blk} (h : okB x) : n64 x.a ∧ n64 x.b ∧ n64 x.c := by
  obtain ⟨h1, h2, h3⟩ := h
  unfold n64
  omega
theorem keyOf_b {x : Blk} (h : okB x) : keyOf Tryz.prog 23 (.agg #[.int .i64 x.a, .int .i64 x.b, .int .i64 x.c]) = some (kb x) :=
  keyOf_blk (okB_n64 h).1 (okB_n64 h).2.1 (okB_n64 h).2.2
theorem kb_inj {x y : Blk} (hx : okB x) (hy : okB y) (h : kb x = kb y) : x = y := by
  obtain ⟨a1, a2, a3⟩ := okB_n64 hx
  obtain ⟨b1, b2, b3⟩ := okB_n64 hy
  obtain ⟨h1, h2, h3⟩ := kbL_inj a1 a2 a3 b1 b2 b3 h
  obtain ⟨p, q, r⟩ := x
  obtain ⟨p', q', r'⟩ := y
  simp only at h1 h2 h3
  have e1 : p = p' := by omega
  have e2 : q = q' := by omega
  have e3 : r = r' := by omega
  rw [e1, e2, e3]
abbrev OwnB (w : World) (m n : Nat) (D : DataW Unit) : Prop := w.ownsMap Tryz.prog 23 unitElem m n D
theorem OwnB.block {w w' : World} {m n : Nat} {D : DataW Unit} (h : OwnB w m n D) (e : w'.heap[m]? = w.heap[m]?) : OwnB w' m n D := by
  obtain ⟨es, clock, h1, h2⟩ := h
  exact ⟨es, clock, e.trans h1, h2⟩
/-- a store: its block s, its disk p over the blocks S, its map m -/
structure SS (W w : World) (s p m : Nat) (S : Nat → Prop) (cp : Int) (n : Nat) (L : Fs) (cs : List Chg) (nk : Nat) (K : Blk → Bool) : Prop where
  dk : DK W w p S cp n L cs
  c0 : w.cell? ⟨s, 0, none⟩ = some (.pointer (some ⟨p, 0, none⟩))
  c1 : w.cell? ⟨s, 1, none⟩ = some (.map (some m))
  sS : ¬ S s
  mS : ¬ S m
  sm : ¬ s = m
  lo : W.heap.size ≤ s ∧ W.heap.size ≤ m
  own : ∃ D, OwnB w m nk D ∧ ∀ x, okB x → Maps.has D (kb x) = K x
section
variable {W w w' : World} {s p m n nk : Nat} {S : Nat → Prop} {cp : Int} {L : Fs} {cs : List Chg} {K : Blk → Bool}
theorem SS.sl (h : SS W w s p m S cp n L cs nk K) : s < w.heap.size := by
  have c0 := h.c0
  rcases Nat.lt_or_ge s w.heap.size with hl | hl
  · exact hl
  · simp [World.cell?, Array.getElem?_eq_none hl] at c0
theorem SS.ml (h : SS W w s p m S cp n L cs nk K) : m < w.heap.size := by
  obtain ⟨D, h1, _⟩ := h.own
  exact h1.lt
theorem SS.below (h : SS W w s p m S cp n L cs nk K) (hb : Below w.heap.size w w') : SS W w' s p m S cp n L cs nk K := by
  obtain ⟨D, h1, h2⟩ := h.own
  exact ⟨h.dk.below hb, (hb.cell (p := ⟨s, 0, none⟩) h.sl).trans h.c0, (hb.cell (p := ⟨s, 1, none⟩) h.sl).trans h.c1, h.sS, h.mS, h.sm, h.lo, D, OwnB.block h1 (hb.block m h1.lt), h2⟩
/-- behind a call of the disk -/
theorem SS.disk (h : SS W w s p m S cp n L cs nk K) {n' : Nat} {L' : Fs} {cs' : List Chg} (hd : DK W w' p (grow S w w') cp n' L' cs') (t : Tch w w' S) : SS W w' s p m (grow S w w') cp n' L' cs' nk K := by
  obtain ⟨D, h1, h2⟩ := h.own
  have es := t.block s h.sl h.sS
  exact ⟨hd, (cell_eq es 0).trans h.c0, (cell_eq es 1).trans h.c1, fun e => e.elim h.sS (fun e => by have := h.sl; omega), fun e => e.elim h.mS (fun e => by have := h.ml; omega), h.sm, h.lo, D, OwnB.block h1 (t.block m h1.lt h.mS), h2⟩
/-- behind a step of the map -/
theorem SS.map (h : SS W w s p m S cp n L cs nk K) {nk' : Nat} {K' : Blk → Bool} (g : w.grownBy w' (some m)) (ho : ∃ D, OwnB w' m nk' D ∧ ∀ x, okB x → Maps.has D (kb x) = K' x) : SS W w' s p m S cp n L cs nk' K' := by
  have es := g.block s h.sl (by intro e; injection e with e; exact h.sm e)
  exact ⟨⟨h.dk.bel.grown g h.dk.bel.size (fun b hb => by injection hb with hb; have := h.lo.2; omega), h.dk.m.tch (tch_grown g) (fun b hb e => by injection e with e; exact h.mS (e ▸ hb))⟩, (cell_eq es 0).trans h.c0, (cell_eq es 1).trans h.c1, h.sS, h.mS, h.sm, h.lo, ho⟩
theorem look_B {D : DataW Unit} {x : Blk} (h : OwnB w m nk D) (hx : okB x) :
    (Instr.lookup 44 (.map (some m)) (.agg #[.int .i64 x.a, .int .i64 x.b, .int .i64 x.c]) true).run Tryz.prog w = .ok (.tuple #[.agg #[], .bool (Maps.has D (kb x))]) w := by
  obtain ⟨v, ps, hrun, hv⟩ := h.look_ok blkLaw Tryz.underlying44 (zeroUnit _) unitElem_mk (keyOf_b hx)
  obtain ⟨rfl, _⟩ := unitElem_inv hv
  exact hrun
theorem SS.look {x : Blk} (h : SS W w s p m S cp n L cs nk K) (hx : okB x) :
    (Instr.lookup 44 (.map (some m)) (.agg #[.int .i64 x.a, .int .i64 x.b, .int .i64 x.c]) true).run Tryz.prog w = .ok (.tuple #[.agg #[], .bool (K x)]) w := by
  obtain ⟨D, h1, h2⟩ := h.own
  have := look_B h1 hx
  rwa [h2 x hx] at this
end
set_option maxRecDepth 100000 in
set_option maxHeartbeats 4000000 in
theorem knows_S {W w : World} {s p m n nk : Nat} {S : Nat → Prop} {cp : Int} {L : Fs} {cs : List Chg} {K : Blk → Bool} (x : Blk) (hx : okB x) (h : Hid (SS W w s p m S cp n L cs nk K)) :
    Calls Tryz.prog 22 #[.pointer (some ⟨s, 0, none⟩), x.v] w fun e w' => e = .returned (.bool (K x)) ∧ Below w.heap.size w w' := by
  show Calls Tryz.prog 22 #[.pointer (some ⟨s, 0, none⟩), .agg #[.int .i64 x.a, .int .i64 x.b, .int .i64 x.c]] w fun e w' => e = .returned (.bool (K x)) ∧ Below w.heap.size w w'
  obtain ⟨wa, hwa⟩ : ∃ wa, wa = w.alloc (.cells #[.int .i64 x.a, .int .i64 x.b, .int .i64 x.c] 23) := ⟨_, rfl⟩
  obtain ⟨q, hq⟩ : ∃ q, q = w.heap.size := ⟨_, rfl⟩
  have hB : Below w.heap.size w wa := by rw [hwa]; exact (Below.refl _ _).alloc (Nat.le_refl _) _
  have hq0 : wa.heap[q]? = some (.cells #[.int .i64 x.a, .int .i64 x.b, .int .i64 x.c] 23 (0, 0)) := by rw [hwa, hq]; exact heap_alloc_new w _
  have hql := (Array.getElem?_eq_some_iff.1 hq0).1
  have hA := h.out.below hB
  have b0 : wa.cell? ⟨q, 0, none⟩ = some (.int .i64 x.a) := by simp [World.cell?, hq0]
  have b1 : wa.cell? ⟨q, 1, none⟩ = some (.int .i64 x.b) := by simp [World.cell?, hq0]
  have b2 : wa.cell? ⟨q, 2, none⟩ = some (.int .i64 x.c) := by simp [World.cell?, hq0]
  have hal : ∀ o, Below wa.heap.size wa (wa.alloc o) := fun o => (Below.refl _ _).alloc (Nat.le_refl _) _
  have a0 := fun o => ((hal o).cell (p := ⟨q, 0, none⟩) hql).trans b0
  have a1 := fun o => ((hal o).cell (p := ⟨q, 1, none⟩) hql).trans b1
  have a2 := fun o => ((hal o).cell (p := ⟨q, 2, none⟩) hql).trans b2
  have l1 := hA.c1
  have m1 := fun o => ((hal o).cell (p := ⟨s, 1, none⟩) hA.sl).trans hA.c1
  have k0 : ∀ n, (Instr.lookup 44 (.map (some m)) (.agg #[.int .i64 x.a, .int .i64 x.b, .int .i64 x.c]) true).run Tryz.prog (wa.drewN n) = .ok (.tuple #[.agg #[], .bool (K x)]) (wa.drewN n) := fun n => (hA.below (below_drewN (Below.refl _ _) n)).look hx
  have k00 : (Instr.lookup 44 (.map (some m)) (.agg #[.int .i64 x.a, .int .i64 x.b, .int .i64 x.c]) true).run Tryz.prog wa.drew = .ok (.tuple #[.agg #[], .bool (K x)]) wa.drew := (hA.below (Below.refl _ _).drew).look hx
  have k1 : ∀ o, (Instr.lookup 44 (.map (some m)) (.agg #[.int .i64 x.a, .int .i64 x.b, .int .i64 x.c]) true).run Tryz.prog (wa.alloc o).drew = .ok (.tuple #[.agg #[], .bool (K x)]) (wa.alloc o).drew := fun o => (hA.below (hal o).drew).look hx
  have k2 : ∀ o, (Instr.lookup 44 (.map (some m)) (.agg #[.int .i64 x.a, .int .i64 x.b, .int .i64 x.c]) true).run Tryz.prog (wa.drew.alloc o) = .ok (.tuple #[.agg #[], .bool (K x)]) (wa.drew.alloc o) := fun o => (hA.below (show Below wa.heap.size wa (wa.drew.alloc o) from ((Below.refl _ _).drew).alloc (Nat.le_refl _) _)).look hx
  have HB := Lib.hid hB
  have HE : Hid (∀ w', Below wa.heap.size wa w' → Below w.heap.size w w') := Lib.hid fun w' hb => hB.trans (hb.mono hB.size)
  clear hB hq0 hA hal h
  go_enter Tryz.func22, Tryz.ntmps22
  go_wp2_with (fail)
  rw [← hwa, ← hq]
  clear hwa hq
  go_region_with (fail)
  all_goals (go_wp2; go_ret; exact ⟨rfl, HE.out _ ((Below.refl _ _).alloc (Nat.le_refl _) _).drew⟩)
theorem is_data (s : ByteArray) (w : World) : Calls Tryz.prog 26 #[.string s] w fun e w' => e = .returned (.bool (decide (0 < s.size ∧ s.size ≤ 4096))) ∧ w = w' := by
  by_cases h0 : s.size = 0
  · have hd : decide (0 < s.size ∧ s.size ≤ 4096) = false := decide_eq_false (fun h => by omega)
    rw [hd]
    have he : s = ⟨#[]⟩ := by
      apply ByteArray.ext
      exact Array.eq_empty_of_size_eq_zero h0
    subst he
    clear h0 hd
    go_enter Tryz.func26, Tryz.ntmps26
    go_wp2
    go_ret
    exact ⟨rfl, rfl⟩
  · have hne : ¬ s.data.toList = [] := fun e => h0 (by
      have : s.data.toList.length = s.size := by simp
      rw [e] at this
      exact this.symm)
    have hne2 : ¬ s.toList = [] := by rw [ByteArray.toList_eq]; exact hne
    have hx : (s.toList == ([] : List UInt8)) = false := by
      rw [beq_eq_false_iff_ne]; exact hne2
    by_cases h1 : s.size ≤ 4096
    · have hd : decide (0 < s.size ∧ s.size ≤ 4096) = true := decide_eq_true ⟨by omega, h1⟩
      have hi : (s.size : Int) ≤ 4096 := by omega
      rw [hd]
      clear hd h0
      go_enter Tryz.func26, Tryz.ntmps26
      go_wp2

      go_ret
      exact ⟨rfl, rfl⟩
    · have hd : decide (0 < s.size ∧ s.size ≤ 4096) = false := decide_eq_false (fun h => h1 h.2)
      have hi : ¬ (s.size : Int) ≤ 4096 := by omega
      rw [hd]
      clear hd h0
      go_enter Tryz.func26, Tryz.ntmps26
      go_wp2
      go_ret
      exact ⟨rfl, rfl⟩
end Go.Proofs.YtmlikkjahkdilaaGreatDoor

namespace Go.Proofs.YtmlikkjahkdilaaGreatDoor
open Go.RowKit Go.Maps
/-- the bytes of a block's file -/
def fileB (x : Blk) (d : ByteArray) : ByteArray := if h : d.size ≤ 140737488351232 then fileF x ⟨d, h⟩ else ⟨#[]⟩
theorem fileB_of {x : Blk} {d : ByteArray} (h : d.size ≤ 140737488351232) : fileB x d = fileF x ⟨d, h⟩ := dif_pos h
theorem file_ofB (x : Blk) (hx : okB x) (d : ByteArray) (hd : d.size ≤ 4096) (w : World) (hh : ∀ w', Below w.heap.size w w' → Half w') :
    Calls Tryz.prog 29 #[.agg #[.int .i64 x.a, .int .i64 x.b, .int .i64 x.c], .string d] w fun e w' => e = .returned (.string (fileB x d)) ∧ Below w.heap.size w w' := by
  rw [fileB_of (by omega)]
  exact file_of x hx ⟨d, by omega⟩ hd w hh
def okD (d : ByteArray) : Prop := 0 < d.size ∧ d.size ≤ 4096
instance (d : ByteArray) : Decidable (okD d) := by unfold okD; infer_instance
/-- what a file's bytes hold: the data, and whether it is good -/
def dataR (x : Blk) (f : ByteArray) : ByteArray × Bool :=
  if (allL f.data.toList).2.2 = 0 ∧ (allL f.data.toList).1.length = 2 ∧ okD ⟨((allL f.data.toList).1.getD 1 []).toArray⟩ ∧ f = fileB x ⟨((allL f.data.toList).1.getD 1 []).toArray⟩ then (⟨((allL f.data.toList).1.getD 1 []).toArray⟩, true) else (⟨#[]⟩, false)
theorem hd_size (x : Blk) (d : Txt) (hd : d.1.size ≤ 4096) : (cat (hdP x d (chA 64 d))).length ≤ 1048576 := by
  rw [cat_length]
  have h1 := tot_hdP x d (chA 64 d)
  have h2 := chA_len 64 d.1.size d (Nat.le_refl _)
  omega
theorem fileF_list (x : Blk) (d : Txt) : (fileF x d).data.toList = stream [cat (hdP x d (chA 64 d)), d.1.data.toList] := by
  unfold fileF frT
  simp only [ByteArray.data_append, Array.toList_append, List.toList_toArray]
  show _ = frameL _ ++ (frameL _ ++ [])
  rw [List.append_nil]
theorem all_file (x : Blk) (d : ByteArray) (hd : d.size ≤ 4096) : ∃ h n, allL (fileB x d).data.toList = ([h, d.data.toList], n, 0) := by
  rw [fileB_of (by omega), fileF_list]
  have hs : Small [cat (hdP x ⟨d, by omega⟩ (chA 64 ⟨d, by omega⟩)), d.data.toList] := fun y hy => by
    rcases List.mem_cons.1 hy with rfl | hy
    · exact hd_size x ⟨d, by omega⟩ hd
    · rw [List.mem_singleton.1 hy]
      have : d.data.toList.length = d.size := by simp
      omega
  exact ⟨_, _, all_whole _ hs⟩
theorem back_arr (d : ByteArray) : (⟨d.data.toList.toArray⟩ : ByteArray) = d := by
  apply ByteArray.ext
  exact Array.toArray_toList
theorem dataR_good (x : Blk) (d : ByteArray) (hd : okD d) : dataR x (fileB x d) = (d, true) := by
  obtain ⟨h, n, ha⟩ := all_file x d hd.2
  unfold dataR
  rw [ha]
  have e : (⟨([h, d.data.toList].getD 1 []).toArray⟩ : ByteArray) = d := back_arr d
  have c : (0 : Int) = 0 ∧ [h, d.data.toList].length = 2 ∧ okD ⟨([h, d.data.toList].getD 1 []).toArray⟩ ∧ fileB x d = fileB x ⟨([h, d.data.toList].getD 1 []).toArray⟩ := ⟨rfl, rfl, by rw [e]; exact hd, by rw [e]⟩
  exact (if_pos c).trans (by rw [e])
theorem dataR_bad (x : Blk) (f : ByteArray) (h : ¬ (allL f.data.toList).2.2 = 0) : dataR x f = (⟨#[]⟩, false) := if_neg (fun e => h e.1)
set_option maxRecDepth 100000 in
set_option maxHeartbeats 4000000 in
theorem data_of (x : Blk) (hx : okB x) (f : ByteArray) (hf : f.size ≤ 1099511627776) (w : World) (hh : ∀ w', Below w.heap.size w w' → Half w') :
    Calls Tryz.prog 46 #[.agg #[.int .i64 x.a, .int .i64 x.b, .int .i64 x.c], .string f] w fun e w' => e = .returned (.tuple #[.string (dataR x f).1, .bool (dataR x f).2]) ∧ Below w.heap.size w w' := by
  obtain ⟨wa, hwa⟩ : ∃ wa, wa = w.alloc (.cells #[.int .i64 x.a, .int .i64 x.b, .int .i64 x.c] 23) := ⟨_, rfl⟩
  obtain ⟨q, hq⟩ : ∃ q, q = w.heap.size := ⟨_, rfl⟩
  have hB : Below w.heap.size w wa := by rw [hwa]; exact (Below.refl _ _).alloc (Nat.le_refl _) _
  have hq0 : wa.heap[q]? = some (.cells #[.int .i64 x.a, .int .i64 x.b, .int .i64 x.c] 23 (0, 0)) := by rw [hwa, hq]; exact heap_alloc_new w _
  have HB := Lib.hid (And.intro hB hq0)
  have HH := Lib.hid hh
  have HX := Lib.hid (And.intro hx hf)
  have hall := all_any f wa hf (hh wa hB)
  obtain ⟨bs, hbs⟩ : ∃ bs, bs = (allL f.data.toList).1 := ⟨_, rfl⟩
  obtain ⟨en, hen⟩ : ∃ en, en = (allL f.data.toList).2.1 := ⟨_, rfl⟩
  obtain ⟨er, her⟩ : ∃ er, er = (allL f.data.toList).2.2 := ⟨_, rfl⟩
  have HR : Hid (dataR x f = if er = 0 ∧ bs.length = 2 ∧ okD ⟨(bs.getD 1 []).toArray⟩ ∧ f = fileB x ⟨(bs.getD 1 []).toArray⟩ then ((⟨(bs.getD 1 []).toArray⟩ : ByteArray), true) else ((⟨#[]⟩ : ByteArray), false)) := Lib.hid (by rw [hbs, her]; rfl)
  have HA := Lib.hid (show allL f.data.toList = (bs, en, er) by rw [hbs, hen, her])
  clear hB hq0 hh hx hf hbs hen her
  go_enter Tryz.func46, Tryz.ntmps46
  go_wp2_with (fail)
  rw [← hwa, ← hq]
  clear hwa hq
  refine hall.mono ?_
  intro e w5 hp5
  clear hall
  obtain ⟨ao, cap, rfl, hrow, hb5⟩ := all_post HA.out rfl hp5
  have HB5 := Lib.hid (And.intro (HB.out.1.trans (hb5.mono HB.out.1.size)) ((hb5.block q (Array.getElem?_eq_some_iff.1 HB.out.2).1).trans HB.out.2))
  clear hp5 hb5
  by_cases e0 : er = 0
  · by_cases e1 : bs.length = 2
    · obtain ⟨g, rfl, _, _, hc⟩ := hrow 1 (by omega)
      obtain ⟨z, hz⟩ : ∃ z : ByteArray, z = ⟨(bs.getD 1 []).toArray⟩ := ⟨_, rfl⟩
      have hc2 : w5.cell? ⟨g, 1, none⟩ = some (.string z) := by
        rw [hc, hz]
        have e5 : bs[1] = bs.getD 1 [] := by simp [List.getD, e1]
        rw [e5]
        rfl
      have HV : Hid (dataR x f = if okD z ∧ f = fileB x z then (z, true) else ((⟨#[]⟩ : ByteArray), false)) := Lib.hid (by
        rw [HR.out, ← hz]
        by_cases h : okD z ∧ f = fileB x z
        · rw [if_pos h, if_pos ⟨e0, e1, h⟩]
        · rw [if_neg h, if_neg (fun h2 => h h2.2.2)])
      have hid := is_data z w5
      rw [e0, e1]
      clear hc hrow HR hz HA e0 e1
      go_wp2_with (fail)
      refine hid.mono ?_
      rintro e w6 ⟨rfl, rfl⟩
      clear hid hc2
      by_cases hok : okD z
      · rw [show decide (0 < z.size ∧ z.size ≤ 4096) = true from decide_eq_true hok]
        have hq5 := HB5.out.2
        have x0 : w5.cell? ⟨q, 0, none⟩ = some (.int .i64 x.a) := by simp [World.cell?, hq5]
        have x1 : w5.cell? ⟨q, 1, none⟩ = some (.int .i64 x.b) := by simp [World.cell?, hq5]
        have x2 : w5.cell? ⟨q, 2, none⟩ = some (.int .i64 x.c) := by simp [World.cell?, hq5]
        have hfo := file_ofB x HX.out.1 z hok.2 w5 (fun w' hb => HH.out w' (HB5.out.1.trans (hb.mono HB5.out.1.size)))
        have HO := Lib.hid hok
        obtain ⟨F, hF⟩ : ∃ F, F = fileB x z := ⟨_, rfl⟩
        rw [← hF] at hfo
        have HF := Lib.hid hF
        clear hq5 hok hF
        go_wp2_with (fail)
        refine hfo.mono ?_
        rintro e w6 ⟨rfl, hb6⟩
        have HB6 := Lib.hid (HB5.out.1.trans (hb6.mono HB5.out.1.size))
        clear hfo hb6 x0 x1 x2
        by_cases hfe : f = F
        · have hfe2 : (f.toList == F.toList) = true := by rw [hfe]; simp
          have HV2 : Hid (dataR x f = (z, true)) := Lib.hid (by rw [HV.out, if_pos ⟨HO.out, hfe.trans HF.out⟩])
          clear hfe
          go_wp2_with (fail)
          go_ret2
          exact ⟨by rw [HV2.out]; rfl, HB6.out⟩
        · have hfe2 : (f.toList == F.toList) = false := by
            rw [beq_eq_false_iff_ne]
            intro e
            rw [ByteArray.toList_eq, ByteArray.toList_eq] at e
            exact hfe (ByteArray.ext (Array.toList_inj.1 e))
          have HV2 : Hid (dataR x f = ((⟨#[]⟩ : ByteArray), false)) := Lib.hid (by rw [HV.out, if_neg (fun h => hfe (h.2.trans HF.out.symm))])
          clear hfe
          go_wp2_with (fail)
          go_ret2
          exact ⟨by rw [HV2.out]; rfl, HB6.out⟩
      · rw [show decide (0 < z.size ∧ z.size ≤ 4096) = false from decide_eq_false hok]
        have HV2 : Hid (dataR x f = ((⟨#[]⟩ : ByteArray), false)) := Lib.hid (by rw [HV.out, if_neg (fun h => hok h.1)])
        clear hok
        go_wp2_with (fail)
        go_ret2
        exact ⟨by rw [HV2.out]; rfl, HB5.out.1⟩
    · have HV2 : Hid (dataR x f = ((⟨#[]⟩ : ByteArray), false)) := Lib.hid (by rw [HR.out, if_neg (fun h => e1 h.2.1)])
      have e2 : ¬ ((bs.length : Nat) : Int) = 2 := by omega
      rw [e0]
      clear hrow HR e1
      go_wp2_with (fail)
      go_ret2
      exact ⟨by rw [HV2.out]; rfl, HB5.out.1⟩
  · have HV2 : Hid (dataR x f = ((⟨#[]⟩ : ByteArray), false)) := Lib.hid (by rw [HR.out, if_neg (fun h => e0 h.1)])
    clear hrow HR
    go_wp2_with (fail)
    go_ret2
    exact ⟨by rw [HV2.out]; rfl, HB5.out.1⟩
end Go.Proofs.YtmlikkjahkdilaaGreatDoor

namespace Go.Proofs.YtmlikkjahkdilaaGreatDoor
open Go.RowKit Go.Maps
/-- what the disk's file of a block holds -/
def lookR (L : Fs) (x : Blk) : ByteArray × Bool := match getF L x.nm with
  | none => (⟨#[]⟩, false)
  | some f => dataR x f
/-- what stays of the tables -/
def TabsS (W : World) : Prop := (∀ w', Below W.heap.size W w' → Half w') ∧ ∀ w', Below W.heap.size W w' → Pw w'
section
variable {W w : World} {s p m n nk : Nat} {S : Nat → Prop} {cp : Int} {L : Fs} {K : Blk → Bool}
/-- a block's box beside the store -/
structure BxS (w wa : World) (q : Nat) (x : Blk) : Prop where
  bel : Below w.heap.size w wa
  c0 : wa.cell? ⟨q, 0, none⟩ = some (.int .i64 x.a)
  c1 : wa.cell? ⟨q, 1, none⟩ = some (.int .i64 x.b)
  c2 : wa.cell? ⟨q, 2, none⟩ = some (.int .i64 x.c)
  lt : q < wa.heap.size
  ge : w.heap.size ≤ q
theorem bxs_new (w : World) (x : Blk) : BxS w (w.alloc (.cells #[.int .i64 x.a, .int .i64 x.b, .int .i64 x.c] 23)) w.heap.size x :=
  ⟨(Below.refl _ _).alloc (Nat.le_refl _) _, by simp, by simp, by simp, by simp, Nat.le_refl _⟩
theorem BxS.below {w wa w' : World} {q : Nat} {x : Blk} (h : BxS w wa q x) (hb : Below wa.heap.size wa w') : BxS w w' q x :=
  ⟨h.bel.trans (hb.mono h.bel.size), (hb.cell (p := ⟨q, 0, none⟩) h.lt).trans h.c0, (hb.cell (p := ⟨q, 1, none⟩) h.lt).trans h.c1, (hb.cell (p := ⟨q, 2, none⟩) h.lt).trans h.c2, Nat.lt_of_lt_of_le h.lt hb.size, h.ge⟩
set_option maxRecDepth 100000 in
set_option maxHeartbeats 4000000 in
theorem look_S (x : Blk) (hx : okB x) (h : Hid (SS W w s p m S cp n L [] nk K)) (hT : TabsS W) (hsz : totF L ≤ 1099511627776) :
    Calls Tryz.prog 23 #[.pointer (some ⟨s, 0, none⟩), .agg #[.int .i64 x.a, .int .i64 x.b, .int .i64 x.c]] w fun e w' => e = .returned (.tuple #[.string (lookR L x).1, .bool (lookR L x).2]) ∧ Below w.heap.size w w' := by
  obtain ⟨wa, hwa⟩ : ∃ wa, wa = w.alloc (.cells #[.int .i64 x.a, .int .i64 x.b, .int .i64 x.c] 23) := ⟨_, rfl⟩
  obtain ⟨q, hq⟩ : ∃ q, q = w.heap.size := ⟨_, rfl⟩
  have HX : Hid (BxS w wa q x) := Lib.hid (by rw [hwa, hq]; exact bxs_new w x)
  have hA := h.out.below HX.out.bel
  have hWa : ∀ w', Below wa.heap.size wa w' → Below W.heap.size W w' := fun w' hb => hA.dk.bel.trans (hb.mono hA.dk.bel.size)
  obtain ⟨N, hN⟩ : ∃ N, N = x.nm := ⟨_, rfl⟩
  have hNs : N.size ≤ maxLen := by rw [hN]; exact Nat.le_trans (blk_size hx) (by unfold maxLen; decide)
  have hnm : ∀ w', Below wa.heap.size wa w' → Calls Tryz.prog 30 #[.agg #[.int .i64 x.a, .int .i64 x.b, .int .i64 x.c]] w' fun e w'' => e = .returned (.string N) ∧ Below w'.heap.size w' w'' := fun w' hb => by rw [hN]; exact file_name x hx w' (hT.2 w' (hWa w' hb))
  obtain ⟨X, hX⟩ : ∃ X, X = rdS L N := ⟨_, rfl⟩
  obtain ⟨Y, hY⟩ : ∃ Y : Int, Y = rdE L N := ⟨_, rfl⟩
  have hrd : ∀ w', Below wa.heap.size wa w' → Calls Tryz.prog 45 #[.pointer (some ⟨p, 0, none⟩), .string N] w' fun e w'' => e = .returned (.tuple #[.string X, .int .i64 Y]) ∧ w' = w'' := fun w' hb => by
    have h9 := read_K N (Lib.hid (hA.below hb).dk) hNs
    rw [held_nil, ← hX, ← hY] at h9
    exact h9
  have hcc : ∀ w', Below wa.heap.size wa w' → w'.cell? ⟨s, 0, none⟩ = some (.pointer (some ⟨p, 0, none⟩)) := fun w' hb => (hA.below hb).c0
  have HC := Lib.hid (And.intro hnm (And.intro hrd hcc))
  have HXY := Lib.hid (And.intro hX (And.intro hY hN))
  have HW := Lib.hid hWa
  have HT := Lib.hid hT
  have HZ := Lib.hid hsz
  have HO := Lib.hid hx
  have hb0 : Below wa.heap.size wa wa.drew := (Below.refl _ _).drew
  have hS0 := hcc wa.drew hb0
  have b0 := (HX.out.below (Below.refl _ _).drew).c0
  have b1 := (HX.out.below (Below.refl _ _).drew).c1
  have b2 := (HX.out.below (Below.refl _ _).drew).c2
  clear hnm hrd hcc hX hY hN hWa hA hNs hsz hT hx h
  go_enter Tryz.func23, Tryz.ntmps23
  go_upto_region 1 with (fail)
  rw [← hwa, ← hq]
  clear hwa hq
  go_cut [6, 7] (fun s6 s7 wx => s6 = .string X ∧ s7 = .int .i64 Y ∧ Hid (Below wa.heap.size wa wx))
  case first =>
    go_region_held3 (fun w' => w'.cell? ⟨s, 0, none⟩ = some (.pointer (some ⟨p, 0, none⟩)) ∧ w'.cell? ⟨q, 0, none⟩ = some (.int .i64 x.a) ∧ w'.cell? ⟨q, 1, none⟩ = some (.int .i64 x.b) ∧ w'.cell? ⟨q, 2, none⟩ = some (.int .i64 x.c)) (first | assumption | exact ⟨by assumption, by assumption, by assumption, by assumption⟩)
      (first
        | (go_at_call 45; with_reducible refine (HC.out.2.1 _ (by first | exact hB6)).mono ?_; rintro e w7 ⟨rfl, rfl⟩)
        | (go_at_call 30; with_reducible refine (HC.out.1 _ (by first | exact hb0)).mono ?_; rintro e w6 ⟨rfl, hb6⟩; have hB6 : Below wa.heap.size wa w6 := hb0.trans (hb6.mono hb0.size); have hS6 := HC.out.2.2 _ hB6; have hS7 := (HX.out.below hB6).c0; have hS8 := (HX.out.below hB6).c1; have hS9 := (HX.out.below hB6).c2))
    all_goals try go_wp2
    all_goals try go_meet
    all_goals exact ⟨rfl, rfl, Lib.hid hB6⟩
  case rest =>
    obtain ⟨rfl, rfl, HB⟩ := hcut
    clear hS0 b0 b1 b2 HC hb0
    rcases (show (Y = 41 ∧ lookR L x = (⟨#[]⟩, false)) ∨ (Y = 0 ∧ X.size ≤ 1099511627776 ∧ lookR L x = dataR x X) by
      obtain ⟨h1, h2, h3⟩ := HXY.out
      unfold lookR
      rw [← h3, h1, h2]
      unfold rdS rdE
      cases hg : getF L N with
      | none => exact .inl ⟨rfl, rfl⟩
      | some f => exact .inr ⟨rfl, Nat.le_trans (size_le_tot hg) HZ.out, rfl⟩) with ⟨hy, hr⟩ | ⟨hy, hxs, hr⟩
    · have HR := Lib.hid hr
      rw [hy]
      clear hy hr
      go_wp2_with (fail)
      go_ret2
      exact ⟨by rw [HR.out]; rfl, HX.out.bel.trans (HB.out.mono HX.out.bel.size)⟩
    · have HR := Lib.hid hr
      have hda := data_of x HO.out X hxs wc (fun w' hb => HT.out.1 w' (HW.out w' (HB.out.trans (hb.mono HB.out.size))))
      obtain ⟨r1, hr1⟩ : ∃ r1, r1 = (dataR x X).1 := ⟨_, rfl⟩
      obtain ⟨r2, hr2⟩ : ∃ r2, r2 = (dataR x X).2 := ⟨_, rfl⟩
      rw [← hr1, ← hr2] at hda
      have HR2 : Hid (lookR L x = (r1, r2)) := Lib.hid (by rw [HR.out, hr1, hr2])
      have b0 := (HX.out.below HB.out).c0
      have b1 := (HX.out.below HB.out).c1
      have b2 := (HX.out.below HB.out).c2
      rw [hy]
      clear hy hr hxs hr1 hr2
      go_wp2_with (fail)
      refine hda.mono ?_
      rintro e w6 ⟨rfl, hb6⟩
      have HE := Lib.hid (HX.out.bel.trans ((HB.out.trans (hb6.mono HB.out.size)).mono HX.out.bel.size))
      clear hda hb6 b0 b1 b2
      go_wp2_with (fail)
      go_ret2
      exact ⟨by rw [HR2.out]; rfl, HE.out⟩
set_option maxRecDepth 100000 in
set_option maxHeartbeats 4000000 in
theorem good_S (x : Blk) (hx : okB x) (h : Hid (SS W w s p m S cp n L [] nk K)) (hT : TabsS W) (hsz : totF L ≤ 1099511627776) :
    Calls Tryz.prog 19 #[.pointer (some ⟨s, 0, none⟩), .agg #[.int .i64 x.a, .int .i64 x.b, .int .i64 x.c]] w fun e w' => e = .returned (.bool (lookR L x).2) ∧ Below w.heap.size w w' := by
  obtain ⟨wa, hwa⟩ : ∃ wa, wa = w.alloc (.cells #[.int .i64 x.a, .int .i64 x.b, .int .i64 x.c] 23) := ⟨_, rfl⟩
  have hB : Below w.heap.size w wa := by rw [hwa]; exact (Below.refl _ _).alloc (Nat.le_refl _) _
  have hlo := look_S x hx (Lib.hid (h.out.below hB)) hT hsz
  obtain ⟨r1, hr1⟩ : ∃ r1, r1 = (lookR L x).1 := ⟨_, rfl⟩
  obtain ⟨r2, hr2⟩ : ∃ r2, r2 = (lookR L x).2 := ⟨_, rfl⟩
  rw [← hr1, ← hr2] at hlo
  rw [← hr2]
  have HB := Lib.hid hB
  clear hr1 hr2 hB h hT hsz
  go_enter Tryz.func19, Tryz.ntmps19
  go_wp2_with (fail)
  rw [← hwa]
  clear hwa
  refine hlo.mono ?_
  rintro e w6 ⟨rfl, hb6⟩
  have HE := Lib.hid (HB.out.trans (hb6.mono HB.out.size))
  clear hlo hb6
  go_wp2_with (fail)
  go_ret
  exact ⟨rfl, HE.out⟩
/-- what comparing answers -/
def cmpR (L : Fs) (x : Blk) (d : ByteArray) : Int := if (lookR L x).2 = true ∧ (lookR L x).1 = d then 0 else 42
set_option maxRecDepth 100000 in
set_option maxHeartbeats 4000000 in
theorem compare_S (x : Blk) (hx : okB x) (d : ByteArray) (h : Hid (SS W w s p m S cp n L [] nk K)) (hT : TabsS W) (hsz : totF L ≤ 1099511627776) :
    Calls Tryz.prog 27 #[.pointer (some ⟨s, 0, none⟩), .agg #[.int .i64 x.a, .int .i64 x.b, .int .i64 x.c], .string d] w fun e w' => e = .returned (.int .i64 (cmpR L x d)) ∧ Below w.heap.size w w' := by
  obtain ⟨wa, hwa⟩ : ∃ wa, wa = w.alloc (.cells #[.int .i64 x.a, .int .i64 x.b, .int .i64 x.c] 23) := ⟨_, rfl⟩
  have hB : Below w.heap.size w wa := by rw [hwa]; exact (Below.refl _ _).alloc (Nat.le_refl _) _
  have hlo := look_S x hx (Lib.hid (h.out.below hB)) hT hsz
  obtain ⟨r1, hr1⟩ : ∃ r1, r1 = (lookR L x).1 := ⟨_, rfl⟩
  obtain ⟨r2, hr2⟩ : ∃ r2, r2 = (lookR L x).2 := ⟨_, rfl⟩
  have HC : Hid (cmpR L x d = if r2 = true ∧ r1 = d then 0 else 42) := Lib.hid (by rw [hr1, hr2]; rfl)
  rw [← hr1, ← hr2] at hlo
  have HB := Lib.hid hB
  clear hr1 hr2 hB h hT hsz
  go_enter Tryz.func27, Tryz.ntmps27
  go_wp2_with (fail)
  rw [← hwa]
  clear hwa
  refine hlo.mono ?_
  rintro e w6 ⟨rfl, hb6⟩
  have HE := Lib.hid (HB.out.trans (hb6.mono HB.out.size))
  clear hlo hb6
  cases r2 with
  | false =>
    go_wp2_with (fail)
    go_ret
    exact ⟨by rw [HC.out, if_neg (fun h => by cases h.1)]; rfl, HE.out⟩
  | true =>
    by_cases he : r1 = d
    · have he2 : (r1.toList == d.toList) = true := by rw [he]; simp
      have HC2 : Hid (cmpR L x d = 0) := Lib.hid (by rw [HC.out, if_pos ⟨rfl, he⟩])
      clear he
      go_wp2_with (fail)
      go_ret
      exact ⟨by rw [HC2.out]; rfl, HE.out⟩
    · have he2 : (r1.toList == d.toList) = false := by
        rw [beq_eq_false_iff_ne]
        intro e
        rw [ByteArray.toList_eq, ByteArray.toList_eq] at e
        exact he (ByteArray.ext (Array.toList_inj.1 e))
      have HC2 : Hid (cmpR L x d = 42) := Lib.hid (by rw [HC.out, if_neg (fun h => he h.2)])
      clear he
      go_wp2_with (fail)
      go_ret
      exact ⟨by rw [HC2.out]; rfl, HE.out⟩
end
end Go.Proofs.YtmlikkjahkdilaaGreatDoor

namespace Go.Proofs.YtmlikkjahkdilaaGreatDoor
open Go.RowKit Go.Maps
def newS : ByteArray := ⟨#[110, 101, 119]⟩
theorem nm_ne_new (x : Blk) : ¬ newS = x.nm := fun e => by
  have h1 := congrArg (fun y : ByteArray => y.data.toList) e
  simp only [blk_list] at h1
  injection h1 with h1 _
  exact absurd h1 (by decide)
theorem nm_pos (x : Blk) : 1 ≤ x.nm.size := by
  unfold Blk.nm blkS
  simp only [ByteArray.size_append]
  have e1 : (⟨#[98, 108, 107, 45]⟩ : ByteArray).size = 4 := rfl
  omega
theorem dash_inj {a b : Nat} {r t : List UInt8} (h : Lib.decDigits a ++ 45 :: r = Lib.decDigits b ++ 45 :: t) : a = b ∧ r = t := by
  have h1 := index_dash (Lib.decDigits a) r (no_dash a)
  rw [h, index_dash (Lib.decDigits b) t (no_dash b)] at h1
  obtain ⟨e1, e2⟩ := List.append_inj h (by omega)
  injection e2 with _ e2
  exact ⟨digits_inj e1, e2⟩
theorem nm_inj {x y : Blk} (h : x.nm = y.nm) : x = y := by
  have h1 := congrArg (fun z : ByteArray => z.data.toList) h
  simp only [blk_list] at h1
  obtain ⟨e1, h2⟩ := dash_inj (List.append_cancel_left h1)
  obtain ⟨e2, h3⟩ := dash_inj h2
  have e3 := digits_inj h3
  obtain ⟨a, b, c⟩ := x
  obtain ⟨a', b', c'⟩ := y
  simp only at e1 e2 e3
  rw [e1, e2, e3]
/-- the files behind a replica's being laid -/
def wrL (L : Fs) (x : Blk) (f : ByteArray) : Fs := held (held L [.app newS f]) [.ren newS x.nm]
theorem get_wrL (L : Fs) (x : Blk) (f q : ByteArray) (ht : getF L newS = none) : getF (wrL L x f) q = if q = newS then none else if q = x.nm then some f else getF L q := by
  have hne := nm_ne_new x
  show getF (delF (putF (putF L newS (orE (getF L newS) ++ f)) x.nm (orE (getF (putF L newS (orE (getF L newS) ++ f)) newS))) newS) q = _
  rw [getF_delF, getF_putF, getF_putF, getF_putF, if_pos rfl, ht]
  by_cases h1 : q = newS
  · rw [if_pos h1, if_pos h1]
  · rw [if_neg h1, if_neg h1]
    by_cases h2 : q = x.nm
    · rw [if_pos h2, if_pos h2]
      simp [orE]
      exact h1
    · rw [if_neg h2, if_neg h2, if_neg h1]
theorem srt_wrL {L : Fs} (h : SrtF L) (x : Blk) (f : ByteArray) : SrtF (wrL L x f) := srt_held (srt_held h _) _
theorem tot_app1 {L : Fs} (h : SrtF L) (f : ByteArray) : totF (held L [.app newS f]) = totF L + f.size := by
  have := tot_app L [] h newS f
  rwa [List.nil_append, held_nil] at this
theorem tot_wrL {L : Fs} (h : SrtF L) (x : Blk) (f : ByteArray) (ht : getF L newS = none) (hn : getF L x.nm = none) : totF (wrL L x f) = totF L + f.size := by
  have h1 := tot_app1 h f
  have hs := srt_held h [.app newS f]
  have e1 : getF (held L [.app newS f]) newS = some (orE (getF L newS) ++ f) := by
    show getF (putF L newS _) newS = _
    rw [getF_putF, if_pos rfl]
  have e2 : getF (held L [.app newS f]) x.nm = none := by
    show getF (putF L newS _) x.nm = _
    rw [getF_putF, if_neg (fun e => nm_ne_new x e.symm), hn]
  have h2 := tot_ren (held L [.app newS f]) [] hs (a := newS) (b := x.nm) (by rw [held_nil, e1]; rfl) (by rw [held_nil, e2]; rfl)
  rw [List.nil_append, held_nil] at h2
  unfold wrL
  omega
theorem len_wrL (L : Fs) (x : Blk) (f : ByteArray) : (wrL L x f).length ≤ L.length + 2 := by
  have h1 := len_held (held L [.app newS f]) [.ren newS x.nm]
  have h2 := len_held L [.app newS f]
  simp only [List.length_cons, List.length_nil] at h1 h2
  unfold wrL
  omega
theorem file_size (x : Blk) (d : ByteArray) (hd : d.size ≤ 4096) : (fileB x d).size ≤ 50000 := by
  rw [fileB_of (by omega)]
  have h1 : (fileF x ⟨d, by omega⟩).data.toList.length = (fileF x ⟨d, by omega⟩).size := by simp
  rw [fileF_list] at h1
  have h2 := tot_hdP x ⟨d, by omega⟩ (chA 64 ⟨d, by omega⟩)
  have h3 : (chA 64 ⟨d, by omega⟩).length ≤ d.size := chA_len 64 d.size ⟨d, by omega⟩ (Nat.le_refl _)
  have h4 : d.data.toList.length = d.size := by simp
  simp only [stream, List.length_append, frameL_length, cat_length, List.length_nil] at h1
  omega
/-- what a call of the store turns: its disk's blocks, its map -/
structure Frm (w w' : World) (S S' : Nat → Prop) (m : Nat) : Prop where
  t : Tch w w' (fun b => S b ∨ b = m)
  s : ∀ b, S' b → S b ∨ w.heap.size ≤ b
theorem Frm.bel {w w' : World} (S : Nat → Prop) (m : Nat) (hb : Below w.heap.size w w') : Frm w w' S S m := ⟨tch_below _ hb, fun _ h => .inl h⟩
theorem Frm.trans {w w1 w2 : World} {S S1 S2 : Nat → Prop} {m : Nat} (h : Frm w w1 S S1 m) (k : Frm w1 w2 S1 S2 m) : Frm w w2 S S2 m :=
  ⟨⟨k.t.os.trans h.t.os, k.t.tape.trans h.t.tape, k.t.output.trans h.t.output, Nat.le_trans h.t.size k.t.size, fun b hb hn => (k.t.block b (Nat.lt_of_lt_of_le hb h.t.size) (fun e => e.elim (fun e => (h.s b e).elim (fun e => hn (.inl e)) (fun e => by omega)) (fun e => hn (.inr e)))).trans (h.t.block b hb hn)⟩,
    fun b hb => (k.s b hb).elim (fun e => h.s b e) (fun e => .inr (Nat.le_trans h.t.size e))⟩
theorem Frm.disk {w w' : World} {S : Nat → Prop} (m : Nat) (t : Tch w w' S) : Frm w w' S (grow S w w') m := ⟨⟨t.os, t.tape, t.output, t.size, fun b hb hn => t.block b hb (fun e => hn (.inl e))⟩, fun _ hb => hb.imp id (fun h => h.1)⟩
theorem Frm.map {w w' : World} (S : Nat → Prop) {m : Nat} (g : w.grownBy w' (some m)) : Frm w w' S S m := ⟨⟨g.os, g.tape, g.output, g.size, fun b hb hn => g.block b hb (fun e => by injection e with e; exact hn (.inr e))⟩, fun _ h => .inl h⟩
/-- a store in the midst of a call, a block's box beside it -/
structure WS (W w wr : World) (s p m : Nat) (S0 S : Nat → Prop) (cp : Int) (n : Nat) (L : Fs) (cs : List Chg) (nk : Nat) (K : Blk → Bool) (q : Nat) (x : Blk) : Prop where
  ss : SS W wr s p m S cp n L cs nk K
  c0 : wr.cell? ⟨q, 0, none⟩ = some (.int .i64 x.a)
  c1 : wr.cell? ⟨q, 1, none⟩ = some (.int .i64 x.b)
  c2 : wr.cell? ⟨q, 2, none⟩ = some (.int .i64 x.c)
  lt : q < wr.heap.size
  nq : ¬ S q
  qm : ¬ q = m
  fr : Frm w wr S0 S m
section
variable {W w wr w' : World} {s p m n nk q : Nat} {S0 S : Nat → Prop} {cp : Int} {L : Fs} {cs : List Chg} {K : Blk → Bool} {x : Blk}
theorem ws_new (h : SS W w s p m S cp n L cs nk K) : WS W w (w.alloc (.cells #[.int .i64 x.a, .int .i64 x.b, .int .i64 x.c] 23)) s p m S S cp n L cs nk K w.heap.size x :=
  have hb : Below w.heap.size w (w.alloc (.cells #[.int .i64 x.a, .int .i64 x.b, .int .i64 x.c] 23)) := (Below.refl _ _).alloc (Nat.le_refl _) _
  ⟨h.below hb, by simp, by simp, by simp, by simp, fun e => by have := (h.dk.m.own _ e).2; omega, fun e => by have := h.ml; omega, Frm.bel S m hb⟩
theorem WS.below (h : WS W w wr s p m S0 S cp n L cs nk K q x) (hb : Below wr.heap.size wr w') : WS W w w' s p m S0 S cp n L cs nk K q x :=
  ⟨h.ss.below hb, (hb.cell (p := ⟨q, 0, none⟩) h.lt).trans h.c0, (hb.cell (p := ⟨q, 1, none⟩) h.lt).trans h.c1, (hb.cell (p := ⟨q, 2, none⟩) h.lt).trans h.c2, Nat.lt_of_lt_of_le h.lt hb.size, h.nq, h.qm, h.fr.trans (Frm.bel S m hb)⟩
theorem WS.disk (h : WS W w wr s p m S0 S cp n L cs nk K q x) {n' : Nat} {L' : Fs} {cs' : List Chg} (hd : DK W w' p (grow S wr w') cp n' L' cs') (t : Tch wr w' S) : WS W w w' s p m S0 (grow S wr w') cp n' L' cs' nk K q x :=
  have e := t.block q h.lt h.nq
  ⟨h.ss.disk hd t, (cell_eq e 0).trans h.c0, (cell_eq e 1).trans h.c1, (cell_eq e 2).trans h.c2, Nat.lt_of_lt_of_le h.lt t.size, fun e => e.elim h.nq (fun e => by have := h.lt; omega), h.qm, h.fr.trans (Frm.disk m t)⟩
theorem WS.map (h : WS W w wr s p m S0 S cp n L cs nk K q x) {nk' : Nat} {K' : Blk → Bool} (g : wr.grownBy w' (some m)) (ho : ∃ D, OwnB w' m nk' D ∧ ∀ x, okB x → Maps.has D (kb x) = K' x) : WS W w w' s p m S0 S cp n L cs nk' K' q x :=
  have e := g.block q h.lt (by intro e; injection e with e; exact h.qm e)
  ⟨h.ss.map g ho, (cell_eq e 0).trans h.c0, (cell_eq e 1).trans h.c1, (cell_eq e 2).trans h.c2, Nat.lt_of_lt_of_le h.lt g.size, h.nq, h.qm, h.fr.trans (Frm.map S g)⟩
theorem put_own (h : SS W w s p m S cp n L cs nk K) (hx : okB x) (hn : nk < maxLen) : ∃ w', (Instr.mapUpdate 44 (.map (some m)) (.agg #[.int .i64 x.a, .int .i64 x.b, .int .i64 x.c]) (.agg #[])).run Tryz.prog w = .ok () w' ∧ w.grownBy w' (some m) ∧ ∃ D, OwnB w' m (nk + 1) D ∧ ∀ y, okB y → Maps.has D (kb y) = (K y || decide (y = x)) := by
  obtain ⟨D, h1, h2⟩ := h.own
  obtain ⟨w', hrun, hown, hg⟩ := h1.update blkLaw Tryz.underlying44 hn (keyOf_b hx) (val := .agg #[]) unitElem_mk
  refine ⟨w', hrun, hg, _, hown, fun y hy => ?_⟩
  by_cases e : y = x
  · rw [e, has_put_same (k := kb x) h1.isMap (show WideAt.IsKeyLit (kb x) from trivial)]
    simp
  · rw [has_put_other (fun e2 => e (kb_inj hy hx e2)), h2 y hy]
    simp [e]
end
end Go.Proofs.YtmlikkjahkdilaaGreatDoor

