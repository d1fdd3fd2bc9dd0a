/- The reference's disk over a set of blocks: New, Used, Read; a change more, Append; Delete, Rename; what lasts is laid anew, the changes forgotten. -/
import Derived.Test.YtjlhnacdfpbchaaDkRefD
namespace Go.Proofs.Ytjlhnacdfpbchaa
open Go.RowKit Go.Maps

abbrev BearR (w : World) (b : Nat) : Prop := ∃ cs, w.heap[b]? = some (.cells cs 50 (0, 0))
theorem bear_tch {w w' : World} {S : Nat → Prop} {b : Nat} (h : BearR w b) (t : Tch w w' S) (hn : ¬ S b) : BearR w' b := by
  obtain ⟨cs, h⟩ := h
  exact ⟨cs, (t.block b (Array.getElem?_eq_some_iff.1 h).1 hn).trans h⟩
theorem bear_set {w : World} {p i : Nat} (v : Value) (h : BearR w p) : BearR (w.setCell ⟨p, i, none⟩ v) p := by
  obtain ⟨cs, h⟩ := h
  simp [BearR, World.setCell, Array.getElem?_modify, h]
theorem bear_free {w : World} {p : Nat} (h : BearR w p) (i : Nat) : w.frozen? ⟨p, i, none⟩ = false := by
  obtain ⟨cs, h⟩ := h
  simp [World.frozen?, h]
/-- the reference's disk at p, in the blocks of S, beside w0 -/
structure RS (w0 w : World) (p : Nat) (S : Nat → Prop) (cap : Int) (L : Fs) (cs : List Chg) : Prop where
  bel : Below w0.heap.size w0 w
  hp : S p
  own : ∀ b, S b → w0.heap.size ≤ b ∧ b < w.heap.size
  srt : SrtF L
  ok : ∀ c ∈ cs, okC c
  ty : BearR w p
  st : ∃ v u, RDk w p cap v u L cs ∧ (∀ b, v.ownBlock = some b → S b) ∧ (∀ b, u.ownBlock = some b → S b)
theorem FV.tch {B : Nat} {w w' : World} {v : Value} {L : Fs} {S : Nat → Prop} (h : FV B w v L) (t : Tch w w' S) (hn : ∀ b, v.ownBlock = some b → ¬ S b) : FV B w' v L := ⟨row_tch h.row t hn⟩
theorem CV.tch {B : Nat} {w w' : World} {v : Value} {L : List Chg} {S : Nat → Prop} (h : CV B w v L) (t : Tch w w' S) (hn : ∀ b, v.ownBlock = some b → ¬ S b) : CV B w' v L := ⟨row_tch h.row t hn⟩
theorem RS.tch {w0 w w' : World} {p : Nat} {S S' : Nat → Prop} {cap : Int} {L : Fs} {cs : List Chg} (h : RS w0 w p S cap L cs) (t : Tch w w' S') (hd : ∀ b, S b → ¬ S' b) (hS : ∀ b, S' b → w0.heap.size ≤ b) : RS w0 w' p S cap L cs := by
  obtain ⟨v, u, h1, h2, h3⟩ := h.st
  have e := t.block p h1.lt (hd p h.hp)
  exact ⟨bel_tch2 h.bel t hS, h.hp, fun b hb => ⟨(h.own b hb).1, Nat.lt_of_lt_of_le (h.own b hb).2 t.size⟩, h.srt, h.ok, bear_tch h.ty t (hd p h.hp), v, u,
    ⟨Nat.lt_of_lt_of_le h1.lt t.size, (cell_eq e 0).trans h1.c0, (cell_eq e 1).trans h1.c1, (cell_eq e 2).trans h1.c2, h1.fv.tch t (fun b hb => hd b (h2 b hb)), h1.cv.tch t (fun b hb => hd b (h3 b hb))⟩, h2, h3⟩
theorem RS.below {w0 w w' : World} {p : Nat} {S : Nat → Prop} {cap : Int} {L : Fs} {cs : List Chg} (h : RS w0 w p S cap L cs) (hb : Below w.heap.size w w') : RS w0 w' p S cap L cs :=
  h.tch (tch_below (fun _ => False) hb) (fun _ _ e => e) (fun _ e => e.elim)
theorem RS.wide {w0 w w' : World} {p : Nat} {S : Nat → Prop} {cap : Int} {L : Fs} {cs : List Chg} (h : RS w0 w p S cap L cs) (hb : Below w.heap.size w w') : RS w0 w' p (grow S w w') cap L cs := by
  have h1 := h.below hb
  obtain ⟨v, u, h3, h4, h5⟩ := h1.st
  exact ⟨h1.bel, .inl h1.hp, grow_own h.own h.bel.size hb.size, h1.srt, h1.ok, h1.ty, v, u, h3, fun b q => .inl (h4 b q), fun b q => .inl (h5 b q)⟩
/-- what its size keeps -/
structure SzK (L : Fs) (cs : List Chg) : Prop where
  len : L.length + cs.length ≤ 1099511627775
  tot : totF L + wts cs ≤ 140737488355328
theorem RS.dok {w0 w : World} {p : Nat} {S : Nat → Prop} {cap : Int} {L : Fs} {cs : List Chg} (h : RS w0 w p S cap L cs) (k : SzK L cs) : DOk L cs := ⟨h.srt, h.ok, k.len, k.tot⟩
theorem heldS {w0 w : World} {p : Nat} {S : Nat → Prop} {cap : Int} {L : Fs} {cs : List Chg} (h : RS w0 w p S cap L cs) (k : SzK L cs) :
    Calls Try.prog 23 #[.pointer (some ⟨p, 0, none⟩)] w fun e w' => ∃ o, e = .returned o ∧ Hid (FV 0 w' o (held L cs) ∧ Below w.heap.size w w') := by
  obtain ⟨v, u, h1, _⟩ := h.st
  exact held_R h1 (h.dok k)
theorem len_heldS {L : Fs} {cs : List Chg} (k : SzK L cs) : (held L cs).length ≤ 1099511627775 := Nat.le_trans (len_held L cs) k.len
theorem tot_heldS {L : Fs} {cs : List Chg} (hs : SrtF L) (ho : ∀ c ∈ cs, okC c) (k : SzK L cs) : totF (held L cs) ≤ 140737488355328 := Nat.le_trans (tot_held hs cs ho) k.tot
theorem totF_take (L : Fs) (k : Nat) (x : Fl) (h : L[k]? = some x) : totF (L.take (k + 1)) = totF (L.take k) + x.d.size := by
  rw [List.take_add_one, h, totF, List.map_append, List.sum_append]; simp [totF]
theorem tot_take_le (L : Fs) (k : Nat) : totF (L.take k) ≤ totF L := by
  have e : totF L = totF (L.take k) + totF (L.drop k) := by
    conv => lhs; rw [← List.take_append_drop k L]
    rw [totF, List.map_append, List.sum_append]; rfl
  omega
set_option maxRecDepth 100000 in
set_option maxHeartbeats 4000000 in
theorem used_R {w0 w : World} {p : Nat} {S : Nat → Prop} {cap : Int} {L : Fs} {cs : List Chg} (h : Hid (RS w0 w p S cap L cs)) (k : SzK L cs) :
    Calls Try.prog 26 #[.pointer (some ⟨p, 0, none⟩)] w fun e w' => e = .returned (.int .i64 (totF (held L cs))) ∧ Below w.heap.size w w' := by
  have HC := Lib.hid (heldS h.out k)
  have hLi : ((held L cs).length : Int) ≤ 9223372036854775807 := by have := len_heldS k; omega
  have HT := Lib.hid (tot_heldS h.out.srt h.out.ok k)
  clear k
  generalize held L cs = H at *
  go_enter Try.func26, Try.ntmps26
  go_wp2_with (fail)
  refine HC.out.mono ?_
  rintro e w1 ⟨o, rfl, H1⟩
  obtain ⟨a, c, rfl⟩ := H1.out.1.slice
  go_wp2
  go_loopw [3, 5] (fun n i wr => ∃ k : Nat, k ≤ H.length ∧ i = .int .i64 k ∧ n = .int .i64 (totF (H.take k)) ∧ Hid (Below w1.heap.size w1 wr)) (fun _ i _ => H.length - (intOf i).toNat)
  case atStart => exact ⟨0, Nat.zero_le _, rfl, rfl, Lib.hid (Below.refl _ _)⟩
  case round =>
    obtain ⟨k, hk, rfl, rfl, HB⟩ := hrel
    by_cases hkn : k < H.length
    · obtain ⟨x, hx⟩ : ∃ x, H[k]? = some x := ⟨_, List.getElem?_eq_getElem hkn⟩
      obtain ⟨g, cap2, e, d0, d1⟩ := (H1.out.1.below HB.out).cells hx
      injection e with e1 _ e3
      subst e1
      subst e3
      have hkn' : (k : Int) < H.length := by omega
      have hto := totF_take H k x hx
      have htl := tot_take_le H (k + 1)
      have hto' : ((totF (H.take k) : Nat) : Int) + (x.d.size : Int) = ((totF (H.take (k + 1)) : Nat) : Int) := by rw [hto]; simp
      have hin : ((totF (H.take k) : Nat) : Int) + (x.d.size : Int) ≤ 9223372036854775807 := by have := HT.out; omega
      have HTO := Lib.hid hto'
      clear hx hto htl hto'
      go_wp2
      go_roundw
      case rel => exact ⟨k + 1, by omega, by simp, by rw [← HTO.out], HB⟩
      case measure => simp [intOf]; omega
    · obtain rfl : k = H.length := by omega
      have hk3 : decide (((H.length : Nat) : Int) < (H.length : Int)) = false := by simp
      clear hkn hk
      go_wp2
      go_ret
      exact ⟨by rw [List.take_length]; rfl, H1.out.2.trans (HB.out.mono H1.out.2.size)⟩
set_option maxRecDepth 100000 in
set_option maxHeartbeats 4000000 in
theorem read_R {w0 w : World} {p : Nat} {S : Nat → Prop} {cap : Int} {L : Fs} {cs : List Chg} (q : ByteArray) (h : Hid (RS w0 w p S cap L cs)) (k : SzK L cs) :
    Calls Try.prog 22 #[.pointer (some ⟨p, 0, none⟩), .string q] w fun e w' => e = .returned (.tuple #[.string (rdS (held L cs) q), .int .i64 (rdE (held L cs) q)]) ∧ Below w.heap.size w w' := by
  have HC := Lib.hid (heldS h.out k)
  have HLN := Lib.hid (len_heldS k)
  clear k
  have HS : Hid (rdS (held L cs) q = orE (getF (held L cs) q) ∧ rdE (held L cs) q = if (getF (held L cs) q).isSome then 0 else 41) := Lib.hid ⟨rfl, rfl⟩
  generalize rdS (held L cs) q = rs at *
  generalize rdE (held L cs) q = re at *
  generalize held L cs = H at *
  go_enter Try.func22, Try.ntmps22
  go_wp2_with (fail)
  refine HC.out.mono ?_
  rintro e w1 ⟨o, rfl, H1⟩
  have HFD := Lib.hid (find_any q H1.out.1 (by have := HLN.out; omega))
  go_wp2_with (fail)
  refine HFD.out.mono ?_
  rintro e w2 ⟨rfl, hb2⟩
  have HB := Lib.hid (H1.out.2.trans (hb2.mono H1.out.2.size))
  rcases old_at H1.out.1 hb2 (q := q) with ⟨hg, hfd⟩ | ⟨x, gg, c, hg, hfd, hlt, rfl, hcell⟩
  · rw [hfd]
    have HV : Hid (rs = ByteArray.empty ∧ re = 41) := Lib.hid (by rw [HS.out.1, HS.out.2, hg]; exact ⟨rfl, rfl⟩)
    clear hfd hg HS hb2
    go_wp2
    go_ret2
    exact ⟨by rw [HV.out.1, HV.out.2]; rfl, HB.out⟩
  · rw [hfd]
    have hlt' : (fdN H q : Int) < (H.length : Int) := by omega
    have hge : ¬ (fdN H q : Int) < 0 := by omega
    have HV : Hid (rs = x ∧ re = 0) := Lib.hid (by rw [HS.out.1, HS.out.2, hg]; exact ⟨rfl, rfl⟩)
    clear hfd hg HS hb2
    go_wp2
    go_ret2
    exact ⟨by rw [HV.out.1, HV.out.2]; rfl, HB.out⟩
theorem rnew_cells (w : World) (c : Int) : w.heap.size < (w.alloc (.cells #[.int .i64 c, .slice none 0 0, .slice none 0 0] 50)).heap.size
    ∧ (w.alloc (.cells #[.int .i64 c, .slice none 0 0, .slice none 0 0] 50)).cell? ⟨w.heap.size, 0, none⟩ = some (.int .i64 c)
    ∧ (w.alloc (.cells #[.int .i64 c, .slice none 0 0, .slice none 0 0] 50)).cell? ⟨w.heap.size, 1, none⟩ = some (.slice none 0 0)
    ∧ (w.alloc (.cells #[.int .i64 c, .slice none 0 0, .slice none 0 0] 50)).cell? ⟨w.heap.size, 2, none⟩ = some (.slice none 0 0) := ⟨by simp, by simp, by simp, by simp⟩
theorem rnew_any {w0 w : World} (room : Int) (hb : Below w0.heap.size w0 w) : Calls Try.prog 6 #[.int .i64 room] w fun e w' => e = .returned (.pointer (some ⟨w.heap.size, 0, none⟩)) ∧ Hid (RS w0 w' w.heap.size (fun b => b = w.heap.size) (max room 0) [] [] ∧ Below w.heap.size w w') := by
  have H : ∀ c : Int, c = max room 0 → Hid (RS w0 (w.alloc (.cells #[.int .i64 c, nilS, nilS] 50)) w.heap.size (fun b => b = w.heap.size) (max room 0) [] [] ∧ Below w.heap.size w (w.alloc (.cells #[.int .i64 c, nilS, nilS] 50))) := fun c hc => by
    rw [← hc]
    clear hc
    have hbl := (Below.refl _ w).alloc (Nat.le_refl _) (.cells #[.int .i64 (c), nilS, nilS] 50)
    exact Lib.hid ⟨⟨hb.trans (hbl.mono hb.size), rfl, fun b e => by subst e; exact ⟨hb.size, (rnew_cells w c).1⟩, List.Pairwise.nil, (fun _ h => by cases h), ⟨#[.int .i64 (c), nilS, nilS], Array.getElem?_push_size⟩, nilS, nilS, ⟨(rnew_cells w c).1, (rnew_cells w c).2.1, (rnew_cells w c).2.2.1, (rnew_cells w c).2.2.2, fv_nil _ _, ⟨World.ownsRow_nil _ _ _ _⟩⟩, (fun _ h => by cases h), (fun _ h => by cases h)⟩, hbl⟩
  by_cases k : room < 0
  · have H1 := H 0 (by omega)
    clear H
    have k1 : decide (room < 0) = true := by simpa using k
    clear k
    go_enter Try.func6, Try.ntmps6
    go_wp2
    go_ret
    exact ⟨rfl, H1⟩
  · have H1 := H room (by omega)
    clear H
    have k1 : decide (room < 0) = false := by simpa using k
    clear k
    go_enter Try.func6, Try.ntmps6
    go_wp2
    go_ret
    exact ⟨rfl, H1⟩

theorem RS.add {w0 w w1 w2 : World} {p : Nat} {S : Nat → Prop} {cap : Int} {L : Fs} {cs : List Chg} (h : RS w0 w p S cap L cs) (c : Chg) (hc : okC c) (hb : Below w.heap.size w w1) {v u : Value} (hk : RDk w p cap v u L cs) (hv : ∀ b, v.ownBlock = some b → S b) (hu : ∀ b, u.ownBlock = some b → S b) {ob : Obj} {g gc : Nat}
    (hown : w2.ownsRow 0 80 3 (.slice (some ⟨g, 0, none⟩) (cs.length + 1) gc) (cs.length + 1) (cellsC cs ++ chR c)) (hgrow : (w1.alloc ob).grownBy w2 u.ownBlock) (hw : u.ownBlock = some g ∨ g = w1.heap.size + 1) (hg : g < w2.heap.size) :
    (w2.cell? ⟨p, 2, none⟩ = some u ∧ w2.frozen? ⟨p, 2, none⟩ = false) ∧ RS w0 (w2.setCell ⟨p, 2, none⟩ (.slice (some ⟨g, 0, none⟩) (cs.length + 1) gc)) p (grow S w (w2.setCell ⟨p, 2, none⟩ (.slice (some ⟨g, 0, none⟩) (cs.length + 1) gc))) cap L (cs ++ [c]) ∧ Tch w (w2.setCell ⟨p, 2, none⟩ (.slice (some ⟨g, 0, none⟩) (cs.length + 1) gc)) S := by
  generalize ho : (Value.slice (some ⟨g, 0, none⟩) (cs.length + 1) gc) = o at *
  have ho1 : o.ownBlock = some g := by rw [← ho]; rfl
  have hba := hb.alloc hb.size ob
  have t1 : Tch w w2 (fun k => some k = u.ownBlock) := (tch_below _ hba).then (tch_grown hgrow) (fun _ _ e => e)
  have tS : Tch w w2 S := (tch_below S hba).then (tch_grown hgrow) (fun i _ e => hu i e.symm)
  have hpu : ¬ some p = u.ownBlock := fun e => cells_apart (row_at hk.cv.row e.symm) h.ty (by decide) rfl
  have hvu : ∀ b, v.ownBlock = some b → ¬ some b = u.ownBlock := fun b e1 e2 => cells_apart (row_at hk.fv.row e1) (row_at hk.cv.row e2.symm) (by decide) rfl
  have e := t1.block p hk.lt hpu
  have ty2 : BearR w2 p := bear_tch h.ty t1 hpu
  have fv2 : FV 0 w2 v L := hk.fv.tch t1 hvu
  have ts := tch_set w2 ⟨p, 2, none⟩ o
  have hfp : ∀ b, v.ownBlock = some b → ¬ (fun k => k = (⟨p, 2, none⟩ : Addr).block) b := fun b e1 e2 => cells_apart (row_at fv2.row e1) ty2 (by decide) e2
  have hop : ∀ b, o.ownBlock = some b → ¬ (fun k => k = (⟨p, 2, none⟩ : Addr).block) b := fun b e1 e2 => cells_apart (row_at hown e1) ty2 (by decide) e2
  have tF : Tch w (w2.setCell ⟨p, 2, none⟩ o) S := tS.then ts (fun i _ e2 => by
    have e2 : i = p := e2
    rw [e2]; exact h.hp)
  refine ⟨⟨(cell_eq e 2).trans hk.c2, bear_free ty2 2⟩, ⟨bel_tch2 h.bel tF (fun b hb2 => (h.own b hb2).1), .inl h.hp, grow_own h.own h.bel.size tF.size, h.srt, fun x hx => ?_, bear_set _ ty2, v, o, ⟨?_, ?_, ?_, ?_, ?_, ?_⟩, fun b e1 => .inl (hv b e1), fun b e1 => ?_⟩, tF⟩
  · rcases List.mem_append.1 hx with hx | hx
    · exact h.ok x hx
    · rw [List.mem_singleton.1 hx]; exact hc
  · exact Nat.lt_of_lt_of_le hk.lt tF.size
  · exact (World.cell?_setCell_other _ _ _ _ (by simp)).trans ((cell_eq e 0).trans hk.c0)
  · exact (World.cell?_setCell_other _ _ _ _ (by simp)).trans ((cell_eq e 1).trans hk.c1)
  · exact World.cell?_setCell_same _ _ _ ((cell_eq e 2).trans hk.c2)
  · exact fv2.tch ts hfp
  · refine ⟨?_⟩
    rw [List.length_append, cellsC_app]
    exact row_tch (by simpa [cellsC] using hown) ts hop
  · rw [ho1] at e1
    injection e1 with e1
    subst e1
    rcases hw with hw | hw
    · exact .inl (hu _ hw)
    · have hsz : (w2.setCell ⟨p, 2, none⟩ o).heap.size = w2.heap.size := by simp
      have := hb.size
      exact .inr ⟨by omega, by omega⟩
theorem valid_any (s : ByteArray) (w : World) : Calls Try.prog 36 #[.string s] w fun e w' => e = .returned (.bool (decide (1 ≤ s.size ∧ s.size ≤ 64))) ∧ w = w' := by
  by_cases h1 : s.size < 1
  · have h2 : decide ((1 : Int) ≤ (s.size : Int)) = false := by simp; omega
    have h3 : decide (1 ≤ s.size ∧ s.size ≤ 64) = false := by simp; omega
    rw [h3]
    clear h1 h3
    go_enter Try.func36, Try.ntmps36
    go_wp2
    go_ret
    exact ⟨rfl, rfl⟩
  · have h2 : decide ((1 : Int) ≤ (s.size : Int)) = true := by simp; omega
    by_cases h4 : s.size ≤ 64
    · have h3 : decide (1 ≤ s.size ∧ s.size ≤ 64) = true := by simp; omega
      have h5 : decide ((s.size : Int) ≤ 64) = true := by simp; omega
      rw [h3]
      clear h1 h3 h4
      go_enter Try.func36, Try.ntmps36
      go_wp2
      go_ret
      exact ⟨rfl, rfl⟩
    · have h3 : decide (1 ≤ s.size ∧ s.size ≤ 64) = false := by simp; omega
      have h5 : decide ((s.size : Int) ≤ 64) = false := by simp; omega
      rw [h3]
      clear h1 h3 h4
      go_enter Try.func36, Try.ntmps36
      go_wp2
      go_ret
      exact ⟨rfl, rfl⟩
theorem ch_cells (w : World) (c : Chg) : ∀ j u, (chR c)[j]? = some u → (w.alloc (.cells #[.int .i64 (kC c), .string (nC c), .string (dC c)] 80)).cell? ((⟨w.heap.size, 0, none⟩ : Addr).add j) = some u := by
  intro j u hj
  match j, hj with
  | 0, hj => simp at hj; subst hj; simp [Addr.add]
  | 1, hj => simp at hj; subst hj; simp [Addr.add]
  | 2, hj => simp at hj; subst hj; simp [Addr.add]
theorem ch_one (c : Chg) : ∀ u ∈ chR c, u.oneCell' = true := by intro u hu; simp at hu; rcases hu with rfl | rfl | rfl <;> rfl
set_option maxRecDepth 100000 in
set_option maxHeartbeats 4000000 in
theorem append_R {w0 w : World} {p : Nat} {S : Nat → Prop} {cap : Int} {L : Fs} {cs : List Chg} (name d : ByteArray) (h : Hid (RS w0 w p S cap L cs)) (k : SzK L cs) (hcap : 0 ≤ cap ∧ cap ≤ 9223372036854775807) (hd : d.size ≤ 140737488355328) :
    Calls Try.prog 14 #[.pointer (some ⟨p, 0, none⟩), .string name, .string d] w fun e w' => e = .returned (.int .i64 (appR cap (held L cs) name d)) ∧ Hid (RS w0 w' p (grow S w w') cap L (appC cap L cs name d) ∧ Tch w w' S) := by
  have hva := valid_any name w
  have HU : Hid (∀ wx, Below w.heap.size w wx → Calls Try.prog 26 #[.pointer (some ⟨p, 0, none⟩)] wx fun e w' => e = .returned (.int .i64 (totF (held L cs))) ∧ Hid (Below w.heap.size w w')) :=
    Lib.hid fun wx hb => (used_R (Lib.hid (h.out.below hb)) k).mono fun e w' ⟨he, hb2⟩ => ⟨he, Lib.hid (hb.trans (hb2.mono hb.size))⟩
  have HT := Lib.hid (tot_heldS h.out.srt h.out.ok k)
  have HK := Lib.hid k
  have HD := Lib.hid hd
  have HCP := Lib.hid hcap
  clear k hd hcap
  unfold appC
  by_cases hv : 1 ≤ name.size ∧ name.size ≤ 64
  case neg =>
    have e1 : appR cap (held L cs) name d = 2 := by unfold appR; rw [if_neg hv]
    rw [e1, if_neg (by decide)]
    have e2 : decide (1 ≤ name.size ∧ name.size ≤ 64) = false := by simpa using hv
    rw [e2] at hva
    have HF : Hid (RS w0 w p (grow S w w) cap L cs ∧ Tch w w S) := Lib.hid ⟨h.out.wide (Below.refl _ _), tch_below S (Below.refl _ _)⟩
    clear e1 e2 hv
    go_enter Try.func14, Try.ntmps14
    go_wp2_with (fail)
    refine hva.mono ?_
    rintro e w' ⟨rfl, rfl⟩
    clear hva
    go_wp2
    go_ret
    exact ⟨rfl, HF⟩
  case pos =>
    have e2 : decide (1 ≤ name.size ∧ name.size ≤ 64) = true := by simpa using hv
    rw [e2] at hva
    have hin : ((totF (held L cs) : Nat) : Int) + (d.size : Int) ≤ 9223372036854775807 := by have := HT.out; have := HD.out; omega
    have hw2 : IntKind.i64.wrap (((totF (held L cs) : Nat) : Int) + (d.size : Int)) = ((totF (held L cs) : Nat) : Int) + (d.size : Int) := IntWalk.i64_in _ (by omega)
    by_cases hr : cap - totF (held L cs) < d.size
    · have e1 : appR cap (held L cs) name d = 40 := by unfold appR; rw [if_pos hv, if_pos hr]
      rw [e1, if_neg (by decide)]
      have e3 : decide (cap < ((totF (held L cs) : Nat) : Int) + (d.size : Int)) = true := by simp; omega
      clear e1 e2 hv hr
      generalize held L cs = H at *
      go_enter Try.func14, Try.ntmps14
      go_wp2_with (fail)
      refine hva.mono ?_
      rintro e w' ⟨rfl, rfl⟩
      clear hva
      obtain ⟨v, u, hk, _⟩ := h.out.st
      have c0 := hk.c0
      have HK0 := Lib.hid hk
      clear hk
      go_wp2_with (fail)
      go_region_with (go_at_call 26; refine (HU.out _ ((Below.refl _ w).drew)).mono ?_; rintro e w2 ⟨rfl, HB⟩; have y0 := (HK0.out.below HB.out).c0)
      all_goals
        have HF : Hid (RS w0 w2 p (grow S w w2) cap L cs ∧ Tch w w2 S) := Lib.hid ⟨h.out.wide HB.out, tch_below S HB.out⟩
        go_wp2
        go_ret
        exact ⟨rfl, HF⟩
    · have e1 : appR cap (held L cs) name d = 0 := by unfold appR; rw [if_pos hv, if_neg hr]
      rw [e1, if_pos rfl]
      have e3 : decide (cap < ((totF (held L cs) : Nat) : Int) + (d.size : Int)) = false := by simp; omega
      have HOK : Hid (okC (.app name d)) := Lib.hid hv.2
      clear e1 e2 hv hr
      generalize held L cs = H at *
      obtain ⟨i0, hi, hz0, hz1, hz2⟩ := info_parts infoChg
      obtain ⟨v, u, hk, hvS, huS⟩ := h.out.st
      obtain ⟨ua, uc, rfl⟩ := hk.cv.slice
      have c0 := hk.c0
      have HK0 := Lib.hid hk
      have HS := Lib.hid (And.intro hvS huS)
      clear hk hvS huS
      go_enter Try.func14, Try.ntmps14
      go_wp2_with (fail)
      refine hva.mono ?_
      rintro e w' ⟨rfl, rfl⟩
      clear hva
      go_wp2_with (fail)
      go_region_with (go_at_call 26; refine (HU.out _ ((Below.refl _ w).drew)).mono ?_; rintro e w2 ⟨rfl, HB⟩; have y0 := (HK0.out.below HB.out).c0)
      all_goals
        have y2 := (HK0.out.below HB.out).c2
        have f2 := bear_free (h.out.below HB.out).ty 2
        have HCV := Lib.hid (HK0.out.below HB.out).cv
        clear c0 y0
        go_wp2_with (first
          | (at_builtin; refine wpList_append_lies _ rfl _ _ 48 rfl 0 80 i0 (.agg #[.int .i64 0, .string ⟨#[]⟩, .string ⟨#[]⟩]) 3 40 Try.underlying48 hi hz0 hz1 hz2 rfl (by decide) _ _ _ rfl (HCV.out.row.alloc _) ⟨w2.heap.size, 0, none⟩ 1 1 (chR (.app name d)) rfl rfl (ch_cells _ (.app name d)) (ch_one (.app name d)) (by decide) (by have := HK.out.len; unfold maxLen; omega) (by have := HK.out.len; omega) (Nat.zero_le _) (w2.heap.size + 1) (by simp) ?_)
          | go_in)
        intro g gc w3 hown hgrow hwhere hlt
        have HF := Lib.hid (h.out.add (.app name d) HOK.out HB.out HK0.out HS.out.1 HS.out.2 hown hgrow hwhere hlt)
        obtain ⟨y3, f3⟩ := HF.out.1
        clear hown hgrow hwhere hlt y2 f2
        go_wp2
        go_ret
        exact ⟨rfl, Lib.hid HF.out.2⟩

set_option maxRecDepth 100000 in
set_option maxHeartbeats 4000000 in
theorem delete_R {w0 w : World} {p : Nat} {S : Nat → Prop} {cap : Int} {L : Fs} {cs : List Chg} (a : ByteArray) (h : Hid (RS w0 w p S cap L cs)) (k : SzK L cs) (hnm : NmF L) :
    Calls Try.prog 18 #[.pointer (some ⟨p, 0, none⟩), .string a] w fun e w' => e = .returned (.int .i64 (delR (held L cs) a)) ∧ Hid (RS w0 w' p (grow S w w') cap L (delC L cs a) ∧ Tch w w' S) := by
  have HU : Hid (∀ wx, Below w.heap.size w wx → Calls Try.prog 23 #[.pointer (some ⟨p, 0, none⟩)] wx fun e w' => ∃ o, e = .returned o ∧ Hid (FV 0 w' o (held L cs) ∧ Below w.heap.size w w')) :=
    Lib.hid fun wx hb => (heldS (h.out.below hb) k).mono fun e w' ⟨o, he, hb2⟩ => ⟨o, he, Lib.hid ⟨hb2.out.1, hb.trans (hb2.out.2.mono hb.size)⟩⟩
  have HFD : Hid (∀ wx o, FV 0 wx o (held L cs) → Below w.heap.size w wx → Calls Try.prog 37 #[o, .string a] wx fun e w' => e = .returned (.int .i64 (fdI (held L cs) a)) ∧ Hid (Below w.heap.size w w')) :=
    Lib.hid fun wx o hv hb => (find_any a hv (by have := len_heldS k; omega)).mono fun e w' ⟨he, hb2⟩ => ⟨he, Lib.hid (hb.trans (hb2.mono hb.size))⟩
  have HK := Lib.hid k
  have HNM := Lib.hid (nm_held hnm cs h.out.ok)
  clear k hnm
  unfold delC
  cases hg : getF (held L cs) a with
  | none =>
    have e1 : delR (held L cs) a = 41 := by unfold delR; rw [hg]; rfl
    have e2 := fdI_neg hg
    rw [e1, if_neg (by decide)]
    rw [e2] at HFD
    clear e1 e2 hg
    go_enter Try.func18, Try.ntmps18
    go_wp2_with (fail)
    refine (HU.out _ (Below.refl _ _)).mono ?_
    rintro e w1 ⟨o, rfl, H1⟩
    go_wp2_with (fail)
    refine (HFD.out _ _ H1.out.1 H1.out.2).mono ?_
    rintro e w2 ⟨rfl, HB⟩
    have HF : Hid (RS w0 w2 p (grow S w w2) cap L cs ∧ Tch w w2 S) := Lib.hid ⟨h.out.wide HB.out, tch_below S HB.out⟩
    go_wp2
    go_ret
    exact ⟨rfl, HF⟩
  | some d =>
    have e1 : delR (held L cs) a = 0 := by unfold delR; rw [hg]; rfl
    have HOK : Hid (okC (.del a)) := Lib.hid (nm_get HNM.out (by rw [hg]; rfl))
    obtain ⟨e2, _⟩ := fd_some hg
    rw [e1, if_pos rfl]
    rw [e2] at HFD
    have hge : ¬ (fdN (held L cs) a : Int) < 0 := by omega
    clear e1 e2 hg
    obtain ⟨i0, hi, hz0, hz1, hz2⟩ := info_parts infoChg
    obtain ⟨v, u, hk, hvS, huS⟩ := h.out.st
    obtain ⟨ua, uc, rfl⟩ := hk.cv.slice
    have HK0 := Lib.hid hk
    have HS := Lib.hid (And.intro hvS huS)
    clear hk hvS huS
    go_enter Try.func18, Try.ntmps18
    go_wp2_with (fail)
    refine (HU.out _ (Below.refl _ _)).mono ?_
    rintro e w1 ⟨o, rfl, H1⟩
    go_wp2_with (fail)
    refine (HFD.out _ _ H1.out.1 H1.out.2).mono ?_
    rintro e w2 ⟨rfl, HB⟩
    have y2 := (HK0.out.below HB.out).c2
    have f2 := bear_free (h.out.below HB.out).ty 2
    have HCV := Lib.hid (HK0.out.below HB.out).cv
    go_wp2_with (first
      | (at_builtin; refine wpList_append_lies _ rfl _ _ 48 rfl 0 80 i0 (.agg #[.int .i64 0, .string ⟨#[]⟩, .string ⟨#[]⟩]) 3 40 Try.underlying48 hi hz0 hz1 hz2 rfl (by decide) _ _ _ rfl (HCV.out.row.alloc _) ⟨w2.heap.size, 0, none⟩ 1 1 (chR (.del a)) rfl rfl (ch_cells _ (.del a)) (ch_one (.del a)) (by decide) (by have := HK.out.len; unfold maxLen; omega) (by have := HK.out.len; omega) (Nat.zero_le _) (w2.heap.size + 1) (by simp) ?_)
      | go_in)
    intro g gc w3 hown hgrow hwhere hlt
    have HF := Lib.hid (h.out.add (.del a) HOK.out HB.out HK0.out HS.out.1 HS.out.2 hown hgrow hwhere hlt)
    obtain ⟨y3, f3⟩ := HF.out.1
    clear hown hgrow hwhere hlt y2 f2
    go_wp2
    go_ret
    exact ⟨rfl, Lib.hid HF.out.2⟩
set_option maxRecDepth 100000 in
set_option maxHeartbeats 4000000 in
theorem rename_R {w0 w : World} {p : Nat} {S : Nat → Prop} {cap : Int} {L : Fs} {cs : List Chg} (a b : ByteArray) (h : Hid (RS w0 w p S cap L cs)) (k : SzK L cs) (hnm : NmF L) :
    Calls Try.prog 16 #[.pointer (some ⟨p, 0, none⟩), .string a, .string b] w fun e w' => e = .returned (.int .i64 (renR (held L cs) a b)) ∧ Hid (RS w0 w' p (grow S w w') cap L (renC L cs a b) ∧ Tch w w' S) := by
  have HU : Hid (∀ wx, Below w.heap.size w wx → Calls Try.prog 23 #[.pointer (some ⟨p, 0, none⟩)] wx fun e w' => ∃ o, e = .returned o ∧ Hid (FV 0 w' o (held L cs) ∧ Below w.heap.size w w')) :=
    Lib.hid fun wx hb => (heldS (h.out.below hb) k).mono fun e w' ⟨o, he, hb2⟩ => ⟨o, he, Lib.hid ⟨hb2.out.1, hb.trans (hb2.out.2.mono hb.size)⟩⟩
  have HFD : Hid (∀ q wx o, FV 0 wx o (held L cs) → Below w.heap.size w wx → Calls Try.prog 37 #[o, .string q] wx fun e w' => e = .returned (.int .i64 (fdI (held L cs) q)) ∧ Hid (FV 0 w' o (held L cs) ∧ Below w.heap.size w w')) :=
    Lib.hid fun q wx o hv hb => (find_any q hv (by have := len_heldS k; omega)).mono fun e w' ⟨he, hb2⟩ => ⟨he, Lib.hid ⟨hv.below hb2, hb.trans (hb2.mono hb.size)⟩⟩
  have hva := Lib.hid (fun wx => valid_any b wx)
  have HK := Lib.hid k
  have HNM := Lib.hid (nm_held hnm cs h.out.ok)
  clear k hnm
  unfold renC
  by_cases hv : 1 ≤ b.size ∧ b.size ≤ 64
  case neg =>
    have e1 : renR (held L cs) a b = 2 := by unfold renR; rw [if_neg hv]
    rw [e1, if_neg (by decide)]
    have e2 : decide (1 ≤ b.size ∧ b.size ≤ 64) = false := by simpa using hv
    rw [e2] at hva
    clear e1 e2 hv
    go_enter Try.func16, Try.ntmps16
    go_wp2_with (fail)
    refine (HU.out _ (Below.refl _ _)).mono ?_
    rintro e w1 ⟨o, rfl, H1⟩
    go_wp2_with (fail)
    refine (hva.out w1).mono ?_
    rintro e w1' ⟨rfl, rfl⟩
    clear hva
    have HB := Lib.hid H1.out.2
    have HF : Hid (RS w0 w1 p (grow S w w1) cap L cs ∧ Tch w w1 S) := Lib.hid ⟨h.out.wide HB.out, tch_below S HB.out⟩
    go_wp2
    go_ret
    exact ⟨rfl, HF⟩
  case pos =>
    have e2 : decide (1 ≤ b.size ∧ b.size ≤ 64) = true := by simpa using hv
    rw [e2] at hva
    have HFA := Lib.hid (HFD.out a)
    have HFB := Lib.hid (HFD.out b)
    clear HFD
    cases hg : getF (held L cs) a with
    | none =>
      have e1 : renR (held L cs) a b = 41 := by unfold renR; rw [if_pos hv, hg]; rfl
      have e3 := fdI_neg hg
      rw [e1, if_neg (by decide)]
      rw [e3] at HFA
      clear e1 e2 e3 hg hv
      go_enter Try.func16, Try.ntmps16
      go_wp2_with (fail)
      refine (HU.out _ (Below.refl _ _)).mono ?_
      rintro e w1 ⟨o, rfl, H1⟩
      go_wp2_with (fail)
      refine (hva.out w1).mono ?_
      rintro e w1' ⟨rfl, rfl⟩
      clear hva
      go_wp2_with (fail)
      refine (HFA.out _ _ H1.out.1 H1.out.2).mono ?_
      rintro e w2 ⟨rfl, H2⟩
      have HB := Lib.hid H2.out.2
      have HF : Hid (RS w0 w2 p (grow S w w2) cap L cs ∧ Tch w w2 S) := Lib.hid ⟨h.out.wide HB.out, tch_below S HB.out⟩
      go_wp2
      go_ret
      exact ⟨rfl, HF⟩
    | some d =>
      obtain ⟨e3, _⟩ := fd_some hg
      rw [e3] at HFA
      have hge : ¬ (fdN (held L cs) a : Int) < 0 := by omega
      cases hg2 : getF (held L cs) b with
      | some d2 =>
        have e1 : renR (held L cs) a b = 42 := by unfold renR; rw [if_pos hv, hg, hg2]; rfl
        obtain ⟨e4, _⟩ := fd_some hg2
        rw [e1, if_neg (by decide)]
        rw [e4] at HFB
        have hge2 : (0 : Int) ≤ (fdN (held L cs) b : Int) := by omega
        clear e1 e2 e3 e4 hg hg2 hv
        go_enter Try.func16, Try.ntmps16
        go_wp2_with (fail)
        refine (HU.out _ (Below.refl _ _)).mono ?_
        rintro e w1 ⟨o, rfl, H1⟩
        go_wp2_with (fail)
        refine (hva.out w1).mono ?_
        rintro e w1' ⟨rfl, rfl⟩
        clear hva
        go_wp2_with (fail)
        refine (HFA.out _ _ H1.out.1 H1.out.2).mono ?_
        rintro e w2 ⟨rfl, H2⟩
        go_wp2_with (fail)
        refine (HFB.out _ _ H2.out.1 H2.out.2).mono ?_
        rintro e w3 ⟨rfl, H3⟩
        have HB := Lib.hid H3.out.2
        have HF : Hid (RS w0 w3 p (grow S w w3) cap L cs ∧ Tch w w3 S) := Lib.hid ⟨h.out.wide HB.out, tch_below S HB.out⟩
        go_wp2
        go_ret
        exact ⟨rfl, HF⟩
      | none =>
        have e1 : renR (held L cs) a b = 0 := by unfold renR; rw [if_pos hv, hg, hg2]; rfl
        have e4 := fdI_neg hg2
        have HOK : Hid (okC (.ren a b)) := Lib.hid ⟨nm_get HNM.out (by rw [hg]; rfl), hv.2, fun e => by rw [e, hg2] at hg; cases hg⟩
        rw [e1, if_pos rfl]
        rw [e4] at HFB
        clear e1 e2 e3 e4 hg hg2 hv
        obtain ⟨i0, hi, hz0, hz1, hz2⟩ := info_parts infoChg
        obtain ⟨v, u, hk, hvS, huS⟩ := h.out.st
        obtain ⟨ua, uc, rfl⟩ := hk.cv.slice
        have HK0 := Lib.hid hk
        have HS := Lib.hid (And.intro hvS huS)
        clear hk hvS huS
        go_enter Try.func16, Try.ntmps16
        go_wp2_with (fail)
        refine (HU.out _ (Below.refl _ _)).mono ?_
        rintro e w1 ⟨o, rfl, H1⟩
        go_wp2_with (fail)
        refine (hva.out w1).mono ?_
        rintro e w1' ⟨rfl, rfl⟩
        clear hva
        go_wp2_with (fail)
        refine (HFA.out _ _ H1.out.1 H1.out.2).mono ?_
        rintro e w2 ⟨rfl, H2⟩
        go_wp2_with (fail)
        refine (HFB.out _ _ H2.out.1 H2.out.2).mono ?_
        rintro e w3 ⟨rfl, H3⟩
        have HB := Lib.hid H3.out.2
        have y2 := (HK0.out.below HB.out).c2
        have f2 := bear_free (h.out.below HB.out).ty 2
        have HCV := Lib.hid (HK0.out.below HB.out).cv
        go_wp2_with (first
          | (at_builtin; refine wpList_append_lies _ rfl _ _ 48 rfl 0 80 i0 (.agg #[.int .i64 0, .string ⟨#[]⟩, .string ⟨#[]⟩]) 3 40 Try.underlying48 hi hz0 hz1 hz2 rfl (by decide) _ _ _ rfl (HCV.out.row.alloc _) ⟨w3.heap.size, 0, none⟩ 1 1 (chR (.ren a b)) rfl rfl (ch_cells _ (.ren a b)) (ch_one (.ren a b)) (by decide) (by have := HK.out.len; unfold maxLen; omega) (by have := HK.out.len; omega) (Nat.zero_le _) (w3.heap.size + 1) (by simp) ?_)
          | go_in)
        intro g gc wz hown hgrow hwhere hlt
        have HF := Lib.hid (h.out.add (.ren a b) HOK.out HB.out HK0.out HS.out.1 HS.out.2 hown hgrow hwhere hlt)
        obtain ⟨y3, f3⟩ := HF.out.1
        clear hown hgrow hwhere hlt y2 f2
        go_wp2
        go_ret
        exact ⟨rfl, Lib.hid HF.out.2⟩

theorem fv_own {B : Nat} {w : World} {o : Value} {L : Fs} (h : FV B w o L) {b : Nat} (e : o.ownBlock = some b) : B ≤ b ∧ b < w.heap.size := h.row.lt b e
/-- what lasts is laid anew -/
theorem RS.last {w0 w w1 : World} {p : Nat} {S : Nat → Prop} {cap : Int} {L L' : Fs} {cs : List Chg} (h : RS w0 w p S cap L cs) (hb : Below w.heap.size w w1) {o : Value} (ho : FV w.heap.size w1 o L') (hs : SrtF L') :
    RS w0 (w1.setCell ⟨p, 1, none⟩ o) p (grow S w (w1.setCell ⟨p, 1, none⟩ o)) cap L' cs ∧ Tch w (w1.setCell ⟨p, 1, none⟩ o) S := by
  have h1 := h.below hb
  obtain ⟨v, u, hk, hv, hu⟩ := h1.st
  have hpl := (h.own p h.hp).2
  have ts := tch_set w1 ⟨p, 1, none⟩ o
  have tF : Tch w (w1.setCell ⟨p, 1, none⟩ o) S := (tch_below S hb).then ts (fun i _ e2 => by
    have e2 : i = p := e2
    rw [e2]; exact h.hp)
  have hop : ∀ b, o.ownBlock = some b → ¬ (fun k => k = (⟨p, 1, none⟩ : Addr).block) b := fun b e1 e2 => by
    have e2 : b = p := e2
    have := (fv_own ho e1).1
    omega
  have hup : ∀ b, u.ownBlock = some b → ¬ (fun k => k = (⟨p, 1, none⟩ : Addr).block) b := fun b e1 e2 => cells_apart (row_at hk.cv.row e1) h1.ty (by decide) e2
  refine ⟨⟨bel_tch2 h.bel tF (fun b hb2 => (h.own b hb2).1), .inl h.hp, grow_own h.own h.bel.size tF.size, hs, h.ok, bear_set _ h1.ty, o, u, ⟨?_, ?_, ?_, ?_, ?_, ?_⟩, fun b e1 => .inr ?_, fun b e1 => .inl (hu b e1)⟩, tF⟩
  · exact Nat.lt_of_lt_of_le hpl tF.size
  · exact (World.cell?_setCell_other _ _ _ _ (by simp)).trans hk.c0
  · exact World.cell?_setCell_same _ _ _ hk.c1
  · exact (World.cell?_setCell_other _ _ _ _ (by simp)).trans hk.c2
  · exact (ho.base (Nat.zero_le _)).tch ts hop
  · exact hk.cv.tch ts hup
  · have e3 := fv_own ho e1
    have hsz : (w1.setCell ⟨p, 1, none⟩ o).heap.size = w1.heap.size := by simp
    exact ⟨e3.1, by omega⟩
/-- the changes are forgotten -/
theorem RS.gone {w0 w : World} {p : Nat} {S : Nat → Prop} {cap : Int} {L : Fs} {cs : List Chg} (h : RS w0 w p S cap L cs) :
    RS w0 (w.setCell ⟨p, 2, none⟩ (.slice none 0 0)) p S cap L [] ∧ Tch w (w.setCell ⟨p, 2, none⟩ (.slice none 0 0)) S := by
  obtain ⟨v, u, hk, hv, hu⟩ := h.st
  have ts := tch_set w ⟨p, 2, none⟩ (.slice none 0 0)
  have tF : Tch w (w.setCell ⟨p, 2, none⟩ (.slice none 0 0)) S := (Tch.refl w S).then ts (fun i _ e2 => by
    have e2 : i = p := e2
    rw [e2]; exact h.hp)
  have hvp : ∀ b, v.ownBlock = some b → ¬ (fun k => k = (⟨p, 2, none⟩ : Addr).block) b := fun b e1 e2 => cells_apart (row_at hk.fv.row e1) h.ty (by decide) e2
  refine ⟨⟨bel_tch2 h.bel tF (fun b hb2 => (h.own b hb2).1), h.hp, fun b hb => ⟨(h.own b hb).1, Nat.lt_of_lt_of_le (h.own b hb).2 tF.size⟩, h.srt, (fun _ hx => by cases hx), bear_set _ h.ty, v, .slice none 0 0, ⟨?_, ?_, ?_, ?_, ?_, ⟨World.ownsRow_nil _ _ _ _⟩⟩, hv, (fun _ hx => by cases hx)⟩, tF⟩
  · exact Nat.lt_of_lt_of_le hk.lt tF.size
  · exact (World.cell?_setCell_other _ _ _ _ (by simp)).trans hk.c0
  · exact (World.cell?_setCell_other _ _ _ _ (by simp)).trans hk.c1
  · exact World.cell?_setCell_same _ _ _ hk.c2
  · exact hk.fv.tch ts hvp
end Go.Proofs.Ytjlhnacdfpbchaa
