/- Package leases: Grant. -/
import Derived.Test.YtabnhiehmheocaaLeaTab
import Derived.Test.YtabnhiehmheocaaStepFn
namespace Go.Proofs.Ytabnhiehmheocaa
open Go.RowKit Go.Maps

abbrev GS (w0 w1 : World) (p m : Nat) (w' : World) : Prop := w'.cell? ⟨p, 1, none⟩ = some (.map (some m)) ∧ Hid (Below w1.heap.size w1 w')
theorem gs_drew {w0 w1 w' : World} {p m : Nat} (h : GS w0 w1 p m w') : GS w0 w1 p m w'.drew := ⟨h.1, Lib.hid h.2.out.drew⟩
theorem gs_alloc {w0 w1 w' : World} {p m : Nat} (hp : p < w1.heap.size) (h : GS w0 w1 p m w') (o : Obj) : GS w0 w1 p m (w'.alloc o) :=
  ⟨(cell_eq (heap_alloc_old w' o (Nat.lt_of_lt_of_le hp h.2.out.size)) 1).trans h.1, Lib.hid (h.2.out.alloc h.2.out.size o)⟩
abbrev leO (c h : Int) : Obj := .cells #[.int .i64 c, .int .i64 h] 58
/-- the new lease is entered -/
theorem enter_gm {w0 wc w1 : World} {p m n : Nat} {L : List Ls} {G : Blk} {q : ByteArray} (c h : Int) (hp : p < wc.heap.size) (hn : n < maxLen) (hq : q.size ≤ maxLen) (hh : Held w0.heap.size wc m n G L) (hs : GS w0 wc p m w1) :
    ∃ wu, (Instr.mapUpdate 52 (.map (some m)) (.string q) (.pointer (some ⟨w1.heap.size, 0, none⟩))).run Try.prog (w1.alloc (leO c h)) = .ok () wu ∧
      GM wu m (n + 1) (updG G q w1.heap.size) ∧ (w1.alloc (leO c h)).grownBy wu (some m) := by
  have hb := hs.2.out.alloc hs.2.out.size (leO c h)
  exact put_gm (hh.gm.same (hb.block m hh.gm.lt)) hn hq
/-- .. and the table knows it -/
theorem granted {w0 w wc w1 wu : World} {p m n : Nat} {len : Int} {L : List Ls} {G : Blk} {q : ByteArray} {c h : Int} (hq : q.size ≤ 140737488351232) (hm : w0.heap.size ≤ m) (hT : TabSt w0 w p len n L) (hf : TF p w wc)
    (hbel : Below w0.heap.size w0 wc) (hty : Bears wc p 54) (h0 : wc.cell? ⟨p, 0, none⟩ = some (.int .i64 (lenT len)))
    (hh : Held w0.heap.size wc m n G L) (hs : GS w0 wc p m w1) (hg : GM wu m (n + 1) (updG G q w1.heap.size)) (hgr : (w1.alloc (leO c h)).grownBy wu (some m)) :
    TabSt w0 wu p len (n + 1) (grantL L q c h) ∧ TF p w wu := by
  have hb := hs.2.out.alloc hs.2.out.size (leO c h)
  have hml := hh.gm.lt
  have hsz := hs.2.out.size
  have hbs := hbel.size
  have hkeep : ∀ b e, Bears wc b e → wu.heap[b]? = wc.heap[b]? := fun b e hbe => by
    have hne := hh.gm.apart hbe
    exact (hgr.block b (Nat.lt_of_lt_of_le hbe.lt hb.size) (fun e => hne (by injection e))).trans (hb.block b hbe.lt)
  have hnew : wu.heap[w1.heap.size]? = some (leO c h) := by
    rw [hgr.block w1.heap.size (by simp) (fun e => by injection e with e; omega)]
    exact heap_alloc_new w1 _
  have hlow : ∀ q b, G q = some b → b < wc.heap.size := fun q b hb => by
    obtain ⟨_, x, hx, e⟩ := hh.only q b hb
    obtain ⟨b', h1, h2⟩ := hh.at' x hx
    rw [e, hb] at h1
    injection h1 with h1
    subst h1
    exact h2.ty.lt
  refine ⟨⟨⟨hgr.os.trans (hb.os.trans hbel.os), hgr.tape.trans (hb.tape.trans hbel.tape), hgr.output.trans (hb.output.trans hbel.output), Nat.le_trans hbs (Nat.le_trans hb.size hgr.size), fun b hb' => ?_⟩, hT.lo, ?_, (cell_eq (hkeep p _ hty) 0).trans h0, .inr ⟨m, _, hm, ?_, hg, ?_, ?_, ?_⟩, srt_grantL hT.srt _ _ _, ?_⟩, tf_trans hf (fun b e hbe _ _ => hkeep b e hbe)⟩
  · exact ((hgr.block b (by have := hb.size; omega) (fun e => by injection e with e; omega)).trans (hb.block b (by omega))).trans (hbel.block b hb')
  · obtain ⟨cs, k⟩ := hty
    exact ⟨cs, (hkeep p _ ⟨cs, k⟩).trans k⟩
  · refine (cell_eq (hgr.block p ?_ ?_) 1).trans ((cell_eq (heap_alloc_old w1 _ (Nat.lt_of_lt_of_le hty.lt hsz)) 1).trans hs.1)
    · have := hty.lt; have := hb.size; omega
    · exact fun e => hh.gm.apart hty (by injection e)
  · intro x hx
    rcases (mem_grantL _ _ _ _ _).1 hx with rfl | ⟨hx, hne⟩
    · exact ⟨w1.heap.size, by simp [updG], by simp [World.cell?, hnew], by simp [World.cell?, hnew], ⟨_, hnew⟩⟩
    · obtain ⟨b, h1, h2⟩ := hh.at' x hx
      exact ⟨b, by simp [updG, hne, h1], h2.same (hkeep b _ h2.ty)⟩
  · intro q' b hb'
    unfold updG at hb'
    split at hb'
    · next e =>
      injection hb' with hb'
      subst hb'
      exact ⟨by omega, ⟨q, c, h⟩, (mem_grantL _ _ _ _ _).2 (.inl rfl), e.symm⟩
    · next e =>
      obtain ⟨h1, x, h2, h3⟩ := hh.only q' b hb'
      exact ⟨h1, x, (mem_grantL _ _ _ _ _).2 (.inr ⟨h2, by rw [h3]; exact e⟩), h3⟩
  · intro a a' b h1 h2
    unfold updG at h1 h2
    split at h1 <;> split at h2
    · next e e' => rw [e, e']
    · injection h1 with h1
      have := hlow _ _ h2
      omega
    · injection h2 with h2
      have := hlow _ _ h1
      omega
    · exact hh.one _ _ _ h1 h2
  · intro x hx
    rcases (mem_grantL _ _ _ _ _).1 hx with rfl | ⟨hx, _⟩
    · exact hq
    · exact hT.sz x hx
theorem call_clone (vs : Array Value) (w : World) : (callFunc 20 vs).run Try.prog w = .ok (.enter 20 vs) w := by kernel_rfl
theorem call_moment (vs : Array Value) (w : World) : (callFunc 19 vs).run Try.prog w = .ok (.enter 19 vs) w := by kernel_rfl
set_option maxHeartbeats 4000000 in
set_option maxRecDepth 100000 in
theorem grant_some {w0 : World} (p m n : Nat) (len : Int) (L : List Ls) (G : Blk) (q : ByteArray) (c t : Int) (w : World) (hn : n < maxLen) (hq : q.size ≤ 140737488351232) (hm : w0.heap.size ≤ m) (hc : w.cell? ⟨p, 1, none⟩ = some (.map (some m))) (hh : Held w0.heap.size w m n G L)
    (h : Hid (TabSt w0 w p len n L)) :
    Calls Try.prog 9 #[.pointer (some ⟨p, 0, none⟩), .string q, .int .i64 c, .int .i64 t] w (TPost w0 w p len (n + 1) (grantL L q c (mom t)) (.tuple #[])) := by
  have hmap : ∀ (w : World), (binOp .eql 52 (.map (some m)) (.map none)).run Try.prog w = .ok (.bool false) w := fun w => run_eql_map_nil w _ _ _ _ Try.underlying52
  have hS : GS w0 w p m w := ⟨hc, Lib.hid (Below.refl _ _)⟩
  have HC := Lib.hid hc
  have HH := Lib.hid hh
  have HN := Lib.hid (And.intro hn (And.intro hq hm))
  have hcl : ∀ w', GS w0 w p m w' → Calls Try.prog 20 #[.string q] w' fun e w'' => e = .returned (.string q) ∧ GS w0 w p m w'' := fun w' hs => (clone_any q w' (by omega)).mono fun e w'' ⟨he, hb⟩ =>
    ⟨he, (hb.cell (p := ⟨p, 1, none⟩) (Nat.lt_of_lt_of_le h.out.ty.lt hs.2.out.size)).trans hs.1, Lib.hid (hs.2.out.trans (hb.mono hs.2.out.size))⟩
  have HCL := Lib.hid hcl
  have HP := Lib.hid h.out.ty.lt
  have HQ : Hid (q.size ≤ maxLen) := Lib.hid (by unfold maxLen; omega)
  clear hh hn hq hm hcl
  go_enter Try.func9, Try.ntmps9
  go_wp2_with (fail)
  go_region_law (first
    | (refine step_fn rfl 20 call_clone #[.tmp 23] #[9] rfl #[.string q] (by simp [Act.eval, Act.put]) (.string q) (fun w' => GS w0 w p m w') (HCL.out _ (gs_drew hS)) ?_
       intro w1 hS1
       obtain ⟨wu, hrun, hg, hgr⟩ := enter_gm c (mom t) h.out.ty.lt HN.out.1 HQ.out HH.out hS1
       have HG := Lib.hid (And.intro hg hgr)
       have d1 := hS1.1
       have d2 : ∀ o1, (w1.alloc o1).cell? ⟨p, 1, none⟩ = some (.map (some m)) := fun o1 => (gs_alloc HP.out hS1 o1).1
       have HS1 := Lib.hid hS1
       clear hg hgr hS1)
    | (refine step_fn rfl 19 call_moment #[.tmp 26] #[3] rfl #[.int .i64 t] (by simp [Act.eval, Act.put]) (.int .i64 (mom t)) (fun w' => w1 = w') (moment_any t _) ?_
       rintro w2 rfl))
  all_goals
    go_wp2
    first
      | (go_end0; exact ⟨rfl, Lib.hid (granted HN.out.2.1 HN.out.2.2 h.out (fun _ _ _ _ _ => rfl) h.out.bel h.out.ty h.out.c0 HH.out HS1.out HG.out.1 HG.out.2)⟩)
      | exact bodyPost_ret (v := .tuple #[]) (results_none rfl _ _ _) rfl ⟨rfl, Lib.hid (granted HN.out.2.1 HN.out.2.2 h.out (fun _ _ _ _ _ => rfl) h.out.bel h.out.ty h.out.c0 HH.out HS1.out HG.out.1 HG.out.2)⟩
theorem first_map {w0 w : World} {p n : Nat} {len : Int} (h : TabSt w0 w p len n []) (wc : World) (hwc : wc = (w.alloc (.map #[] 0)).setCell ⟨p, 1, none⟩ (.map (some w.heap.size))) (hc : w.cell? ⟨p, 1, none⟩ = some (.map none)) :
    wc.cell? ⟨p, 1, none⟩ = some (.map (some w.heap.size)) ∧ Held w0.heap.size wc w.heap.size n (fun _ => none) [] ∧ TF p w wc ∧ Below w0.heap.size w0 wc ∧ Bears wc p 54 ∧ wc.cell? ⟨p, 0, none⟩ = some (.int .i64 (lenT len)) := by
  have hlt := h.ty.lt
  have hb : Below w.heap.size w (w.alloc (.map #[] 0)) := (Below.refl _ w).alloc (Nat.le_refl _) _
  have e1 : (w.alloc (.map #[] 0)).cell? ⟨p, 1, none⟩ = some (.map none) := (hb.cell (p := ⟨p, 1, none⟩) hlt).trans hc
  have hk : ∀ b, b < (w.alloc (.map #[] 0)).heap.size → ¬ b = p → wc.heap[b]? = (w.alloc (.map #[] 0)).heap[b]? := fun b _ hn => by rw [hwc]; exact Below.heap_setCell _ _ _ _ hn
  have hs : (w.alloc (.map #[] 0)).heap.size = w.heap.size + 1 := by simp
  refine ⟨by rw [hwc]; exact World.cell?_setCell_same _ _ _ e1, ⟨((gm_made w).mono (Nat.zero_le _)).same (hk _ (by omega) (by omega)), by simp, by simp, by simp⟩, ?_, ?_, ?_, ?_⟩
  · exact fun b e hb' hn _ => (hk b (by have := hb'.lt; omega) hn).trans (hb.block b hb'.lt)
  · have hbl := h.bel.trans (hb.mono h.bel.size)
    rw [hwc]
    exact hbl.setCell (p := ⟨p, 1, none⟩) h.lo _
  · rw [hwc]
    refine bears_set _ ?_
    obtain ⟨cs, k⟩ := h.ty
    exact ⟨cs, (hb.block p hlt).trans k⟩
  · rw [hwc]
    exact (World.cell?_setCell_other _ _ _ _ (by simp)).trans ((hb.cell (p := ⟨p, 0, none⟩) hlt).trans h.c0)
set_option maxHeartbeats 4000000 in
set_option maxRecDepth 100000 in
theorem grant_none {w0 : World} (p n : Nat) (len : Int) (q : ByteArray) (c t : Int) (w : World) (hn : n < maxLen) (hq : q.size ≤ 140737488351232) (hc : w.cell? ⟨p, 1, none⟩ = some (.map none)) (h : Hid (TabSt w0 w p len n [])) :
    Calls Try.prog 9 #[.pointer (some ⟨p, 0, none⟩), .string q, .int .i64 c, .int .i64 t] w (TPost w0 w p len (n + 1) (grantL [] q c (mom t)) (.tuple #[])) := by
  have hmap : ∀ (w : World), (binOp .eql 52 (.map none) (.map none)).run Try.prog w = .ok (.bool true) w := fun w => run_eql_map_nil w _ _ _ _ Try.underlying52
  have hmm := @run_makeMap Try.prog
  have hlt := h.out.ty.lt
  have hc1 : (w.alloc (.map #[] 0)).cell? ⟨p, 1, none⟩ = some (.map none) := (cell_eq (heap_alloc_old w _ hlt) 1).trans hc
  have hf1 : (w.alloc (.map #[] 0)).frozen? ⟨p, 1, none⟩ = false := (frozen_eq (heap_alloc_old w _ hlt) 1).trans (bears_free h.out.ty 1)
  obtain ⟨wc, hwc⟩ : ∃ wc, wc = (w.alloc (.map #[] 0)).setCell ⟨p, 1, none⟩ (.map (some w.heap.size)) := ⟨_, rfl⟩
  obtain ⟨hc2, hh, hf, hbel, hty, h0⟩ := first_map h.out wc hwc hc
  obtain ⟨m, hm⟩ : ∃ m, m = w.heap.size := ⟨_, rfl⟩
  rw [← hm] at hc2 hh
  have hS : GS w0 wc p m wc := ⟨hc2, Lib.hid (Below.refl _ _)⟩
  have HF := Lib.hid (And.intro hf (And.intro hbel (And.intro hty h0)))
  have HH := Lib.hid hh
  have HN := Lib.hid (And.intro hn (And.intro hq (show w0.heap.size ≤ m by rw [hm]; exact h.out.bel.size)))
  have hcl : ∀ w', GS w0 wc p m w' → Calls Try.prog 20 #[.string q] w' fun e w'' => e = .returned (.string q) ∧ GS w0 wc p m w'' := fun w' hs => (clone_any q w' (by omega)).mono fun e w'' ⟨he, hb⟩ =>
    ⟨he, (hb.cell (p := ⟨p, 1, none⟩) (Nat.lt_of_lt_of_le hty.lt hs.2.out.size)).trans hs.1, Lib.hid (hs.2.out.trans (hb.mono hs.2.out.size))⟩
  have HCL := Lib.hid hcl
  have HP := Lib.hid hty.lt
  have HQ : Hid (q.size ≤ maxLen) := Lib.hid (by unfold maxLen; omega)
  have HW := Lib.hid (And.intro hwc hm)
  clear hh hn hq hcl hf hbel hty h0 hwc hm hlt
  go_enter Try.func9, Try.ntmps9
  go_upto_region 3 with (fail)
  rw [← HW.out.1, ← HW.out.2]
  go_region_law (first
    | (refine step_fn rfl 20 call_clone #[.tmp 23] #[9] rfl #[.string q] (by simp [Act.eval, Act.put]) (.string q) (fun w' => GS w0 wc p m w') (HCL.out _ (gs_drew hS)) ?_
       intro w1 hS1
       obtain ⟨wu, hrun, hg, hgr⟩ := enter_gm c (mom t) HP.out HN.out.1 HQ.out HH.out hS1
       have HG := Lib.hid (And.intro hg hgr)
       have d1 := hS1.1
       have d2 : ∀ o1, (w1.alloc o1).cell? ⟨p, 1, none⟩ = some (.map (some m)) := fun o1 => (gs_alloc HP.out hS1 o1).1
       have HS1 := Lib.hid hS1
       clear hg hgr hS1)
    | (refine step_fn rfl 19 call_moment #[.tmp 26] #[3] rfl #[.int .i64 t] (by simp [Act.eval, Act.put]) (.int .i64 (mom t)) (fun w' => w1 = w') (moment_any t _) ?_
       rintro w2 rfl))
  all_goals
    go_wp2
    first
      | (go_end0; exact ⟨rfl, Lib.hid (granted HN.out.2.1 HN.out.2.2 h.out HF.out.1 HF.out.2.1 HF.out.2.2.1 HF.out.2.2.2 HH.out HS1.out HG.out.1 HG.out.2)⟩)
      | exact bodyPost_ret (v := .tuple #[]) (results_none rfl _ _ _) rfl ⟨rfl, Lib.hid (granted HN.out.2.1 HN.out.2.2 h.out HF.out.1 HF.out.2.1 HF.out.2.2.1 HF.out.2.2.2 HH.out HS1.out HG.out.1 HG.out.2)⟩
/-- a client holds a path from now on -/
theorem grant_any {w0 : World} (p n : Nat) (len : Int) (L : List Ls) (q : ByteArray) (c t : Int) (w : World) (hn : n < maxLen) (hq : q.size ≤ 140737488351232) (h : Hid (TabSt w0 w p len n L)) :
    Calls Try.prog 9 #[.pointer (some ⟨p, 0, none⟩), .string q, .int .i64 c, .int .i64 t] w (TPost w0 w p len (n + 1) (grantL L q c (mom t)) (.tuple #[])) := by
  rcases h.out.v with ⟨hc, rfl⟩ | ⟨m, G, hm, hc, hh⟩
  · exact grant_none p n len q c t w hn hq hc h
  · exact grant_some p m n len L G q c t w hn hq hm hc hh h
end Go.Proofs.Ytabnhiehmheocaa
