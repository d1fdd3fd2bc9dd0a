/- Both desks beside each other, and the act that is done. -/
import Derived.Test.YtcjpllojgmaofaaRpcRefD
namespace Go.Proofs.Ytcjpllojgmaofaa
open Go.RowKit

/-- the desk at p, another at p2 of which nothing was asked, the reference's at q -/
structure DT (w0 w : World) (p p2 q n m : Nat) (M N : Known) : Prop where
  d : DeskSt w0 w p n M
  pp : ¬ p2 = p
  olo : w0.heap.size ≤ p2
  oty : Bears w p2 26
  oc : w.cell? ⟨p2, 0, none⟩ = some (.map none)
  r : RD w0 w q m N
  qty : Bears w q 30
structure DS (w0 w : World) (p p2 q g n m : Nat) (M N : Known) (x : Ac) : Prop where
  t : DT w0 w p p2 q n m M N
  box : AcB w g x
theorem RD.keep {w0 w w' : World} {q n n' : Nat} {M : Known} (h : RD w0 w q n M) (hn : n ≤ n') (f : ∀ b e, Bears w b e → e = 30 ∨ e = 71 → w'.heap[b]? = w.heap[b]?) : RD w0 w' q n' M := by
  obtain ⟨v, L, h1, h2, h3⟩ := h.ex
  exact ⟨v, L, h1.same (f q _ h1.ty (.inl rfl)) (fun b hb => f b _ (h1.fly.ty b hb) (.inr rfl)), by omega, h3⟩
theorem RD.ty {w0 w : World} {q n : Nat} {M : Known} (h : RD w0 w q n M) : Bears w q 30 := by
  obtain ⟨v, L, h1, h2, h3⟩ := h.ex
  exact h1.ty
theorem not_bears {w : World} {b : Nat} {e e' : TypeId} (h : Bears w b e) (hne : e ≠ e') : ¬ Bears w b e' := fun h' => bears_apart h h' hne rfl
theorem Bears.eq {w w' : World} {b : Nat} {e : TypeId} (h : Bears w b e) (k : w'.heap[b]? = w.heap[b]?) : Bears w' b e := by
  obtain ⟨cs, h⟩ := h
  exact ⟨cs, k.trans h⟩
section
variable {w0 w w' : World} {p p2 q g n n' m m' : Nat} {M N M' N' : Known} {x : Ac}
theorem DT.left (h : DT w0 w p p2 q n m M N) (k : DeskSt w0 w' p n' M') (f : DF p w w') : DT w0 w' p p2 q n' m M' N := by
  have e2 := f p2 _ h.oty h.pp
  have eq := f q _ h.qty (bears_apart h.qty h.d.ty (by decide))
  refine ⟨k, h.pp, h.olo, h.oty.eq e2, (cell_eq e2 0).trans h.oc, h.r.keep (Nat.le_refl _) (fun b e hb he => f b e hb (fun e' => ?_)), h.qty.eq eq⟩
  subst e'
  rcases he with rfl | rfl
  · exact bears_apart hb h.d.ty (by decide) rfl
  · exact bears_apart hb h.d.ty (by decide) rfl
theorem DT.right (h : DT w0 w p p2 q n m M N) (k : RD w0 w' q m' N') (f : RF w w') (hb : Below w0.heap.size w0 w') : DT w0 w' p p2 q n m' M N' := by
  have keep : ∀ b e, Bears w b e → e ≠ 30 → e ≠ 71 → w'.heap[b]? = w.heap[b]? := fun b e hbe h1 h2 => f b hbe.lt (not_bears hbe h1) (not_bears hbe h2)
  have ep := keep p _ h.d.ty (by decide) (by decide)
  have e2 := keep p2 _ h.oty (by decide) (by decide)
  refine ⟨⟨hb, h.d.lo, h.d.ty.eq ep, ?_⟩, h.pp, h.olo, h.oty.eq e2, (cell_eq e2 0).trans h.oc, k, k.ty⟩
  rcases h.d.v with ⟨h1, h2⟩ | ⟨m1, h1, h2, h3⟩
  · exact .inl ⟨(cell_eq ep 0).trans h1, h2⟩
  · refine .inr ⟨_, h1, (cell_eq ep 0).trans h2, h3.same (f _ h3.lt ?_ ?_)⟩
    all_goals
      rintro ⟨cs, hc⟩
      obtain ⟨es, clock, hm⟩ := h3.map
      rw [hc] at hm
      cases hm
theorem DT.below (h : DT w0 w p p2 q n m M N) (hb : Below w.heap.size w w') : DT w0 w' p p2 q n m M N :=
  h.left (h.d.below hb) (df_below p hb)
theorem DT.box (h : DT w0 w p p2 q n m M N) (x : Ac) : DS w0 (w.alloc (.cells #[.int .i64 x.k, .int .i64 x.a, .int .i64 x.b, .string x.s] 32)) p p2 q w.heap.size n m M N x :=
  ⟨h.below ((Below.refl _ w).alloc (Nat.le_refl _) _), acb_new w x⟩
theorem DS.left (h : DS w0 w p p2 q g n m M N x) (k : DeskSt w0 w' p n' M') (f : DF p w w') : DS w0 w' p p2 q g n' m M' N x :=
  ⟨h.t.left k f, h.box.same (f g _ h.box.ty (bears_apart h.box.ty h.t.d.ty (by decide)))⟩
theorem DS.right (h : DS w0 w p p2 q g n m M N x) (k : RD w0 w' q m' N') (f : RF w w') (hb : Below w0.heap.size w0 w') : DS w0 w' p p2 q g n m' M N' x :=
  ⟨h.t.right k f hb, h.box.same (f g h.box.ty.lt (not_bears h.box.ty (by decide)) (not_bears h.box.ty (by decide)))⟩
theorem DS.drew (h : DS w0 w p p2 q g n m M N x) : DS w0 w.drew p p2 q g n m M N x :=
  ⟨h.t.below ⟨rfl, rfl, rfl, Nat.le_refl _, fun _ _ => rfl⟩, h.box.same rfl⟩
theorem DS.cells (h : Hid (DS w0 w p p2 q g n m M N x)) : w.cell? ⟨g, 1, none⟩ = some (.int .i64 x.a) ∧ w.cell? ⟨g, 2, none⟩ = some (.int .i64 x.b) ∧ w.cell? ⟨g, 3, none⟩ = some (.string x.s) :=
  ⟨h.out.box.c1, h.out.box.c2, h.out.box.c3⟩
theorem ds_ask (k call : Int) (hn : n < maxLen) (hk : wf64 k) (hS : Small M) (h : Hid (DS w0 w p p2 q g n m M N x)) :
    Calls Try.prog 9 #[.pointer (some ⟨p, 0, none⟩), .int .i64 k, .int .i64 call] w fun e w' => e = .returned (.tuple #[.int .i64 (askN (M k) call), .string (askS (M k) call)]) ∧ Hid (DS w0 w' p p2 q g (n + 1) m (askM M k call) N x) :=
  (ask_any p n M k call w hn hk hS (Lib.hid h.out.t.d)).mono fun _ _ ⟨he, r⟩ => ⟨he, Lib.hid (h.out.left r.out.1 r.out.2)⟩
theorem ds_reply (k call : Int) (s : ByteArray) (hn : n < maxLen) (hk : wf64 k) (hs : s.size ≤ 140737488351232) (h : Hid (DS w0 w p p2 q g n m M N x)) :
    Calls Try.prog 11 #[.pointer (some ⟨p, 0, none⟩), .int .i64 k, .int .i64 call, .string s] w fun e w' => e = .returned (.bool (repB (M k) call)) ∧ Hid (DS w0 w' p p2 q g (n + 1) m (repM M k call s) N x) :=
  (reply_any p n M k call s w hn hk hs (Lib.hid h.out.t.d)).mono fun _ _ ⟨he, r⟩ => ⟨he, Lib.hid (h.out.left r.out.1 r.out.2)⟩
theorem ds_set (k call : Int) (s : ByteArray) (hn : n < maxLen) (hk : wf64 k) (hs : s.size ≤ 140737488351232) (h : Hid (DS w0 w p p2 q g n m M N x)) :
    Calls Try.prog 13 #[.pointer (some ⟨p, 0, none⟩), .int .i64 k, .int .i64 call, .string s] w fun e w' => e = .returned (.tuple #[]) ∧ Hid (DS w0 w' p p2 q g (n + 1) m (upd M k ⟨call, true, s⟩) N x) :=
  (set_any p n M k call s w hn hk hs (Lib.hid h.out.t.d)).mono fun _ _ ⟨he, r⟩ => ⟨he, Lib.hid (h.out.left r.out.1 r.out.2)⟩
theorem ds_rask (k call : Int) (hn : (m + 1) * 40 ≤ 140737488351232) (h : Hid (DS w0 w p p2 q g n m M N x)) :
    Calls Try.prog 10 #[.pointer (some ⟨q, 0, none⟩), .int .i64 k, .int .i64 call] w fun e w' => e = .returned (.tuple #[.int .i64 (askN (N k) call), .string (askS (N k) call)]) ∧ Hid (DS w0 w' p p2 q g n (m + 1) M (askM N k call) x) :=
  (rask_any q m N k call w hn (Lib.hid h.out.t.d.bel) (Lib.hid h.out.t.r)).mono fun _ _ ⟨he, r⟩ => ⟨he, Lib.hid (h.out.right r.out.1 r.out.2.1 r.out.2.2)⟩
theorem ds_rreply (k call : Int) (s : ByteArray) (hn : (m + 1) * 40 ≤ 140737488351232) (h : Hid (DS w0 w p p2 q g n m M N x)) :
    Calls Try.prog 12 #[.pointer (some ⟨q, 0, none⟩), .int .i64 k, .int .i64 call, .string s] w fun e w' => e = .returned (.bool (repB (N k) call)) ∧ Hid (DS w0 w' p p2 q g n (m + 1) M (repM N k call s) x) :=
  (rreply_any q m N k call s w hn (Lib.hid h.out.t.d.bel) (Lib.hid h.out.t.r)).mono fun _ _ ⟨he, r⟩ => ⟨he, Lib.hid (h.out.right r.out.1 r.out.2.1 r.out.2.2)⟩
theorem ds_rset (k call : Int) (s : ByteArray) (hn : (m + 1) * 40 ≤ 140737488351232) (h : Hid (DS w0 w p p2 q g n m M N x)) :
    Calls Try.prog 14 #[.pointer (some ⟨q, 0, none⟩), .int .i64 k, .int .i64 call, .string s] w fun e w' => e = .returned (.tuple #[]) ∧ Hid (DS w0 w' p p2 q g n (m + 1) M (upd N k ⟨call, true, s⟩) x) :=
  (rset_any q m N k call s w hn (Lib.hid h.out.t.d.bel) (Lib.hid h.out.t.r)).mono fun _ _ ⟨he, r⟩ => ⟨he, Lib.hid (h.out.right r.out.1 r.out.2.1 r.out.2.2)⟩
end
theorem small_ask {M : Known} (h : Small M) (k call : Int) : Small (askM M k call) := by
  unfold askM
  split
  · exact small_upd h (by show (0 : Nat) ≤ _; omega)
  · exact h
theorem small_rep {M : Known} (h : Small M) (k call : Int) (s : ByteArray) (hs : s.size ≤ 140737488351232) : Small (repM M k call s) := by
  unfold repM
  split
  · exact small_upd h hs
  · exact h
/-- three blocks laid one behind the other -/
theorem dt_new {w0 w : World} (hb : Below w0.heap.size w0 w) :
    DT w0 (((w.alloc (.cells #[.map none] 26)).alloc (.cells #[.map none] 26)).alloc (.cells #[.slice none 0 0] 30)) w.heap.size (w.heap.size + 1) (w.heap.size + 2) 0 0 (fun _ => none) (fun _ => none) := by
  have h1 := desk_new hb
  have hs := hb.size
  obtain ⟨wa, hwa⟩ : ∃ wa, wa = w.alloc (.cells #[.map none] 26) := ⟨_, rfl⟩
  have sa : wa.heap.size = w.heap.size + 1 := by rw [hwa]; simp
  rw [← hwa] at h1 ⊢
  obtain ⟨wb, hwb⟩ : ∃ wb, wb = wa.alloc (.cells #[.map none] 26) := ⟨_, rfl⟩
  have sb : wb.heap.size = w.heap.size + 2 := by rw [hwb]; simp [sa]
  have b2 : wb.heap[w.heap.size + 1]? = some (.cells #[.map none] 26 (0, 0)) := by rw [hwb, ← sa]; exact heap_alloc_new wa _
  rw [← hwb]
  obtain ⟨wc, hwc⟩ : ∃ wc, wc = wb.alloc (.cells #[.slice none 0 0] 30) := ⟨_, rfl⟩
  have bq : wc.heap[w.heap.size + 2]? = some (.cells #[.slice none 0 0] 30 (0, 0)) := by rw [hwc, ← sb]; exact heap_alloc_new wb _
  have hab : Below wa.heap.size wa wc := by rw [hwc, hwb]; exact ((Below.refl _ _).alloc (Nat.le_refl _) _).alloc (by simp) _
  have b2' : wc.heap[w.heap.size + 1]? = some (.cells #[.map none] 26 (0, 0)) := by
    have hbb : Below wb.heap.size wb wc := by rw [hwc]; exact (Below.refl _ _).alloc (Nat.le_refl _) _
    exact (hbb.block _ (by omega)).trans b2
  rw [← hwc]
  exact ⟨h1.below hab, by omega, by omega, ⟨_, b2'⟩, by simp [World.cell?, b2'], ⟨.slice none 0 0, [], ⟨by omega, ⟨_, bq⟩, by simp [World.cell?, bq], rfl, .inl ⟨rfl, rfl⟩⟩, Nat.le_refl _, rfl⟩, ⟨_, bq⟩⟩
end Go.Proofs.Ytcjpllojgmaofaa
