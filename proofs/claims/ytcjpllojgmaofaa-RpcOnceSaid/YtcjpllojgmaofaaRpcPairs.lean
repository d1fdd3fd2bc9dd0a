/- A list of pairs of numbers as it came in; a desk beside the list of calls that were begun. -/
import Derived.Test.YtcjpllojgmaofaaRpcRefD
import Derived.Test.YtcjpllojgmaofaaBytes
namespace Go.Proofs.Ytcjpllojgmaofaa
open Go.RowKit Go.ChangeShapes Go.WideShapes Go.Deep

abbrev Pr := Int × Int
abbrev prCells (x : Pr) : List Value := [.int .i64 x.1, .int .i64 x.2]
theorem pair_of {H : Type} {enc : TypeId × Value → H} {w : World} {base n : Nat} {spare : Nat → Bool} {held : Bool} {cs : List Value} {d : DataW H} {p : List MemPlace}
    (h : DataW.trod enc Try.prog w base spare held n 58 cs = some (d, p)) : ∃ x : Pr, cs = prCells x ∧ wf64 x.1 ∧ wf64 x.2 := by
  have hu : Try.prog.underlying 58 = some (.array 2 3) := Try.underlying58
  obtain ⟨ys, m, _, _, hlen, hyl, hg⟩ := DataW.trod_array hu h
  have c3 : Try.prog.cellsOf 3 = 1 := by kernel_rfl
  have c32 : Try.prog.cellsOf 58 = 2 := by kernel_rfl
  rw [c32] at hlen
  match cs, hlen, ys, hyl with
  | [v0, v1], _, [y0, y1], _ =>
    have g0 : DataW.trod enc Try.prog w base spare held m 3 [v0] = some y0 := by have := hg 0 (by omega); simpa [c3] using this
    have g1 : DataW.trod enc Try.prog w base spare held m 3 [v1] = some y1 := by have := hg 1 (by omega); simpa [c3] using this
    obtain ⟨k, e0, _, wk⟩ := DataW.trod_int Try.underlying3 g0
    obtain ⟨i, e1, _, wi⟩ := DataW.trod_int Try.underlying3 g1
    simp only [List.cons.injEq, and_true] at e0 e1
    subst e0 e1
    exact ⟨(k, i), rfl, i64_of_wf wk, i64_of_wf wi⟩
/-- the slice value holds the pairs it 0, it 1, .., all of them below B -/
def Prs (w : World) (B : Nat) (A : Option Addr) (len : Nat) (it : Nat → Pr) : Prop :=
  ∀ i, i < len → (wf64 (it i).1 ∧ wf64 (it i).2) ∧ ∃ b off, A = some ⟨b, off, none⟩ ∧ b < B ∧ ∀ j u, (prCells (it i))[j]? = some u → w.cell? ⟨b, off + i * 2 + j, none⟩ = some u
theorem open_prs {H : Type} {enc : TypeId × Value → H} {W : World} {base : Nat} {v : Value} {d : DataW H} {p : List MemPlace}
    (hv : Value.okWide Try.prog W .any base 57 v) (h : DataW.Trod enc Try.prog W 0 (fun _ => true) true 57 v d p) (hw : ∀ m ∈ d.weights Try.prog 57, m ≤ reachBytes) :
    ∃ (A : Option Addr) (len cap : Nat) (it : Nat → Pr), v = .slice A len cap ∧ len * 16 ≤ 140737488351232 ∧ Prs W W.heap.size A len it := by
  obtain ⟨A, len, cap, rfl⟩ := okWide_slice Try.underlying57 hv
  obtain ⟨fuel, hf⟩ := h
  rcases open_slice Try.underlying57 hf with ⟨hcs, _⟩ | ⟨a, len', cap', m, n, D, Pl, hcs, _, hl, hm, hmm, hx, hi⟩
  · simp only [Value.cells, List.cons.injEq, and_true] at hcs
    injection hcs with e1 e2 e3
    subst e1 e2 e3
    exact ⟨none, 0, 0, fun _ => (0, 0), rfl, by omega, fun i hi => absurd hi (by omega)⟩
  · simp only [Value.cells, List.cons.injEq, and_true] at hcs
    injection hcs with e1 e2 e3
    subst e1 e2 e3
    simp only [if_true] at hmm
    simp only [Prod.mk.injEq] at hx
    have c29 : Try.prog.cellsOf 58 = 2 := by kernel_rfl
    have b29 : Try.prog.bytesOf 58 = 16 := by kernel_rfl
    rw [c29] at hi
    have hlen : len * 16 ≤ 140737488351232 := by
      have := hw ((((List.range len).map D).length + ((List.range (m - len)).map fun j => D (len + j)).length) * 16) (by
        rw [hx.1]
        simp [DataW.weights, Try.underlying57, b29])
      unfold reachBytes at this
      simp at this
      omega
    have all : ∀ i, ∃ x : Pr, i < len → (wf64 x.1 ∧ wf64 x.2) ∧ ∃ b off, some a = some (⟨b, off, none⟩ : Addr) ∧ b < W.heap.size ∧ ∀ j u, (prCells x)[j]? = some u → W.cell? ⟨b, off + i * 2 + j, none⟩ = some u := fun i => by
      by_cases hil : i < len
      · obtain ⟨cs', hc, ht⟩ := hi i (by omega)
        obtain ⟨x, rfl, b1⟩ := pair_of ht
        obtain ⟨_, _, hat⟩ := World.cells?_some hc
        have hat' : ∀ j u, (prCells x)[j]? = some u → W.cell? ((a.add (i * 2)).add j) = some u := fun j u hj => by
          have hj5 : j < 2 := by
            have := (List.getElem?_eq_some_iff.1 hj).1
            simpa using this
          rw [hat j hj5, hj]
        have h0 : a.spot = none := by
          obtain ⟨cs0, hc0, ht0⟩ := hi 0 (by omega)
          obtain ⟨x0, rfl, _⟩ := pair_of ht0
          obtain ⟨_, _, hat0⟩ := World.cells?_some hc0
          have := World.cell?_spot (hat0 0 (by omega))
          simpa [Addr.add] using this
        obtain ⟨b, off, spot⟩ := a
        have hspot : spot = none := h0
        subst hspot
        refine ⟨x, fun _ => ⟨b1, b, off, rfl, ?_, fun j u hj => ?_⟩⟩
        · have hc0 := hat' 0 _ rfl
          rw [add_plain, add_plain] at hc0
          rcases Nat.lt_or_ge b W.heap.size with hlt | hge
          · exact hlt
          · simp [World.cell?, Array.getElem?_eq_none hge] at hc0
        · have := hat' j u hj
          rwa [add_plain, add_plain] at this
      · exact ⟨(0, 0), fun h => absurd h hil⟩
    exact ⟨some a, len, cap, fun i => Classical.choose (all i), rfl, hlen, fun i hi => Classical.choose_spec (all i) hi⟩
def cellsP : List Pr → List Value
  | [] => []
  | e :: r => prCells e ++ cellsP r
theorem cellsP_length : ∀ L : List Pr, (cellsP L).length = L.length * 2
  | [] => rfl
  | e :: r => by simp [cellsP, cellsP_length r]; omega
theorem cellsP_snoc : ∀ (L : List Pr) (x : Pr), cellsP (L ++ [x]) = cellsP L ++ prCells x
  | [], x => by simp [cellsP]
  | e :: r, x => by simp [cellsP, cellsP_snoc r x]
theorem cellsP_get : ∀ (L : List Pr) (i : Nat) (e : Pr), L[i]? = some e → ∀ j, j < 2 → (cellsP L)[i * 2 + j]? = (prCells e)[j]?
  | [], i, e, h, _, _ => by simp at h
  | a :: r, 0, e, h, j, hj => by
    simp at h
    subst h
    rw [Nat.zero_mul, Nat.zero_add]
    exact List.getElem?_append_left hj
  | a :: r, i + 1, e, h, j, hj => by
    have := cellsP_get r i e (by simpa using h) j hj
    rw [show (i + 1) * 2 + j = (i * 2 + j) + 2 by omega]
    show (prCells a ++ cellsP r)[_]? = _
    rw [List.getElem?_append_right (by simp)]
    simpa using this
/-- a desk at p and the list v of the calls that were begun -/
structure OT (w0 w : World) (p n : Nat) (M : Known) (v : Value) (B : List Pr) : Prop where
  d : DeskSt w0 w p n M
  f : Fly w 58 2 w0.heap.size v B.length (cellsP B)
/-- .. and the box of the call at hand -/
structure OS (w0 w : World) (p n : Nat) (M : Known) (v : Value) (B : List Pr) (g : Nat) (x : Pr) : Prop where
  t : OT w0 w p n M v B
  ty : Bears w g 58
  c0 : w.cell? ⟨g, 0, none⟩ = some (.int .i64 x.1)
  c1 : w.cell? ⟨g, 1, none⟩ = some (.int .i64 x.2)
theorem Bears.eq {w w' : World} {b : Nat} {e : TypeId} (h : Bears w b e) (k : w'.heap[b]? = w.heap[b]?) : Bears w' b e := by
  obtain ⟨cs, h⟩ := h
  exact ⟨cs, k.trans h⟩
section
variable {w0 w w' : World} {p n n' g : Nat} {M M' : Known} {v : Value} {B : List Pr} {x : Pr}
theorem OT.left (h : OT w0 w p n M v B) (k : DeskSt w0 w' p n' M') (f : DF p w w') : OT w0 w' p n' M' v B :=
  ⟨k, h.f.same (fun b hb => f b _ (h.f.ty b hb) (bears_apart (h.f.ty b hb) h.d.ty (by decide)))⟩
theorem OT.below (h : OT w0 w p n M v B) (hb : Below w.heap.size w w') : OT w0 w' p n M v B := h.left (h.d.below hb) (df_below p hb)
theorem OS.left (h : OS w0 w p n M v B g x) (k : DeskSt w0 w' p n' M') (f : DF p w w') : OS w0 w' p n' M' v B g x := by
  have e := f g _ h.ty (bears_apart h.ty h.t.d.ty (by decide))
  exact ⟨h.t.left k f, h.ty.eq e, (cell_eq e 0).trans h.c0, (cell_eq e 1).trans h.c1⟩
theorem OS.below (h : OS w0 w p n M v B g x) (hb : Below w.heap.size w w') : OS w0 w' p n M v B g x := h.left (h.t.d.below hb) (df_below p hb)
theorem OS.drew (h : OS w0 w p n M v B g x) : OS w0 w.drew p n M v B g x := h.below ⟨rfl, rfl, rfl, Nat.le_refl _, fun _ _ => rfl⟩
theorem OT.box (h : OT w0 w p n M v B) (x : Pr) : OS w0 (w.alloc (.cells #[.int .i64 x.1, .int .i64 x.2] 58)) p n M v B w.heap.size x :=
  ⟨h.below ((Below.refl _ w).alloc (Nat.le_refl _) _), ⟨_, heap_alloc_new w _⟩, by simp, by simp⟩
theorem OS.cells (h : Hid (OS w0 w p n M v B g x)) : w.cell? ⟨g, 0, none⟩ = some (.int .i64 x.1) ∧ w.cell? ⟨g, 1, none⟩ = some (.int .i64 x.2) := ⟨h.out.c0, h.out.c1⟩
theorem os_ask (k call : Int) (hn : n < maxLen) (hk : wf64 k) (hS : Small M) (h : Hid (OS w0 w p n M v B g x)) :
    Calls Try.prog 9 #[.pointer (some ⟨p, 0, none⟩), .int .i64 k, .int .i64 call] w fun e w' => e = .returned (.tuple #[.int .i64 (askN (M k) call), .string (askS (M k) call)]) ∧ Hid (OS w0 w' p (n + 1) (askM M k call) v B g x) :=
  (ask_any p n M k call w hn hk hS (Lib.hid h.out.t.d)).mono fun _ _ ⟨he, r⟩ => ⟨he, Lib.hid (h.out.left r.out.1 r.out.2)⟩
theorem os_reply (k call : Int) (s : ByteArray) (hn : n < maxLen) (hk : wf64 k) (hs : s.size ≤ 140737488351232) (h : Hid (OS w0 w p n M v B g x)) :
    Calls Try.prog 11 #[.pointer (some ⟨p, 0, none⟩), .int .i64 k, .int .i64 call, .string s] w fun e w' => e = .returned (.bool (repB (M k) call)) ∧ Hid (OS w0 w' p (n + 1) (repM M k call s) v B g x) :=
  (reply_any p n M k call s w hn hk hs (Lib.hid h.out.t.d)).mono fun _ _ ⟨he, r⟩ => ⟨he, Lib.hid (h.out.left r.out.1 r.out.2)⟩
end
def txt (x : Pr) : ByteArray := ⟨#[UInt8.ofNat (x.1 % 256).toNat, UInt8.ofNat (x.2 % 256).toNat, 114]⟩
theorem u8_mod (k : Int) : k % 256 = ((UInt8.ofNat (k % 256).toNat).toNat : Int) := by
  have h0 := Int.emod_nonneg k (by decide : (256 : Int) ≠ 0)
  have h1 := Int.emod_lt_of_pos k (by decide : (0 : Int) < 256)
  rw [UInt8.toNat_ofNat_of_lt' (by show _ < 256; omega)]
  omega
set_option maxHeartbeats 2000000 in
set_option maxRecDepth 100000 in
theorem text_any (x : Pr) (w : World) : Calls Try.prog 22 #[.agg #[.int .i64 x.1, .int .i64 x.2]] w fun e w' => e = .returned (.string (txt x)) ∧ Below w.heap.size w w' := by
  have hcv : ∀ w1 : World, (convert 74 9 (.slice (some ⟨w1.heap.size, 0, none⟩) 3 3)).run Try.prog (w1.alloc (.cells #[.int .u8 (x.1 % 256), .int .u8 (x.2 % 256), .int .u8 114] 5)) =
      .ok (.string (txt x)) (w1.alloc (.cells #[.int .u8 (x.1 % 256), .int .u8 (x.2 % 256), .int .u8 114] 5)) := fun w1 => by
    have := run_convert_bytes_back (P := Try.prog) (w1.alloc (.cells #[.int .u8 (x.1 % 256), .int .u8 (x.2 % 256), .int .u8 114] 5)) 74 9 5 ⟨w1.heap.size, 0, none⟩ 3 [UInt8.ofNat (x.1 % 256).toNat, UInt8.ofNat (x.2 % 256).toNat, 114]
      Try.underlying74 Try.underlying5 Try.underlying9 (fun j hj => by
        match j, hj with
        | 0, _ => simp only [Addr.add, List.getElem_cons_zero]; rw [← u8_mod]; simp
        | 1, _ => simp only [Addr.add, List.getElem_cons_succ, List.getElem_cons_zero]; rw [← u8_mod]; simp
        | 2, _ => simp [Addr.add])
    exact this
  have hcv1 := hcv (w.alloc (.cells #[.int .i64 x.1, .int .i64 x.2] 58))
  rw [World.size_alloc] at hcv1
  have HB := Lib.hid (((Below.refl _ w).alloc (Nat.le_refl _) (.cells #[.int .i64 x.1, .int .i64 x.2] 58)).alloc (by simp) (.cells #[.int .u8 (x.1 % 256), .int .u8 (x.2 % 256), .int .u8 114] 5))
  clear hcv
  go_enter Try.func22, Try.ntmps22
  go_wp2
  go_ret
  exact ⟨rfl, HB.out⟩
theorem os_text {w0 w : World} {p n g : Nat} {M : Known} {v : Value} {B : List Pr} {x : Pr} (h : Hid (OS w0 w p n M v B g x)) :
    Calls Try.prog 22 #[.agg #[.int .i64 x.1, .int .i64 x.2]] w fun e w' => e = .returned (.string (txt x)) ∧ Hid (OS w0 w' p n M v B g x) :=
  (text_any x w).mono fun _ _ ⟨he, hb⟩ => ⟨he, Lib.hid (h.out.below hb)⟩
/-- what is known is just what was begun and replied -/
structure Inv (M : Known) (B : List Pr) : Prop where
  kn : ∀ k c, M k = some c → c.r = true ∧ c.s = txt (k, c.n) ∧ (k, c.n) ∈ B
  up : ∀ k n, (k, n) ∈ B → ∃ c, M k = some c ∧ n ≤ c.n
theorem Inv.small {M : Known} {B : List Pr} (h : Inv M B) : Small M := fun k c hc => by
  rw [(h.kn k c hc).2.1]
  show (3 : Nat) ≤ _
  omega
theorem inv_step {M : Known} {B : List Pr} (h : Inv M B) (k call : Int) (hnew : askN (M k) call = 0) : Inv (upd M k ⟨call, true, txt (k, call)⟩) (B ++ [(k, call)]) := by
  constructor
  · intro a c hc
    unfold upd at hc
    split at hc
    · rename_i e
      injection hc with hc
      subst hc
      subst e
      exact ⟨rfl, rfl, by simp⟩
    · obtain ⟨h1, h2, h3⟩ := h.kn a c hc
      exact ⟨h1, h2, List.mem_append_left _ h3⟩
  · intro a n hm
    rcases List.mem_append.1 hm with hm | hm
    · obtain ⟨c, hc, hn⟩ := h.up a n hm
      by_cases e : a = k
      · subst e
        refine ⟨_, by unfold upd; rw [if_pos rfl], ?_⟩
        rw [hc] at hnew
        unfold askN at hnew
        simp only at hnew ⊢
        split at hnew
        · omega
        · split at hnew
          · cases hnew
          · split at hnew <;> cases hnew
      · exact ⟨c, by unfold upd; rw [if_neg e]; exact hc, hn⟩
    · simp only [List.mem_singleton, Prod.mk.injEq] at hm
      obtain ⟨rfl, rfl⟩ := hm
      exact ⟨_, by unfold upd; rw [if_pos rfl], Int.le_refl _⟩
theorem inv_cases {M : Known} {B : List Pr} (h : Inv M B) (k call : Int) : (askN (M k) call = 0 ∧ (k, call) ∉ B ∧ askS (M k) call = ⟨#[]⟩) ∨ (askN (M k) call = 2 ∧ (k, call) ∈ B ∧ askS (M k) call = txt (k, call)) ∨ (askN (M k) call = 3 ∧ askS (M k) call = ⟨#[]⟩) := by
  cases hM : M k with
  | none =>
    refine .inl ⟨rfl, fun hm => ?_, rfl⟩
    obtain ⟨c, hc, _⟩ := h.up k call hm
    rw [hM] at hc
    cases hc
  | some c =>
    obtain ⟨h1, h2, h3⟩ := h.kn k c hM
    by_cases e1 : c.n < call
    · have hA : askN (some c) call = 0 := by simp [askN, e1]
      refine .inl ⟨hA, fun hm => ?_, by unfold askS; rw [hA]; rfl⟩
      obtain ⟨c', hc, hn⟩ := h.up k call hm
      rw [hM] at hc
      injection hc with hc
      subst hc
      omega
    · by_cases e2 : call < c.n
      · have hA : askN (some c) call = 3 := by simp [askN, e1, e2]
        exact .inr (.inr ⟨hA, by unfold askS; rw [hA]; rfl⟩)
      · have hA : askN (some c) call = 2 := by simp [askN, e1, e2, h1]
        have e3 : c.n = call := by omega
        exact .inr (.inl ⟨hA, e3 ▸ h3, by unfold askS; rw [hA, if_pos rfl]; show c.s = _; rw [h2, e3]⟩)
theorem upd_upd (M : Known) (k : Int) (c d : LCall) : upd (upd M k c) k d = upd M k d := by
  funext x
  unfold upd
  split <;> rfl
section
variable {w0 w : World} {p n g : Nat} {M : Known} {v : Value} {B : List Pr} {x : Pr}
theorem os_reply1 (hn : n < maxLen) (hk : wf64 x.1) (h : Hid (OS w0 w p n (upd M x.1 ⟨x.2, false, ⟨#[]⟩⟩) v B g x)) :
    Calls Try.prog 11 #[.pointer (some ⟨p, 0, none⟩), .int .i64 x.1, .int .i64 x.2, .string (txt x)] w fun e w' => e = .returned (.bool true) ∧ Hid (OS w0 w' p (n + 1) (upd M x.1 ⟨x.2, true, txt x⟩) v B g x) :=
  (os_reply x.1 x.2 (txt x) hn hk (by show (3 : Nat) ≤ _; omega) h).mono fun _ _ ⟨he, r⟩ => by
    have hb : repB (upd M x.1 ⟨x.2, false, ⟨#[]⟩⟩ x.1) x.2 = true := by simp [upd, repB]
    unfold repM at r
    rw [hb, if_pos rfl, upd_upd] at r
    rw [hb] at he
    exact ⟨he, r⟩
theorem os_reply2 (s : ByteArray) (hs : s.size ≤ 140737488351232) (hn : n < maxLen) (hk : wf64 x.1) (h : Hid (OS w0 w p n (upd M x.1 ⟨x.2, true, txt x⟩) v B g x)) :
    Calls Try.prog 11 #[.pointer (some ⟨p, 0, none⟩), .int .i64 x.1, .int .i64 x.2, .string s] w fun e w' => e = .returned (.bool false) ∧ Hid (OS w0 w' p (n + 1) (upd M x.1 ⟨x.2, true, txt x⟩) v B g x) :=
  (os_reply x.1 x.2 s hn hk hs h).mono fun _ _ ⟨he, r⟩ => by
    have hb : repB (upd M x.1 ⟨x.2, true, txt x⟩ x.1) x.2 = false := by simp [upd, repB]
    unfold repM at r
    rw [hb] at r he
    exact ⟨he, r⟩
/-- the list of the calls that were begun, behind an append -/
theorem OT.app {w1 w2 : World} {v' : Value} {y : Pr} (h : OT w0 w p n M v B) (h1 : Below w.heap.size w w1) (hf : Fly w2 58 2 w0.heap.size v' (B.length + 1) (cellsP B ++ prCells y)) (hg : w1.grownBy w2 v.ownBlock) : OT w0 w2 p n M v' (B ++ [y]) := by
  have h2 := h.below h1
  have hs1 := h2.d.bel.size
  have hvlt : ∀ b, v.ownBlock = some b → w0.heap.size ≤ b := fun b hb => (h.f.lt b hb).1
  have hp : w2.heap[p]? = w1.heap[p]? := hg.block p h2.d.ty.lt (fun e => bears_apart (h2.f.ty p e.symm) h2.d.ty (by decide) rfl)
  refine ⟨⟨⟨hg.os.trans h2.d.bel.os, hg.tape.trans h2.d.bel.tape, hg.output.trans h2.d.bel.output, Nat.le_trans hs1 hg.size, fun b hb => ?_⟩, h.d.lo, h2.d.ty.eq hp, ?_⟩, ?_⟩
  · exact (hg.block b (by omega) (fun e => by have := hvlt b e.symm; omega)).trans (h2.d.bel.block b hb)
  · rcases h2.d.v with ⟨q1, q2⟩ | ⟨m, q1, q2, q3⟩
    · exact .inl ⟨(cell_eq hp 0).trans q1, q2⟩
    · refine .inr ⟨m, q1, (cell_eq hp 0).trans q2, q3.same (hg.block m q3.lt (fun e => ?_))⟩
      obtain ⟨cs, hc⟩ := h2.f.ty m e.symm
      obtain ⟨es, clock, hm⟩ := q3.map
      rw [hc] at hm
      cases hm
  · rw [cellsP_snoc, List.length_append]
    exact hf
end
end Go.Proofs.Ytcjpllojgmaofaa
