/- A net, a caller and a desk beside each other: what each call makes of the three. -/
import Derived.Test.YtddgigkalagpoaaNetLaw
import Derived.Test.YtddgigkalagpoaaRpcDesk
import Derived.Test.YtddgigkalagpoaaTopDec
namespace Go.Proofs.Ytddgigkalagpoaa
open Go.RowKit

/-- a net of two nodes at p, a caller at q, a desk at r -/
structure TK (w0 w : World) (p q r : Nat) (sent : Int) (n : Nat) (L : List Letr) (c : Clr) (M : Known) : Prop where
  net : NSt w0 w p 2 sent (.map none) L
  clr : ClrSt w0 w q c
  dsk : DeskSt w0 w r n M
/-- .. and the box of a letter that has arrived -/
structure TB (w0 w : World) (p q r g : Nat) (sent : Int) (n : Nat) (L : List Letr) (c : Clr) (M : Known) (l : Letr) : Prop where
  t : TK w0 w p q r sent n L c M
  ty : Bears w g 39
  c2 : w.cell? ⟨g, 2, none⟩ = some (.int .i64 l.b)
  c3 : w.cell? ⟨g, 3, none⟩ = some (.string l.s)
section
variable {w0 w w' : World} {p q r g n n' : Nat} {sent sent' : Int} {L L' : List Letr} {c c' : Clr} {M M' : Known} {l : Letr}
theorem nst_keep (h : NSt w0 w p 2 sent (.map none) L) (hb : Below w0.heap.size w0 w') (f : ∀ b e, Bears w b e → e = 55 ∨ e = 39 → w'.heap[b]? = w.heap[b]?) : NSt w0 w' p 2 sent (.map none) L := by
  obtain ⟨h1, h2, v, h3⟩ := h
  have e := f p _ h3.ty (.inl rfl)
  exact ⟨hb, h2, v, h3.at'.same e, by obtain ⟨cs, k⟩ := h3.ty; exact ⟨cs, e.trans k⟩, h3.fly.same (fun b hv => f b _ (h3.fly.ty b hv) (.inr rfl))⟩
theorem NSt.bel (h : NSt w0 w p 2 sent (.map none) L) : Below w0.heap.size w0 w := h.1
theorem clr_keep (h : ClrSt w0 w q c) (hb : Below w0.heap.size w0 w') (f : w'.heap[q]? = w.heap[q]?) : ClrSt w0 w' q c := ⟨hb, h.lo, h.at'.same f⟩
theorem desk_keep (h : DeskSt w0 w r n M) (hb : Below w0.heap.size w0 w') (f : w'.heap[r]? = w.heap[r]?) (fm : ∀ m, m < w.heap.size → (∃ es clock, w.heap[m]? = some (.map es clock)) → w'.heap[m]? = w.heap[m]?) : DeskSt w0 w' r n M := by
  refine ⟨hb, h.lo, by obtain ⟨cs, k⟩ := h.ty; exact ⟨cs, f.trans k⟩, ?_⟩
  rcases h.v with ⟨h1, h2⟩ | ⟨m, h1, h2, h3⟩
  · exact .inl ⟨(cell_eq f 0).trans h1, h2⟩
  · exact .inr ⟨m, h1, (cell_eq f 0).trans h2, h3.same (fm m h3.lt h3.map)⟩
theorem TK.below (h : TK w0 w p q r sent n L c M) (hb : Below w.heap.size w w') : TK w0 w' p q r sent n L c M := ⟨h.net.below hb, h.clr.below hb, h.dsk.below hb⟩
theorem TK.more (h : TK w0 w p q r sent n L c M) (hn : n ≤ n') : TK w0 w p q r sent n' L c M := ⟨h.net, h.clr, h.dsk.more hn⟩
theorem TK.byNet {v v' : Value} (h : TK w0 w p q r sent n L c M) (h3 : NetL w w0.heap.size p 2 sent (.map none) v L) (k : NetL w' w0.heap.size p 2 sent' (.map none) v' L') (t : Tch w w' (own2 p v)) : TK w0 w' p q r sent' n L' c M := by
  obtain ⟨a1, a2⟩ := nst_of h.net.1 h.net.2.1 h3 k t
  refine ⟨a1, clr_keep h.clr a1.1 (a2 q _ h.clr.at'.ty (by decide) (by decide)), desk_keep h.dsk a1.1 (a2 r _ h.dsk.ty (by decide) (by decide)) (fun m hm hex => t.block m hm (fun hi => ?_))⟩
  obtain ⟨es, clock, hmm⟩ := hex
  rcases hi with e | e
  · obtain ⟨cs, k2⟩ := h3.ty
    rw [← e, hmm] at k2
    cases k2
  · obtain ⟨cs, k2⟩ := h3.fly.ty m e.symm
    rw [hmm] at k2
    cases k2
theorem TK.byClr (h : TK w0 w p q r sent n L c M) (k : ClrSt w0 w' q c') (f : CF q w w') : TK w0 w' p q r sent n L c' M := by
  have hq : ∀ b e, Bears w b e → e ≠ 57 → w'.heap[b]? = w.heap[b]? := fun b e hb he => f b hb.lt (bears_apart hb h.clr.at'.ty he)
  refine ⟨nst_keep h.net k.bel (fun b e hb he => hq b e hb (by rcases he with rfl | rfl <;> decide)), k, desk_keep h.dsk k.bel (hq r _ h.dsk.ty (by decide)) (fun m hm hex => f m hm (fun e => ?_))⟩
  obtain ⟨es, clock, hmm⟩ := hex
  obtain ⟨cs, k2⟩ := h.clr.at'.ty
  rw [← e, hmm] at k2
  cases k2
theorem TK.byDesk (h : TK w0 w p q r sent n L c M) (k : DeskSt w0 w' r n' M') (f : DF r w w') : TK w0 w' p q r sent n' L c M' := by
  have hq : ∀ b e, Bears w b e → e ≠ 29 → w'.heap[b]? = w.heap[b]? := fun b e hb he => f b e hb (bears_apart hb h.dsk.ty he)
  exact ⟨nst_keep h.net k.bel (fun b e hb he => hq b e hb (by rcases he with rfl | rfl <;> decide)), clr_keep h.clr k.bel (hq q _ h.clr.at'.ty (by decide)), k⟩
theorem TB.byClr (h : TB w0 w p q r g sent n L c M l) (k : ClrSt w0 w' q c') (f : CF q w w') : TB w0 w' p q r g sent n L c' M l := by
  have e := f g h.ty.lt (bears_apart h.ty h.t.clr.at'.ty (by decide))
  exact ⟨h.t.byClr k f, by obtain ⟨cs, k2⟩ := h.ty; exact ⟨cs, e.trans k2⟩, (cell_eq e 2).trans h.c2, (cell_eq e 3).trans h.c3⟩
theorem TB.byDesk (h : TB w0 w p q r g sent n L c M l) (k : DeskSt w0 w' r n' M') (f : DF r w w') : TB w0 w' p q r g sent n' L c M' l := by
  have e := f g _ h.ty (bears_apart h.ty h.t.dsk.ty (by decide))
  exact ⟨h.t.byDesk k f, by obtain ⟨cs, k2⟩ := h.ty; exact ⟨cs, e.trans k2⟩, (cell_eq e 2).trans h.c2, (cell_eq e 3).trans h.c3⟩
theorem TK.box (h : TK w0 w p q r sent n L c M) (l : Letr) : TB w0 (w.alloc (.cells #[.int .i64 l.id, .int .i64 l.a, .int .i64 l.b, .string l.s] 39)) p q r w.heap.size sent n L c M l :=
  ⟨h.below ((Below.refl _ w).alloc (Nat.le_refl _) _), ⟨_, heap_alloc_new w _⟩, by simp, by simp⟩
theorem tk_fly (hL : L.length ≤ 65536) (hs : ∀ l ∈ L, l.s.size ≤ 1048576) (h : Hid (TK w0 w p q r sent n L c M)) :
    Calls Try.prog 8 #[.pointer (some ⟨p, 0, none⟩)] w fun e w' => e = .returned (.slice (some ⟨w.heap.size, 0, none⟩) L.length L.length) ∧ Hid (TK w0 w' p q r sent n L c M) := by
  obtain ⟨h1, h2, v, h3⟩ := h.out.net
  refine (flying_L w0.heap.size p 2 sent (.map none) v L w hL hs h3).mono ?_
  rintro e w' ⟨he, hb, hr⟩
  exact ⟨he, Lib.hid (h.out.below hb)⟩
theorem tk_deliver (k : Nat) (l : Letr) (hs : l.s.size ≤ 1048576) (hk : L[k]? = some l) (hL : L.length ≤ 65536) (h : Hid (TK w0 w p q r sent n L c M)) :
    Calls Try.prog 10 #[.pointer (some ⟨p, 0, none⟩), .int .i64 k] w fun e w' => e = .returned (.tuple #[letV l, .int .i64 0]) ∧ Hid (TK w0 w' p q r sent n (L.eraseIdx k) c M) := by
  obtain ⟨h1, h2, v, h3⟩ := h.out.net
  refine (deliver_L w0.heap.size p k 2 sent (.map none) v L l false w hs hk hL h3 (fun w2 hb => parted_none p 2 sent l.a l.b v w2 (h3.below hb).at')).mono ?_
  rintro e w' ⟨he, v', h4, _, t⟩
  exact ⟨he, Lib.hid (h.out.byNet h3 h4 t)⟩
theorem tk_deliver_no (k : Int) (hL : L = []) (h : Hid (TK w0 w p q r sent n L c M)) :
    Calls Try.prog 10 #[.pointer (some ⟨p, 0, none⟩), .int .i64 k] w fun e w' => e = .returned (.tuple #[noLet, .int .i64 2]) ∧ Hid (TK w0 w' p q r sent n L c M) := by
  obtain ⟨h1, h2, v, h3⟩ := h.out.net
  refine (deliver_arg w0.heap.size p 2 sent (.map none) v L k w (by rw [hL]; simp) h3).mono ?_
  rintro e w' ⟨he, hb⟩
  exact ⟨he, Lib.hid (h.out.below hb)⟩
/-- behind a loss or a doubling: letters that were there -/
def SomeL (w0 : World) (p q r : Nat) (sent : Int) (n : Nat) (L : List Letr) (c : Clr) (M : Known) (e : Ending) (w' : World) : Prop :=
  ∃ (x : Int) (L' : List Letr), e = .returned (.int .i64 x) ∧ L'.length ≤ 65536 ∧ (∀ l ∈ L', l ∈ L) ∧ Hid (TK w0 w' p q r sent n L' c M)
theorem tk_drop (k : Nat) (hL : L.length ≤ 65536) (h : Hid (TK w0 w p q r sent n L c M)) :
    Calls Try.prog 15 #[.pointer (some ⟨p, 0, none⟩), .int .i64 k] w (SomeL w0 p q r sent n L c M) := by
  obtain ⟨h1, h2, v, h3⟩ := h.out.net
  by_cases hk : k < L.length
  · refine (drop_L w0.heap.size p k 2 sent (.map none) v L w hk h3).mono ?_
    rintro e w' ⟨he, v', h4, _, t⟩
    exact ⟨_, L.eraseIdx k, he, Nat.le_trans (List.length_eraseIdx_le L k) hL, fun l hl => List.mem_of_mem_eraseIdx hl, Lib.hid (h.out.byNet h3 h4 t)⟩
  · refine (drop_arg w0.heap.size p 2 sent (.map none) v L k w (by omega) h3).mono ?_
    rintro e w' ⟨he, rfl⟩
    exact ⟨_, L, he, hL, fun l hl => hl, h⟩
theorem tk_double (k : Nat) (hL : L.length ≤ 65536) (h : Hid (TK w0 w p q r sent n L c M)) :
    Calls Try.prog 16 #[.pointer (some ⟨p, 0, none⟩), .int .i64 k] w (SomeL w0 p q r sent n L c M) := by
  obtain ⟨h1, h2, v, h3⟩ := h.out.net
  by_cases hk : k < L.length
  · by_cases hf : L.length < 65536
    · obtain ⟨l, hl⟩ : ∃ l, L[k]? = some l := ⟨_, List.getElem?_eq_getElem hk⟩
      refine (double_L w0.heap.size p k 2 sent (.map none) v L l w hl hf h1.size h3).mono ?_
      rintro e w' ⟨he, v', h4, _, t⟩
      refine ⟨_, L ++ [l], he, by simp; omega, fun x hx => ?_, Lib.hid (h.out.byNet h3 h4 t)⟩
      rcases List.mem_append.1 hx with hx | hx
      · exact hx
      · simp at hx; subst hx; exact List.mem_of_getElem? hl
    · refine (double_full w0.heap.size p 2 sent (.map none) v L w k (by omega) (by omega) h3).mono ?_
      rintro e w' ⟨he, rfl⟩
      exact ⟨_, L, he, hL, fun l hl => hl, h⟩
  · refine (double_arg w0.heap.size p 2 sent (.map none) v L w k (by omega) h3).mono ?_
    rintro e w' ⟨he, rfl⟩
    exact ⟨_, L, he, hL, fun l hl => hl, h⟩
/-- behind a letter that was put on its way, or was refused -/
def SentL (w0 : World) (p q r : Nat) (a b : Int) (s : ByteArray) (sent : Int) (n : Nat) (L : List Letr) (c : Clr) (M : Known) (e : Ending) (w' : World) : Prop :=
  ∃ (x y sent' : Int) (L' : List Letr), e = .returned (.tuple #[.int .i64 x, .int .i64 y]) ∧ sent ≤ sent' ∧ sent' ≤ sent + 1 ∧ L'.length ≤ 65536 ∧ (∀ l ∈ L', l ∈ L ∨ (l.a = a ∧ l.b = b ∧ l.s = s)) ∧ Hid (TK w0 w' p q r sent' n L' c M)
theorem tk_send (a b : Int) (s : ByteArray) (hab : (a = 0 ∧ b = 1) ∨ (a = 1 ∧ b = 0)) (hs : s.size ≤ 1048576) (hL : L.length ≤ 65536) (hsn : 0 ≤ sent ∧ sent ≤ 9223372036854775806) (h : Hid (TK w0 w p q r sent n L c M)) :
    Calls Try.prog 7 #[.pointer (some ⟨p, 0, none⟩), .int .i64 a, .int .i64 b, .string s] w (SentL w0 p q r a b s sent n L c M) := by
  obtain ⟨h1, h2, v, h3⟩ := h.out.net
  have ha : nodeB 2 a = true := by rcases hab with ⟨rfl, rfl⟩ | ⟨rfl, rfl⟩ <;> rfl
  have hb : nodeB 2 b = true := by rcases hab with ⟨rfl, rfl⟩ | ⟨rfl, rfl⟩ <;> rfl
  by_cases hf : L.length < 65536
  · refine (send_L w0.heap.size p 2 sent a b (.map none) v s L w hs hf hsn ha hb h1.size h3).mono ?_
    rintro e w' ⟨he, v', h4, _, t⟩
    refine ⟨_, _, sent + 1, L ++ [⟨sent + 1, a, b, s⟩], he, by omega, by omega, by simp; omega, fun l hl => ?_, Lib.hid (h.out.byNet h3 h4 t)⟩
    rcases List.mem_append.1 hl with hl | hl
    · exact .inl hl
    · simp at hl; subst hl; exact .inr ⟨rfl, rfl, rfl⟩
  · refine (send_full w0.heap.size p 2 sent (.map none) v L w a b s h3 (by rw [ha, hb]; rfl) hs (by omega)).mono ?_
    rintro e w' ⟨he, hbl⟩
    exact ⟨_, _, sent, L, he, by omega, by omega, hL, fun l hl => .inl hl, Lib.hid (h.out.below hbl)⟩
theorem tk_call (h : Hid (TK w0 w p q r sent n L c M)) :
    Calls Try.prog 9 #[.pointer (some ⟨q, 0, none⟩)] w fun e w' => e = .returned (.tuple #[.int .i64 c.call, .bool c.und]) ∧ Hid (TK w0 w' p q r sent n L c M) :=
  (call_any q c w (Lib.hid h.out.clr)).mono fun _ _ ⟨he, k⟩ => ⟨he, Lib.hid (h.out.byClr k.out.1 k.out.2)⟩
theorem tk_start (now : Int) (hc : 0 ≤ c.call ∧ c.call < 9223372036854775807) (h : Hid (TK w0 w p q r sent n L c M)) :
    Calls Try.prog 6 #[.pointer (some ⟨q, 0, none⟩), .int .i64 now] w fun e w' => e = .returned (.int .i64 (c.call + 1)) ∧ Hid (TK w0 w' p q r sent n L ⟨c.wait, c.most, c.call + 1, true, mom now, mom now⟩ M) :=
  (start_any q c now w hc (Lib.hid h.out.clr)).mono fun _ _ ⟨he, k⟩ => ⟨he, Lib.hid (h.out.byClr k.out.1 k.out.2)⟩
theorem tk_tick (now : Int) (hok : ClrOk c) (h : Hid (TK w0 w p q r sent n L c M)) :
    Calls Try.prog 17 #[.pointer (some ⟨q, 0, none⟩), .int .i64 now] w fun e w' => e = .returned (.int .i64 (tickA c now)) ∧ Hid (TK w0 w' p q r sent n L (tickC c now) M) :=
  (tick_any q c now w hok (Lib.hid h.out.clr)).mono fun _ _ ⟨he, k⟩ => ⟨he, Lib.hid (h.out.byClr k.out.1 k.out.2)⟩
theorem tb_got (x : Int) (h : Hid (TB w0 w p q r g sent n L c M l)) :
    Calls Try.prog 14 #[.pointer (some ⟨q, 0, none⟩), .int .i64 x] w fun e w' => e = .returned (.bool (gotB c x)) ∧ Hid (TB w0 w' p q r g sent n L (gotC c x) M l) :=
  (got_any q c x w (Lib.hid h.out.t.clr)).mono fun _ _ ⟨he, k⟩ => ⟨he, Lib.hid (h.out.byClr k.out.1 k.out.2)⟩
theorem tb_ask (k call : Int) (hn : n < maxLen) (hk : wf64 k) (hS : Small M) (h : Hid (TB w0 w p q r g sent n L c M l)) :
    Calls Try.prog 12 #[.pointer (some ⟨r, 0, none⟩), .int .i64 k, .int .i64 call] w fun e w' => e = .returned (.tuple #[.int .i64 (askN (M k) call), .string (askS (M k) call)]) ∧ Hid (TB w0 w' p q r g sent (n + 1) L c (askM M k call) l) :=
  (ask_any r n M k call w hn hk hS (Lib.hid h.out.t.dsk)).mono fun _ _ ⟨he, k⟩ => ⟨he, Lib.hid (h.out.byDesk k.out.1 k.out.2)⟩
theorem tb_reply (k call : Int) (s : ByteArray) (hn : n < maxLen) (hk : wf64 k) (hs : s.size ≤ 140737488351232) (h : Hid (TB w0 w p q r g sent n L c M l)) :
    Calls Try.prog 13 #[.pointer (some ⟨r, 0, none⟩), .int .i64 k, .int .i64 call, .string s] w fun e w' => e = .returned (.bool (repB (M k) call)) ∧ Hid (TB w0 w' p q r g sent (n + 1) L c (repM M k call s) l) :=
  (reply_any r n M k call s w hn hk hs (Lib.hid h.out.t.dsk)).mono fun _ _ ⟨he, k⟩ => ⟨he, Lib.hid (h.out.byDesk k.out.1 k.out.2)⟩
end
/-! what holds between the acts -/
def repS (n : Nat) : ByteArray := (⟨#[114]⟩ : ByteArray) ++ decS n
theorem repS_size (n : Nat) (h : n ≤ 1000000000000000000) : (repS n).size ≤ 20 := by
  have := decS_size n h
  unfold repS
  rw [ByteArray.size_append]
  show 1 + _ ≤ _
  omega
/-- a letter is an asking for one of the calls, or an answer to one that was done -/
def Lett (C last : Nat) (l : Letr) : Prop := (l.a = 0 ∧ l.b = 1 ∧ ∃ x : Nat, 1 ≤ x ∧ x ≤ C ∧ l.s = decS x) ∨ (l.a = 1 ∧ l.b = 0 ∧ ∃ x : Nat, 1 ≤ x ∧ x ≤ last ∧ l.s = repS x)
theorem Lett.more {C C' last last' : Nat} {l : Letr} (h : Lett C last l) (h1 : C ≤ C') (h2 : last ≤ last') : Lett C' last' l := by
  rcases h with ⟨a, b, x, h3, h4, h5⟩ | ⟨a, b, x, h3, h4, h5⟩
  · exact .inl ⟨a, b, x, h3, by omega, h5⟩
  · exact .inr ⟨a, b, x, h3, by omega, h5⟩
theorem Lett.size {C last : Nat} {l : Letr} (h : Lett C last l) (hC : C ≤ 1000000000000000000) (hl : last ≤ C) : l.s.size ≤ 1048576 := by
  rcases h with ⟨_, _, x, _, h4, h5⟩ | ⟨_, _, x, _, h4, h5⟩
  · rw [h5]; have := decS_size x (by omega); omega
  · rw [h5]; have := repS_size x (by omega); omega
def Done (M : Known) (last : Nat) : Prop := (last = 0 ∧ M 1 = none) ∨ (1 ≤ last ∧ M 1 = some ⟨(last : Int), true, repS last⟩)
theorem done_ask {M : Known} {last x : Nat} (h : Done M last) (hx : 1 ≤ x) : (last < x ∧ askN (M 1) x = 0 ∧ askS (M 1) x = ⟨#[]⟩) ∨ (x = last ∧ askN (M 1) x = 2 ∧ askS (M 1) x = repS x) ∨ (x < last ∧ askN (M 1) x = 3 ∧ askS (M 1) x = ⟨#[]⟩) := by
  rcases h with ⟨h1, h2⟩ | ⟨h1, h2⟩
  · rw [h2]
    exact .inl ⟨by omega, rfl, rfl⟩
  · rw [h2]
    rcases Nat.lt_trichotomy last x with h | h | h
    · have hA : askN (some ⟨(last : Int), true, repS last⟩) x = 0 := by simp [askN]; omega
      exact .inl ⟨h, hA, by unfold askS; rw [hA]; rfl⟩
    · subst h
      have hA : askN (some ⟨(last : Int), true, repS last⟩) last = 2 := by simp [askN]
      exact .inr (.inl ⟨rfl, hA, by unfold askS; rw [hA]; rfl⟩)
    · have hA : askN (some ⟨(last : Int), true, repS last⟩) x = 3 := by
        unfold askN
        simp only
        rw [if_neg (by omega), if_pos (by omega)]
      exact .inr (.inr ⟨h, hA, by unfold askS; rw [hA]; rfl⟩)
theorem value_dec (x : Nat) (w : World) (hx : x ≤ 1000000000000000000) : Calls Try.prog 11 #[.string (decS x)] w fun e w' => e = .returned (.int .i64 (x : Int)) ∧ w = w' := by
  have h := val_dec x
  have := value_any (decS x) w (by have := decS_size x hx; omega) (by rw [decS_list]; exact h.2) (by rw [decS_list, h.1]; exact hx)
  rw [decS_list, h.1] at this
  exact this
theorem rep_slice (n : Nat) : (repS n).extract 1 (repS n).size = decS n := by
  apply ByteArray.ext
  apply Array.toList_inj.1
  unfold repS
  rw [ByteArray.data_extract, Array.toList_extract]
  simp [List.extract]
  refine List.take_of_length_le ?_
  rw [size_list]
  show _ ≤ 1 + (decS n).size - 1
  omega
theorem ask_new {M : Known} {x : Int} (h : askN (M 1) x = 0) : askM M 1 x = upd M 1 ⟨x, false, ⟨#[]⟩⟩ := by unfold askM; rw [if_pos h]
theorem ask_old {M : Known} {x : Int} (h : ¬ askN (M 1) x = 0) : askM M 1 x = M := by unfold askM; rw [if_neg h]
theorem rep_new (M : Known) (x : Int) (s : ByteArray) : repB (upd M 1 ⟨x, false, ⟨#[]⟩⟩ 1) x = true ∧ repM (upd M 1 ⟨x, false, ⟨#[]⟩⟩) 1 x s = upd M 1 ⟨x, true, s⟩ := by
  have hb : repB (upd M 1 ⟨x, false, ⟨#[]⟩⟩ 1) x = true := by simp [upd, repB]
  refine ⟨hb, ?_⟩
  unfold repM
  rw [hb, if_pos rfl]
  funext y
  unfold upd
  split <;> rfl
/-- what holds at the beginning of a round -/
structure TI (w0 w : World) (p q r k now last C n : Nat) (sent : Int) (L : List Letr) (c : Clr) (M : Known) : Prop where
  t : TK w0 w p q r sent n L c M
  ok : ClrOk c
  call : c.call = (C : Int)
  let' : ∀ l ∈ L, Lett C last l
  done : Done M last
  small : Small M
  len : L.length ≤ 65536
  now' : now ≤ k
  last' : last ≤ C
  C' : C ≤ k + 1
  C1 : 1 ≤ C
  n' : n ≤ 2 * k
  s0 : 0 ≤ sent
  s1 : sent ≤ 2 * (k : Int) + 1
end Go.Proofs.Ytddgigkalagpoaa
