/- The net and the reference's beside each other: what each call answers, and what it makes of both. -/
import Derived.Test.YtcahiogjmclnjaaNetWayB
import Derived.Test.YtcahiogjmclnjaaNetSame
namespace Go.Proofs.Ytcahiogjmclnjaa
open Go.RowKit

/-! what each call answers -/
def sendB (N a b : Int) (s : ByteArray) (L : List Letr) : Bool := nodeB N a && nodeB N b && decide (s.size ≤ 1048576) && decide (L.length < 65536)
def sendI (N a b : Int) (s : ByteArray) (L : List Letr) (sent : Int) : Int := if sendB N a b s L then sent + 1 else 0
def sendE (N a b : Int) (s : ByteArray) (L : List Letr) : Int := if sendB N a b s L then 0 else if (nodeB N a && nodeB N b) = false then 2 else if ¬ s.size ≤ 1048576 then 1 else 40
def sendT (N a b : Int) (s : ByteArray) (L : List Letr) (sent : Int) : Int := if sendB N a b s L then sent + 1 else sent
def sendL (N a b : Int) (s : ByteArray) (L : List Letr) (sent : Int) : List Letr := if sendB N a b s L then L ++ [⟨sent + 1, a, b, s⟩] else L
def okK (L : List Letr) (k : Int) : Bool := decide (0 ≤ k ∧ k < (L.length : Int))
def dropE (L : List Letr) (k : Int) : Int := if okK L k then 0 else 2
def dropL (L : List Letr) (k : Int) : List Letr := if okK L k then L.eraseIdx k.toNat else L
def dblE (L : List Letr) (k : Int) : Int := if okK L k then (if 65536 ≤ L.length then 40 else 0) else 2
def dblL (L : List Letr) (k : Int) : List Letr := if okK L k then (if 65536 ≤ L.length then L else L ++ (L[k.toNat]?).toList) else L
def noL : Letr := ⟨0, 0, 0, ⟨#[]⟩⟩
def atL (L : List Letr) (k : Int) : Letr := (L[k.toNat]?).getD noL
def dlvX (L : List Letr) (S : Int → Int → Bool) (k : Int) : Letr := if okK L k then (if S (atL L k).a (atL L k).b then noL else atL L k) else noL
def dlvE (L : List Letr) (S : Int → Int → Bool) (k : Int) : Int := if okK L k then (if S (atL L k).a (atL L k).b then 140 else 0) else 2
def dlvL (L : List Letr) (S : Int → Int → Bool) (k : Int) : List Letr := if okK L k then (if S (atL L k).a (atL L k).b then L else L.eraseIdx k.toNat) else L
def parB (N a b : Int) : Bool := nodeB N a && nodeB N b && decide (¬ a = b)
def parE (N a b : Int) : Int := if parB N a b then 0 else 2
def parS (N : Int) (S : Int → Int → Bool) (a b : Int) (c : Bool) : Int → Int → Bool := if parB N a b then setS S a b c else S
/-- what every letter under way is like -/
structure Fine (N : Int) (L : List Letr) : Prop where
  len : L.length ≤ 65536
  s : ∀ l ∈ L, l.s.size ≤ 1048576
  a : ∀ l ∈ L, nodeB N l.a = true
  b : ∀ l ∈ L, nodeB N l.b = true
theorem fine_sub {N : Int} {L L' : List Letr} (h : Fine N L) (hl : L'.length ≤ 65536) (hs : ∀ l ∈ L', l ∈ L) : Fine N L' := ⟨hl, fun l hm => h.s l (hs l hm), fun l hm => h.a l (hs l hm), fun l hm => h.b l (hs l hm)⟩
theorem ok_nat {L : List Letr} {k : Int} (h : okK L k = true) : ∃ j : Nat, k = (j : Int) ∧ j < L.length ∧ k.toNat = j ∧ L[j]? = some (atL L k) := by
  unfold okK at h
  have h := of_decide_eq_true h
  refine ⟨k.toNat, by omega, by omega, rfl, ?_⟩
  unfold atL
  rw [List.getElem?_eq_getElem (by omega)]
  rfl
theorem ok_no {L : List Letr} {k : Int} (h : ¬ okK L k = true) : ¬ (0 ≤ k ∧ k < (L.length : Int)) := fun x => h (decide_eq_true x)
theorem fine_send {N a b sent : Int} {s : ByteArray} {L : List Letr} (h : Fine N L) : Fine N (sendL N a b s L sent) := by
  unfold sendL
  split
  · rename_i hs
    simp only [sendB, Bool.and_eq_true, decide_eq_true_eq] at hs
    obtain ⟨⟨⟨h1, h2⟩, h3⟩, h4⟩ := hs
    refine ⟨by simp; omega, fun l hm => ?_, fun l hm => ?_, fun l hm => ?_⟩
    all_goals
      rcases List.mem_append.1 hm with hm | hm
      · first | exact h.s l hm | exact h.a l hm | exact h.b l hm
      · simp at hm; subst hm; assumption
  · exact h
theorem fine_drop {N : Int} {L : List Letr} (h : Fine N L) (k : Int) : Fine N (dropL L k) := by
  unfold dropL
  split
  · exact fine_sub h (Nat.le_trans (List.length_eraseIdx_le L _) h.len) (fun l hm => List.mem_of_mem_eraseIdx hm)
  · exact h
theorem fine_dlv {N : Int} {L : List Letr} (h : Fine N L) (S : Int → Int → Bool) (k : Int) : Fine N (dlvL L S k) := by
  unfold dlvL
  split
  · split
    · exact h
    · exact fine_sub h (Nat.le_trans (List.length_eraseIdx_le L _) h.len) (fun l hm => List.mem_of_mem_eraseIdx hm)
  · exact h
theorem fine_dbl {N : Int} {L : List Letr} (h : Fine N L) (k : Int) : Fine N (dblL L k) := by
  unfold dblL
  split
  · rename_i hk
    obtain ⟨j, rfl, hj, hjk, hl⟩ := ok_nat hk
    split
    · exact h
    · refine fine_sub h ?_ (fun l hm => ?_)
      · rw [hjk, hl]; simp; omega
      · rw [hjk, hl] at hm
        rcases List.mem_append.1 hm with hm | hm
        · exact hm
        · simp at hm; subst hm; exact List.mem_of_getElem? hl
  · exact h
theorem only_par {N : Int} {S : Int → Int → Bool} (h : Only N S) (a b : Int) (c : Bool) : Only N (parS N S a b c) := by
  unfold parS
  split
  · rename_i hp
    simp only [parB, Bool.and_eq_true] at hp
    intro x y hxy
    unfold setS at hxy
    split at hxy
    · rename_i q
      rcases q with ⟨rfl, rfl⟩ | ⟨rfl, rfl⟩
      · exact hp.1
      · exact ⟨hp.1.2, hp.1.1⟩
    · exact h x y hxy
  · exact h
/-- both nets, a net to which nothing is done, and the act at hand -/
structure NN (w0 w : World) (p q o : Nat) (N sent : Int) (n : Nat) (L : List Letr) (S : Int → Int → Bool) (sent' : Int) (L' : List Letr) (S' : Int → Int → Bool) : Prop where
  net : NWt w0 w p N sent n S L
  ref : RNt w0 w q N sent' L' S'
  pty : Bears w p 59
  qty : Bears w q 53
  op : ¬ o = p
  olo : w0.heap.size ≤ o
  oth : NetL w w0.heap.size o N 0 (.map none) (.slice none 0 0) []
structure NB (w : World) (g : Nat) (x : Ac) : Prop where
  ty : Bears w g 29
  c0 : w.cell? ⟨g, 0, none⟩ = some (.int .i64 x.k)
  c1 : w.cell? ⟨g, 1, none⟩ = some (.int .i64 x.a)
  c2 : w.cell? ⟨g, 2, none⟩ = some (.int .i64 x.b)
  c3 : w.cell? ⟨g, 3, none⟩ = some (.string x.s)
  c4 : w.cell? ⟨g, 4, none⟩ = some (.bool x.c)
theorem NB.same {w w' : World} {g : Nat} {x : Ac} (h : NB w g x) (e : w'.heap[g]? = w.heap[g]?) : NB w' g x :=
  ⟨by obtain ⟨cs, k⟩ := h.ty; exact ⟨cs, e.trans k⟩, (cell_eq e 0).trans h.c0, (cell_eq e 1).trans h.c1, (cell_eq e 2).trans h.c2, (cell_eq e 3).trans h.c3, (cell_eq e 4).trans h.c4⟩
theorem nb_new (w : World) (x : Ac) : NB (w.alloc (.cells #[.int .i64 x.k, .int .i64 x.a, .int .i64 x.b, .string x.s, .bool x.c] 29)) w.heap.size x := by
  refine ⟨⟨_, heap_alloc_new w _⟩, ?_, ?_, ?_, ?_, ?_⟩ <;> simp
theorem RN.bty {w : World} {base q : Nat} {N sent : Int} {v : Value} {L : List Letr} {S : Int → Int → Bool} (h : RN w base q N sent v L S) (b : Nat) (hb : v.ownBlock = some b) : Bears w b 39 := h.fly.ty b hb
section
variable {w0 w w' : World} {p q o g n n1 : Nat} {N sent sent' t1 t1' : Int} {L L' M M' : List Letr} {S S' T T' : Int → Int → Bool} {x : Ac}
theorem NWt.pty (h : NWt w0 w p N sent n S L) : Bears w p 59 := by
  obtain ⟨cut, ⟨_, _, v, h3⟩, _⟩ := h
  exact h3.ty
theorem RNt.qty (h : RNt w0 w q N sent L S) : Bears w q 53 := by
  obtain ⟨_, v, h3⟩ := h
  exact h3.ty
theorem not_brs {b : Nat} {e e' : TypeId} (h : Bears w b e) (hne : e ≠ e') : ¬ Bears w b e' := fun h' => bears_apart h h' hne rfl
theorem NN.below (h : NN w0 w p q o N sent n L S sent' L' S') (hb : Below w.heap.size w w') : NN w0 w' p q o N sent n L S sent' L' S' := by
  have a1 := h.net.below hb
  have a2 := h.ref.below hb
  exact ⟨a1, a2, a1.pty, a2.qty, h.op, h.olo, h.oth.below hb⟩
theorem NN.more (h : NN w0 w p q o N sent n L S sent' L' S') (hn : n ≤ n1) : NN w0 w p q o N sent n1 L S sent' L' S' := by
  refine ⟨?_, h.ref, h.pty, h.qty, h.op, h.olo, h.oth⟩
  obtain ⟨cut, h1, h2⟩ := h.net
  refine ⟨cut, h1, h2.imp id ?_⟩
  rintro ⟨m, D, q1, q2, ⟨es, clock, q3, q4, q5, q6⟩, q7⟩
  exact ⟨m, D, q1, q2, ⟨es, clock, q3, q4, by omega, q6⟩, q7⟩
/-- behind a call of the net's -/
theorem NN.left (h : NN w0 w p q o N sent n L S sent' L' S') (k : NWt w0 w' p N t1 n1 T M) (f : FrmB p w w') : NN w0 w' p q o N t1 n1 M T sent' L' S' := by
  have hb := k.bel
  obtain ⟨b0, v, hr⟩ := h.ref
  have eq := f q _ h.qty (by decide) (bears_apart h.qty h.pty (by decide))
  have hR : RN w' w0.heap.size q N sent' v L' S' := hr.same eq (fun b hv => f b _ (hr.bty b hv) (by decide) (bears_apart (hr.bty b hv) h.pty (by decide)))
  have eo := f o _ h.oth.ty (by decide) h.op
  exact ⟨k, ⟨hb, v, hR⟩, k.pty, hR.ty, h.op, h.olo, ⟨h.oth.at'.same eo, by obtain ⟨cs, z⟩ := h.oth.ty; exact ⟨cs, eo.trans z⟩, rfl, .inl ⟨rfl, rfl⟩⟩⟩
/-- behind a call of the reference's -/
theorem NN.right (h : NN w0 w p q o N sent n L S sent' L' S') (k : RNt w0 w' q N t1' M' T') (f : RFr w w') : NN w0 w' p q o N sent n L S t1' M' T' := by
  have keep : ∀ b e, Bears w b e → e ≠ 53 → e ≠ 39 → w'.heap[b]? = w.heap[b]? := fun b e hbe h1 h2 => f b hbe.lt (not_brs hbe h1) (not_brs hbe h2)
  obtain ⟨cut, ⟨h1, h2, v, h3⟩, hc⟩ := h.net
  have ep := keep p _ h3.ty (by decide) (by decide)
  have hN : NWt w0 w' p N sent n S L := by
    refine ⟨cut, ⟨k.bel, h2, v, h3.at'.same ep, by obtain ⟨cs, z⟩ := h3.ty; exact ⟨cs, ep.trans z⟩, h3.fly.same (fun b hv => keep b _ (h3.fly.ty b hv) (by decide) (by decide))⟩, hc.same (fun m hm => f m (hc.lt hm).1 ((hc.lt hm).2.2 _) ((hc.lt hm).2.2 _))⟩
  have eo := keep o _ h.oth.ty (by decide) (by decide)
  exact ⟨hN, k, hN.pty, k.qty, h.op, h.olo, ⟨h.oth.at'.same eo, by obtain ⟨cs, z⟩ := h.oth.ty; exact ⟨cs, eo.trans z⟩, rfl, .inl ⟨rfl, rfl⟩⟩⟩
theorem NB.left (h : NB w g x) (hp : Bears w p 59) (f : FrmB p w w') : NB w' g x := h.same (f g _ h.ty (by decide) (bears_apart h.ty hp (by decide)))
theorem NB.right (h : NB w g x) (f : RFr w w') : NB w' g x := h.same (f g h.ty.lt (not_brs h.ty (by decide)) (not_brs h.ty (by decide)))
/-- with the act's box -/
def NX (w0 w : World) (p q o g : Nat) (N sent : Int) (n : Nat) (L : List Letr) (S : Int → Int → Bool) (sent' : Int) (L' : List Letr) (S' : Int → Int → Bool) (x : Ac) : Prop := NN w0 w p q o N sent n L S sent' L' S' ∧ NB w g x
theorem NX.left (h : NX w0 w p q o g N sent n L S sent' L' S' x) (k : NWt w0 w' p N t1 n1 T M) (f : FrmB p w w') : NX w0 w' p q o g N t1 n1 M T sent' L' S' x := ⟨h.1.left k f, h.2.left h.1.pty f⟩
theorem NX.right (h : NX w0 w p q o g N sent n L S sent' L' S' x) (k : RNt w0 w' q N t1' M' T') (f : RFr w w') : NX w0 w' p q o g N sent n L S t1' M' T' x := ⟨h.1.right k f, h.2.right f⟩
theorem NX.below (h : NX w0 w p q o g N sent n L S sent' L' S' x) (hb : Below w.heap.size w w') : NX w0 w' p q o g N sent n L S sent' L' S' x := ⟨h.1.below hb, h.2.same (hb.block g h.2.ty.lt)⟩
theorem NX.drew (h : NX w0 w p q o g N sent n L S sent' L' S' x) : NX w0 w.drew p q o g N sent n L S sent' L' S' x := h.below ⟨rfl, rfl, rfl, Nat.le_refl _, fun _ _ => rfl⟩
theorem NX.cells (h : Hid (NX w0 w p q o g N sent n L S sent' L' S' x)) : w.cell? ⟨g, 1, none⟩ = some (.int .i64 x.a) ∧ w.cell? ⟨g, 2, none⟩ = some (.int .i64 x.b) ∧ w.cell? ⟨g, 4, none⟩ = some (.bool x.c) := ⟨h.out.2.c1, h.out.2.c2, h.out.2.c4⟩
theorem nx_send (a b : Int) (s : ByteArray) (hF : Fine N L) (hsn : 0 ≤ sent ∧ sent ≤ 9223372036854775806) (h : Hid (NX w0 w p q o g N sent n L S sent' L' S' x)) :
    Calls Try.prog 7 #[.pointer (some ⟨p, 0, none⟩), .int .i64 a, .int .i64 b, .string s] w fun e w' => e = .returned (.tuple #[.int .i64 (sendI N a b s L sent), .int .i64 (sendE N a b s L)]) ∧ Hid (NX w0 w' p q o g N (sendT N a b s L sent) n (sendL N a b s L sent) S sent' L' S' x) := by
  unfold sendI sendE sendT sendL
  by_cases hB : sendB N a b s L = true
  · simp only [hB, if_true]
    simp only [sendB, Bool.and_eq_true, decide_eq_true_eq] at hB
    obtain ⟨⟨⟨h1, h2⟩, h3⟩, h4⟩ := hB
    exact (nwb_send a b s w h3 h4 hsn h1 h2 (Lib.hid h.out.1.net)).mono fun _ _ ⟨he, k⟩ => ⟨he, Lib.hid (h.out.left k.out.1 k.out.2)⟩
  · have hB' : sendB N a b s L = false := by simpa using hB
    simp only [hB', if_false, Bool.false_eq_true]
    have hno : (nodeB N a && nodeB N b) = false ∨ ¬ s.size ≤ 1048576 ∨ 65536 ≤ L.length := by
      by_cases g1 : (nodeB N a && nodeB N b) = false
      · exact .inl g1
      · by_cases g2 : s.size ≤ 1048576
        · by_cases g3 : 65536 ≤ L.length
          · exact .inr (.inr g3)
          · exfalso
            have g1' : (nodeB N a && nodeB N b) = true := by simpa using g1
            rw [sendB, g1', decide_eq_true g2, decide_eq_true (show L.length < 65536 by omega)] at hB'
            cases hB'
        · exact .inr (.inl g2)
    exact (nwb_send_no a b s w (Lib.hid h.out.1.net) hno).mono fun _ _ ⟨he, k⟩ => ⟨he, Lib.hid (h.out.left k.out.1 k.out.2)⟩
theorem nx_rsend (a b : Int) (s : ByteArray) (hF : Fine N L') (hsn : 0 ≤ sent' ∧ sent' ≤ 9223372036854775806) (h : Hid (NX w0 w p q o g N sent n L S sent' L' S' x)) :
    Calls Try.prog 8 #[.pointer (some ⟨q, 0, none⟩), .int .i64 a, .int .i64 b, .string s] w fun e w' => e = .returned (.tuple #[.int .i64 (sendI N a b s L' sent'), .int .i64 (sendE N a b s L')]) ∧ Hid (NX w0 w' p q o g N sent n L S (sendT N a b s L' sent') (sendL N a b s L' sent') S' x) := by
  unfold sendI sendE sendT sendL
  by_cases hB : sendB N a b s L' = true
  · simp only [hB, if_true]
    simp only [sendB, Bool.and_eq_true, decide_eq_true_eq] at hB
    obtain ⟨⟨⟨h1, h2⟩, h3⟩, h4⟩ := hB
    exact (rsend_yes a b s w h3 h4 hsn h1 h2 (Lib.hid h.out.1.ref)).mono fun _ _ ⟨he, k⟩ => ⟨he, Lib.hid (h.out.right k.out.1 k.out.2)⟩
  · have hB' : sendB N a b s L' = false := by simpa using hB
    simp only [hB', if_false, Bool.false_eq_true]
    have hno : (nodeB N a && nodeB N b) = false ∨ ¬ s.size ≤ 1048576 ∨ 65536 ≤ L'.length := by
      by_cases g1 : (nodeB N a && nodeB N b) = false
      · exact .inl g1
      · by_cases g2 : s.size ≤ 1048576
        · by_cases g3 : 65536 ≤ L'.length
          · exact .inr (.inr g3)
          · exfalso
            have g1' : (nodeB N a && nodeB N b) = true := by simpa using g1
            rw [sendB, g1', decide_eq_true g2, decide_eq_true (show L'.length < 65536 by omega)] at hB'
            cases hB'
        · exact .inr (.inl g2)
    exact (rsend_no a b s w hF.len hno (Lib.hid h.out.1.ref)).mono fun _ _ ⟨he, k⟩ => ⟨he, Lib.hid (h.out.right k.out.1 k.out.2)⟩
theorem nx_drop (k : Int) (hF : Fine N L) (h : Hid (NX w0 w p q o g N sent n L S sent' L' S' x)) :
    Calls Try.prog 11 #[.pointer (some ⟨p, 0, none⟩), .int .i64 k] w fun e w' => e = .returned (.int .i64 (dropE L k)) ∧ Hid (NX w0 w' p q o g N sent n (dropL L k) S sent' L' S' x) := by
  unfold dropE dropL
  by_cases hk : okK L k = true
  · simp only [hk, if_true]
    obtain ⟨j, rfl, hj, hjk, _⟩ := ok_nat hk
    rw [hjk]
    exact (nwb_drop j w hj (Lib.hid h.out.1.net)).mono fun _ _ ⟨he, k⟩ => ⟨he, Lib.hid (h.out.left k.out.1 k.out.2)⟩
  · simp only [hk, if_false, Bool.false_eq_true]
    exact (nwb_drop_arg k w (ok_no hk) (Lib.hid h.out.1.net)).mono fun _ _ ⟨he, e⟩ => ⟨he, by subst e; exact h⟩
theorem nx_rdrop (k : Int) (hF : Fine N L') (h : Hid (NX w0 w p q o g N sent n L S sent' L' S' x)) :
    Calls Try.prog 12 #[.pointer (some ⟨q, 0, none⟩), .int .i64 k] w fun e w' => e = .returned (.int .i64 (dropE L' k)) ∧ Hid (NX w0 w' p q o g N sent n L S sent' (dropL L' k) S' x) := by
  unfold dropE dropL
  by_cases hk : okK L' k = true
  · simp only [hk, if_true]
    obtain ⟨j, rfl, hj, hjk, _⟩ := ok_nat hk
    rw [hjk]
    exact (rdrop_yes j w hj hF.len (Lib.hid h.out.1.ref)).mono fun _ _ ⟨he, k⟩ => ⟨he, Lib.hid (h.out.right k.out.1 k.out.2)⟩
  · simp only [hk, if_false, Bool.false_eq_true]
    exact (rdrop_no k w (ok_no hk) hF.len (Lib.hid h.out.1.ref)).mono fun _ _ ⟨he, k⟩ => ⟨he, Lib.hid (h.out.right k.out.1 k.out.2)⟩
theorem nx_double (k : Int) (hF : Fine N L) (h : Hid (NX w0 w p q o g N sent n L S sent' L' S' x)) :
    Calls Try.prog 13 #[.pointer (some ⟨p, 0, none⟩), .int .i64 k] w fun e w' => e = .returned (.int .i64 (dblE L k)) ∧ Hid (NX w0 w' p q o g N sent n (dblL L k) S sent' L' S' x) := by
  unfold dblE dblL
  by_cases hk : okK L k = true
  · simp only [hk, if_true]
    obtain ⟨j, rfl, hj, hjk, hl⟩ := ok_nat hk
    rw [hjk, hl]
    by_cases hf : 65536 ≤ L.length
    · simp only [hf, if_true]
      refine (nwb_double_no j w (.inr hf) (Lib.hid h.out.1.net)).mono fun _ _ ⟨he, e⟩ => ⟨?_, by subst e; exact h⟩
      rw [if_neg (by simp; omega)] at he
      exact he
    · simp only [hf, if_false]
      exact (nwb_double j _ w hl (by omega) (Lib.hid h.out.1.net)).mono fun _ _ ⟨he, k⟩ => ⟨he, Lib.hid (h.out.left k.out.1 k.out.2)⟩
  · simp only [hk, if_false, Bool.false_eq_true]
    refine (nwb_double_no k w (.inl (ok_no hk)) (Lib.hid h.out.1.net)).mono fun _ _ ⟨he, e⟩ => ⟨?_, by subst e; exact h⟩
    rw [if_pos (ok_no hk)] at he
    exact he
theorem nx_rdouble (k : Int) (hF : Fine N L') (h : Hid (NX w0 w p q o g N sent n L S sent' L' S' x)) :
    Calls Try.prog 14 #[.pointer (some ⟨q, 0, none⟩), .int .i64 k] w fun e w' => e = .returned (.int .i64 (dblE L' k)) ∧ Hid (NX w0 w' p q o g N sent n L S sent' (dblL L' k) S' x) := by
  unfold dblE dblL
  by_cases hk : okK L' k = true
  · simp only [hk, if_true]
    obtain ⟨j, rfl, hj, hjk, hl⟩ := ok_nat hk
    rw [hjk, hl]
    by_cases hf : 65536 ≤ L'.length
    · simp only [hf, if_true]
      exact (rdouble_full j w hj hF.len hf (Lib.hid h.out.1.ref)).mono fun _ _ ⟨he, k⟩ => ⟨he, Lib.hid (h.out.right k.out.1 k.out.2)⟩
    · simp only [hf, if_false]
      exact (rdouble_yes j _ w hl (by omega) (Lib.hid h.out.1.ref)).mono fun _ _ ⟨he, k⟩ => ⟨he, Lib.hid (h.out.right k.out.1 k.out.2)⟩
  · simp only [hk, if_false, Bool.false_eq_true]
    exact (rdouble_no k w (ok_no hk) hF.len (Lib.hid h.out.1.ref)).mono fun _ _ ⟨he, k⟩ => ⟨he, Lib.hid (h.out.right k.out.1 k.out.2)⟩
theorem node4_b {a : Int} (hN : N ≤ 64) (h : nodeB N a = true) : node4 a := node4_of hN h
theorem nx_deliver (k : Int) (hN : N ≤ 64) (hF : Fine N L) (h : Hid (NX w0 w p q o g N sent n L S sent' L' S' x)) :
    Calls Try.prog 9 #[.pointer (some ⟨p, 0, none⟩), .int .i64 k] w fun e w' => e = .returned (.tuple #[letV (dlvX L S k), .int .i64 (dlvE L S k)]) ∧ Hid (NX w0 w' p q o g N sent n (dlvL L S k) S sent' L' S' x) := by
  unfold dlvX dlvE dlvL
  by_cases hk : okK L k = true
  · simp only [hk, if_true]
    obtain ⟨j, rfl, hj, hjk, hl⟩ := ok_nat hk
    rw [hjk]
    have hm := List.mem_of_getElem? hl
    refine (nwb_deliver j _ w (hF.s _ hm) hl hF.len (node4_b hN (hF.a _ hm)) (node4_b hN (hF.b _ hm)) (Lib.hid h.out.1.net)).mono fun _ _ ⟨he, k⟩ => ?_
    generalize S (atL L (j : Int)).a (atL L (j : Int)).b = u at he k ⊢
    cases u
    · exact ⟨he, Lib.hid (h.out.left k.out.1 k.out.2)⟩
    · exact ⟨he, Lib.hid (h.out.left k.out.1 k.out.2)⟩
  · simp only [hk, if_false, Bool.false_eq_true]
    exact (nwb_deliver_arg k w (ok_no hk) (Lib.hid h.out.1.net)).mono fun _ _ ⟨he, k⟩ => ⟨he, Lib.hid (h.out.left k.out.1 k.out.2)⟩
theorem nx_rdeliver (k : Int) (hN : N ≤ 64) (hF : Fine N L') (h : Hid (NX w0 w p q o g N sent n L S sent' L' S' x)) :
    Calls Try.prog 10 #[.pointer (some ⟨q, 0, none⟩), .int .i64 k] w fun e w' => e = .returned (.tuple #[letV (dlvX L' S' k), .int .i64 (dlvE L' S' k)]) ∧ Hid (NX w0 w' p q o g N sent n L S sent' (dlvL L' S' k) S' x) := by
  unfold dlvX dlvE dlvL
  by_cases hk : okK L' k = true
  · simp only [hk, if_true]
    obtain ⟨j, rfl, hj, hjk, hl⟩ := ok_nat hk
    rw [hjk]
    have hm := List.mem_of_getElem? hl
    refine (rdeliver_any j _ w hl hF.len hN (hF.a _ hm) (hF.b _ hm) (Lib.hid h.out.1.ref)).mono fun _ _ ⟨he, k⟩ => ?_
    generalize S' (atL L' (j : Int)).a (atL L' (j : Int)).b = u at he k ⊢
    cases u
    · exact ⟨he, Lib.hid (h.out.right k.out.1 k.out.2)⟩
    · exact ⟨he, Lib.hid (h.out.right k.out.1 k.out.2)⟩
  · simp only [hk, if_false, Bool.false_eq_true]
    exact (rdeliver_no k w (ok_no hk) hF.len (Lib.hid h.out.1.ref)).mono fun _ _ ⟨he, k⟩ => ⟨he, Lib.hid (h.out.right k.out.1 k.out.2)⟩
theorem nx_part (a b : Int) (c : Bool) (hN : N ≤ 64) (hn : n < maxLen) (h : Hid (NX w0 w p q o g N sent n L S sent' L' S' x)) :
    Calls Try.prog 15 #[.pointer (some ⟨p, 0, none⟩), .int .i64 a, .int .i64 b, .bool c] w fun e w' => e = .returned (.int .i64 (parE N a b)) ∧ Hid (NX w0 w' p q o g N sent (n + 1) L (parS N S a b c) sent' L' S' x) := by
  unfold parE parS
  by_cases hB : parB N a b = true
  · simp only [hB, if_true]
    simp only [parB, Bool.and_eq_true, decide_eq_true_eq] at hB
    exact (nwb_part a b c w hN hn hB.1.1 hB.1.2 hB.2 (Lib.hid h.out.1.net)).mono fun _ _ ⟨he, k⟩ => ⟨he, Lib.hid (h.out.left k.out.1 k.out.2)⟩
  · simp only [hB, if_false, Bool.false_eq_true]
    have hab : (nodeB N a && nodeB N b) = false ∨ a = b := by
      by_cases g1 : (nodeB N a && nodeB N b) = false
      · exact .inl g1
      · by_cases g2 : a = b
        · exact .inr g2
        · exfalso
          have g1' : (nodeB N a && nodeB N b) = true := by simpa using g1
          exact hB (by rw [parB, g1', decide_eq_true g2]; rfl)
    exact (nwb_part_no a b c w hab (Lib.hid h.out.1.net)).mono fun _ _ ⟨he, k⟩ => ⟨he, Lib.hid (by have := h.out.left k.out.1 k.out.2; exact ⟨this.1.more (by omega), this.2⟩)⟩
theorem nx_rpart (a b : Int) (c : Bool) (hN : N ≤ 64) (h : Hid (NX w0 w p q o g N sent n L S sent' L' S' x)) :
    Calls Try.prog 16 #[.pointer (some ⟨q, 0, none⟩), .int .i64 a, .int .i64 b, .bool c] w fun e w' => e = .returned (.int .i64 (parE N a b)) ∧ Hid (NX w0 w' p q o g N sent n L S sent' L' (parS N S' a b c) x) := by
  unfold parE parS
  by_cases hB : parB N a b = true
  · simp only [hB, if_true]
    simp only [parB, Bool.and_eq_true, decide_eq_true_eq] at hB
    exact (rpart_yes a b c w hN hB.1.1 hB.1.2 hB.2 (Lib.hid h.out.1.ref)).mono fun _ _ ⟨he, k⟩ => ⟨he, Lib.hid (h.out.right k.out.1 k.out.2)⟩
  · simp only [hB, if_false, Bool.false_eq_true]
    have hab : (nodeB N a && nodeB N b) = false ∨ a = b := by
      by_cases g1 : (nodeB N a && nodeB N b) = false
      · exact .inl g1
      · by_cases g2 : a = b
        · exact .inr g2
        · exfalso
          have g1' : (nodeB N a && nodeB N b) = true := by simpa using g1
          exact hB (by rw [parB, g1', decide_eq_true g2]; rfl)
    exact (rpart_no a b c w hab (Lib.hid h.out.1.ref)).mono fun _ _ ⟨he, k⟩ => ⟨he, Lib.hid (h.out.right k.out.1 k.out.2)⟩
end
end Go.Proofs.Ytcahiogjmclnjaa
