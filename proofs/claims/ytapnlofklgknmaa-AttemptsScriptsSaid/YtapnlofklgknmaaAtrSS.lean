/- Both boards of attempts and the box of the act at hand; each call as 'state in, state out'; what stays true of their numbers. -/
import Derived.Test.YtapnlofklgknmaaAtrBoth
import Derived.Test.YtapnlofklgknmaaAtrInt
import Derived.Test.YtapnlofklgknmaaAtmActs
import Derived.Test.YtapnlofklgknmaaAtmInv
namespace Go.Proofs.Ytapnlofklgknmaa
open Go.RowKit

structure MS (W w : World) (p q g : Nat) (b : Bd) (m r : Nat) (lim pat : Int) (L : List Tr) (x : Ac) : Prop where
  bo : ∃ v, BO W w p q b m r lim pat L v
  box : AcB w g x
/-- the numbers behind so many acts -/
structure NS (b : Bd) (m r : Nat) (lim pat : Int) (L : List Tr) (N : Nat) : Prop where
  rel : Rel b m r lim pat L
  bi : BI b N
  ll : L.length ≤ N
  hm : m ≤ 4096
  hr : r ≤ 4096
  hp : 1 ≤ pat ∧ pat ≤ 1099511627776
def rstA (m r : Nat) (lim : Int) (L : List Tr) (x : Int) : Int := if okS m r lim L x then ((numL x L + 1 : Nat) : Int) else 0
def rstL (m r : Nat) (lim : Int) (L : List Tr) (x nd now : Int) : List Tr := if okS m r lim L x then L ++ [⟨x, ((numL x L + 1 : Nat) : Int), nd, mom now, 0, false⟩] else L
section
variable {b : Bd} {m r : Nat} {lim pat : Int} {L : List Tr} {N : Nat}
theorem NS.more (h : NS b m r lim pat L N) : NS b m r lim pat L (N + 1) := ⟨h.rel, h.bi.more (Nat.le_succ _), Nat.le_succ_of_le h.ll, h.hm, h.hr, h.hp⟩
theorem repR_len (L : List Tr) (x a how : Int) : (repR L x a how).length = L.length := by
  unfold repR
  split <;> simp
theorem losR_len (m : Nat) (L : List Tr) (x a : Int) : (losR m L x a).length = L.length := by
  unfold losR
  split <;> simp
theorem NS.start (h : NS b m r lim pat L N) (x nd now : Int) : rstA m r lim L x = startA b x ∧ NS (startB b x nd now) m r lim pat (rstL m r lim L x nd now) (N + 1) := by
  unfold rstA rstL
  rcases start_rel h.rel x nd now with ⟨a, c, d⟩ | ⟨a, c, d⟩
  · rw [a]
    exact ⟨c.symm, by rw [d]; exact h.more⟩
  · rw [a]
    exact ⟨c.symm, d, bi_start h.bi _ _ _, by have := h.ll; simp; omega, h.hm, h.hr, h.hp⟩
theorem NS.report (h : NS b m r lim pat L N) (x a how : Int) : okR L x a how = reportA b x a how ∧ NS (reportB b x a how) m r lim pat (repR L x a how) (N + 1) :=
  ⟨h.rel.report_ok _ _ _, h.rel.report _ _ _, bi_report h.bi _ _ _, by rw [repR_len]; exact Nat.le_succ_of_le h.ll, h.hm, h.hr, h.hp⟩
theorem NS.gone (h : NS b m r lim pat L N) (nd : Int) : NS (goneB b nd) m r lim pat (L.map (lvR nd)) (N + 1) :=
  ⟨h.rel.gone _, (bi_gone h.bi _).more (Nat.le_succ _), by rw [List.length_map]; exact Nat.le_succ_of_le h.ll, h.hm, h.hr, h.hp⟩
theorem NS.lost (h : NS b m r lim pat L N) (x a : Int) : okL m L x a = lostA b x a ∧ NS (lostB b x a) m r lim pat (losR m L x a) (N + 1) :=
  ⟨h.rel.lost_ok _ _, h.rel.lost _ _, (bi_lost h.bi _ _).more (Nat.le_succ _), by rw [losR_len]; exact Nat.le_succ_of_le h.ll, h.hm, h.hr, h.hp⟩
theorem NS.new (ma re li pa : Int) : NS (newB ma re li pa) (cnt ma) (cnt re) (max li 1) (min (max pa 1) 1099511627776) [] 0 :=
  ⟨Rel.new ma re li pa (by omega), bi_new _ _ _ _, Nat.le_refl _, cnt_b _, cnt_b _, by omega⟩
theorem BI.l0 (h : BI b N) (hN : N < 2932031007402) : ∀ i, i < b.n → (b.T i).A.length < 4398046511104 := fun i _ => Nat.lt_of_le_of_lt (h.len i) (by omega)
theorem BI.l1 (h : BI b N) (hN : N < 2932031007402) : ∀ i, i < b.n → (b.T i).A.length < 4398046511105 := fun i _ => Nat.lt_of_le_of_lt (h.len i) (by omega)
theorem BI.f1 (h : BI b N) (hN : N < 2932031007402) : ∀ i, i < b.n → (b.T i).fu < 1152921504606846976 := fun i _ => Nat.lt_of_le_of_lt (h.fu i) (by omega)
end
section
variable {W w w' : World} {p q g : Nat} {b b' : Bd} {m r : Nat} {lim pat : Int} {L L' : List Tr} {x : Ac} {N : Nat}
theorem MS.prog (h : MS W w p q g b m r lim pat L x) (ha : AB W w' p b') (hf : AF w w') : MS W w' p q g b' m r lim pat L x := by
  obtain ⟨v, k⟩ := h.bo
  exact ⟨⟨v, k.prog ha hf⟩, h.box.same (hf g _ h.box.ty (by decide) (by decide) (by decide))⟩
theorem MS.refr {v' : Value} (h : MS W w p q g b m r lim pat L x) (hr : RB W.heap.size w' q m r lim pat L' v') (hf : RF w w') (hb : Below W.heap.size w w') : MS W w' p q g b m r lim pat L' x := by
  obtain ⟨v, k⟩ := h.bo
  exact ⟨⟨v', k.refr hr hf hb⟩, h.box.same (hf g _ h.box.ty (by decide) (by decide))⟩
theorem MS.below (h : MS W w p q g b m r lim pat L x) (hb : Below w.heap.size w w') : MS W w' p q g b m r lim pat L x := by
  obtain ⟨v, k⟩ := h.bo
  exact ⟨⟨v, k.below hb⟩, h.box.same (hb.block g h.box.ty.lt)⟩
theorem MS.drewN (h : MS W w p q g b m r lim pat L x) (n : Nat) : MS W (w.drewN n) p q g b m r lim pat L x := h.below (bel_drew w n)
theorem MS.ab (h : MS W w p q g b m r lim pat L x) : AB W w p b := by
  obtain ⟨v, k⟩ := h.bo
  exact k.ab
theorem MS.cells (h : Hid (MS W w p q g b m r lim pat L x)) : w.cell? ⟨g, 1, none⟩ = some (.int .i64 x.t) ∧ w.cell? ⟨g, 2, none⟩ = some (.int .i64 x.n) ∧ w.cell? ⟨g, 3, none⟩ = some (.int .i64 x.m) ∧ w.cell? ⟨g, 4, none⟩ = some (.int .i64 x.a) ∧ w.cell? ⟨g, 5, none⟩ = some (.int .i64 x.h) :=
  ⟨h.out.box.c1, h.out.box.c2, h.out.box.c3, h.out.box.c4, h.out.box.c5⟩
/-! each call: state in, state out -/
theorem ms_start (t nd now : Int) (hb : BI b N) (hN : N < 2932031007402) (H : Hid (MS W w p q g b m r lim pat L x)) :
    Calls Try.prog 11 #[.pointer (some ⟨p, 0, none⟩), .int .i64 t, .int .i64 nd, .int .i64 now] w fun e w' => e = .returned (.int .i64 (startA b t)) ∧ Hid (MS W w' p q g (startB b t nd now) m r lim pat L x) :=
  (start_any (Lib.hid H.out.ab) (hb.l0 hN) t nd now).mono fun _ _ ⟨a, k⟩ => ⟨a, Lib.hid (H.out.prog k.out.1 k.out.2)⟩
theorem ms_report (t a how : Int) (hb : BI b N) (hN : N < 2932031007402) (H : Hid (MS W w p q g b m r lim pat L x)) :
    Calls Try.prog 13 #[.pointer (some ⟨p, 0, none⟩), .int .i64 t, .int .i64 a, .int .i64 how] w fun e w' => e = .returned (.bool (reportA b t a how)) ∧ Hid (MS W w' p q g (reportB b t a how) m r lim pat L x) :=
  (report_any (Lib.hid H.out.ab) (hb.l1 hN) (hb.f1 hN) t a how).mono fun _ _ ⟨a, k⟩ => ⟨a, Lib.hid (H.out.prog k.out.1 k.out.2)⟩
theorem ms_gone (nd : Int) (hb : BI b N) (hN : N < 2932031007402) (H : Hid (MS W w p q g b m r lim pat L x)) :
    Calls Try.prog 15 #[.pointer (some ⟨p, 0, none⟩), .int .i64 nd] w fun e w' => e = .returned (.tuple #[]) ∧ Hid (MS W w' p q g (goneB b nd) m r lim pat L x) :=
  (gone_any (Lib.hid H.out.ab) (hb.l1 hN) nd).mono fun _ _ ⟨a, k⟩ => ⟨a, Lib.hid (H.out.prog k.out.1 k.out.2)⟩
theorem ms_lost (t a : Int) (hb : BI b N) (hN : N < 2932031007402) (H : Hid (MS W w p q g b m r lim pat L x)) :
    Calls Try.prog 17 #[.pointer (some ⟨p, 0, none⟩), .int .i64 t, .int .i64 a] w fun e w' => e = .returned (.bool (lostA b t a)) ∧ Hid (MS W w' p q g (lostB b t a) m r lim pat L x) :=
  (lost_any (Lib.hid H.out.ab) (hb.l1 hN) hb.win t a).mono fun _ _ ⟨a, k⟩ => ⟨a, Lib.hid (H.out.prog k.out.1 k.out.2)⟩
theorem ms_winner (t : Int) (hb : BI b N) (hN : N < 2932031007402) (H : Hid (MS W w p q g b m r lim pat L x)) :
    Calls Try.prog 19 #[.pointer (some ⟨p, 0, none⟩), .int .i64 t] w fun e w' => e = .returned (.tuple #[.int .i64 (winA b t).1, .int .i64 (winA b t).2.1, .bool (winA b t).2.2]) ∧ Hid (MS W w' p q g b m r lim pat L x) :=
  (winner_any (Lib.hid H.out.ab) (hb.l1 hN) hb.win t).mono fun _ _ ⟨a, n, k⟩ => ⟨a, Lib.hid (by rw [k]; exact H.out.drewN n)⟩
theorem ms_rstart (t nd now : Int) (hm : m ≤ 4096) (hr : r ≤ 4096) (hl : L.length ≤ N) (hN : N < 2932031007402) (H : Hid (MS W w p q g b m r lim pat L x)) :
    Calls Try.prog 12 #[.pointer (some ⟨q, 0, none⟩), .int .i64 t, .int .i64 nd, .int .i64 now] w fun e w' => e = .returned (.int .i64 (rstA m r lim L t)) ∧ Hid (MS W w' p q g b m r lim pat (rstL m r lim L t nd now) x) := by
  obtain ⟨v, hv⟩ := H.out.bo
  unfold rstA rstL
  cases ho : okS m r lim L t with
  | false => exact (rstart_no (Lib.hid hv.rb) (by omega) hm hr t nd now ho).mono fun _ _ ⟨a, n, k⟩ => ⟨by rw [a]; rfl, Lib.hid (by rw [k]; exact H.out.drewN n)⟩
  | true => exact (rstart_yes (Lib.hid hv.rb) hv.ab.bel.size (by omega) hm hr t nd now ho).mono fun _ _ ⟨a, ⟨v', k⟩, k1, k2⟩ => ⟨by rw [a]; rfl, Lib.hid (H.out.refr k k1 k2)⟩
theorem ms_rreport (t a how : Int) (hl : L.length ≤ N) (hN : N < 2932031007402) (H : Hid (MS W w p q g b m r lim pat L x)) :
    Calls Try.prog 14 #[.pointer (some ⟨q, 0, none⟩), .int .i64 t, .int .i64 a, .int .i64 how] w fun e w' => e = .returned (.bool (okR L t a how)) ∧ Hid (MS W w' p q g b m r lim pat (repR L t a how) x) := by
  obtain ⟨v, hv⟩ := H.out.bo
  exact (rrep_any (Lib.hid hv.rb) (by omega) t a how).mono fun _ _ ⟨a, k, k1, k2⟩ => ⟨a, Lib.hid (H.out.refr k k1 k2)⟩
theorem ms_rgone (nd : Int) (hl : L.length ≤ N) (hN : N < 2932031007402) (H : Hid (MS W w p q g b m r lim pat L x)) :
    Calls Try.prog 16 #[.pointer (some ⟨q, 0, none⟩), .int .i64 nd] w fun e w' => e = .returned (.tuple #[]) ∧ Hid (MS W w' p q g b m r lim pat (L.map (lvR nd)) x) := by
  obtain ⟨v, hv⟩ := H.out.bo
  exact (rgone_any (Lib.hid hv.rb) (by omega) nd).mono fun _ _ ⟨a, k, k1, k2⟩ => ⟨a, Lib.hid (H.out.refr k k1 k2)⟩
theorem ms_rlost (t a : Int) (hl : L.length ≤ N) (hN : N < 2932031007402) (H : Hid (MS W w p q g b m r lim pat L x)) :
    Calls Try.prog 18 #[.pointer (some ⟨q, 0, none⟩), .int .i64 t, .int .i64 a] w fun e w' => e = .returned (.bool (okL m L t a)) ∧ Hid (MS W w' p q g b m r lim pat (losR m L t a) x) := by
  obtain ⟨v, hv⟩ := H.out.bo
  exact (rlost_any (Lib.hid hv.rb) (by omega) t a).mono fun _ _ ⟨a, k, k1, k2⟩ => ⟨a, Lib.hid (H.out.refr k k1 k2)⟩
theorem ms_rwin (t : Int) (hl : L.length ≤ N) (hN : N < 2932031007402) (H : Hid (MS W w p q g b m r lim pat L x)) :
    Calls Try.prog 20 #[.pointer (some ⟨q, 0, none⟩), .int .i64 t] w fun e w' => e = .returned (.int .i64 (fstI (wonP t) L)) ∧ w = w' := by
  obtain ⟨v, hv⟩ := H.out.bo
  exact rwin_any (Lib.hid hv.rb) (by omega) t
end
/-- the state with what both Ready's may have told already -/
structure RS (W w : World) (p q g : Nat) (b : Bd) (m r : Nat) (lim pat : Int) (L : List Tr) (x : Ac) (l : List Nat) (o1 o2 : Option (Option Addr × Nat)) : Prop where
  ms : MS W w p q g b m r lim pat L x
  r1 : ∀ A c, o1 = some (A, c) → ∃ B, w.ownsRow B 3 1 (.slice A l.length c) l.length (intL l)
  r2 : ∀ A c, o2 = some (A, c) → ∃ B, w.ownsRow B 3 1 (.slice A l.length c) l.length (intL l)
section
variable {W w w' : World} {p q g : Nat} {b b' : Bd} {m r : Nat} {lim pat : Int} {L L' : List Tr} {x : Ac} {N : Nat} {l : List Nat} {o1 o2 : Option (Option Addr × Nat)}
theorem RS.below (h : RS W w p q g b m r lim pat L x l o1 o2) (hb : Below w.heap.size w w') : RS W w' p q g b m r lim pat L x l o1 o2 :=
  ⟨h.ms.below hb, fun A c e => by obtain ⟨B, k⟩ := h.r1 A c e; exact ⟨B, own_same k fun g hg => hb.block g (own_bears k hg).lt⟩, fun A c e => by obtain ⟨B, k⟩ := h.r2 A c e; exact ⟨B, own_same k fun g hg => hb.block g (own_bears k hg).lt⟩⟩
theorem RS.drewN (h : RS W w p q g b m r lim pat L x l o1 o2) (n : Nat) : RS W (w.drewN n) p q g b m r lim pat L x l o1 o2 := h.below (bel_drew w n)
theorem RS.cells (h : Hid (RS W w p q g b m r lim pat L x l o1 o2)) : w.cell? ⟨g, 2, none⟩ = some (.int .i64 x.n) ∧ w.cell? ⟨g, 3, none⟩ = some (.int .i64 x.m) :=
  ⟨h.out.ms.box.c2, h.out.ms.box.c3⟩
theorem rs_ready (nd now : Int) (hl : readyB b nd now = l) (H : Hid (RS W w p q g b m r lim pat L x l o1 o2)) :
    Calls Try.prog 9 #[.pointer (some ⟨p, 0, none⟩), .int .i64 nd, .int .i64 now] w fun e w' => ∃ A c, e = .returned (.slice A l.length c) ∧ Hid (RS W w' p q g b m r lim pat L x l (some (A, c)) o2) := by
  obtain ⟨tb, hs, hr⟩ := H.out.ms.ab.raw
  refine (ready_any (Lib.hid hr) H.out.ms.ab.nn H.out.ms.ab.pat nd now).mono ?_
  rintro e w' ⟨v, rfl, ho, hb⟩
  rw [hl] at ho
  obtain ⟨A, c, rfl⟩ := own_slice_int ho
  have k := H.out.below hb
  exact ⟨A, c, rfl, Lib.hid ⟨k.ms, fun A' c' e => by injection e with e; injection e with e1 e2; subst e1 e2; exact ⟨_, ho⟩, k.r2⟩⟩
theorem rs_rready (nd now : Int) (hm : m ≤ 4096) (hr : r ≤ 4096) (hp : 1 ≤ pat ∧ pat ≤ 1099511627776) (hL : L.length ≤ N) (hN : N < 2932031007402) (hl : rdyL m r lim pat L nd now = l) (H : Hid (RS W w p q g b m r lim pat L x l o1 o2)) :
    Calls Try.prog 22 #[.pointer (some ⟨q, 0, none⟩), .int .i64 nd, .int .i64 now] w fun e w' => ∃ A c, e = .returned (.slice A l.length c) ∧ Hid (RS W w' p q g b m r lim pat L x l o1 (some (A, c))) := by
  obtain ⟨v, hv⟩ := H.out.ms.bo
  refine (rready_any (Lib.hid hv.rb) (by omega) hm hr hp nd now).mono ?_
  rintro e w' ⟨v, rfl, ho, hb⟩
  rw [hl] at ho
  obtain ⟨A, c, rfl⟩ := own_slice_int ho
  have k := H.out.below hb
  exact ⟨A, c, rfl, Lib.hid ⟨k.ms, k.r1, fun A' c' e => by injection e with e; injection e with e1 e2; subst e1 e2; exact ⟨_, ho⟩⟩⟩
theorem rs_ints {A C : Option Addr} {c1 c2 : Nat} (hn : l.length ≤ 1099511627776) (H : Hid (RS W w p q g b m r lim pat L x l (some (A, c1)) (some (C, c2)))) :
    Calls Try.prog 21 #[.slice A l.length c1, .slice C l.length c2] w fun e w' => e = .returned (.bool true) ∧ Hid (RS W w' p q g b m r lim pat L x l (some (A, c1)) (some (C, c2))) := by
  obtain ⟨B1, k1⟩ := H.out.r1 A c1 rfl
  obtain ⟨B2, k2⟩ := H.out.r2 C c2 rfl
  exact (ints_any A C l.length c1 c2 l w B1 B2 rfl hn k1 k2).mono fun _ _ ⟨a, n, k⟩ => ⟨a, Lib.hid (by rw [k]; exact H.out.drewN n)⟩
theorem rs_finished (H : Hid (RS W w p q g b m r lim pat L x l o1 o2)) :
    Calls Try.prog 23 #[.pointer (some ⟨p, 0, none⟩)] w fun e w' => e = .returned (.bool ((b.orr : Int) == 0)) ∧ w = w' := finished_any (Lib.hid H.out.ms.ab)
theorem rs_dead (H : Hid (RS W w p q g b m r lim pat L x l o1 o2)) :
    Calls Try.prog 8 #[.pointer (some ⟨p, 0, none⟩)] w fun e w' => e = .returned (.bool b.dead) ∧ w = w' := dead_any (Lib.hid H.out.ms.ab)
theorem rs_rfin (hm : m ≤ 4096) (hr : r ≤ 4096) (hL : L.length ≤ N) (hN : N < 2932031007402) (H : Hid (RS W w p q g b m r lim pat L x l o1 o2)) :
    Calls Try.prog 24 #[.pointer (some ⟨q, 0, none⟩)] w fun e w' => e = .returned (.bool (allW L m r)) ∧ Hid (RS W w' p q g b m r lim pat L x l o1 o2) := by
  obtain ⟨v, hv⟩ := H.out.ms.bo
  exact (rfin_any (Lib.hid hv.rb) (by omega) hm hr).mono fun _ _ ⟨a, n, k⟩ => ⟨a, Lib.hid (by rw [k]; exact H.out.drewN n)⟩
theorem rs_rdead (hm : m ≤ 4096) (hr : r ≤ 4096) (hL : L.length ≤ N) (hN : N < 2932031007402) (H : Hid (RS W w p q g b m r lim pat L x l o1 o2)) :
    Calls Try.prog 25 #[.pointer (some ⟨q, 0, none⟩)] w fun e w' => e = .returned (.bool (deadL m r lim L)) ∧ Hid (RS W w' p q g b m r lim pat L x l o1 o2) := by
  obtain ⟨v, hv⟩ := H.out.ms.bo
  exact (rdead_any (Lib.hid hv.rb) (by omega) hm hr).mono fun _ _ ⟨a, n, k⟩ => ⟨a, Lib.hid (by rw [k]; exact H.out.drewN n)⟩
end
/-- both boards between two acts -/
def SS (W w : World) (p q : Nat) (m r : Nat) (lim pat : Int) (N : Nat) : Prop := ∃ b L v, BO W w p q b m r lim pat L v ∧ NS b m r lim pat L N
/-- the same, with the box of the act at hand -/
def SX (W w : World) (p q g : Nat) (m r : Nat) (lim pat : Int) (x : Ac) (N : Nat) : Prop := ∃ b L, MS W w p q g b m r lim pat L x ∧ NS b m r lim pat L N
end Go.Proofs.Ytapnlofklgknmaa
