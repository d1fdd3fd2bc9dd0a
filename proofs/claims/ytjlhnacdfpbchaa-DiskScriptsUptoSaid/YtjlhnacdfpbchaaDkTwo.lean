/- Two new disks, and the reference's, in the cells of arrays; two pairs beside each other. -/
import Derived.Test.YtjlhnacdfpbchaaDkHolds
import Derived.Test.YtjlhnacdfpbchaaDkOpen
namespace Go.Proofs.Ytjlhnacdfpbchaa
open Go.RowKit Go.Maps

theorem px_two {W w : World} {p r : Nat} {cap : Int} {n : Nat} (hd : DK W w p (fun b => b = p) cap n [] []) (hr : RS W w r (fun b => b = r) cap [] []) (hne : ¬ p = r) : PX W w p r (fun b => b = p ∨ b = r) cap n [] [] [] [] := by
  refine ⟨⟨_, _, hd, hr, fun b e => .inl e, fun b e => .inr e, fun b e1 e2 => hne (e1.symm.trans e2)⟩, fun b e => ?_⟩
  rcases e with e | e
  · exact hd.m.own b e
  · exact hr.own b e
theorem below_al {w w' : World} {o : Obj} (h : Below (w.alloc o).heap.size (w.alloc o) w') : Below w.heap.size w w' :=
  ((Below.refl _ w).alloc (Nat.le_refl _) o).trans (h.mono (by simp))
theorem bel_al {W w : World} {o : Obj} (h : Hid (Below W.heap.size W w)) : Below W.heap.size W (w.alloc o) := h.out.alloc h.out.size o
/-- a new array of two pointers -/
structure Arr (w : World) (g : Nat) : Prop where
  c0 : w.cell? ⟨g, 0, none⟩ = some (.pointer none)
  c1 : w.cell? ⟨g, 1, none⟩ = some (.pointer none)
  fr : ∀ i, w.frozen? ⟨g, i, none⟩ = false
  lt : g < w.heap.size
theorem arr_new (w : World) (t : TypeId) : Arr (w.alloc (.cells #[.pointer none, .pointer none] t)) w.heap.size := by
  have e : (w.alloc (.cells #[.pointer none, .pointer none] t)).heap[w.heap.size]? = some (.cells #[.pointer none, .pointer none] t) := Array.getElem?_push_size
  refine ⟨by simp, by simp, fun i => ?_, by simp⟩
  generalize w.alloc (.cells #[.pointer none, .pointer none] t) = w2 at e
  simp [World.frozen?, e]
theorem Arr.drew {w : World} {g : Nat} (h : Arr w g) : Arr w.drew g := ⟨h.c0, h.c1, h.fr, h.lt⟩
theorem Arr.below {w w' : World} {g : Nat} (h : Arr w g) (hb : Below w.heap.size w w') : Arr w' g :=
  ⟨(hb.cell (p := ⟨g, 0, none⟩) h.lt).trans h.c0, (hb.cell (p := ⟨g, 1, none⟩) h.lt).trans h.c1, fun i => (hb.frozen (p := ⟨g, i, none⟩) h.lt).trans (h.fr i), Nat.lt_of_lt_of_le h.lt hb.size⟩
/-- a new disk, and the reference's -/
def XK (V w : World) (p : Nat) (k : Int) : Prop := DK V w p (fun b => b = p) k 0 [] []
def XR (V w : World) (p : Nat) (k : Int) : Prop := RS V w p (fun b => b = p) k [] []
structure XOk (X : World → World → Nat → Int → Prop) : Prop where
  tch : ∀ {V w w' : World} {S : Nat → Prop} {p : Nat} {k : Int}, X V w p k → Tch w w' S → ¬ S p → (∀ b, S b → V.heap.size ≤ b) → X V w' p k
  own : ∀ {V w : World} {p : Nat} {k : Int}, X V w p k → V.heap.size ≤ p ∧ p < w.heap.size
  bel : ∀ {V w : World} {p : Nat} {k : Int}, X V w p k → Below V.heap.size V w
theorem xk_ok : XOk XK :=
  ⟨fun h t hp hS => DK.tch h t (fun b e => by
    have e : b = _ := e
    rw [e]; exact hp) hS, fun h => DkM.own (DK.m h) _ rfl, fun h => DK.bel h⟩
theorem xr_ok : XOk XR :=
  ⟨fun h t hp hS => RS.tch h t (fun b e => by
    have e : b = _ := e
    rw [e]; exact hp) hS, fun h => RS.own h _ rfl, fun h => RS.bel h⟩
theorem XOk.below {X : World → World → Nat → Int → Prop} (x : XOk X) {V w w' : World} {p : Nat} {k : Int} (h : X V w p k) (hb : Below w.heap.size w w') : X V w' p k :=
  x.tch h (tch_below (fun _ => False) hb) (fun e => e) (fun _ e => e.elim)
theorem new_0 {V w : World} (c : Int) (hb : Below V.heap.size V w) : Calls Try.prog 5 #[.int .i64 c] w fun e w' => e = .returned (.pointer (some ⟨w.heap.size, 0, none⟩)) ∧ Hid (XK V w' w.heap.size (max c 0) ∧ Below w.heap.size w w') := new_K c hb
theorem new_A {V w : World} {o : Obj} (c : Int) (hb : Below V.heap.size V (w.alloc o)) : Calls Try.prog 5 #[.int .i64 c] (w.alloc o) fun e w' => e = .returned (.pointer (some ⟨w.heap.size + 1, 0, none⟩)) ∧ Hid (XK V w' (w.heap.size + 1) (max c 0) ∧ Below (w.alloc o).heap.size (w.alloc o) w') := by
  have h := new_0 c hb
  rwa [World.size_alloc] at h ⊢
theorem new_AD {V w : World} {o : Obj} (c : Int) (hb : Below V.heap.size V (w.alloc o).drew) : Calls Try.prog 5 #[.int .i64 c] (w.alloc o).drew fun e w' => e = .returned (.pointer (some ⟨w.heap.size + 1, 0, none⟩)) ∧ Hid (XK V w' (w.heap.size + 1) (max c 0) ∧ Below (w.alloc o).drew.heap.size (w.alloc o).drew w') := by
  have h := new_0 c hb
  rw [show (w.alloc o).drew.heap.size = w.heap.size + 1 from World.size_alloc w o] at h ⊢
  exact h
theorem rnew_0 {V w : World} (c : Int) (hb : Below V.heap.size V w) : Calls Try.prog 6 #[.int .i64 c] w fun e w' => e = .returned (.pointer (some ⟨w.heap.size, 0, none⟩)) ∧ Hid (XR V w' w.heap.size (max c 0) ∧ Below w.heap.size w w') := rnew_any c hb
theorem rnew_A {V w : World} {o : Obj} (c : Int) (hb : Below V.heap.size V (w.alloc o)) : Calls Try.prog 6 #[.int .i64 c] (w.alloc o) fun e w' => e = .returned (.pointer (some ⟨w.heap.size + 1, 0, none⟩)) ∧ Hid (XR V w' (w.heap.size + 1) (max c 0) ∧ Below (w.alloc o).heap.size (w.alloc o) w') := by
  have h := rnew_0 c hb
  rwa [World.size_alloc] at h ⊢
theorem rnew_AD {V w : World} {o : Obj} (c : Int) (hb : Below V.heap.size V (w.alloc o).drew) : Calls Try.prog 6 #[.int .i64 c] (w.alloc o).drew fun e w' => e = .returned (.pointer (some ⟨w.heap.size + 1, 0, none⟩)) ∧ Hid (XR V w' (w.heap.size + 1) (max c 0) ∧ Below (w.alloc o).drew.heap.size (w.alloc o).drew w') := by
  have h := rnew_0 c hb
  rw [show (w.alloc o).drew.heap.size = w.heap.size + 1 from World.size_alloc w o] at h ⊢
  exact h
/-- two new ones in the cells of g -/
structure T2 (X : World → World → Nat → Int → Prop) (V w : World) (g p0 p1 : Nat) (k0 k1 : Int) : Prop where
  d0 : X V w p0 k0
  d1 : X V w p1 k1
  c0 : w.cell? ⟨g, 0, none⟩ = some (.pointer (some ⟨p0, 0, none⟩))
  c1 : w.cell? ⟨g, 1, none⟩ = some (.pointer (some ⟨p1, 0, none⟩))
  lo : V.heap.size ≤ g
  lt : g < w.heap.size
  ne : ¬ p0 = p1 ∧ ¬ g = p0 ∧ ¬ g = p1
theorem t2_new {X : World → World → Nat → Int → Prop} (x : XOk X) {V w : World} {p0 p1 : Nat} {k0 k1 : Int} {t : TypeId} (d0 : X V w p0 k0) (d1 : X V w p1 k1) (hne : ¬ p0 = p1) : T2 X V (w.alloc (.cells #[.pointer (some ⟨p0, 0, none⟩), .pointer (some ⟨p1, 0, none⟩)] t)) w.heap.size p0 p1 k0 k1 := by
  have hb := (Below.refl _ w).alloc (Nat.le_refl _) (.cells #[.pointer (some ⟨p0, 0, none⟩), .pointer (some ⟨p1, 0, none⟩)] t)
  refine ⟨x.below d0 hb, x.below d1 hb, by simp, by simp, (x.bel d0).size, by simp, hne, ?_, ?_⟩
  · have := (x.own d0).2; omega
  · have := (x.own d1).2; omega
theorem t2_set {X : World → World → Nat → Int → Prop} (x : XOk X) {V w : World} {g p0 p1 : Nat} {k0 k1 : Int} (d0 : X V w p0 k0) (d1 : X V w p1 k1) (ha : Arr w g) (hlo : V.heap.size ≤ g) (hne : ¬ p0 = p1 ∧ ¬ g = p0 ∧ ¬ g = p1) :
    T2 X V ((w.setCell ⟨g, 0, none⟩ (.pointer (some ⟨p0, 0, none⟩))).setCell ⟨g, 1, none⟩ (.pointer (some ⟨p1, 0, none⟩))) g p0 p1 k0 k1 := by
  have t1 := tch_set w ⟨g, 0, none⟩ (.pointer (some ⟨p0, 0, none⟩))
  have t2 := tch_set (w.setCell ⟨g, 0, none⟩ (.pointer (some ⟨p0, 0, none⟩))) ⟨g, 1, none⟩ (.pointer (some ⟨p1, 0, none⟩))
  have hl : ∀ b, (fun i => i = g) b → V.heap.size ≤ b := fun b e => by
    have e : b = g := e
    rw [e]; exact hlo
  refine ⟨x.tch (x.tch d0 t1 (fun e => hne.2.1 (show p0 = g from e).symm) hl) t2 (fun e => hne.2.1 (show p0 = g from e).symm) hl, x.tch (x.tch d1 t1 (fun e => hne.2.2 (show p1 = g from e).symm) hl) t2 (fun e => hne.2.2 (show p1 = g from e).symm) hl, ?_, ?_, hlo, by simpa using ha.lt, hne⟩
  · exact (World.cell?_setCell_other _ _ _ _ (by simp)).trans (World.cell?_setCell_same _ _ _ ha.c0)
  · exact World.cell?_setCell_same _ _ _ ((World.cell?_setCell_other _ _ _ _ (by simp)).trans ha.c1)
theorem T2.below {X : World → World → Nat → Int → Prop} (x : XOk X) {V w w' : World} {g p0 p1 : Nat} {k0 k1 : Int} (h : T2 X V w g p0 p1 k0 k1) (hb : Below w.heap.size w w') : T2 X V w' g p0 p1 k0 k1 :=
  ⟨x.below h.d0 hb, x.below h.d1 hb, (hb.cell (p := ⟨g, 0, none⟩) h.lt).trans h.c0, (hb.cell (p := ⟨g, 1, none⟩) h.lt).trans h.c1, h.lo, Nat.lt_of_lt_of_le h.lt hb.size, h.ne⟩
theorem RS.rebase {V w2 w : World} {p : Nat} {S : Nat → Prop} {cap : Int} {L : Fs} {cs : List Chg} (h : RS w2 w p S cap L cs) (hb : Below V.heap.size V w2) : RS V w p S cap L cs :=
  ⟨hb.trans (h.bel.mono hb.size), h.hp, fun b k => ⟨Nat.le_trans hb.size (h.own b k).1, (h.own b k).2⟩, h.srt, h.ok, h.ty, h.st⟩
/-- both pairs, the pointers to them in the cells of gd and gw -/
structure TX (V w : World) (gd gw p0 p1 r0 r1 : Nat) (U0 U1 : Nat → Prop) (k0 k1 : Int) (n : Nat) (L0 : Fs) (cs0 : List Chg) (L1 : Fs) (cs1 : List Chg) : Prop where
  x0 : PX V w p0 r0 U0 k0 n L0 cs0 L0 cs0
  x1 : PX V w p1 r1 U1 k1 n L1 cs1 L1 cs1
  ap : ∀ b, U0 b → ¬ U1 b
  d0 : w.cell? ⟨gd, 0, none⟩ = some (.pointer (some ⟨p0, 0, none⟩))
  d1 : w.cell? ⟨gd, 1, none⟩ = some (.pointer (some ⟨p1, 0, none⟩))
  w0 : w.cell? ⟨gw, 0, none⟩ = some (.pointer (some ⟨r0, 0, none⟩))
  w1 : w.cell? ⟨gw, 1, none⟩ = some (.pointer (some ⟨r1, 0, none⟩))
  gd : gd < w.heap.size ∧ ¬ U0 gd ∧ ¬ U1 gd
  gw : gw < w.heap.size ∧ ¬ U0 gw ∧ ¬ U1 gw
theorem TX.bel {V w : World} {gd gw p0 p1 r0 r1 : Nat} {U0 U1 : Nat → Prop} {k0 k1 : Int} {n : Nat} {L0 : Fs} {cs0 : List Chg} {L1 : Fs} {cs1 : List Chg} (h : TX V w gd gw p0 p1 r0 r1 U0 U1 k0 k1 n L0 cs0 L1 cs1) : Below V.heap.size V w := h.x0.bel
theorem PX.mono {W w : World} {p r : Nat} {U : Nat → Prop} {cap : Int} {n N : Nat} {L : Fs} {cs : List Chg} {L2 : Fs} {cs2 : List Chg} (h : PX W w p r U cap n L cs L2 cs2) (hn : n ≤ N) : PX W w p r U cap N L cs L2 cs2 := by
  obtain ⟨S, R, h1, h2⟩ := h.pr
  exact ⟨⟨S, R, h1.mono hn, h2⟩, h.own⟩
theorem TX.below {V w w' : World} {gd gw p0 p1 r0 r1 : Nat} {U0 U1 : Nat → Prop} {k0 k1 : Int} {n : Nat} {L0 : Fs} {cs0 : List Chg} {L1 : Fs} {cs1 : List Chg} (h : TX V w gd gw p0 p1 r0 r1 U0 U1 k0 k1 n L0 cs0 L1 cs1) (hb : Below w.heap.size w w') : TX V w' gd gw p0 p1 r0 r1 U0 U1 k0 k1 n L0 cs0 L1 cs1 :=
  ⟨h.x0.below hb, h.x1.below hb, h.ap, (hb.cell (p := ⟨gd, 0, none⟩) h.gd.1).trans h.d0, (hb.cell (p := ⟨gd, 1, none⟩) h.gd.1).trans h.d1, (hb.cell (p := ⟨gw, 0, none⟩) h.gw.1).trans h.w0, (hb.cell (p := ⟨gw, 1, none⟩) h.gw.1).trans h.w1, ⟨Nat.lt_of_lt_of_le h.gd.1 hb.size, h.gd.2⟩, ⟨Nat.lt_of_lt_of_le h.gw.1 hb.size, h.gw.2⟩⟩
theorem grow_off {U : Nat → Prop} {w w' : World} {g : Nat} (h : ¬ U g) (hg : g < w.heap.size) : ¬ grow U w w' g := fun e => by
  rcases e with e | e
  · exact h e
  · omega
/-- behind a call on the first -/
theorem TX.step0 {V w w' : World} {gd gw p0 p1 r0 r1 : Nat} {U0 U1 : Nat → Prop} {k0 k1 : Int} {n N : Nat} {L0 : Fs} {cs0 : List Chg} {L1 : Fs} {cs1 : List Chg} {L : Fs} {cs : List Chg} (h : TX V w gd gw p0 p1 r0 r1 U0 U1 k0 k1 n L0 cs0 L1 cs1) (k : PR V w w' p0 r0 U0 k0 N L cs L cs) (hn : n ≤ N) :
    TX V w' gd gw p0 p1 r0 r1 (grow U0 w w') U1 k0 k1 N L cs L1 cs1 := by
  have e1 := k.t.block gd h.gd.1 h.gd.2.1
  have e2 := k.t.block gw h.gw.1 h.gw.2.1
  refine ⟨k.px, (h.x1.tch k.t (fun b q1 q2 => h.ap b q2 q1) (fun b q => (k.own b q).1)).mono hn, fun b q1 q2 => ?_, (cell_eq e1 0).trans h.d0, (cell_eq e1 1).trans h.d1, (cell_eq e2 0).trans h.w0, (cell_eq e2 1).trans h.w1, ⟨Nat.lt_of_lt_of_le h.gd.1 k.t.size, grow_off h.gd.2.1 h.gd.1, h.gd.2.2⟩, ⟨Nat.lt_of_lt_of_le h.gw.1 k.t.size, grow_off h.gw.2.1 h.gw.1, h.gw.2.2⟩⟩
  rcases q1 with q1 | q1
  · exact h.ap b q1 q2
  · have := (h.x1.own b q2).2; omega
theorem TX.step1 {V w w' : World} {gd gw p0 p1 r0 r1 : Nat} {U0 U1 : Nat → Prop} {k0 k1 : Int} {n N : Nat} {L0 : Fs} {cs0 : List Chg} {L1 : Fs} {cs1 : List Chg} {L : Fs} {cs : List Chg} (h : TX V w gd gw p0 p1 r0 r1 U0 U1 k0 k1 n L0 cs0 L1 cs1) (k : PR V w w' p1 r1 U1 k1 N L cs L cs) (hn : n ≤ N) :
    TX V w' gd gw p0 p1 r0 r1 U0 (grow U1 w w') k0 k1 N L0 cs0 L cs := by
  have e1 := k.t.block gd h.gd.1 h.gd.2.2
  have e2 := k.t.block gw h.gw.1 h.gw.2.2
  refine ⟨(h.x0.tch k.t (fun b q1 q2 => h.ap b q1 q2) (fun b q => (k.own b q).1)).mono hn, k.px, fun b q1 q2 => ?_, (cell_eq e1 0).trans h.d0, (cell_eq e1 1).trans h.d1, (cell_eq e2 0).trans h.w0, (cell_eq e2 1).trans h.w1, ⟨Nat.lt_of_lt_of_le h.gd.1 k.t.size, h.gd.2.1, grow_off h.gd.2.2 h.gd.1⟩, ⟨Nat.lt_of_lt_of_le h.gw.1 k.t.size, h.gw.2.1, grow_off h.gw.2.2 h.gw.1⟩⟩
  rcases q2 with q2 | q2
  · exact h.ap b q1 q2
  · have := (h.x0.own b q1).2; omega
theorem tx_start {V w2 w : World} {gd gw p0 p1 r0 r1 : Nat} {k0 k1 : Int} (hd : T2 XK V w2 gd p0 p1 k0 k1) (hr : T2 XR w2 w gw r0 r1 k0 k1) : TX V w gd gw p0 p1 r0 r1 (fun b => b = p0 ∨ b = r0) (fun b => b = p1 ∨ b = r1) k0 k1 0 [] [] [] [] := by
  have hb : Below w2.heap.size w2 w := RS.bel hr.d0
  have hV : Below V.heap.size V w2 := DK.bel hd.d0
  have h := hd.below xk_ok hb
  have l0 := (xk_ok.own hd.d0).2
  have l1 := (xk_ok.own hd.d1).2
  have m0 := (xr_ok.own hr.d0).1
  have m1 := (xr_ok.own hr.d1).1
  have hlo := hr.lo
  have hlt := hd.lt
  have hn := hd.ne
  have hm := hr.ne
  refine ⟨px_two h.d0 (RS.rebase hr.d0 hV) (by omega), px_two h.d1 (RS.rebase hr.d1 hV) (by omega), fun b q1 q2 => ?_, h.c0, h.c1, hr.c0, hr.c1, ⟨h.lt, fun e => ?_, fun e => ?_⟩, ⟨hr.lt, fun e => ?_, fun e => ?_⟩⟩
  · rcases q1 with q1 | q1 <;> rcases q2 with q2 | q2 <;> omega
  all_goals
    rcases e with e | e <;> omega
def TY (V w : World) (gd gw p0 p1 r0 r1 : Nat) (k0 k1 : Int) (n : Nat) (L0 : Fs) (cs0 : List Chg) (L1 : Fs) (cs1 : List Chg) : Prop := ∃ U0 U1, TX V w gd gw p0 p1 r0 r1 U0 U1 k0 k1 n L0 cs0 L1 cs1
theorem TY.bel {V w : World} {gd gw p0 p1 r0 r1 : Nat} {k0 k1 : Int} {n : Nat} {L0 : Fs} {cs0 : List Chg} {L1 : Fs} {cs1 : List Chg} (h : TY V w gd gw p0 p1 r0 r1 k0 k1 n L0 cs0 L1 cs1) : Below V.heap.size V w := by
  obtain ⟨_, _, h⟩ := h
  exact h.bel
theorem TY.below {V w w' : World} {gd gw p0 p1 r0 r1 : Nat} {k0 k1 : Int} {n : Nat} {L0 : Fs} {cs0 : List Chg} {L1 : Fs} {cs1 : List Chg} (h : TY V w gd gw p0 p1 r0 r1 k0 k1 n L0 cs0 L1 cs1) (hb : Below w.heap.size w w') : TY V w' gd gw p0 p1 r0 r1 k0 k1 n L0 cs0 L1 cs1 := by
  obtain ⟨U0, U1, h⟩ := h
  exact ⟨U0, U1, h.below hb⟩
theorem SB.wide {i T I Z : Nat} {L : Fs} {cs : List Chg} (h : SB i T L cs) (h1 : i ≤ I) (h2 : T ≤ Z) : SB I Z L cs := ⟨Nat.le_trans h.len h1, Nat.le_trans h.tot h2⟩
/-- the bounds of a round -/
structure Rnd (k : Int) (n N : Nat) (L : Fs) (cs : List Chg) (x : Ac) : Prop where
  ok : AcOk x
  cap : 0 ≤ k ∧ k ≤ 9223372036854775807
  sb : SB 1048576 1048576 L cs
  bn : n ≤ 4398046511104
  ln : L.length ≤ n
  a : x.a.size ≤ 1048576
  b : x.b.size ≤ 1048576
  bN : n + cs.length + 1 ≤ N
theorem ty_act0 {V w : World} {gd gw p0 p1 r0 r1 : Nat} {k0 k1 : Int} {n N : Nat} {L0 : Fs} {cs0 : List Chg} {L1 : Fs} {cs1 : List Chg} (x : Ac) (hr : Rnd k0 n N L0 cs0 x) (h : TY V w gd gw p0 p1 r0 r1 k0 k1 n L0 cs0 L1 cs1) :
    Calls Try.prog 7 #[.pointer (some ⟨p0, 0, none⟩), .pointer (some ⟨r0, 0, none⟩), .agg #[.int .i64 x.k, .string x.a, .string x.b, .int .i64 x.m, .int .i64 x.n]] w fun e w' => e = .returned (.bool true) ∧ Hid (TY V w' gd gw p0 p1 r0 r1 k0 k1 N (stX k0 L0 cs0 x).1 (stX k0 L0 cs0 x).2 L1 cs1) := by
  obtain ⟨U0, U1, h⟩ := h
  refine (act_X x hr.ok (Lib.hid h.x0) hr.cap hr.sb hr.bn hr.ln hr.a hr.b).mono ?_
  rintro e w' ⟨he, k⟩
  exact ⟨he, Lib.hid ⟨_, _, h.step0 (k.out.mono hr.bN) (by have := hr.bN; omega)⟩⟩
theorem ty_act1 {V w : World} {gd gw p0 p1 r0 r1 : Nat} {k0 k1 : Int} {n N : Nat} {L0 : Fs} {cs0 : List Chg} {L1 : Fs} {cs1 : List Chg} (x : Ac) (hr : Rnd k1 n N L1 cs1 x) (h : TY V w gd gw p0 p1 r0 r1 k0 k1 n L0 cs0 L1 cs1) :
    Calls Try.prog 7 #[.pointer (some ⟨p1, 0, none⟩), .pointer (some ⟨r1, 0, none⟩), .agg #[.int .i64 x.k, .string x.a, .string x.b, .int .i64 x.m, .int .i64 x.n]] w fun e w' => e = .returned (.bool true) ∧ Hid (TY V w' gd gw p0 p1 r0 r1 k0 k1 N L0 cs0 (stX k1 L1 cs1 x).1 (stX k1 L1 cs1 x).2) := by
  obtain ⟨U0, U1, h⟩ := h
  refine (act_X x hr.ok (Lib.hid h.x1) hr.cap hr.sb hr.bn hr.ln hr.a hr.b).mono ?_
  rintro e w' ⟨he, k⟩
  exact ⟨he, Lib.hid ⟨_, _, h.step1 (k.out.mono hr.bN) (by have := hr.bN; omega)⟩⟩
theorem ty_hold0 {V w : World} {gd gw p0 p1 r0 r1 : Nat} {k0 k1 : Int} {n : Nat} {L0 : Fs} {cs0 : List Chg} {L1 : Fs} {cs1 : List Chg} (hz : SzH n L0 cs0) (h : TY V w gd gw p0 p1 r0 r1 k0 k1 n L0 cs0 L1 cs1) :
    Calls Try.prog 8 #[.pointer (some ⟨p0, 0, none⟩), .pointer (some ⟨r0, 0, none⟩)] w fun e w' => e = .returned (.bool true) ∧ Hid (TY V w' gd gw p0 p1 r0 r1 k0 k1 n L0 cs0 L1 cs1) := by
  obtain ⟨U0, U1, h⟩ := h
  refine (holds_X (Lib.hid h.x0) hz).mono ?_
  rintro e w' ⟨he, k⟩
  exact ⟨he, Lib.hid ⟨_, _, h.below k.out⟩⟩
theorem ty_hold1 {V w : World} {gd gw p0 p1 r0 r1 : Nat} {k0 k1 : Int} {n : Nat} {L0 : Fs} {cs0 : List Chg} {L1 : Fs} {cs1 : List Chg} (hz : SzH n L1 cs1) (h : TY V w gd gw p0 p1 r0 r1 k0 k1 n L0 cs0 L1 cs1) :
    Calls Try.prog 8 #[.pointer (some ⟨p1, 0, none⟩), .pointer (some ⟨r1, 0, none⟩)] w fun e w' => e = .returned (.bool true) ∧ Hid (TY V w' gd gw p0 p1 r0 r1 k0 k1 n L0 cs0 L1 cs1) := by
  obtain ⟨U0, U1, h⟩ := h
  refine (holds_X (Lib.hid h.x1) hz).mono ?_
  rintro e w' ⟨he, k⟩
  exact ⟨he, Lib.hid ⟨_, _, h.below k.out⟩⟩
/-- an act's cells in the script, o places in -/
structure Sc (V : World) (b o : Nat) (x : Ac) : Prop where
  lt : b < V.heap.size
  c0 : V.cell? ⟨b, o, none⟩ = some (.int .i64 x.k)
  c1 : V.cell? ⟨b, o + 1, none⟩ = some (.string x.a)
  c2 : V.cell? ⟨b, o + 2, none⟩ = some (.string x.b)
  c3 : V.cell? ⟨b, o + 3, none⟩ = some (.int .i64 x.m)
  c4 : V.cell? ⟨b, o + 4, none⟩ = some (.int .i64 x.n)
theorem TY.cells {V w : World} {gd gw p0 p1 r0 r1 : Nat} {k0 k1 : Int} {n : Nat} {L0 : Fs} {cs0 : List Chg} {L1 : Fs} {cs1 : List Chg} (h : TY V w gd gw p0 p1 r0 r1 k0 k1 n L0 cs0 L1 cs1) {b o : Nat} {x : Ac} (s : Sc V b o x) :
    w.cell? ⟨gd, 0, none⟩ = some (.pointer (some ⟨p0, 0, none⟩)) ∧ w.cell? ⟨gd, 1, none⟩ = some (.pointer (some ⟨p1, 0, none⟩)) ∧ w.cell? ⟨gw, 0, none⟩ = some (.pointer (some ⟨r0, 0, none⟩)) ∧ w.cell? ⟨gw, 1, none⟩ = some (.pointer (some ⟨r1, 0, none⟩)) ∧
      w.cell? ⟨b, o, none⟩ = some (.int .i64 x.k) ∧ w.cell? ⟨b, o + 1, none⟩ = some (.string x.a) ∧ w.cell? ⟨b, o + 2, none⟩ = some (.string x.b) ∧ w.cell? ⟨b, o + 3, none⟩ = some (.int .i64 x.m) ∧ w.cell? ⟨b, o + 4, none⟩ = some (.int .i64 x.n) := by
  have hb := h.bel
  obtain ⟨_, _, h⟩ := h
  exact ⟨h.d0, h.d1, h.w0, h.w1, (hb.cell (p := ⟨b, o, none⟩) s.lt).trans s.c0, (hb.cell (p := ⟨b, o + 1, none⟩) s.lt).trans s.c1, (hb.cell (p := ⟨b, o + 2, none⟩) s.lt).trans s.c2, (hb.cell (p := ⟨b, o + 3, none⟩) s.lt).trans s.c3, (hb.cell (p := ⟨b, o + 4, none⟩) s.lt).trans s.c4⟩
theorem TY.ok0 {V w : World} {gd gw p0 p1 r0 r1 : Nat} {k0 k1 : Int} {n : Nat} {L0 : Fs} {cs0 : List Chg} {L1 : Fs} {cs1 : List Chg} (h : TY V w gd gw p0 p1 r0 r1 k0 k1 n L0 cs0 L1 cs1) : (SrtF L0 ∧ ∀ c ∈ cs0, okC c) ∧ (SrtF L1 ∧ ∀ c ∈ cs1, okC c) := by
  obtain ⟨_, _, h⟩ := h
  obtain ⟨S, R, d, _⟩ := h.x0.pr
  obtain ⟨S', R', d', _⟩ := h.x1.pr
  exact ⟨⟨d.srt, d.m.ok⟩, d'.srt, d'.m.ok⟩
end Go.Proofs.Ytjlhnacdfpbchaa
