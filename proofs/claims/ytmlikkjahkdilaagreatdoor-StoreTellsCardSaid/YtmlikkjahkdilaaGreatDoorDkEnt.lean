/- Package disk: a disk's state, whatever it holds; a change is entered. -/
import Derived.Test.YtmlikkjahkdilaaGreatDoorDkSet
import Derived.Deep.AppendLies
namespace Go.Proofs.YtmlikkjahkdilaaGreatDoor
open Go.RowKit Go.Maps

def DkMaps (B : Nat) (w : World) (S : Nat → Prop) (n : Nat) (L : Fs) (cs : List Chg) (last hel : Value) : Prop :=
  (last = .map none ∧ L = [] ∧ cs = [] ∧ (hel = .map none ∨ ∃ m, hel = .map (some m) ∧ S m ∧ GF w m n (fun _ => none))) ∨
  (∃ l m V U, last = .map (some l) ∧ hel = .map (some m) ∧ FsR B w l n V L ∧ FsR B w m n U (held L cs) ∧ S l ∧ S m ∧ ¬ l = m ∧ (∀ b, Rows V b → S b) ∧ (∀ b, Rows U b → S b) ∧ ∀ b, Rows V b → ¬ Rows U b)
/-- a disk at p, whose blocks lie in S -/
structure DkM (B : Nat) (w : World) (p : Nat) (S : Nat → Prop) (cp used : Int) (n : Nat) (L : Fs) (cs : List Chg) : Prop where
  hp : S p
  own : ∀ b, S b → B ≤ b ∧ b < w.heap.size
  ok : ∀ c ∈ cs, okC c
  nm : NmF L
  st : ∃ last chg hel, DiskAt w p cp last chg hel used ∧ Cr w B chg cs ∧ (∀ b, chg.ownBlock = some b → S b) ∧ DkMaps B w S n L cs last hel
/-- the blocks, and the new ones -/
def grow (S : Nat → Prop) (w w' : World) (b : Nat) : Prop := S b ∨ (w.heap.size ≤ b ∧ b < w'.heap.size)
theorem GF.sub {w w' : World} {m n : Nat} {G : Hv} (h : GF w m n G) (e : w'.heap[m]? = w.heap[m]?) : GF w' m n G := by
  obtain ⟨D, ⟨es, clock, h1, h2⟩, h3⟩ := h
  exact ⟨D, ⟨es, clock, e.trans h1, h2⟩, h3⟩
theorem DkMaps.tch {B : Nat} {w w' : World} {S S' : Nat → Prop} {n : Nat} {L : Fs} {cs : List Chg} {last hel : Value} (h : DkMaps B w S n L cs last hel) (t : Tch w w' S') (hd : ∀ b, S b → ¬ S' b) : DkMaps B w' S n L cs last hel := by
  rcases h with ⟨h1, h2, h3, h4⟩ | ⟨l, m, V, U, h1, h2, h3, h4, h5, h6, h7, h8, h9, h10⟩
  · refine .inl ⟨h1, h2, h3, h4.imp id ?_⟩
    rintro ⟨m, q1, q2, q3⟩
    exact ⟨m, q1, q2, q3.tch t (hd m q2)⟩
  · exact .inr ⟨l, m, V, U, h1, h2, h3.tch t (hd l h5) (fun b hb => hd b (h8 b hb)), h4.tch t (hd m h6) (fun b hb => hd b (h9 b hb)), h5, h6, h7, h8, h9, h10⟩
theorem DkMaps.wide {B : Nat} {w : World} {S S' : Nat → Prop} {n n' : Nat} {L : Fs} {cs : List Chg} {last hel : Value} (h : DkMaps B w S n L cs last hel) (hd : ∀ b, S b → S' b) (hn : n ≤ n') : DkMaps B w S' n' L cs last hel := by
  rcases h with ⟨h1, h2, h3, h4⟩ | ⟨l, m, V, U, h1, h2, h3, h4, h5, h6, h7, h8, h9, h10⟩
  · refine .inl ⟨h1, h2, h3, h4.imp id ?_⟩
    rintro ⟨m, q1, q2, q3⟩
    exact ⟨m, q1, hd m q2, q3.mono hn⟩
  · exact .inr ⟨l, m, V, U, h1, h2, h3.mono hn, h4.mono hn, hd l h5, hd m h6, h7, fun b hb => hd b (h8 b hb), fun b hb => hd b (h9 b hb), h10⟩
theorem DkM.tch {B : Nat} {w w' : World} {p : Nat} {S S' : Nat → Prop} {cp used : Int} {n : Nat} {L : Fs} {cs : List Chg} (h : DkM B w p S cp used n L cs) (t : Tch w w' S') (hd : ∀ b, S b → ¬ S' b) : DkM B w' p S cp used n L cs := by
  obtain ⟨last, chg, hel, h1, h2, h3, h4⟩ := h.st
  exact ⟨h.hp, fun b hb => ⟨(h.own b hb).1, Nat.lt_of_lt_of_le (h.own b hb).2 t.size⟩, h.ok, h.nm, last, chg, hel, h1.tch t (hd p h.hp), row_tch h2 t (fun b hb => hd b (h3 b hb)), h3, h4.tch t hd⟩
theorem DkM.below {B : Nat} {w w' : World} {p : Nat} {S : Nat → Prop} {cp used : Int} {n : Nat} {L : Fs} {cs : List Chg} (h : DkM B w p S cp used n L cs) (hb : Below w.heap.size w w') : DkM B w' p S cp used n L cs :=
  h.tch (tch_below (fun _ => False) hb) (fun _ _ e => e)
theorem DkM.wide {B : Nat} {w : World} {p : Nat} {S S' : Nat → Prop} {cp used : Int} {n n' : Nat} {L : Fs} {cs : List Chg} (h : DkM B w p S cp used n L cs) (hd : ∀ b, S b → S' b) (ho : ∀ b, S' b → B ≤ b ∧ b < w.heap.size) (hn : n ≤ n') : DkM B w p S' cp used n' L cs := by
  obtain ⟨last, chg, hel, h1, h2, h3, h4⟩ := h.st
  exact ⟨hd p h.hp, ho, h.ok, h.nm, last, chg, hel, h1, h2, fun b hb => hd b (h3 b hb), h4.wide hd hn⟩
/-- both maps are there, in a world behind w -/
structure Rdy (B : Nat) (w w0 : World) (p : Nat) (S : Nat → Prop) (cp used : Int) (n : Nat) (L : Fs) (cs : List Chg) (l m : Nat) (chg : Value) (V U : Hv) : Prop where
  k : DiskAt w0 p cp (.map (some l)) chg (.map (some m)) used
  cr : Cr w0 B chg cs
  fl : FsR B w0 l n V L
  fm : FsR B w0 m n U (held L cs)
  t : Tch w w0 S
  hc : ∀ b, chg.ownBlock = some b → S b ∨ w.heap.size ≤ b
  hl : S l ∨ w.heap.size ≤ l
  hm : S m ∨ w.heap.size ≤ m
  lm : ¬ l = m
  rv : ∀ b, Rows V b → S b ∨ w.heap.size ≤ b
  ru : ∀ b, Rows U b → S b ∨ w.heap.size ≤ b
  ap : ∀ b, Rows V b → ¬ Rows U b
theorem rows_none (b : Nat) : ¬ Rows (fun _ => none) b := fun ⟨_, _, h, _⟩ => by cases h
theorem rdy_made {B : Nat} {w : World} {p n : Nat} {S : Nat → Prop} {cp used : Int} {chg hel : Value} (hk : DiskAt w p cp (.map none) chg hel used) (hc : Cr w B chg []) (hs : ∀ b, chg.ownBlock = some b → S b) (hp : S p) :
    Rdy B w (W4 w p) p S cp used n [] [] w.heap.size (w.heap.size + 1) chg (fun _ => none) (fun _ => none) := by
  obtain ⟨h1, h2, h3, h4⟩ := w4_is hk
  have hmk : ∀ m, FM (W4 w p) m 0 (.map []) → FsR B (W4 w p) m n (fun _ => none) [] := fun m hm =>
    ⟨GF.mono ⟨_, hm, fun _ => ⟨rfl, rfl⟩⟩ (Nat.zero_le n), (fun _ _ h => by simp [getF] at h), fun _ _ => rfl, (fun _ _ _ _ _ h => by cases h), List.Pairwise.nil⟩
  exact ⟨h1, row_tch hc h4 (fun b hb => cells_apart (row_at hc hb) hk.ty (by decide)), hmk _ h2, hmk _ h3, ⟨h4.os, h4.tape, h4.output, h4.size, fun k hk hn => h4.block k hk (fun e => hn (e ▸ hp))⟩, fun b hb => .inl (hs b hb), .inr (Nat.le_refl _), .inr (Nat.le_succ _), by omega,
    fun b hb => absurd hb (rows_none b), fun b hb => absurd hb (rows_none b), fun b hb => absurd hb (rows_none b)⟩
theorem Rdy.p_map {B : Nat} {w w0 : World} {p n l m : Nat} {S : Nat → Prop} {cp used : Int} {L : Fs} {cs : List Chg} {chg : Value} {V U : Hv} (h : Rdy B w w0 p S cp used n L cs l m chg V U) : ¬ (p = m ∨ Rows U p) := rows_p h.fm h.k
/-- behind the change's doing -/
structure Rdy1 (B : Nat) (w w1 : World) (p : Nat) (S : Nat → Prop) (cp used : Int) (n : Nat) (L : Fs) (cs : List Chg) (c : Chg) (l m : Nat) (chg : Value) (V U : Hv) : Prop where
  k : DiskAt w1 p cp (.map (some l)) chg (.map (some m)) used
  cr : Cr w1 B chg cs
  fl : FsR B w1 l n V L
  fm : FsR B w1 m (n + 1) U (doC (held L cs) c)
  t : Tch w w1 S
  hc : ∀ b, chg.ownBlock = some b → S b ∨ w.heap.size ≤ b
  hl : S l ∨ w.heap.size ≤ l
  hm : S m ∨ w.heap.size ≤ m
  lm : ¬ l = m
  rv : ∀ b, Rows V b → S b ∨ w.heap.size ≤ b
  ru : ∀ b, Rows U b → S b ∨ w.heap.size ≤ b
  ap : ∀ b, Rows V b → ¬ Rows U b
theorem Rdy.next {B : Nat} {w w0 w1 : World} {p n l m : Nat} {S : Nat → Prop} {cp used : Int} {L : Fs} {cs : List Chg} {c : Chg} {chg : Value} {V U : Hv} (h : Rdy B w w0 p S cp used n L cs l m chg V U) (hd : DoPost B w0 w1 m n U (held L cs) c) : ∃ U', Rdy1 B w w1 p S cp used n L cs c l m chg V U' := by
  obtain ⟨U', h1, h2, h3⟩ := hd
  refine ⟨U', h.k.tch h2 h.p_map, row_tch h.cr h2 (fun b hb => rows_chg h.fm h.cr hb), h.fl.tch h2 (fun e => e.elim h.lm (fun e => h.fl.gf.apart (h.fm.rows_at e).2.2 rfl)) (fun b hb e => e.elim (fun e => by subst e; exact h.fm.gf.apart (h.fl.rows_at hb).2.2 rfl) (h.ap b hb)), h1, h.t.then h2 (fun i hi e => ?_), h.hc, h.hl, h.hm, h.lm, h.rv, fun b hb => ?_, fun b hb hu => ?_⟩
  · rcases e with e | e
    · rcases h.hm with k | k
      · exact e ▸ k
      · omega
    · rcases h.ru i e with k | k
      · exact k
      · omega
  · rcases h3 b hb with k | k
    · exact h.ru b k
    · exact .inr (Nat.le_trans h.t.size k)
  · rcases h3 b hu with k | k
    · exact h.ap b hb k
    · have := (h.fl.rows_at hb).2.1; omega
/-- behind the append to the list of changes -/
theorem Rdy1.fin {B : Nat} {w w1 w2 : World} {p n l m g q gc : Nat} {S : Nat → Prop} {cp used : Int} {L : Fs} {cs : List Chg} {c : Chg} {chg : Value} {V U : Hv} (h : Rdy1 B w w1 p S cp used n L cs c l m chg V U) (hS : ∀ b, S b → B ≤ b ∧ b < w.heap.size) (hp : S p) (hok : ∀ c ∈ cs, okC c) (hc : okC c) (hnm : NmF L) (hBw : B ≤ w.heap.size)
    (hq : q = cs.length) (hrow : w2.ownsRow B 71 1 (.slice (some ⟨g, 0, none⟩) (q + 1) gc) (q + 1) (cs.map cV ++ [cV c])) (t : Tch w1 w2 (fun i => some i = chg.ownBlock)) (hg : chg.ownBlock = some g ∨ w1.heap.size ≤ g) :
    DkM B (w2.setCell ⟨p, 2, none⟩ (.slice (some ⟨g, 0, none⟩) (q + 1) gc)) p (grow S w (w2.setCell ⟨p, 2, none⟩ (.slice (some ⟨g, 0, none⟩) (q + 1) gc))) cp used (n + 1) L (cs ++ [c]) ∧ Tch w (w2.setCell ⟨p, 2, none⟩ (.slice (some ⟨g, 0, none⟩) (q + 1) gc)) S := by
  obtain ⟨X, hX⟩ : ∃ X : Value, X = .slice (some ⟨g, 0, none⟩) (q + 1) gc := ⟨_, rfl⟩
  rw [← hX] at hrow ⊢
  have hpc : ∀ b, chg.ownBlock = some b → ¬ b = p := fun b hb => cells_apart (row_at h.cr hb) h.k.ty (by decide)
  have k2 := h.k.tch t (fun e => hpc p e.symm rfl)
  have fl2 := h.fl.tch t (fun e => rows_chg h.fl h.cr e.symm (.inl rfl)) (fun b hb e => rows_chg h.fl h.cr e.symm (.inr hb))
  have fm2 := h.fm.tch t (fun e => rows_chg h.fm h.cr e.symm (.inl rfl)) (fun b hb e => rows_chg h.fm h.cr e.symm (.inr hb))
  have ts := tch_set w2 ⟨p, 2, none⟩ X
  have hgp : ¬ g = p := cells_apart (row_at hrow (by rw [hX]; rfl)) k2.ty (by decide)
  have hglt : g < w2.heap.size := (hrow.lt g (by rw [hX]; rfl)).2
  have t2 : Tch w w2 S := h.t.then t (fun i hi e => by
    rcases h.hc i e.symm with k | k
    · exact k
    · omega)
  have t3 : Tch w (w2.setCell ⟨p, 2, none⟩ X) S := t2.then ts (fun i _ e => by
    have e : i = p := e
    rw [e]; exact hp)
  have hsz : (w2.setCell ⟨p, 2, none⟩ X).heap.size = w2.heap.size := by simp
  have hin : ∀ b, (S b ∨ w.heap.size ≤ b) → b < w2.heap.size → grow S w (w2.setCell ⟨p, 2, none⟩ X) b := fun b hb hlt => hb.imp id (fun k => ⟨k, by rw [hsz]; exact hlt⟩)
  refine ⟨⟨.inl hp, fun b hb => ?_, fun x hx => ?_, hnm, _, X, _, k2.chg X, ?_, fun b hb => ?_, .inr ⟨l, m, V, U, rfl, rfl, (fl2.mono (Nat.le_succ _)).setp k2 2 X, ?_, hin l h.hl fl2.gf.lt, hin m h.hm fm2.gf.lt, h.lm, fun b hb => hin b (h.rv b hb) (fl2.rows_at hb).2.1, fun b hb => hin b (h.ru b hb) (fm2.rows_at hb).2.1, h.ap⟩⟩, t3⟩
  · rcases hb with hb | ⟨h1, h2⟩
    · exact ⟨(hS b hb).1, Nat.lt_of_lt_of_le (hS b hb).2 t3.size⟩
    · exact ⟨Nat.le_trans hBw h1, h2⟩
  · rcases List.mem_append.1 hx with hx | hx
    · exact hok x hx
    · rw [List.mem_singleton.1 hx]; exact hc
  · have : w2.ownsRow B 71 1 X (cs ++ [c]).length ((cs ++ [c]).map cV) := by
      rw [List.length_append, List.map_append, ← hq]
      exact hrow
    exact row_tch this ts (fun b hb e => by
      have e : b = p := e
      rw [hX] at hb
      injection hb with hb
      simp only at hb
      exact hgp (hb.trans e))
  · rw [hX] at hb
    injection hb with hb
    simp only at hb
    subst hb
    refine hin g ?_ hglt
    rcases hg with k | k
    · exact h.hc g k
    · exact .inr (Nat.le_trans h.t.size k)
  · rw [held_one]
    exact fm2.setp k2 2 X
set_option maxRecDepth 100000 in
set_option maxHeartbeats 4000000 in
theorem enter_F {B : Nat} {w : World} {p : Nat} {S : Nat → Prop} {cp used : Int} {n : Nat} {L : Fs} {cs : List Chg} (c : Chg) (h : Hid (DkM B w p S cp used n L cs)) (hc : okC c) (hB : B ≤ w.heap.size) (hn : n < maxLen) (hq : cs.length ≤ 8796093022206) (hsz : totF (held L cs) + wtC c ≤ 140737488355328) :
    Calls Tryz.prog 44 #[.pointer (some ⟨p, 0, none⟩), cV c] w fun e w' => e = .returned (.tuple #[]) ∧ Hid (DkM B w' p (grow S w w') cp used (n + 1) L (cs ++ [c]) ∧ Tch w w' S) := by
  obtain ⟨i0, hi, hz0, hz1, hz2⟩ := info_parts infoChange
  have HSZ := Lib.hid (And.intro hB (And.intro hn (And.intro hq (And.intro hsz hc))))
  have hmap : ∀ (w : World) (r : Option Nat), (binOp .eql 62 (.map r) (.map none)).run Tryz.prog w = .ok (.bool r.isNone) w := fun w r => run_eql_map_nil w _ _ _ _ Tryz.underlying62
  obtain ⟨t, a, f, hfn, hcv, hna, hme, hdo⟩ := chg_do c
  have hmm := @run_makeMap Tryz.prog
  have HCV := Lib.hid hcv
  have HDO := Lib.hid hdo
  rw [hcv]
  clear hB hn hq hsz hc hcv hdo
  obtain ⟨last, chg, hel, hk, hcr, hcs, hmp⟩ := h.out.st
  have hrl : ∃ q : Nat, q = cs.length := ⟨_, rfl⟩
  rcases hmp with ⟨rfl, hL0, hcs0, hhel⟩ | ⟨l, m, V, U, rfl, rfl, hl, hm, sl, sm, lm, rv, ru, apt⟩
  case' inl =>
    have HR0 : Hid (Rdy B w (W4 w p) p S cp used n L cs w.heap.size (w.heap.size + 1) chg (fun _ => none) (fun _ => none)) := Lib.hid (by
      subst hL0
      subst hcs0
      exact rdy_made hk hcr hcs h.out.hp)
    have hlt := hk.lt
    have hb2 : Below w.heap.size w (W2 w) := ((Below.refl _ w).alloc (Nat.le_refl _) _).alloc (by simp) _
    have e1 := (hb2.cell (p := ⟨p, 1, none⟩) hlt).trans hk.c1
    have e3 := (hb2.cell (p := ⟨p, 3, none⟩) hlt).trans hk.c3
    have g1 := (hb2.frozen (p := ⟨p, 1, none⟩) hlt).trans (hk.fr 1)
    have g3 := (hb2.frozen (p := ⟨p, 3, none⟩) hlt).trans (hk.fr 3)
    have c1 := hk.c1
    clear hk hcr hcs hlt hb2 hhel hL0 hcs0
    go_enter Tryz.func44, Tryz.ntmps44
    go_upto_region 2 with (fail)
    change Code.wp _ _ _ _ (W4 w p)
    clear e1 e3 g1 g3 c1 hmm
    obtain ⟨w0, hw0⟩ : ∃ w0, w0 = W4 w p := ⟨_, rfl⟩
    obtain ⟨l, hl⟩ : ∃ l, l = w.heap.size := ⟨_, rfl⟩
    obtain ⟨m, hm⟩ : ∃ m, m = w.heap.size + 1 := ⟨_, rfl⟩
    obtain ⟨V, hV⟩ : ∃ V : Hv, V = fun _ => none := ⟨_, rfl⟩
    obtain ⟨U, hU⟩ : ∃ U : Hv, U = fun _ => none := ⟨_, rfl⟩
    have HR : Hid (Rdy B w w0 p S cp used n L cs l m chg V U) := Lib.hid (by rw [hw0, hl, hm, hV, hU]; exact HR0.out)
    rw [← hw0]
    clear hw0 hl hm hV hU HR0
  case' inr =>
    have HR : Hid (Rdy B w w p S cp used n L cs l m chg V U) := Lib.hid ⟨hk, hcr, hl, hm, Tch.refl _ _, fun b hb => .inl (hcs b hb), .inl sl, .inl sm, lm, fun b hb => .inl (rv b hb), fun b hb => .inl (ru b hb), apt⟩
    have c1 := hk.c1
    clear hk hcr hcs hl hm sl sm lm rv ru apt
    obtain ⟨w0, hw0⟩ : ∃ w0, w0 = w := ⟨_, rfl⟩
    have HW0 := Lib.hid hw0
    rw [← hw0] at c1
    have HR : Hid (Rdy B w w0 p S cp used n L cs l m chg V U) := Lib.hid (by rw [HW0.out]; exact HR.out)
    suffices hx : Calls Tryz.prog 44 #[.pointer (some ⟨p, 0, none⟩), .iface t a] w0 fun e w' => e = .returned (.tuple #[]) ∧ Hid (DkM B w' p (grow S w w') cp used (n + 1) L (cs ++ [c]) ∧ Tch w w' S) by
      rw [hw0] at hx; exact hx
    clear hw0 HW0
    go_enter Tryz.func44, Tryz.ntmps44
    go_upto_region 2 with (fail)
    clear c1
  all_goals
    go_cut [] (fun wx => ∃ U', Hid (Rdy1 B w wx p S cp used n L cs c l m chg V U'))
    case first =>
      have c3 := HR.out.k.c3
      have hdo := HDO.out B w0.drew m n U _ (HR.out.fm.drew) HSZ.out.2.2.2.2 HSZ.out.2.1 (Nat.le_trans HSZ.out.1 HR.out.t.size) HSZ.out.2.2.2.1
      rcases hfn with rfl | rfl | rfl
      all_goals
        go_region_with (first
          | (go_at_call 36; refine hdo.mono ?_; rintro e w1 ⟨rfl, h1⟩)
          | (go_at_call 162; refine hdo.mono ?_; rintro e w1 ⟨rfl, h1⟩)
          | (go_at_call 161; refine hdo.mono ?_; rintro e w1 ⟨rfl, h1⟩))
        all_goals
          obtain ⟨U', h2⟩ := HR.out.next (w1 := w1) (c := c) (by
            obtain ⟨G2, q1, q2, q3⟩ := h1
            exact ⟨G2, q1, tch_drew q2, q3⟩)
          have H2 := Lib.hid h2
          clear h1 h2 hdo
          first
            | (go_meet; exact ⟨U', H2⟩)
            | (go_wp2; go_meet; exact ⟨U', H2⟩)
    case rest =>
      obtain ⟨U', H1⟩ := hcut
      clear HR hmap hna hme HDO
      have hown := H1.out.cr
      have d2 := H1.out.k.c2
      have f2 := H1.out.k.fr 2
      have hBc : B ≤ wc.heap.size := Nat.le_trans HSZ.out.1 H1.out.t.size
      obtain ⟨q, hq⟩ := hrl
      have HQ := Lib.hid hq
      unfold Cr at hown
      rw [← hq] at hown
      go_wp2_with (at_builtin; refine wpList_append_lies _ rfl _ _ 63 rfl B 71 i0 .nilIface 1 16 Tryz.underlying63 hi hz0 hz1 hz2 rfl (by decide) _ _ _ rfl (hown.alloc _) ⟨wc.heap.size, 0, none⟩ 1 1 [.iface t a] rfl rfl ?c1 ?c2 (by decide) ?c3 ?c4 ?c5 (wc.heap.size + 1) (by simp) ?_)
      case c1 =>
        intro j u hj
        match j, hj with
        | 0, hj => simp at hj; subst hj; simp [Addr.add]
      case c2 => first | rfl | (intro u hu; simp at hu; subst hu; rfl)
      case c3 => have := HSZ.out.2.2.1; rw [← hq] at this; unfold maxLen; omega
      case c4 => have := HSZ.out.2.2.1; rw [← hq] at this; omega
      case c5 => simp; omega
      intro g gc w2 hown' hgrow' hwhere _
      rw [← hq] at hown'
      have HFIN := H1.out.fin h.out.own h.out.hp h.out.ok HSZ.out.2.2.2.2 h.out.nm HSZ.out.1 (g := g) (gc := gc) (w2 := w2) (q := q) HQ.out (by rw [HCV.out]; exact hown') ((tch_below _ ((Below.refl _ wc).alloc (Nat.le_refl _) _)).trans (tch_grown hgrow')) (hwhere.imp id (fun e => by omega))
      have D2 : DiskAt w2 p cp (.map (some l)) chg (.map (some m)) used := H1.out.k.tch ((tch_below _ ((Below.refl _ wc).alloc (Nat.le_refl _) _)).trans (tch_grown hgrow')) (fun e => cells_apart (row_at H1.out.cr e.symm) H1.out.k.ty (by decide) rfl)
      have g2 := D2.c2
      have g3 := D2.fr 2
      have HF := Lib.hid HFIN
      rw [← hq]
      clear d2 f2 hown hown' hgrow' hwhere D2 HFIN hq H1 HQ HSZ
      go_wp2
      first
        | (go_end0; exact ⟨rfl, HF⟩)
        | (go_ret; exact ⟨rfl, HF⟩)
        | exact bodyPost_ret (v := .tuple #[]) (results_none rfl _ _ _) rfl ⟨rfl, HF⟩
        | (go_end0; exact ⟨rfl, HF.out⟩)
end Go.Proofs.YtmlikkjahkdilaaGreatDoor
