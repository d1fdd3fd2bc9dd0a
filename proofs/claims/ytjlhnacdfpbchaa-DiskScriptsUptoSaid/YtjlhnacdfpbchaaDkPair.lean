/- A disk and the reference's beside it. -/
import Derived.Test.YtjlhnacdfpbchaaDkFlip
namespace Go.Proofs.Ytjlhnacdfpbchaa
open Go.RowKit Go.Maps

theorem DK.mono {w0 w : World} {p : Nat} {S : Nat → Prop} {cp : Int} {n n' : Nat} {L : Fs} {cs : List Chg} (h : DK w0 w p S cp n L cs) (hn : n ≤ n') : DK w0 w p S cp n' L cs :=
  ⟨h.bel, h.m.wide (fun _ h => h) h.m.own hn⟩
theorem DK.more {w0 w : World} {p : Nat} {S S' : Nat → Prop} {cp : Int} {n : Nat} {L : Fs} {cs : List Chg} (h : DK w0 w p S cp n L cs) (hd : ∀ b, S b → S' b) (ho : ∀ b, S' b → w0.heap.size ≤ b ∧ b < w.heap.size) : DK w0 w p S' cp n L cs :=
  ⟨h.bel, h.m.wide hd ho (Nat.le_refl _)⟩
/-- the disk at p with L and cs, the reference's at r with L2 and cs2, their blocks in U -/
structure PX (W w : World) (p r : Nat) (U : Nat → Prop) (cap : Int) (n : Nat) (L : Fs) (cs : List Chg) (L2 : Fs) (cs2 : List Chg) : Prop where
  pr : ∃ S R, DK W w p S cap n L cs ∧ RS W w r R cap L2 cs2 ∧ (∀ b, S b → U b) ∧ (∀ b, R b → U b) ∧ (∀ b, S b → ¬ R b)
  own : ∀ b, U b → W.heap.size ≤ b ∧ b < w.heap.size
theorem PX.bel {W w : World} {p r : Nat} {U : Nat → Prop} {cap : Int} {n : Nat} {L : Fs} {cs : List Chg} {L2 : Fs} {cs2 : List Chg} (h : PX W w p r U cap n L cs L2 cs2) : Below W.heap.size W w := by
  obtain ⟨S, R, h1, _⟩ := h.pr
  exact h1.bel
theorem PX.tch {W w w' : World} {p r : Nat} {U U' : Nat → Prop} {cap : Int} {n : Nat} {L : Fs} {cs : List Chg} {L2 : Fs} {cs2 : List Chg} (h : PX W w p r U cap n L cs L2 cs2) (t : Tch w w' U') (hd : ∀ b, U b → ¬ U' b) (hU : ∀ b, U' b → W.heap.size ≤ b) : PX W w' p r U cap n L cs L2 cs2 := by
  obtain ⟨S, R, h1, h2, h3, h4, h5⟩ := h.pr
  exact ⟨⟨S, R, h1.tch t (fun b hb => hd b (h3 b hb)) hU, h2.tch t (fun b hb => hd b (h4 b hb)) hU, h3, h4, h5⟩, fun b hb => ⟨(h.own b hb).1, Nat.lt_of_lt_of_le (h.own b hb).2 t.size⟩⟩
theorem PX.below {W w w' : World} {p r : Nat} {U : Nat → Prop} {cap : Int} {n : Nat} {L : Fs} {cs : List Chg} {L2 : Fs} {cs2 : List Chg} (h : PX W w p r U cap n L cs L2 cs2) (hb : Below w.heap.size w w') : PX W w' p r U cap n L cs L2 cs2 :=
  h.tch (tch_below (fun _ => False) hb) (fun _ _ e => e) (fun _ e => e.elim)
theorem PX.more {W w : World} {p r : Nat} {U U' : Nat → Prop} {cap : Int} {n : Nat} {L : Fs} {cs : List Chg} {L2 : Fs} {cs2 : List Chg} (h : PX W w p r U cap n L cs L2 cs2) (hd : ∀ b, U b → U' b) (ho : ∀ b, U' b → W.heap.size ≤ b ∧ b < w.heap.size) : PX W w p r U' cap n L cs L2 cs2 := by
  obtain ⟨S, R, h1, h2, h3, h4, h5⟩ := h.pr
  exact ⟨⟨S, R, h1, h2, fun b hb => hd b (h3 b hb), fun b hb => hd b (h4 b hb), h5⟩, ho⟩
theorem px_new {W w w1 w2 : World} {p r : Nat} {S R : Nat → Prop} {cap : Int} {n : Nat} (hd : DK W w1 p S cap n [] []) (hS : ∀ b, S b → w.heap.size ≤ b) (hr : RS W w2 r R cap [] []) (hR : ∀ b, R b → w1.heap.size ≤ b) (hb1 : Below w.heap.size w w1) (hb : Below w1.heap.size w1 w2) (hW : W.heap.size ≤ w.heap.size) :
    PX W w2 p r (fun b => w.heap.size ≤ b ∧ b < w2.heap.size) cap n [] [] [] [] := by
  refine ⟨⟨S, R, hd.below hb, hr, fun b k => ⟨hS b k, Nat.lt_of_lt_of_le (hd.m.own b k).2 hb.size⟩, fun b k => ⟨Nat.le_trans hb1.size (hR b k), (hr.own b k).2⟩, fun b k1 k2 => ?_⟩, fun b k => ⟨Nat.le_trans hW k.1, k.2⟩⟩
  have := (hd.m.own b k1).2
  have := hR b k2
  omega
/-- the pair behind some calls since w -/
structure PR (W w wr : World) (p r : Nat) (U : Nat → Prop) (cap : Int) (n : Nat) (L : Fs) (cs : List Chg) (L2 : Fs) (cs2 : List Chg) : Prop where
  px : PX W wr p r (grow U w wr) cap n L cs L2 cs2
  t : Tch w wr U
  own : ∀ b, U b → W.heap.size ≤ b ∧ b < w.heap.size
  le : W.heap.size ≤ w.heap.size
theorem PX.start {W w : World} {p r : Nat} {U : Nat → Prop} {cap : Int} {n : Nat} {L : Fs} {cs : List Chg} {L2 : Fs} {cs2 : List Chg} (h : PX W w p r U cap n L cs L2 cs2) : PR W w w p r U cap n L cs L2 cs2 :=
  ⟨h.more (fun _ k => .inl k) (grow_own h.own h.bel.size (Nat.le_refl _)), Tch.refl _ _, h.own, h.bel.size⟩
theorem PR.below {W w wr w' : World} {p r : Nat} {U : Nat → Prop} {cap : Int} {n : Nat} {L : Fs} {cs : List Chg} {L2 : Fs} {cs2 : List Chg} (h : PR W w wr p r U cap n L cs L2 cs2) (hb : Below wr.heap.size wr w') : PR W w w' p r U cap n L cs L2 cs2 := by
  have t2 : Tch w w' U := h.t.then (tch_below (fun _ => False) hb) (fun _ _ e => e.elim)
  exact ⟨(h.px.below hb).more (fun b k => k.imp id (fun q => ⟨q.1, Nat.lt_of_lt_of_le q.2 hb.size⟩)) (grow_own h.own h.le t2.size), t2, h.own, h.le⟩
theorem PR.callK {W w wr : World} {p r : Nat} {U : Nat → Prop} {cap : Int} {n n' N : Nat} {L : Fs} {cs : List Chg} {L2 : Fs} {cs2 : List Chg} {L' : Fs} {cs' : List Chg} {f : Nat} {args : Array Value} {v : Value} (h : PR W w wr p r U cap n L cs L2 cs2) (hN : n' ≤ N)
    (hc : ∀ S, DK W wr p S cap n L cs → Calls Try.prog f args wr fun e w' => e = .returned v ∧ Hid (DK W w' p (grow S wr w') cap n' L' cs' ∧ Tch wr w' S)) :
    Calls Try.prog f args wr fun e w' => e = .returned v ∧ Hid (PR W w w' p r U cap N L' cs' L2 cs2) := by
  obtain ⟨S, R, h1, h2, h3, h4, h5⟩ := h.px.pr
  refine (hc S h1).mono ?_
  rintro e w' ⟨he, H⟩
  obtain ⟨d, t⟩ := H.out
  have t2 : Tch w w' U := h.t.then t (fun i hi e => by
    rcases h3 i e with k | k
    · exact k
    · omega)
  refine ⟨he, Lib.hid ⟨⟨⟨grow S wr w', R, d.mono hN, h2.tch t (fun b hb e => h5 b e hb) (fun b hb => (h1.m.own b hb).1), ?_, fun b hb => (h4 b hb).imp id (fun q => ⟨q.1, Nat.lt_of_lt_of_le q.2 t.size⟩), ?_⟩, grow_own h.own h.le t2.size⟩, t2, h.own, h.le⟩⟩
  · intro b hb
    rcases hb with hb | ⟨k1, k2⟩
    · exact (h3 b hb).imp id (fun q => ⟨q.1, Nat.lt_of_lt_of_le q.2 t.size⟩)
    · exact .inr ⟨Nat.le_trans h.t.size k1, k2⟩
  · intro b hb hr
    rcases hb with hb | ⟨k1, k2⟩
    · exact h5 b hb hr
    · have := (h2.own b hr).2; omega
theorem PR.callR {W w wr : World} {p r : Nat} {U : Nat → Prop} {cap : Int} {n : Nat} {L : Fs} {cs : List Chg} {L2 : Fs} {cs2 : List Chg} {L' : Fs} {cs' : List Chg} {f : Nat} {args : Array Value} {v : Value} (h : PR W w wr p r U cap n L cs L2 cs2)
    (hc : ∀ R, RS W wr r R cap L2 cs2 → Calls Try.prog f args wr fun e w' => e = .returned v ∧ Hid (RS W w' r (grow R wr w') cap L' cs' ∧ Tch wr w' R)) :
    Calls Try.prog f args wr fun e w' => e = .returned v ∧ Hid (PR W w w' p r U cap n L cs L' cs') := by
  obtain ⟨S, R, h1, h2, h3, h4, h5⟩ := h.px.pr
  refine (hc R h2).mono ?_
  rintro e w' ⟨he, H⟩
  obtain ⟨d, t⟩ := H.out
  have t2 : Tch w w' U := h.t.then t (fun i hi e => by
    rcases h4 i e with k | k
    · exact k
    · omega)
  refine ⟨he, Lib.hid ⟨⟨⟨S, grow R wr w', h1.tch t (fun b hb e => h5 b hb e) (fun b hb => (h2.own b hb).1), d, fun b hb => (h3 b hb).imp id (fun q => ⟨q.1, Nat.lt_of_lt_of_le q.2 t.size⟩), ?_, ?_⟩, grow_own h.own h.le t2.size⟩, t2, h.own, h.le⟩⟩
  · intro b hb
    rcases hb with hb | ⟨k1, k2⟩
    · exact (h4 b hb).imp id (fun q => ⟨q.1, Nat.lt_of_lt_of_le q.2 t.size⟩)
    · exact .inr ⟨Nat.le_trans h.t.size k1, k2⟩
  · intro b hb hr
    rcases hr with hr | ⟨k1, k2⟩
    · exact h5 b hb hr
    · have := (h1.m.own b hb).2; omega
theorem PR.rebase {W w wb wr : World} {p r : Nat} {U : Nat → Prop} {cap : Int} {n : Nat} {L : Fs} {cs : List Chg} {L2 : Fs} {cs2 : List Chg} (h : PR W wb wr p r U cap n L cs L2 cs2) (hb : Below w.heap.size w wb) (ho : ∀ b, U b → W.heap.size ≤ b ∧ b < w.heap.size) (hle : W.heap.size ≤ w.heap.size) : PR W w wr p r U cap n L cs L2 cs2 := by
  have t2 : Tch w wr U := (tch_below U hb).then h.t (fun _ _ e => e)
  exact ⟨h.px.more (fun b k => k.imp id (fun q => ⟨Nat.le_trans hb.size q.1, q.2⟩)) (grow_own ho hle t2.size), t2, ho, hle⟩
theorem PR.cells {W wb wr : World} {p r : Nat} {U : Nat → Prop} {cap : Int} {n : Nat} {L : Fs} {cs : List Chg} {L2 : Fs} {cs2 : List Chg} (h : PR W wb wr p r U cap n L cs L2 cs2) {g : Nat} {x : Ac} (hb : AcB wb g x) (hU : ¬ U g) :
    wr.cell? ⟨g, 1, none⟩ = some (.string x.a) ∧ wr.cell? ⟨g, 2, none⟩ = some (.string x.b) ∧ wr.cell? ⟨g, 3, none⟩ = some (.int .i64 x.m) ∧ wr.cell? ⟨g, 4, none⟩ = some (.int .i64 x.n) := by
  have k := hb.same (h.t.block g hb.lt hU)
  exact ⟨k.c1, k.c2, k.c3, k.c4⟩
theorem PR.mono {W wb wr : World} {p r : Nat} {U : Nat → Prop} {cap : Int} {n N : Nat} {L : Fs} {cs : List Chg} {L2 : Fs} {cs2 : List Chg} (h : PR W wb wr p r U cap n L cs L2 cs2) (hn : n ≤ N) : PR W wb wr p r U cap N L cs L2 cs2 := by
  obtain ⟨S, R, h1, h2⟩ := h.px.pr
  exact ⟨⟨⟨S, R, h1.mono hn, h2⟩, h.px.own⟩, h.t, h.own, h.le⟩
/-- what a call of the script makes of a disk -/
def stX (cap : Int) (L : Fs) (cs : List Chg) (x : Ac) : Fs × List Chg :=
  if r7 x.k = 0 then (L, appC cap L cs x.a x.b) else if r7 x.k = 1 then (L, renC L cs x.a x.b) else if r7 x.k = 2 then (L, delC L cs x.a) else if r7 x.k = 3 then (held L cs, []) else if r7 x.k = 4 then (crashL L cs x.m x.n, []) else if r7 x.k = 5 then (flL L x.a x.m, cs) else (L, cs)
/-- its size -/
structure SB (i T : Nat) (L : Fs) (cs : List Chg) : Prop where
  len : L.length + cs.length ≤ i
  tot : totF L + wts cs ≤ T
theorem SB.app {i T : Nat} {L : Fs} {cs : List Chg} (h : SB i T L cs) (c : Chg) {s : Nat} (hw : wtC c ≤ s) : SB (i + 1) (T + s) L (cs ++ [c]) := by
  refine ⟨?_, ?_⟩
  · have := h.len
    simp only [List.length_append, List.length_cons, List.length_nil]
    omega
  · have := h.tot
    rw [wts_app]
    have : wts [c] = wtC c := by simp [wts]
    omega
theorem SB.still {i T : Nat} {L : Fs} {cs : List Chg} (h : SB i T L cs) (s : Nat) : SB (i + 1) (T + s) L cs := ⟨by have := h.len; omega, by have := h.tot; omega⟩
theorem sb_step {i T : Nat} {L : Fs} {cs : List Chg} (cap : Int) (x : Ac) (h : SB i T L cs) (hs : SrtF L) (hok : ∀ c ∈ cs, okC c) : SB (i + 1) (T + x.b.size) (stX cap L cs x).1 (stX cap L cs x).2 := by
  unfold stX
  split
  · show SB _ _ L (appC cap L cs x.a x.b)
    unfold appC
    split
    · exact h.app _ (Nat.le_refl _)
    · exact h.still _
  split
  · show SB _ _ L (renC L cs x.a x.b)
    unfold renC
    split
    · exact h.app _ (Nat.zero_le _)
    · exact h.still _
  split
  · show SB _ _ L (delC L cs x.a)
    unfold delC
    split
    · exact h.app _ (Nat.zero_le _)
    · exact h.still _
  split
  · have h1 := len_held L cs
    have h2 := tot_held hs cs hok
    have := h.len
    have := h.tot
    exact ⟨by simp only [List.length_nil]; omega, by show totF (held L cs) + 0 ≤ _; omega⟩
  split
  · have h1 := len_held L (cs.take (keepN cs x.m) ++ tornC cs[keepN cs x.m]? x.n)
    have h2 := tot_held hs _ (crash_ok hok (keepN cs x.m) x.n)
    have h3 := crash_wt cs (keepN cs x.m) x.n
    have h4 := torn_len cs[keepN cs x.m]? x.n
    have h5 : (cs.take (keepN cs x.m)).length ≤ cs.length := by simp; omega
    have := h.len
    have := h.tot
    rw [List.length_append] at h1
    exact ⟨by show (held _ _).length + 0 ≤ _; omega, by show totF (held _ _) + 0 ≤ _; omega⟩
  split
  · show SB _ _ (flL L x.a x.m) cs
    unfold flL
    split
    · exact h.still _
    · next d hg =>
      split
      · exact h.still _
      · have h1 := len_putF L x.a (flipD d x.m)
        have h2 := tot_putF hs x.a (flipD d x.m)
        rw [hg, flipD_size] at h2
        simp only [Option.map_some, Option.getD_some] at h2
        have := h.len
        have := h.tot
        exact ⟨by omega, by omega⟩
  · exact h.still _
theorem crash_all (L : Fs) (cs : List Chg) : crashL L cs (cs.length : Int) 0 = held L cs := by
  have e : keepN cs (cs.length : Int) = cs.length := by unfold keepN; omega
  unfold crashL
  rw [e, List.getElem?_eq_none (Nat.le_refl _), List.take_of_length_le (Nat.le_refl _)]
  show held L (cs ++ []) = _
  rw [List.append_nil]
set_option maxRecDepth 100000 in
set_option maxHeartbeats 4000000 in
theorem act_X {W w : World} {p r : Nat} {U : Nat → Prop} {cap : Int} {n : Nat} {L : Fs} {cs : List Chg} (x : Ac) (hx : AcOk x) (h : Hid (PX W w p r U cap n L cs L cs)) (hcap : 0 ≤ cap ∧ cap ≤ 9223372036854775807) (hs : SB 1048576 1048576 L cs) (hn : n ≤ 4398046511104) (hln : L.length ≤ n) (ha : x.a.size ≤ 1048576) (hb : x.b.size ≤ 1048576) :
    Calls Try.prog 7 #[.pointer (some ⟨p, 0, none⟩), .pointer (some ⟨r, 0, none⟩), .agg #[.int .i64 x.k, .string x.a, .string x.b, .int .i64 x.m, .int .i64 x.n]] w fun e w' => e = .returned (.bool true) ∧ Hid (PR W w w' p r U cap (n + cs.length + 1) (stX cap L cs x).1 (stX cap L cs x).2 (stX cap L cs x).1 (stX cap L cs x).2) := by
  have hwh := fun w => what_any x.k hx.k w
  have HB := Lib.hid (acb_new w x)
  have HP : Hid (PX W (w.alloc (.cells #[.int .i64 x.k, .string x.a, .string x.b, .int .i64 x.m, .int .i64 x.n] 34)) p r U cap n L cs L cs) := Lib.hid (h.out.below ((Below.refl _ w).alloc (Nat.le_refl _) _))
  have HBW : Hid (Below w.heap.size w (w.alloc (.cells #[.int .i64 x.k, .string x.a, .string x.b, .int .i64 x.m, .int .i64 x.n] 34)) ∧ (∀ b, U b → W.heap.size ≤ b ∧ b < w.heap.size) ∧ W.heap.size ≤ w.heap.size ∧ ¬ U w.heap.size) := Lib.hid ⟨(Below.refl _ w).alloc (Nat.le_refl _) _, h.out.own, h.out.bel.size, fun e => Nat.lt_irrefl _ (h.out.own _ e).2⟩
  obtain ⟨N, hN⟩ : ∃ N, N = n + cs.length + 1 := ⟨_, rfl⟩
  have HSD : Hid (SrtF L ∧ (∀ c ∈ cs, okC c) ∧ NmF L) := Lib.hid (by
    obtain ⟨S, R, h1, _⟩ := h.out.pr
    exact ⟨h1.srt, h1.m.ok, h1.m.nm⟩)
  have HSZ : Hid (SB 1048576 1048576 L cs ∧ n ≤ 4398046511104 ∧ L.length ≤ n ∧ x.a.size ≤ 1048576 ∧ x.b.size ≤ 1048576 ∧ N = n + cs.length + 1 ∧ totF (held L cs) ≤ 1048576 ∧ SzK L cs ∧ (0 ≤ cap ∧ cap ≤ 9223372036854775807)) := Lib.hid ⟨hs, hn, hln, ha, hb, hN, by
    have := tot_held HSD.out.1 cs HSD.out.2.1
    have := hs.tot
    omega, ⟨by have := hs.len; omega, by have := hs.tot; omega⟩, hcap⟩
  have HXO := Lib.hid hx
  rw [← hN]
  clear h hs hn hln ha hb hN hx hcap
  rcases r7_cases x.k with h | h | h | h | h | h | h
  · have e0 : (r7 x.k == 0) = true := by simp [h]
    have hst : stX cap L cs x = (L, appC cap L cs x.a x.b) := if_pos h
    clear h
    go_enter Try.func7, Try.ntmps7
    go_wp2_with (fail)
    refine (hwh _).mono ?_
    rintro e w' ⟨rfl, rfl⟩
    clear hwh
    obtain ⟨g, hg⟩ : ∃ g, g = w.heap.size := ⟨_, rfl⟩
    obtain ⟨wb, hwb⟩ : ∃ wb, wb = w.alloc (.cells #[.int .i64 x.k, .string x.a, .string x.b, .int .i64 x.m, .int .i64 x.n] 34) := ⟨_, rfl⟩
    rw [← hwb] at HB HP HBW ⊢
    rw [← hg] at HB ⊢
    have HGU : Hid (¬ U g) := Lib.hid (by rw [hg]; exact HBW.out.2.2.2)
    clear hg hwb
    have hK : Hid (∀ wr, PR W wb wr p r U cap n L cs L cs → Calls Try.prog 9 #[.pointer (some ⟨p, 0, none⟩), .string x.a, .string x.b] wr fun e w' => e = .returned (.int .i64 (appR cap (held L cs) x.a x.b)) ∧ Hid (PR W wb w' p r U cap N L (appC cap L cs x.a x.b) L cs)) := Lib.hid (fun wr k => k.callK (N := N) (by have := HSZ.out.2.2.2.2.2.1; omega) (fun S d => append_K x.a x.b (Lib.hid d) HSZ.out.2.2.2.2.2.2.2.2 (by have := HSZ.out.2.1; unfold maxLen; omega) (by have := HSZ.out.1.len; omega) (by have := HSZ.out.2.2.2.2.2.2.1; have := HSZ.out.2.2.2.2.1; omega)))
    have hR : Hid (∀ wr, PR W wb wr p r U cap N L (appC cap L cs x.a x.b) L cs → Calls Try.prog 14 #[.pointer (some ⟨r, 0, none⟩), .string x.a, .string x.b] wr fun e w' => e = .returned (.int .i64 (appR cap (held L cs) x.a x.b)) ∧ Hid (PR W wb w' p r U cap N L (appC cap L cs x.a x.b) L (appC cap L cs x.a x.b))) := Lib.hid (fun wr k => k.callR (fun R d => append_R x.a x.b (Lib.hid d) HSZ.out.2.2.2.2.2.2.2.1 HSZ.out.2.2.2.2.2.2.2.2 (by have := HSZ.out.2.2.2.2.1; omega)))
    have HPD : Hid (PR W wb wb.drew p r U cap n L cs L cs) := Lib.hid (HP.out.start.below (Below.refl _ wb).drew)
    have hS0 := HPD.out.cells HB.out HGU.out
    have HFI : Hid (∀ wr, PR W wb wr p r U cap N (stX cap L cs x).1 (stX cap L cs x).2 (stX cap L cs x).1 (stX cap L cs x).2 → PR W w wr p r U cap N (stX cap L cs x).1 (stX cap L cs x).2 (stX cap L cs x).1 (stX cap L cs x).2) := Lib.hid (fun wr k => k.rebase HBW.out.1 HBW.out.2.1 HBW.out.2.2.1)
    obtain ⟨x0, x1, x2, x3, x4⟩ := HB.out
    go_upto_region 6 with (fail)
    clear x0 x1 x2 x3 x4
    go_region_held3 (fun w' => w'.cell? ⟨g, 1, none⟩ = some (.string x.a) ∧ w'.cell? ⟨g, 2, none⟩ = some (.string x.b) ∧ w'.cell? ⟨g, 3, none⟩ = some (.int .i64 x.m) ∧ w'.cell? ⟨g, 4, none⟩ = some (.int .i64 x.n)) (assumption)
      (first
        | (go_at_call 9; with_reducible refine (hK.out _ HPD.out).mono ?_; rintro e w6 ⟨rfl, H6⟩; have hS6 := H6.out.cells HB.out HGU.out)
        | (go_at_call 14; with_reducible refine (hR.out _ H6.out).mono ?_; rintro e w7 ⟨rfl, H7⟩; have hS7 := H7.out.cells HB.out HGU.out))
    all_goals
      have HF := Lib.hid (HFI.out _ (by rw [hst]; exact H7.out))
      clear hS0 hS6 hS7 H6 H7 HPD
      go_wp2
      go_ret
      exact ⟨rfl, HF⟩
  · have e0 : (r7 x.k == 0) = false := by simp [h]
    have e1 : (r7 x.k == 1) = true := by simp [h]
    have hst : stX cap L cs x = (L, renC L cs x.a x.b) := (if_neg (by omega)).trans (if_pos h)
    clear h
    go_enter Try.func7, Try.ntmps7
    go_wp2_with (fail)
    refine (hwh _).mono ?_
    rintro e w' ⟨rfl, rfl⟩
    clear hwh
    obtain ⟨g, hg⟩ : ∃ g, g = w.heap.size := ⟨_, rfl⟩
    obtain ⟨wb, hwb⟩ : ∃ wb, wb = w.alloc (.cells #[.int .i64 x.k, .string x.a, .string x.b, .int .i64 x.m, .int .i64 x.n] 34) := ⟨_, rfl⟩
    rw [← hwb] at HB HP HBW ⊢
    rw [← hg] at HB ⊢
    have HGU : Hid (¬ U g) := Lib.hid (by rw [hg]; exact HBW.out.2.2.2)
    clear hg hwb
    have hK : Hid (∀ wr, PR W wb wr p r U cap n L cs L cs → Calls Try.prog 15 #[.pointer (some ⟨p, 0, none⟩), .string x.a, .string x.b] wr fun e w' => e = .returned (.int .i64 (renR (held L cs) x.a x.b)) ∧ Hid (PR W wb w' p r U cap N L (renC L cs x.a x.b) L cs)) := Lib.hid (fun wr k => k.callK (N := N) (by have := HSZ.out.2.2.2.2.2.1; omega) (fun S d => rename_K x.a x.b (Lib.hid d) (by have := HSZ.out.2.2.2.1; unfold maxLen; omega) (by have := HSZ.out.2.1; unfold maxLen; omega) (by have := HSZ.out.1.len; omega) (by have := HSZ.out.2.2.2.2.2.2.1; omega)))
    have hR : Hid (∀ wr, PR W wb wr p r U cap N L (renC L cs x.a x.b) L cs → Calls Try.prog 16 #[.pointer (some ⟨r, 0, none⟩), .string x.a, .string x.b] wr fun e w' => e = .returned (.int .i64 (renR (held L cs) x.a x.b)) ∧ Hid (PR W wb w' p r U cap N L (renC L cs x.a x.b) L (renC L cs x.a x.b))) := Lib.hid (fun wr k => k.callR (fun R d => rename_R x.a x.b (Lib.hid d) HSZ.out.2.2.2.2.2.2.2.1 HSD.out.2.2))
    have HPD : Hid (PR W wb wb.drew p r U cap n L cs L cs) := Lib.hid (HP.out.start.below (Below.refl _ wb).drew)
    have hS0 := HPD.out.cells HB.out HGU.out
    have HFI : Hid (∀ wr, PR W wb wr p r U cap N (stX cap L cs x).1 (stX cap L cs x).2 (stX cap L cs x).1 (stX cap L cs x).2 → PR W w wr p r U cap N (stX cap L cs x).1 (stX cap L cs x).2 (stX cap L cs x).1 (stX cap L cs x).2) := Lib.hid (fun wr k => k.rebase HBW.out.1 HBW.out.2.1 HBW.out.2.2.1)
    obtain ⟨x0, x1, x2, x3, x4⟩ := HB.out
    go_upto_region 8 with (fail)
    clear x0 x1 x2 x3 x4
    go_region_held3 (fun w' => w'.cell? ⟨g, 1, none⟩ = some (.string x.a) ∧ w'.cell? ⟨g, 2, none⟩ = some (.string x.b) ∧ w'.cell? ⟨g, 3, none⟩ = some (.int .i64 x.m) ∧ w'.cell? ⟨g, 4, none⟩ = some (.int .i64 x.n)) (assumption)
      (first
        | (go_at_call 15; with_reducible refine (hK.out _ HPD.out).mono ?_; rintro e w6 ⟨rfl, H6⟩; have hS6 := H6.out.cells HB.out HGU.out)
        | (go_at_call 16; with_reducible refine (hR.out _ H6.out).mono ?_; rintro e w7 ⟨rfl, H7⟩; have hS7 := H7.out.cells HB.out HGU.out))
    all_goals
      have HF := Lib.hid (HFI.out _ (by rw [hst]; exact H7.out))
      clear hS0 hS6 hS7 H6 H7 HPD
      go_wp2
      go_ret
      exact ⟨rfl, HF⟩
  · have e0 : (r7 x.k == 0) = false := by simp [h]
    have e1 : (r7 x.k == 1) = false := by simp [h]
    have e2 : (r7 x.k == 2) = true := by simp [h]
    have hst : stX cap L cs x = (L, delC L cs x.a) := (if_neg (by omega)).trans ((if_neg (by omega)).trans (if_pos h))
    clear h
    go_enter Try.func7, Try.ntmps7
    go_wp2_with (fail)
    refine (hwh _).mono ?_
    rintro e w' ⟨rfl, rfl⟩
    clear hwh
    obtain ⟨g, hg⟩ : ∃ g, g = w.heap.size := ⟨_, rfl⟩
    obtain ⟨wb, hwb⟩ : ∃ wb, wb = w.alloc (.cells #[.int .i64 x.k, .string x.a, .string x.b, .int .i64 x.m, .int .i64 x.n] 34) := ⟨_, rfl⟩
    rw [← hwb] at HB HP HBW ⊢
    rw [← hg] at HB ⊢
    have HGU : Hid (¬ U g) := Lib.hid (by rw [hg]; exact HBW.out.2.2.2)
    clear hg hwb
    have hK : Hid (∀ wr, PR W wb wr p r U cap n L cs L cs → Calls Try.prog 17 #[.pointer (some ⟨p, 0, none⟩), .string x.a] wr fun e w' => e = .returned (.int .i64 (delR (held L cs) x.a)) ∧ Hid (PR W wb w' p r U cap N L (delC L cs x.a) L cs)) := Lib.hid (fun wr k => k.callK (N := N) (by have := HSZ.out.2.2.2.2.2.1; omega) (fun S d => delete_K x.a (Lib.hid d) (by have := HSZ.out.2.2.2.1; unfold maxLen; omega) (by have := HSZ.out.2.1; unfold maxLen; omega) (by have := HSZ.out.1.len; omega) (by have := HSZ.out.2.2.2.2.2.2.1; omega)))
    have hR : Hid (∀ wr, PR W wb wr p r U cap N L (delC L cs x.a) L cs → Calls Try.prog 18 #[.pointer (some ⟨r, 0, none⟩), .string x.a] wr fun e w' => e = .returned (.int .i64 (delR (held L cs) x.a)) ∧ Hid (PR W wb w' p r U cap N L (delC L cs x.a) L (delC L cs x.a))) := Lib.hid (fun wr k => k.callR (fun R d => delete_R x.a (Lib.hid d) HSZ.out.2.2.2.2.2.2.2.1 HSD.out.2.2))
    have HPD : Hid (PR W wb wb.drew p r U cap n L cs L cs) := Lib.hid (HP.out.start.below (Below.refl _ wb).drew)
    have hS0 := HPD.out.cells HB.out HGU.out
    have HFI : Hid (∀ wr, PR W wb wr p r U cap N (stX cap L cs x).1 (stX cap L cs x).2 (stX cap L cs x).1 (stX cap L cs x).2 → PR W w wr p r U cap N (stX cap L cs x).1 (stX cap L cs x).2 (stX cap L cs x).1 (stX cap L cs x).2) := Lib.hid (fun wr k => k.rebase HBW.out.1 HBW.out.2.1 HBW.out.2.2.1)
    obtain ⟨x0, x1, x2, x3, x4⟩ := HB.out
    go_upto_region 10 with (fail)
    clear x0 x1 x2 x3 x4
    go_region_held3 (fun w' => w'.cell? ⟨g, 1, none⟩ = some (.string x.a) ∧ w'.cell? ⟨g, 2, none⟩ = some (.string x.b) ∧ w'.cell? ⟨g, 3, none⟩ = some (.int .i64 x.m) ∧ w'.cell? ⟨g, 4, none⟩ = some (.int .i64 x.n)) (assumption)
      (first
        | (go_at_call 17; with_reducible refine (hK.out _ HPD.out).mono ?_; rintro e w6 ⟨rfl, H6⟩; have hS6 := H6.out.cells HB.out HGU.out)
        | (go_at_call 18; with_reducible refine (hR.out _ H6.out).mono ?_; rintro e w7 ⟨rfl, H7⟩; have hS7 := H7.out.cells HB.out HGU.out))
    all_goals
      have HF := Lib.hid (HFI.out _ (by rw [hst]; exact H7.out))
      clear hS0 hS6 hS7 H6 H7 HPD
      go_wp2
      go_ret
      exact ⟨rfl, HF⟩
  · have e0 : (r7 x.k == 0) = false := by simp [h]
    have e1 : (r7 x.k == 1) = false := by simp [h]
    have e2 : (r7 x.k == 2) = false := by simp [h]
    have e3 : (r7 x.k == 3) = true := by simp [h]
    have hst : stX cap L cs x = (held L cs, []) := (if_neg (by omega)).trans ((if_neg (by omega)).trans ((if_neg (by omega)).trans (if_pos h)))
    clear h
    go_enter Try.func7, Try.ntmps7
    go_wp2_with (fail)
    refine (hwh _).mono ?_
    rintro e w' ⟨rfl, rfl⟩
    clear hwh
    obtain ⟨g, hg⟩ : ∃ g, g = w.heap.size := ⟨_, rfl⟩
    obtain ⟨wb, hwb⟩ : ∃ wb, wb = w.alloc (.cells #[.int .i64 x.k, .string x.a, .string x.b, .int .i64 x.m, .int .i64 x.n] 34) := ⟨_, rfl⟩
    rw [← hwb] at HB HP HBW ⊢
    rw [← hg] at HB ⊢
    have HGU : Hid (¬ U g) := Lib.hid (by rw [hg]; exact HBW.out.2.2.2)
    clear hg hwb
    have hK : Hid (∀ wr, PR W wb wr p r U cap n L cs L cs → Calls Try.prog 10 #[.pointer (some ⟨p, 0, none⟩)] wr fun e w' => e = .returned (.tuple #[]) ∧ Hid (PR W wb w' p r U cap N (held L cs) [] L cs)) := Lib.hid (fun wr k => k.callK (N := N) (by have := HSZ.out.2.2.2.2.2.1; omega) (fun S d => sync_K (Lib.hid d) (by have := HSZ.out.2.1; have := HSZ.out.1.len; unfold maxLen; omega) (by have := HSZ.out.1.tot; omega)))
    have hR : Hid (∀ wr, PR W wb wr p r U cap N (held L cs) [] L cs → Calls Try.prog 19 #[.pointer (some ⟨r, 0, none⟩), .int .i64 (cs.length : Int), .int .i64 0] wr fun e w' => e = .returned (.tuple #[]) ∧ Hid (PR W wb w' p r U cap N (held L cs) [] (held L cs) [])) := Lib.hid (fun wr k => k.callR (fun R d => by rw [← crash_all L cs]; exact crash_R _ _ (Lib.hid d) HSZ.out.2.2.2.2.2.2.2.1))
    have HFI : Hid (∀ wr, PR W wb wr p r U cap N (stX cap L cs x).1 (stX cap L cs x).2 (stX cap L cs x).1 (stX cap L cs x).2 → PR W w wr p r U cap N (stX cap L cs x).1 (stX cap L cs x).2 (stX cap L cs x).1 (stX cap L cs x).2) := Lib.hid (fun wr k => k.rebase HBW.out.1 HBW.out.2.1 HBW.out.2.2.1)
    obtain ⟨x0, x1, x2, x3, x4⟩ := HB.out
    go_wp2_with (fail)
    refine (hK.out _ HP.out.start).mono ?_
    rintro e w6 ⟨rfl, H6⟩
    obtain ⟨S6, R6, _, k6, _⟩ := H6.out.px.pr
    obtain ⟨v6, u6, z6, _, _⟩ := k6.st
    obtain ⟨ua, uc, rfl⟩ := z6.cv.slice
    have y2 := z6.c2
    clear k6 z6 x0 x1 x2 x3 x4
    go_wp2_with (fail)
    refine (hR.out _ H6.out).mono ?_
    rintro e w7 ⟨rfl, H7⟩
    have HF := Lib.hid (HFI.out _ (by rw [hst]; exact H7.out))
    clear H6 H7 y2
    go_wp2
    go_ret
    exact ⟨rfl, HF⟩
  · have e0 : (r7 x.k == 0) = false := by simp [h]
    have e1 : (r7 x.k == 1) = false := by simp [h]
    have e2 : (r7 x.k == 2) = false := by simp [h]
    have e3 : (r7 x.k == 3) = false := by simp [h]
    have e4 : (r7 x.k == 4) = true := by simp [h]
    have hst : stX cap L cs x = (crashL L cs x.m x.n, []) := (if_neg (by omega)).trans ((if_neg (by omega)).trans ((if_neg (by omega)).trans ((if_neg (by omega)).trans (if_pos h))))
    clear h
    go_enter Try.func7, Try.ntmps7
    go_wp2_with (fail)
    refine (hwh _).mono ?_
    rintro e w' ⟨rfl, rfl⟩
    clear hwh
    obtain ⟨g, hg⟩ : ∃ g, g = w.heap.size := ⟨_, rfl⟩
    obtain ⟨wb, hwb⟩ : ∃ wb, wb = w.alloc (.cells #[.int .i64 x.k, .string x.a, .string x.b, .int .i64 x.m, .int .i64 x.n] 34) := ⟨_, rfl⟩
    rw [← hwb] at HB HP HBW ⊢
    rw [← hg] at HB ⊢
    have HGU : Hid (¬ U g) := Lib.hid (by rw [hg]; exact HBW.out.2.2.2)
    clear hg hwb
    have hK : Hid (∀ wr, PR W wb wr p r U cap n L cs L cs → Calls Try.prog 11 #[.pointer (some ⟨p, 0, none⟩), .int .i64 x.m, .int .i64 x.n] wr fun e w' => e = .returned (.tuple #[]) ∧ Hid (PR W wb w' p r U cap N (crashL L cs x.m x.n) [] L cs)) := Lib.hid (fun wr k => k.callK (N := N) (by have := HSZ.out.2.2.2.2.2.1; omega) (fun S d => crash_K x.m x.n (Lib.hid d) (by have := HSZ.out.2.1; have := HSZ.out.1.len; unfold maxLen; omega) HSZ.out.2.2.1 (by have := HSZ.out.1.tot; omega)))
    have hR : Hid (∀ wr, PR W wb wr p r U cap N (crashL L cs x.m x.n) [] L cs → Calls Try.prog 19 #[.pointer (some ⟨r, 0, none⟩), .int .i64 x.m, .int .i64 x.n] wr fun e w' => e = .returned (.tuple #[]) ∧ Hid (PR W wb w' p r U cap N (crashL L cs x.m x.n) [] (crashL L cs x.m x.n) [])) := Lib.hid (fun wr k => k.callR (fun R d => crash_R x.m x.n (Lib.hid d) HSZ.out.2.2.2.2.2.2.2.1))
    have HFI : Hid (∀ wr, PR W wb wr p r U cap N (stX cap L cs x).1 (stX cap L cs x).2 (stX cap L cs x).1 (stX cap L cs x).2 → PR W w wr p r U cap N (stX cap L cs x).1 (stX cap L cs x).2 (stX cap L cs x).1 (stX cap L cs x).2) := Lib.hid (fun wr k => k.rebase HBW.out.1 HBW.out.2.1 HBW.out.2.2.1)
    obtain ⟨x0, x1, x2, x3, x4⟩ := HB.out
    go_wp2_with (fail)
    refine (hK.out _ HP.out.start).mono ?_
    rintro e w6 ⟨rfl, H6⟩
    clear x0 x1 x2 x3 x4
    obtain ⟨x1, x2, x3, x4⟩ := H6.out.cells HB.out HGU.out
    go_wp2_with (fail)
    refine (hR.out _ H6.out).mono ?_
    rintro e w7 ⟨rfl, H7⟩
    have HF := Lib.hid (HFI.out _ (by rw [hst]; exact H7.out))
    clear H6 H7 x1 x2 x3 x4
    go_wp2
    go_ret
    exact ⟨rfl, HF⟩
  · have e0 : (r7 x.k == 0) = false := by simp [h]
    have e1 : (r7 x.k == 1) = false := by simp [h]
    have e2 : (r7 x.k == 2) = false := by simp [h]
    have e3 : (r7 x.k == 3) = false := by simp [h]
    have e4 : (r7 x.k == 4) = false := by simp [h]
    have e5 : (r7 x.k == 5) = true := by simp [h]
    have hst : stX cap L cs x = (flL L x.a x.m, cs) := (if_neg (by omega)).trans ((if_neg (by omega)).trans ((if_neg (by omega)).trans ((if_neg (by omega)).trans ((if_neg (by omega)).trans (if_pos h)))))
    clear h
    go_enter Try.func7, Try.ntmps7
    go_wp2_with (fail)
    refine (hwh _).mono ?_
    rintro e w' ⟨rfl, rfl⟩
    clear hwh
    obtain ⟨g, hg⟩ : ∃ g, g = w.heap.size := ⟨_, rfl⟩
    obtain ⟨wb, hwb⟩ : ∃ wb, wb = w.alloc (.cells #[.int .i64 x.k, .string x.a, .string x.b, .int .i64 x.m, .int .i64 x.n] 34) := ⟨_, rfl⟩
    rw [← hwb] at HB HP HBW ⊢
    rw [← hg] at HB ⊢
    have HGU : Hid (¬ U g) := Lib.hid (by rw [hg]; exact HBW.out.2.2.2)
    clear hg hwb
    have hK : Hid (∀ wr, PR W wb wr p r U cap n L cs L cs → Calls Try.prog 20 #[.pointer (some ⟨p, 0, none⟩), .string x.a, .int .i64 x.m] wr fun e w' => e = .returned (.int .i64 (flR L x.a x.m)) ∧ Hid (PR W wb w' p r U cap N (flL L x.a x.m) cs L cs)) := Lib.hid (fun wr k => k.callK (N := N) (n' := N) (Nat.le_refl _) (fun S d => by have := flip_K x.a x.m HXO.out.m (Lib.hid d) (by have := HSZ.out.2.2.2.1; unfold maxLen; omega) (by have := HSZ.out.2.1; have := HSZ.out.1.len; unfold maxLen; omega) HSZ.out.2.2.1 (by have := HSZ.out.1.tot; omega); rwa [show n + 1 + cs.length = N by have := HSZ.out.2.2.2.2.2.1; omega] at this))
    have hR : Hid (∀ wr, PR W wb wr p r U cap N (flL L x.a x.m) cs L cs → Calls Try.prog 21 #[.pointer (some ⟨r, 0, none⟩), .string x.a, .int .i64 x.m] wr fun e w' => e = .returned (.int .i64 (flR L x.a x.m)) ∧ Hid (PR W wb w' p r U cap N (flL L x.a x.m) cs (flL L x.a x.m) cs)) := Lib.hid (fun wr k => k.callR (fun R d => flip_R x.a x.m HXO.out.m (Lib.hid d) HSZ.out.2.2.2.2.2.2.2.1))
    have HPD : Hid (PR W wb wb.drew p r U cap n L cs L cs) := Lib.hid (HP.out.start.below (Below.refl _ wb).drew)
    have hS0 := HPD.out.cells HB.out HGU.out
    have HFI : Hid (∀ wr, PR W wb wr p r U cap N (stX cap L cs x).1 (stX cap L cs x).2 (stX cap L cs x).1 (stX cap L cs x).2 → PR W w wr p r U cap N (stX cap L cs x).1 (stX cap L cs x).2 (stX cap L cs x).1 (stX cap L cs x).2) := Lib.hid (fun wr k => k.rebase HBW.out.1 HBW.out.2.1 HBW.out.2.2.1)
    obtain ⟨x0, x1, x2, x3, x4⟩ := HB.out
    go_upto_region 16 with (fail)
    clear x0 x1 x2 x3 x4
    go_region_held3 (fun w' => w'.cell? ⟨g, 1, none⟩ = some (.string x.a) ∧ w'.cell? ⟨g, 2, none⟩ = some (.string x.b) ∧ w'.cell? ⟨g, 3, none⟩ = some (.int .i64 x.m) ∧ w'.cell? ⟨g, 4, none⟩ = some (.int .i64 x.n)) (assumption)
      (first
        | (go_at_call 20; with_reducible refine (hK.out _ HPD.out).mono ?_; rintro e w6 ⟨rfl, H6⟩; have hS6 := H6.out.cells HB.out HGU.out)
        | (go_at_call 21; with_reducible refine (hR.out _ H6.out).mono ?_; rintro e w7 ⟨rfl, H7⟩; have hS7 := H7.out.cells HB.out HGU.out))
    all_goals
      have HF := Lib.hid (HFI.out _ (by rw [hst]; exact H7.out))
      clear hS0 hS6 hS7 H6 H7 HPD
      go_wp2
      go_ret
      exact ⟨rfl, HF⟩
  · have e0 : (r7 x.k == 0) = false := by simp [h]
    have e1 : (r7 x.k == 1) = false := by simp [h]
    have e2 : (r7 x.k == 2) = false := by simp [h]
    have e3 : (r7 x.k == 3) = false := by simp [h]
    have e4 : (r7 x.k == 4) = false := by simp [h]
    have e5 : (r7 x.k == 5) = false := by simp [h]
    have hst : stX cap L cs x = (L, cs) := (if_neg (by omega)).trans ((if_neg (by omega)).trans ((if_neg (by omega)).trans ((if_neg (by omega)).trans ((if_neg (by omega)).trans (if_neg (by omega))))))
    clear h
    go_enter Try.func7, Try.ntmps7
    go_wp2_with (fail)
    refine (hwh _).mono ?_
    rintro e w' ⟨rfl, rfl⟩
    clear hwh
    obtain ⟨g, hg⟩ : ∃ g, g = w.heap.size := ⟨_, rfl⟩
    obtain ⟨wb, hwb⟩ : ∃ wb, wb = w.alloc (.cells #[.int .i64 x.k, .string x.a, .string x.b, .int .i64 x.m, .int .i64 x.n] 34) := ⟨_, rfl⟩
    rw [← hwb] at HB HP HBW ⊢
    rw [← hg] at HB ⊢
    have HGU : Hid (¬ U g) := Lib.hid (by rw [hg]; exact HBW.out.2.2.2)
    clear hg hwb
    have HFI : Hid (∀ wr, PR W wb wr p r U cap N (stX cap L cs x).1 (stX cap L cs x).2 (stX cap L cs x).1 (stX cap L cs x).2 → PR W w wr p r U cap N (stX cap L cs x).1 (stX cap L cs x).2 (stX cap L cs x).1 (stX cap L cs x).2) := Lib.hid (fun wr k => k.rebase HBW.out.1 HBW.out.2.1 HBW.out.2.2.1)
    have HPS := Lib.hid HP.out.start
    obtain ⟨S6, R6, d6, k6, _⟩ := HP.out.pr
    have hK := read_K x.a (Lib.hid d6) (by have := HSZ.out.2.2.2.1; unfold maxLen; omega)
    have hR := read_R x.a (Lib.hid k6) HSZ.out.2.2.2.2.2.2.2.1
    obtain ⟨s, hs⟩ : ∃ s, s = rdS (held L cs) x.a := ⟨_, rfl⟩
    obtain ⟨n1, hn1⟩ : ∃ n1, n1 = rdE (held L cs) x.a := ⟨_, rfl⟩
    rw [← hs, ← hn1] at hK hR
    have hse := str_eq s
    clear hs hn1 d6 k6
    obtain ⟨x0, x1, x2, x3, x4⟩ := HB.out
    go_wp2_with (fail)
    refine hK.mono ?_
    rintro e w6 ⟨rfl, rfl⟩
    clear hK
    go_wp2_with (fail)
    refine hR.mono ?_
    rintro e w7 ⟨rfl, hb7⟩
    have HF := Lib.hid (HFI.out _ (by rw [hst]; exact (HPS.out.below hb7).mono (by have := HSZ.out.2.2.2.2.2.1; omega)))
    clear hR hb7 x0 x1 x2 x3 x4
    go_wp2
    go_ret
    exact ⟨rfl, HF⟩
end Go.Proofs.Ytjlhnacdfpbchaa
