/- Package store: blocks are forgotten; a bad replica is read. -/
import Derived.Test.YtmlikkjahkdilaaGreatDoorStoGs
namespace Go.Proofs.YtmlikkjahkdilaaGreatDoor
open Go.RowKit Go.Maps
/-- the changes of blocks' files being deleted -/
def fgC (L : Fs) : List Blk → List Chg → List Chg
  | [], cs => cs
  | x :: bl, cs => fgC L bl (delC L cs x.nm)
theorem fgC_snoc (L : Fs) (x : Blk) : ∀ (bl : List Blk) (cs : List Chg), fgC L (bl ++ [x]) cs = delC L (fgC L bl cs) x.nm
  | [], _ => rfl
  | _ :: bl, cs => fgC_snoc L x bl _
theorem delC_len (L : Fs) (cs : List Chg) (q : ByteArray) : (delC L cs q).length ≤ cs.length + 1 := by
  unfold delC
  split <;> simp
theorem fgC_len (L : Fs) : ∀ (bl : List Blk) (cs : List Chg), (fgC L bl cs).length ≤ cs.length + bl.length
  | [], _ => Nat.le_refl _
  | x :: bl, cs => by
    have h1 := fgC_len L bl (delC L cs x.nm)
    have h2 := delC_len L cs x.nm
    show (fgC L bl (delC L cs x.nm)).length ≤ cs.length + (bl.length + 1)
    omega
theorem get_delC (L : Fs) (cs : List Chg) (a q : ByteArray) : getF (held L (delC L cs a)) q = if q = a then none else getF (held L cs) q := by
  unfold delC delR
  cases hg : getF (held L cs) a with
  | none =>
    rw [if_neg (show ¬ (if (none : Option ByteArray).isSome = true then (0 : Int) else 41) = 0 by decide)]
    by_cases e : q = a
    · rw [if_pos e, e, hg]
    · rw [if_neg e]
  | some d =>
    rw [if_pos (show (if (some d).isSome = true then (0 : Int) else 41) = 0 from rfl), held_one]
    show getF (delF (held L cs) a) q = _
    rw [getF_delF]
theorem wts_delC (L : Fs) (cs : List Chg) (a : ByteArray) : wts (delC L cs a) = wts cs := by
  unfold delC
  split
  · rw [wts_app]; rfl
  · rfl
theorem wts_fgC (L : Fs) : ∀ (bl : List Blk) (cs : List Chg), wts (fgC L bl cs) = wts cs
  | [], _ => rfl
  | x :: bl, cs => (wts_fgC L bl _).trans (wts_delC L cs x.nm)
theorem get_fgC (L : Fs) : ∀ (bl : List Blk) (cs : List Chg) (q : ByteArray), (q ∈ bl.map Blk.nm → getF (held L (fgC L bl cs)) q = none) ∧ (¬ q ∈ bl.map Blk.nm → getF (held L (fgC L bl cs)) q = getF (held L cs) q)
  | [], cs, q => ⟨fun h => (by cases h), fun _ => rfl⟩
  | x :: bl, cs, q => by
    have ih := get_fgC L bl (delC L cs x.nm) q
    have hg := get_delC L cs x.nm q
    refine ⟨fun h => ?_, fun h => ?_⟩
    · show getF (held L (fgC L bl (delC L cs x.nm))) q = none
      by_cases h1 : q ∈ bl.map Blk.nm
      · exact ih.1 h1
      · rw [ih.2 h1, hg, if_pos]
        rw [List.map_cons] at h
        exact (List.mem_cons.1 h).resolve_right h1
    · show getF (held L (fgC L bl (delC L cs x.nm))) q = _
      rw [ih.2 (fun e => h (by rw [List.map_cons]; exact List.mem_cons_of_mem _ e)), hg, if_neg (fun e => h (by rw [e, List.map_cons]; exact List.mem_cons_self ..))]
/-- a row of blocks that lies beside the store -/
def BlRow (w : World) (m : Nat) (S : Nat → Prop) (A : Option Addr) (bl : List Blk) : Prop := ∀ j (h : j < bl.length), ∃ g, A = some ⟨g, 0, none⟩ ∧ ¬ S g ∧ ¬ g = m ∧ g < w.heap.size ∧ w.cell? ⟨g, j * 3 + 0, none⟩ = some (.int .i64 bl[j].a) ∧ w.cell? ⟨g, j * 3 + 1, none⟩ = some (.int .i64 bl[j].b) ∧ w.cell? ⟨g, j * 3 + 2, none⟩ = some (.int .i64 bl[j].c)
theorem BlRow.frm {w w' : World} {m : Nat} {S S' : Nat → Prop} {A : Option Addr} {bl : List Blk} (h : BlRow w m S A bl) (f : Frm w w' S S' m) : BlRow w' m S' A bl := fun j hj => by
  obtain ⟨g, h1, h2, h3, h4, h5, h6, h7⟩ := h j hj
  have e := f.t.block g h4 (fun e => e.elim h2 h3)
  exact ⟨g, h1, fun e2 => (f.s g e2).elim h2 (by omega), h3, Nat.lt_of_lt_of_le h4 f.t.size, (cell_eq e _).trans h5, (cell_eq e _).trans h6, (cell_eq e _).trans h7⟩
theorem drop_own {W w : World} {s p m n nk : Nat} {S : Nat → Prop} {cp : Int} {L : Fs} {cs : List Chg} {K : Blk → Bool} {x : Blk} (h : SS W w s p m S cp n L cs nk K) (hx : okB x) (ty : TypeId) : ∃ w', (Builtin.delete_ #[44, 23] ty #[.map (some m), .agg #[.int .i64 x.a, .int .i64 x.b, .int .i64 x.c]]).run Tryz.prog w = .ok (.tuple #[]) w' ∧ w.grownBy w' (some m) ∧ ∃ D, OwnB w' m nk D ∧ ∀ y, okB y → Maps.has D (kb y) = (K y && !decide (y = x)) := by
  obtain ⟨D, h1, h2⟩ := h.own
  obtain ⟨w', hrun, hown, hg⟩ := h1.drop blkLaw Tryz.underlying44 (keyOf_b hx) ty
  refine ⟨w', hrun, hg.grown, _, hown, fun y hy => ?_⟩
  by_cases e : y = x
  · rw [e, has_del_same]
    simp
  · rw [has_del_other (fun e2 => e (kb_inj hy hx e2)), h2 y hy]
    simp [e]
theorem notIn_take (K : Blk → Bool) (bl : List Blk) (k : Nat) (hk : k < bl.length) (y : Blk) : ((K y && !inB (bl.take k) y) && !decide (y = bl[k])) = (K y && !inB (bl.take (k + 1)) y) := by
  rw [← inB_take bl k hk y]
  cases K y <;> cases inB (bl.take k) y <;> cases decide (y = bl[k]) <;> rfl
set_option maxRecDepth 100000 in
set_option maxHeartbeats 8000000 in
theorem forget_S {W w : World} {s p m n nk len cap : Nat} {S : Nat → Prop} {cp : Int} {L : Fs} {K : Blk → Bool} {A : Option Addr} (bl : List Blk) (hlen : bl.length = len) (h : Hid (SS W w s p m S cp n L [] nk K)) (hT : TabsS W) (hok : ∀ y ∈ bl, okB y) (hrow : BlRow w m S A bl) (hn : n + 2 * len + 10 < maxLen ∧ len ≤ 1099511627776) (hsz : totF L ≤ 1099511627776) :
    Calls Tryz.prog 24 #[.pointer (some ⟨s, 0, none⟩), .slice A len cap] w fun e w' => e = .returned (.tuple #[]) ∧ ∃ S' n', n' ≤ n + 2 * len ∧ Hid (SS W w' s p m S' cp n' (held L (fgC L bl [])) [] nk (fun y => K y && !inB bl y) ∧ Frm w w' S S' m) := by
  have HF := Lib.hid (And.intro hlen (And.intro hok (And.intro hn (And.intro hsz hT))))
  have H0 : Hid (SS W w s p m S cp n L (fgC L (bl.take 0) []) nk (fun y => K y && !inB (bl.take 0) y) ∧ BlRow w m S A bl ∧ Frm w w S S m) := Lib.hid ⟨h.out.kcongr (fun y _ => by simp [inB]), hrow, Frm.bel S m (Below.refl _ _)⟩
  have hl3 := hn.2
  clear hlen hok hn hsz hT h hrow
  go_enter Tryz.func24, Tryz.ntmps24
  go_wp2_with (fail)
  go_loopw [8] (fun i wr => ∃ (k : Nat) (S1 : Nat → Prop), k ≤ len ∧ i = .int .i64 (k : Int) ∧ Hid (SS W wr s p m S1 cp (n + k) L (fgC L (bl.take k) []) nk (fun y => K y && !inB (bl.take k) y) ∧ BlRow wr m S1 A bl ∧ Frm w wr S S1 m)) (fun i _ => len - (intOf i).toNat)
  case atStart => exact ⟨0, S, Nat.zero_le _, rfl, H0⟩
  case round =>
    obtain ⟨k, S1, hk, rfl, HM⟩ := hrel
    clear H0
    by_cases hlt : k < len
    · have hkl : k < bl.length := by have := HF.out.1; omega
      obtain ⟨x, hx⟩ : ∃ x, x = bl[k] := ⟨_, rfl⟩
      obtain ⟨g, rfl, hg1, hg2, hg3, hc0, hc1, hc2⟩ := HM.out.2.1 k hkl
      rw [← hx] at hc0 hc1 hc2
      rw [Nat.add_zero] at hc0
      have hox := HF.out.2.1 x (by rw [hx]; exact List.getElem_mem hkl)
      have HX := Lib.hid (And.intro hx (And.intro hox hkl))
      have hlt' : (k : Int) < (len : Int) := by omega
      have hk0 : (0 : Int) ≤ (k : Int) := by omega
      obtain ⟨q, hq⟩ : ∃ q, q = wr.heap.size := ⟨_, rfl⟩
      obtain ⟨wa, hwa⟩ : ∃ wa, wa = wr.alloc (.cells #[.int .i64 x.a, .int .i64 x.b, .int .i64 x.c] 23) := ⟨_, rfl⟩
      have HA : Hid (WS W wr wa s p m S1 S1 cp (n + k) L (fgC L (bl.take k) []) nk (fun y => K y && !inB (bl.take k) y) q x ∧ BlRow wa m S1 (some ⟨g, 0, none⟩) bl ∧ Frm w wa S S1 m) := Lib.hid (by
        have h1 := ws_new (x := x) HM.out.1
        rw [← hwa, ← hq] at h1
        exact ⟨h1, HM.out.2.1.frm h1.fr, HM.out.2.2.trans h1.fr⟩)
      clear hg1 hg2 hg3 hx hox HM
      go_upto_region 3 with (fail)
      rw [← hwa, ← hq]
      clear hwa hq hc0 hc1 hc2
      obtain ⟨N, hN⟩ : ∃ N, N = x.nm := ⟨_, rfl⟩
      have HN := Lib.hid hN
      obtain ⟨cs1, hcs1⟩ : ∃ cs1, cs1 = fgC L (bl.take (k + 1)) [] := ⟨_, rfl⟩
      have HCS := Lib.hid hcs1
      have hNs : N.size ≤ 45 := by rw [hN]; exact blk_size HX.out.2.1
      clear hN hcs1
      go_cut [] (fun wx => ∃ S2, Hid (WS W wr wx s p m S1 S2 cp (n + k + 1) L cs1 nk (fun y => K y && !inB (bl.take k) y) q x ∧ BlRow wx m S2 (some ⟨g, 0, none⟩) bl ∧ Frm w wx S S2 m))
      case first =>
        have hb0 : Below wa.heap.size wa wa.drew := (Below.refl _ _).drew
        have hnm : ∀ w', Below wa.heap.size wa w' → Calls Tryz.prog 30 #[.agg #[.int .i64 x.a, .int .i64 x.b, .int .i64 x.c]] w' fun e w'' => e = .returned (.string N) ∧ Below w'.heap.size w' w'' := fun w' hb => by
          rw [HN.out]
          exact file_name x HX.out.2.1 w' (HF.out.2.2.2.2.2 w' (HA.out.1.below hb).ss.dk.bel)
        have hde : ∀ w', Below wa.heap.size wa w' → Calls Tryz.prog 20 #[.pointer (some ⟨p, 0, none⟩), .string N] w' fun e w'' => (∃ v, e = .returned (.int .i64 v)) ∧ ∃ S2, Hid (WS W wr w'' s p m S1 S2 cp (n + k + 1) L cs1 nk (fun y => K y && !inB (bl.take k) y) q x ∧ BlRow w'' m S2 (some ⟨g, 0, none⟩) bl ∧ Frm w w'' S S2 m) := fun w' hb => by
          obtain ⟨h1, h2, h3, h4, h5⟩ := HF.out
          have hcl := fgC_len L (bl.take k) []
          have htk : (bl.take k).length ≤ k := by rw [List.length_take]; omega
          simp only [List.length_nil] at hcl
          have hto := tot_held (HA.out.1.below hb).ss.dk.srt (fgC L (bl.take k) []) (HA.out.1.below hb).ss.dk.m.ok
          have hw0 : wts (fgC L (bl.take k) []) = 0 := wts_fgC L _ []
          refine (delete_K N (Lib.hid (HA.out.1.below hb).ss.dk) (by unfold maxLen; omega) (by omega) (by omega) (by omega)).mono ?_
          rintro e w'' ⟨rfl, hx⟩
          have h9 := (HA.out.1.below hb).disk hx.out.1 hx.out.2
          rw [show delC L (fgC L (bl.take k) []) N = cs1 by
            have hkl := HX.out.2.2
            have hxk := HX.out.1
            rw [HCS.out, List.take_succ_eq_append_getElem hkl, fgC_snoc, HN.out, ← hxk]] at h9
          have hf2 : Frm wa w'' S1 (grow S1 w' w'') m := (Frm.bel S1 m hb).trans (Frm.disk m hx.out.2)
          exact ⟨⟨_, rfl⟩, _, Lib.hid ⟨h9, HA.out.2.1.frm hf2, HA.out.2.2.trans hf2⟩⟩
        have HC := Lib.hid (And.intro hnm hde)
        have hS0 := (HA.out.1.below hb0).cells
        obtain ⟨c0, c1, c2, c3⟩ := hS0
        clear hde hnm
        go_region_held3 (fun w' => WSC wa w' s p q x) (first | assumption | exact ⟨by assumption, by assumption, by assumption, by assumption⟩)
          (first
            | (go_at_call 20; with_reducible refine (HC.out.2 _ (by first | exact hB6)).mono ?_; rintro e w7 ⟨⟨v7, rfl⟩, S7, hS7⟩; have hX7 := hS7.out.1.cells; obtain ⟨c0, c1, c2, c3⟩ := hX7)
            | (go_at_call 30; with_reducible refine (HC.out.1 _ (by first | exact hb0)).mono ?_; rintro e w6 ⟨rfl, hb6⟩; have hB6 : Below wa.heap.size wa w6 := hb0.trans (hb6.mono hb0.size); have hX6 := (HA.out.1.below hB6).cells; obtain ⟨c0, c1, c2, c3⟩ := hX6))
        all_goals try go_wp2
        all_goals try go_meet
        all_goals exact ⟨_, hS7⟩
      case rest =>
        obtain ⟨S2, HB⟩ := hcut
        clear HA
        obtain ⟨w5, hw5⟩ : ∃ w5, w5 = wc := ⟨_, rfl⟩
        go_upto_region 4 with (fail)
        rw [← hw5] at HB ⊢
        clear hw5
        have hbd : Below w5.heap.size w5 w5.drew := (Below.refl _ _).drew
        have hdr := drop_own (HB.out.1.ss.below hbd) HX.out.2.1
        have c1 := HB.out.1.ss.c1
        have b0 := HB.out.1.c0
        have b1 := HB.out.1.c1
        have b2 := HB.out.1.c2
        obtain ⟨w8, hrun, hg8, ho8⟩ := hdr 0
        clear hdr
        have HE : Hid (SS W w8 s p m S2 cp (n + (k + 1)) L (fgC L (bl.take (k + 1)) []) nk (fun y => K y && !inB (bl.take (k + 1)) y) ∧ BlRow w8 m S2 (some ⟨g, 0, none⟩) bl ∧ Frm w w8 S S2 m) := Lib.hid (by
          have h1 := ((HB.out.1.ss.below hbd).map hg8 ho8).kcongr (K' := fun y => K y && !inB (bl.take (k + 1)) y) (fun y _ => by
            have hkl := HX.out.2.2
            have hxk := HX.out.1
            rw [hxk]
            exact notIn_take K bl k hkl y)
          have hf2 : Frm w5 w8 S2 S2 m := (Frm.bel S2 m hbd).trans (Frm.map S2 hg8)
          rw [← HCS.out]
          exact ⟨h1, HB.out.2.1.frm hf2, HB.out.2.2.trans hf2⟩)
        clear hg8 ho8 hbd HB
        go_region_with (fail)
        all_goals
          clear c1 b0 b1 b2 hrun
          go_wp2_with (fail)
          go_roundw
          case rel => exact ⟨k + 1, S2, by omega, by first | rfl | go_num, HE⟩
          case measure => simp [intOf]; omega
    · obtain rfl : k = len := by omega
      have hte : bl.take k = bl := by rw [← HF.out.1, List.take_length]
      have hsy : Calls Tryz.prog 21 #[.pointer (some ⟨p, 0, none⟩)] wr fun e w' => e = .returned (.tuple #[]) ∧ ∃ S' n', n' ≤ n + 2 * k ∧ Hid (SS W w' s p m S' cp n' (held L (fgC L bl [])) [] nk (fun y => K y && !inB bl y) ∧ Frm w w' S S' m) := by
        obtain ⟨h1, h2, h3, h4, h5⟩ := HF.out
        have hcl := fgC_len L bl []
        have hw0 : wts (fgC L (bl.take k) []) = 0 := wts_fgC L _ []
        simp only [List.length_nil] at hcl
        have hcl2 : (fgC L (bl.take k) []).length ≤ k := by rw [hte]; omega
        refine (sync_K (Lib.hid HM.out.1.dk) (by omega) (by omega)).mono ?_
        rintro e w' ⟨rfl, hx⟩
        have h9 := HM.out.1.disk hx.out.1 hx.out.2
        rw [hte] at h9
        exact ⟨rfl, _, _, by rw [hte] at hcl2; omega, Lib.hid ⟨h9, HM.out.2.2.trans (Frm.disk m hx.out.2)⟩⟩
      have c0 := HM.out.1.c0
      clear hte HM
      go_wp2_with (fail)
      refine hsy.mono ?_
      rintro e w4 ⟨rfl, S2, n2, hn2, H4⟩
      clear hsy c0
      go_wp2
      first
        | (go_end0; exact ⟨rfl, S2, n2, hn2, H4⟩)
        | (go_ret; exact ⟨rfl, S2, n2, hn2, H4⟩)
        | exact bodyPost_ret (v := .tuple #[]) (results_none rfl _ _ _) rfl ⟨rfl, S2, n2, hn2, H4⟩
end Go.Proofs.YtmlikkjahkdilaaGreatDoor
