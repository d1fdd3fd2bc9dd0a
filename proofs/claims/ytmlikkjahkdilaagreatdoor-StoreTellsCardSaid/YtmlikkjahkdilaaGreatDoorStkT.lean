/- Package store: Write of a replica that isn't there yet. Package store: a store is opened over a disk of good replicas. Package store: Write of a replica that is there, or may not be; Read of a good one, and of none. Package store: what the rows' tables give to the walks, a world that meets them; a block as it came in. Package store: the laws' own check, and no store. Package store: no store, no disk. -/
import Derived.Test.YtmlikkjahkdilaaGreatDoorStkS
import Derived.Test.YtmlikkjahkdilaaGreatDoorStkF
import Derived.Test.YtmlikkjahkdilaaGreatDoorStkA
import Derived.LaidSub
import GoSem.PinnedTables
import Derived.WideShapes
import Derived.ChangeShapes
namespace Go.Proofs.YtmlikkjahkdilaaGreatDoor
open Go.RowKit Go.Maps
section
variable {W w : World} {s p m n nk : Nat} {S : Nat → Prop} {cp : Int} {L : Fs} {K : Blk → Bool}
abbrev WSC (wr w' : World) (s p q : Nat) (x : Blk) : Prop := w'.cell? ⟨s, 0, none⟩ = some (.pointer (some ⟨p, 0, none⟩)) ∧ w'.cell? ⟨q, 0, none⟩ = some (.int .i64 x.a) ∧ w'.cell? ⟨q, 1, none⟩ = some (.int .i64 x.b) ∧ w'.cell? ⟨q, 2, none⟩ = some (.int .i64 x.c)
theorem WS.cells {W w wr : World} {s p m n nk q : Nat} {S0 S : Nat → Prop} {cp : Int} {L : Fs} {cs : List Chg} {K : Blk → Bool} {x : Blk} (h : WS W w wr s p m S0 S cp n L cs nk K q x) : WSC wr wr s p q x := ⟨h.ss.c0, h.c0, h.c1, h.c2⟩
set_option maxRecDepth 100000 in
set_option maxHeartbeats 8000000 in
theorem write_S (x : Blk) (hx : okB x) (d : ByteArray) (hd : okD d) (h : Hid (SS W w s p m S cp n L [] nk K)) (hT : TabsS W) (hK : K x = false) (hcp : 0 ≤ cp ∧ cp ≤ 1099511627776) (hn : n + 10 < maxLen ∧ nk < maxLen) (hsz : totF L + (fileB x d).size ≤ cp) (hnew : getF L newS = none) (hno : getF L x.nm = none) :
    Calls Tryz.prog 10 #[.pointer (some ⟨s, 0, none⟩), .agg #[.int .i64 x.a, .int .i64 x.b, .int .i64 x.c], .string d] w fun e w' => e = .returned (.int .i64 0) ∧ ∃ S', Hid (SS W w' s p m S' cp (n + 5) (wrL L x (fileB x d)) [] (nk + 1) (fun y => K y || decide (y = x)) ∧ Frm w w' S S' m) := by
  obtain ⟨wa, hwa⟩ : ∃ wa, wa = w.alloc (.cells #[.int .i64 x.a, .int .i64 x.b, .int .i64 x.c] 23) := ⟨_, rfl⟩
  obtain ⟨q, hq⟩ : ∃ q, q = w.heap.size := ⟨_, rfl⟩
  have HA : Hid (WS W w wa s p m S S cp n L [] nk K q x) := Lib.hid (by rw [hwa, hq]; exact ws_new h.out)
  obtain ⟨f, hf⟩ : ∃ f, f = fileB x d := ⟨_, rfl⟩
  rw [← hf] at hsz ⊢
  have hfs : f.size ≤ 50000 := by rw [hf]; exact file_size x d hd.2
  have hsrt := h.out.dk.srt
  have HF := Lib.hid (And.intro hf (And.intro hfs (And.intro hsz (And.intro hnew (And.intro hno (And.intro hcp (And.intro hn hsrt)))))))
  have HT := Lib.hid hT
  have HO := Lib.hid (And.intro hx hd)
  have HKX := Lib.hid hK
  have b0 := HA.out.c0
  have b1 := HA.out.c1
  have b2 := HA.out.c2
  clear hf hfs hsz hnew hno hcp hn hsrt h hT hd hK
  have hin := is_name (x.a : Int) x.b x.c wa
  rw [nmb_ok hx.1, nmb_ok hx.2.1, nmb_ok hx.2.2] at hin
  have HIN := Lib.hid hin
  clear hin hx
  go_enter Tryz.func10, Tryz.ntmps10
  go_wp2_with (fail)
  rw [← hwa, ← hq]
  clear hwa hq
  refine HIN.out.mono ?_
  rintro e w1 ⟨rfl, hb1⟩
  have H1 := Lib.hid (HA.out.below hb1)
  clear HIN hb1 HA b0 b1 b2
  have hid := is_data d w1
  rw [show decide (0 < d.size ∧ d.size ≤ 4096) = true from decide_eq_true HO.out.2] at hid
  go_wp2_with (fail)
  refine hid.mono ?_
  rintro e w2 ⟨rfl, rfl⟩
  clear hid
  have hkn := knows_S x HO.out.1 (Lib.hid H1.out.ss)
  rw [HKX.out] at hkn
  have b0 := H1.out.c0
  have b1 := H1.out.c1
  have b2 := H1.out.c2
  go_wp2_with (fail)
  refine hkn.mono ?_
  rintro e w3 ⟨rfl, hb3⟩
  have H3 := Lib.hid (H1.out.below hb3)
  clear hkn hb3 H1 b0 b1 b2
  go_upto_region 5 with (fail)
  go_cut [7] (fun s7 wx => s7 = .int .i64 0 ∧ ∃ S1, Hid (WS W w wx s p m S S1 cp (n + 1) L [.app newS f] nk K q x))
  case first =>
    have hb0 : Below w3.heap.size w3 w3.drew := (Below.refl _ _).drew
    have hfo : ∀ w', Below w3.heap.size w3 w' → Calls Tryz.prog 29 #[.agg #[.int .i64 x.a, .int .i64 x.b, .int .i64 x.c], .string d] w' fun e w'' => e = .returned (.string f) ∧ Below w'.heap.size w' w'' := fun w' hb => by
      rw [HF.out.1]
      exact file_ofB x HO.out.1 d HO.out.2.2 w' (fun w'' hb2 => HT.out.1 w'' ((H3.out.below hb).ss.dk.bel.trans (hb2.mono (H3.out.below hb).ss.dk.bel.size)))
    have hap : ∀ w', Below w3.heap.size w3 w' → Calls Tryz.prog 28 #[.pointer (some ⟨p, 0, none⟩), .string ⟨#[110, 101, 119]⟩, .string f] w' fun e w'' => e = .returned (.int .i64 0) ∧ ∃ S1, Hid (WS W w w'' s p m S S1 cp (n + 1) L [.app newS f] nk K q x) := fun w' hb => by
      obtain ⟨h1, h2, h3, h4, h5, h6, h7, h8⟩ := HF.out
      have hR : appR cp (held L []) newS f = 0 := by
        unfold appR
        rw [if_pos (by decide), held_nil, if_neg (by omega)]
      refine (append_K newS f (Lib.hid (H3.out.below hb).ss.dk) (by omega) (by omega) (by simp only [List.length_nil]; omega) (by rw [held_nil]; omega)).mono ?_
      rintro e w'' ⟨rfl, hx⟩
      rw [hR]
      have h9 := (H3.out.below hb).disk hx.out.1 hx.out.2
      rw [show appC cp L [] newS f = [.app newS f] by unfold appC; rw [if_pos hR]; rfl] at h9
      exact ⟨rfl, _, Lib.hid h9⟩
    have HC := Lib.hid (And.intro hfo hap)
    have hS0 := (H3.out.below hb0).cells
    obtain ⟨c0, c1, c2, c3⟩ := hS0
    clear hfo hap
    go_region_held3 (fun w' => WSC w3 w' s p q x) (first | assumption | exact ⟨by assumption, by assumption, by assumption, by assumption⟩)
      (first
        | (go_at_call 28; with_reducible refine (HC.out.2 _ (by first | exact hB6)).mono ?_; rintro e w7 ⟨rfl, S7, hS7⟩; have hX7 := hS7.out.cells; obtain ⟨c0, c1, c2, c3⟩ := hX7)
        | (go_at_call 29; with_reducible refine (HC.out.1 _ (by first | exact hb0)).mono ?_; rintro e w6 ⟨rfl, hb6⟩; have hB6 : Below w3.heap.size w3 w6 := hb0.trans (hb6.mono hb0.size); have hX6 := (H3.out.below hB6).cells; obtain ⟨c0, c1, c2, c3⟩ := hX6))
    all_goals try go_wp2
    all_goals try go_meet
    all_goals exact ⟨rfl, _, hS7⟩
  case rest =>
    obtain ⟨rfl, S1, HB⟩ := hcut
    clear H3
    obtain ⟨L1, hL1⟩ : ∃ L1, L1 = held L [.app newS f] := ⟨_, rfl⟩
    have hsy : Calls Tryz.prog 21 #[.pointer (some ⟨p, 0, none⟩)] wc fun e w' => e = .returned (.tuple #[]) ∧ ∃ S2, Hid (WS W w w' s p m S S2 cp (n + 2) L1 [] nk K q x) := by
      obtain ⟨h1, h2, h3, h4, h5, h6, h7, h8⟩ := HF.out
      refine (sync_K (Lib.hid HB.out.ss.dk) (by simp only [List.length_cons, List.length_nil]; omega) (by show totF L + (f.size + 0) ≤ _; omega)).mono ?_
      rintro e w' ⟨rfl, hx⟩
      rw [← hL1] at hx
      exact ⟨rfl, _, Lib.hid (HB.out.disk hx.out.1 hx.out.2)⟩
    have hL1n : getF L1 newS = some f := by
      rw [hL1]
      show getF (putF L newS (orE (getF L newS) ++ f)) newS = _
      rw [getF_putF, if_pos rfl, HF.out.2.2.2.1]
      simp [orE]
    have hL1x : getF L1 x.nm = none := by
      rw [hL1]
      show getF (putF L newS (orE (getF L newS) ++ f)) x.nm = _
      rw [getF_putF, if_neg (fun e => nm_ne_new x e.symm), HF.out.2.2.2.2.1]
    have hL1t : totF L1 = totF L + f.size := by rw [hL1]; exact tot_app1 HF.out.2.2.2.2.2.2.2 f
    have HL1 := Lib.hid (And.intro hL1n (And.intro hL1x (And.intro hL1t hL1)))
    have hns := blk_size HO.out.1
    have hnp := nm_pos x
    have HNS := Lib.hid (And.intro hns hnp)
    have c0 := HB.out.ss.c0
    clear hL1n hL1x hL1t hL1 hns hnp
    go_wp2_with (fail)
    refine hsy.mono ?_
    rintro e w4 ⟨rfl, S2, H4⟩
    clear hsy c0 HB
    obtain ⟨N, hN⟩ : ∃ N, N = x.nm := ⟨_, rfl⟩
    have HN := Lib.hid hN
    have hnm : ∀ (n' : Nat) (L' : Fs) (w4 : World) (S2 : Nat → Prop), WS W w w4 s p m S S2 cp n' L' [] nk K q x → ∀ w', Below w4.heap.size w4 w' → Calls Tryz.prog 30 #[.agg #[.int .i64 x.a, .int .i64 x.b, .int .i64 x.c]] w' fun e w'' => e = .returned (.string N) ∧ Below w'.heap.size w' w'' := fun n' L' w4 S2 h4 w' hb => by
      rw [HN.out]
      exact file_name x HO.out.1 w' (HT.out.2 w' (h4.below hb).ss.dk.bel)
    have HNM := Lib.hid hnm
    clear hN hnm
    go_upto_region 9 with (fail)
    go_cut [] (fun wx => ∃ S3, Hid (WS W w wx s p m S S3 cp (n + 3) L1 [] nk K q x))
    case first =>
      have hb0 : Below w4.heap.size w4 w4.drew := (Below.refl _ _).drew
      have hde : ∀ w', Below w4.heap.size w4 w' → Calls Tryz.prog 20 #[.pointer (some ⟨p, 0, none⟩), .string N] w' fun e w'' => (∃ v, e = .returned (.int .i64 v)) ∧ ∃ S3, Hid (WS W w w'' s p m S S3 cp (n + 3) L1 [] nk K q x) := fun w' hb => by
        obtain ⟨h1, h2, h3, h4, h5, h6, h7, h8⟩ := HF.out
        obtain ⟨k1, k2, k3, _⟩ := HL1.out
        refine (delete_K N (Lib.hid (H4.out.below hb).ss.dk) (by rw [HN.out]; have := HNS.out.1; unfold maxLen at *; omega) (by omega) (by simp only [List.length_nil]; omega) (by rw [held_nil]; omega)).mono ?_
        rintro e w'' ⟨rfl, hx⟩
        have h9 := (H4.out.below hb).disk hx.out.1 hx.out.2
        rw [show delC L1 [] N = [] by unfold delC delR; rw [held_nil, HN.out, k2]; rfl] at h9
        exact ⟨⟨_, rfl⟩, _, Lib.hid h9⟩
      have HC := Lib.hid (And.intro (HNM.out _ _ _ _ H4.out) hde)
      have hS0 := (H4.out.below hb0).cells
      obtain ⟨c0, c1, c2, c3⟩ := hS0
      clear hde
      go_region_held3 (fun w' => WSC w4 w' s p q x) (first | assumption | exact ⟨by assumption, by assumption, by assumption, by assumption⟩)
        (first
          | (go_at_call 20; with_reducible refine (HC.out.2 _ (by first | exact hB6)).mono ?_; rintro e w7 ⟨⟨v7, rfl⟩, S7, hS7⟩; have hX7 := hS7.out.cells; obtain ⟨c0, c1, c2, c3⟩ := hX7)
          | (go_at_call 30; with_reducible refine (HC.out.1 _ (by first | exact hb0)).mono ?_; rintro e w6 ⟨rfl, hb6⟩; have hB6 : Below w4.heap.size w4 w6 := hb0.trans (hb6.mono hb0.size); have hX6 := (H4.out.below hB6).cells; obtain ⟨c0, c1, c2, c3⟩ := hX6))
      all_goals try go_wp2
      all_goals try go_meet
      all_goals exact ⟨_, hS7⟩
    case rest =>
      obtain ⟨S3, H5⟩ := hcut
      clear H4
      go_upto_region 10 with (fail)
      obtain ⟨w5, hw5⟩ : ∃ w5, w5 = wc := ⟨_, rfl⟩
      rw [← hw5] at H5 ⊢
      clear hw5
      go_cut [] (fun wx => ∃ S4, Hid (WS W w wx s p m S S4 cp (n + 4) L1 [.ren newS N] nk K q x))
      case first =>
        have hb0 : Below w5.heap.size w5 w5.drew := (Below.refl _ _).drew
        have hre : ∀ w', Below w5.heap.size w5 w' → Calls Tryz.prog 31 #[.pointer (some ⟨p, 0, none⟩), .string ⟨#[110, 101, 119]⟩, .string N] w' fun e w'' => (∃ v, e = .returned (.int .i64 v)) ∧ ∃ S4, Hid (WS W w w'' s p m S S4 cp (n + 4) L1 [.ren newS N] nk K q x) := fun w' hb => by
          obtain ⟨h1, h2, h3, h4, h5, h6, h7, h8⟩ := HF.out
          obtain ⟨k1, k2, k3, _⟩ := HL1.out
          refine (rename_K newS N (Lib.hid (H5.out.below hb).ss.dk) (by unfold maxLen; decide) (by omega) (by simp only [List.length_nil]; omega) (by rw [held_nil]; omega)).mono ?_
          rintro e w'' ⟨rfl, hx⟩
          have h9 := (H5.out.below hb).disk hx.out.1 hx.out.2
          have hR : renR (held L1 []) newS N = 0 := by
            unfold renR
            rw [held_nil, HN.out, k1, k2, if_pos ⟨HNS.out.2, by have := HNS.out.1; omega⟩]
            rfl
          rw [show renC L1 [] newS N = [.ren newS N] by unfold renC; rw [if_pos hR]; rfl] at h9
          exact ⟨⟨_, rfl⟩, _, Lib.hid h9⟩
        have HC := Lib.hid (And.intro (HNM.out _ _ _ _ H5.out) hre)
        have hS0 := (H5.out.below hb0).cells
        obtain ⟨c0, c1, c2, c3⟩ := hS0
        clear hre
        go_region_held3 (fun w' => WSC w5 w' s p q x) (first | assumption | exact ⟨by assumption, by assumption, by assumption, by assumption⟩)
          (first
            | (go_at_call 31; with_reducible refine (HC.out.2 _ (by first | exact hB6)).mono ?_; rintro e w7 ⟨⟨v7, rfl⟩, S7, hS7⟩; have hX7 := hS7.out.cells; obtain ⟨c0, c1, c2, c3⟩ := hX7)
            | (go_at_call 30; with_reducible refine (HC.out.1 _ (by first | exact hb0)).mono ?_; rintro e w6 ⟨rfl, hb6⟩; have hB6 : Below w5.heap.size w5 w6 := hb0.trans (hb6.mono hb0.size); have hX6 := (H5.out.below hB6).cells; obtain ⟨c0, c1, c2, c3⟩ := hX6))
        all_goals try go_wp2
        all_goals try go_meet
        all_goals exact ⟨_, hS7⟩
      case rest =>
        obtain ⟨S4, H6⟩ := hcut
        clear H5
        have hsy : Calls Tryz.prog 21 #[.pointer (some ⟨p, 0, none⟩)] wc fun e w' => e = .returned (.tuple #[]) ∧ ∃ S5, Hid (WS W w w' s p m S S5 cp (n + 5) (wrL L x f) [] nk K q x) := by
          obtain ⟨h1, h2, h3, h4, h5, h6, h7, h8⟩ := HF.out
          obtain ⟨k1, k2, k3, k4⟩ := HL1.out
          refine (sync_K (Lib.hid H6.out.ss.dk) (by simp only [List.length_cons, List.length_nil]; omega) (by show totF L1 + (0 + 0) ≤ _; omega)).mono ?_
          rintro e w' ⟨rfl, hx⟩
          rw [show held L1 [.ren newS N] = wrL L x f by rw [k4, HN.out]; rfl] at hx
          exact ⟨rfl, _, Lib.hid (H6.out.disk hx.out.1 hx.out.2)⟩
        have c0 := H6.out.ss.c0
        go_wp2_with (fail)
        refine hsy.mono ?_
        rintro e w7 ⟨rfl, S5, H7⟩
        clear hsy c0 H6
        go_upto_region 12 with (fail)
        obtain ⟨w8, hrun, hg8, ho8⟩ := put_own (H7.out.ss.below (Below.refl w7.heap.size w7).drew) HO.out.1 HF.out.2.2.2.2.2.2.1.2
        have c1 := H7.out.ss.c1
        have b0 := H7.out.c0
        have b1 := H7.out.c1
        have b2 := H7.out.c2
        have H8 := Lib.hid ((H7.out.below (Below.refl w7.heap.size w7).drew).map hg8 ho8)
        clear hg8 ho8
        go_region_with (fail)
        all_goals (go_wp2; go_ret; exact ⟨rfl, _, Lib.hid ⟨H8.out.ss, H8.out.fr⟩⟩)
end
end Go.Proofs.YtmlikkjahkdilaaGreatDoor

namespace Go.Proofs.YtmlikkjahkdilaaGreatDoor
open Go.RowKit Go.Maps
/-- the names of the blocks' files, in a row -/
def NmRow (w : World) (m : Nat) (A : Option Addr) (bl : List Blk) : Prop := ∀ j (h : j < bl.length), ∃ g, A = some ⟨g, 0, none⟩ ∧ ¬ g = m ∧ g < w.heap.size ∧ w.cell? ⟨g, j, none⟩ = some (.string bl[j].nm)
theorem NmRow.below {w w' : World} {m : Nat} {A : Option Addr} {bl : List Blk} (h : NmRow w m A bl) (hb : Below w.heap.size w w') : NmRow w' m A bl := fun j hj => by
  obtain ⟨g, h1, h2, h3, h4⟩ := h j hj
  exact ⟨g, h1, h2, Nat.lt_of_lt_of_le h3 hb.size, (hb.cell (p := ⟨g, j, none⟩) h3).trans h4⟩
theorem NmRow.grown {w w' : World} {m : Nat} {A : Option Addr} {bl : List Blk} (h : NmRow w m A bl) (g : w.grownBy w' (some m)) : NmRow w' m A bl := fun j hj => by
  obtain ⟨b, h1, h2, h3, h4⟩ := h j hj
  exact ⟨b, h1, h2, Nat.lt_of_lt_of_le h3 g.size, (World.cell?_of_block (a := ⟨b, j, none⟩) (g.block b h3 (by intro e; injection e with e; exact h2 e))).trans h4⟩
theorem nm_row {w w' : World} {v : Value} {bl : List Blk} {m : Nat} (h : LsRow w w' v (bl.map Blk.nm)) (hm : m < w.heap.size) : ∃ A c, v = .slice A bl.length c ∧ NmRow w' m A bl := by
  obtain ⟨a, c, hv, hc⟩ := h.sl
  refine ⟨a, c, by rw [hv, List.length_map], fun j hj => ?_⟩
  obtain ⟨g, h1, h2, h3⟩ := hc j bl[j].nm (by rw [List.getElem?_map, List.getElem?_eq_getElem hj]; rfl)
  refine ⟨g, h1, by omega, ?_, h3⟩
  rcases Nat.lt_or_ge g w'.heap.size with hl | hl
  · exact hl
  · simp [World.cell?, Array.getElem?_eq_none hl] at h3
def inB (bl : List Blk) (y : Blk) : Bool := decide (y ∈ bl)
theorem inB_take (bl : List Blk) (k : Nat) (hk : k < bl.length) (y : Blk) : (inB (bl.take k) y || decide (y = bl[k])) = inB (bl.take (k + 1)) y := by
  unfold inB
  rw [List.take_succ_eq_append_getElem hk]
  simp only [List.mem_append, List.mem_singleton]
  by_cases h1 : y ∈ bl.take k <;> by_cases h2 : y = bl[k] <;> simp [h1, h2]
theorem SS.kcongr {W w : World} {s p m n nk : Nat} {S : Nat → Prop} {cp : Int} {L : Fs} {cs : List Chg} {K K' : Blk → Bool} (h : SS W w s p m S cp n L cs nk K) (hk : ∀ y, okB y → K y = K' y) : SS W w s p m S cp n L cs nk K' := by
  obtain ⟨D, h1, h2⟩ := h.own
  exact ⟨h.dk, h.c0, h.c1, h.sS, h.mS, h.sm, h.lo, D, h1, fun y hy => (h2 y hy).trans (hk y hy)⟩
set_option maxRecDepth 100000 in
set_option maxHeartbeats 8000000 in
theorem open_S {W w : World} {p n : Nat} {S : Nat → Prop} {cp : Int} {L : Fs} (bl : List Blk) (h : Hid (DK W w p S cp n L [])) (hT : TabsS W) (hbl : namesF L = bl.map Blk.nm) (hok : ∀ y ∈ bl, okB y ∧ (lookR L y).2 = true) (hn : n + 10 ≤ 8796093022206 ∧ bl.length ≤ 1099511627776) (hsz : totF L ≤ 1099511627776) :
    Calls Tryz.prog 8 #[.pointer (some ⟨p, 0, none⟩)] w fun e w' => ∃ s m S', e = .returned (.tuple #[.pointer (some ⟨s, 0, none⟩), .int .i64 0]) ∧ Hid (SS W w' s p m S' cp n L [] bl.length (inB bl) ∧ Frm w w' S S' m ∧ w.heap.size ≤ s ∧ w.heap.size ≤ m) := by
  obtain ⟨len, hlen⟩ : ∃ len, len = bl.length := ⟨_, rfl⟩
  have HF := Lib.hid (And.intro hbl (And.intro hok (And.intro hn (And.intro hsz hlen))))
  have HT := Lib.hid hT
  have hl3 : len ≤ 1099511627776 := by omega
  clear hbl hok hn hsz hT hlen
  obtain ⟨m, hm⟩ : ∃ m, m = w.heap.size := ⟨_, rfl⟩
  obtain ⟨wm, hwm⟩ : ∃ wm, wm = w.alloc (.map #[] 0) := ⟨_, rfl⟩
  obtain ⟨ws, hws⟩ : ∃ ws, ws = wm.alloc (.cells #[.pointer (some ⟨p, 0, none⟩), .map (some m)] 46) := ⟨_, rfl⟩
  obtain ⟨s, hs⟩ : ∃ s, s = wm.heap.size := ⟨_, rfl⟩
  have hsm : s = m + 1 := by rw [hs, hwm, hm]; simp
  have hbm : Below w.heap.size w wm := by rw [hwm]; exact (Below.refl _ _).alloc (Nat.le_refl _) _
  have hbs : Below wm.heap.size wm ws := by rw [hws]; exact (Below.refl _ _).alloc (Nat.le_refl _) _
  have hss : ws.heap[s]? = some (.cells #[.pointer (some ⟨p, 0, none⟩), .map (some m)] 46 (0, 0)) := by rw [hws, hs]; exact heap_alloc_new wm _
  have HS0 : Hid (SS W ws s p m S cp n L [] 0 (inB []) ∧ Below w.heap.size w ws) := by
    have ho := World.ownsMap_made w Tryz.prog 23 (unitElem (H := Unit))
    rw [← hwm, ← hm] at ho
    have ho2 : OwnB ws m 0 (.map []) := OwnB.block ho (hbs.block m ho.lt)
    refine Lib.hid ⟨⟨(h.out.below hbm).below hbs, by simp [World.cell?, hss], by simp [World.cell?, hss], fun e => by have := (h.out.m.own _ e).2; omega, fun e => by have := (h.out.m.own _ e).2; omega, by omega, ⟨by have := h.out.bel.size; omega, by have := h.out.bel.size; omega⟩, _, ho2, fun y hy => by simp [inB, Maps.has]⟩, hbm.trans (hbs.mono hbm.size)⟩
  have HMS := Lib.hid (And.intro hm hsm)
  clear hss hbm hbs hsm h
  have hmk : ∀ w : World, (Instr.makeMap 44 none).run Tryz.prog w = .ok (.map (some w.heap.size)) (w.alloc (.map #[] 0)) := fun w => by simp [Instr.makeMap, run_underlying Tryz.underlying44]
  go_enter Tryz.func8, Tryz.ntmps8
  go_wp2_with (fail)
  have hsm2 := HMS.out.2
  rw [← hwm, ← hm, ← hws, ← hsm2]
  clear hwm hws hm hs hmk hsm2
  have hli := list_K (Lib.hid HS0.out.1.dk) (by have := HF.out.2.2.1.1; omega) (by
    rw [held_nil]
    have h1 := congrArg List.length HF.out.1
    have h2 := HF.out.2.2.1.2
    simp only [namesF, List.length_map] at h1
    omega)
  rw [held_nil, HF.out.1] at hli
  refine hli.mono ?_
  rintro e w3 ⟨v, rfl, hx⟩
  obtain ⟨A, c, rfl, hrow⟩ := nm_row hx.out.1 HS0.out.1.ml
  have H3 : Hid (SS W w3 s p m S cp n L [] 0 (inB []) ∧ NmRow w3 m A bl ∧ Below w.heap.size w w3) := Lib.hid ⟨HS0.out.1.below hx.out.2, hrow, HS0.out.2.trans (hx.out.2.mono HS0.out.2.size)⟩
  rw [← HF.out.2.2.2.2]
  clear hli hx hrow HS0
  go_wp2_with (fail)
  go_loopw [18] (fun i wr => ∃ k : Nat, k ≤ len ∧ i = .int .i64 (k : Int) ∧ Hid (SS W wr s p m S cp n L [] k (inB (bl.take k)) ∧ NmRow wr m A bl ∧ Frm w wr S S m)) (fun i _ => len - (intOf i).toNat)
  case atStart => exact ⟨0, Nat.zero_le _, rfl, Lib.hid ⟨H3.out.1, H3.out.2.1, Frm.bel S m H3.out.2.2⟩⟩
  case round =>
    obtain ⟨k, hk, rfl, HM⟩ := hrel
    by_cases hlt : k < len
    · have hkl : k < bl.length := by have := HF.out.2.2.2.2; omega
      obtain ⟨g, rfl, _, _, hc⟩ := HM.out.2.1 k hkl
      obtain ⟨x, hx⟩ : ∃ x, x = bl[k] := ⟨_, rfl⟩
      obtain ⟨N, hN⟩ : ∃ N, N = x.nm := ⟨_, rfl⟩
      rw [← hx, ← hN] at hc
      obtain ⟨hox, hgd⟩ := HF.out.2.1 x (by rw [hx]; exact List.getElem_mem hkl)
      have hbo := block_of x hox wr (HT.out.2 wr HM.out.1.dk.bel)
      rw [← hN] at hbo
      have hbo2 : Calls Tryz.prog 18 #[.string N] wr fun e w' => e = .returned (.tuple #[.agg #[.int .i64 x.a, .int .i64 x.b, .int .i64 x.c], .bool true]) ∧ Below wr.heap.size wr w' := hbo
      have HX := Lib.hid (And.intro hx (And.intro hox (And.intro hgd hkl)))
      have hlt' : (k : Int) < (len : Int) := by omega
      have hk0 : (0 : Int) ≤ (k : Int) := by omega
      clear hx hN hox hgd hbo H3
      go_wp2_with (fail)
      refine hbo2.mono ?_
      rintro e w4 ⟨rfl, hb4⟩
      have H4 : Hid (SS W w4 s p m S cp n L [] k (inB (bl.take k)) ∧ NmRow w4 m (some ⟨g, 0, none⟩) bl ∧ Frm w w4 S S m) := Lib.hid ⟨HM.out.1.below hb4, HM.out.2.1.below hb4, HM.out.2.2.trans (Frm.bel S m hb4)⟩
      clear hbo2 hb4 hc HM
      obtain ⟨q, hq⟩ : ∃ q, q = w4.heap.size := ⟨_, rfl⟩
      obtain ⟨w5, hw5⟩ : ∃ w5, w5 = w4.alloc (.cells #[.int .i64 x.a, .int .i64 x.b, .int .i64 x.c] 23) := ⟨_, rfl⟩
      have hb5 : Below w4.heap.size w4 w5 := by rw [hw5]; exact (Below.refl _ _).alloc (Nat.le_refl _) _
      have HB5 : Hid (BxS w4 w5 q x) := Lib.hid (by rw [hw5, hq]; exact bxs_new w4 x)
      have H5 : Hid (SS W w5 s p m S cp n L [] k (inB (bl.take k)) ∧ NmRow w5 m (some ⟨g, 0, none⟩) bl ∧ Frm w w5 S S m) := Lib.hid ⟨H4.out.1.below hb5, H4.out.2.1.below hb5, H4.out.2.2.trans (Frm.bel S m hb5)⟩
      have hgo := good_S x HX.out.2.1 (Lib.hid H5.out.1) HT.out HF.out.2.2.2.1
      rw [HX.out.2.2.1] at hgo
      clear hb5 H4
      go_wp2_with (fail)
      rw [← hw5, ← hq]
      clear hw5 hq
      refine hgo.mono ?_
      rintro e w6 ⟨rfl, hb6⟩
      have H6 : Hid (SS W w6 s p m S cp n L [] k (inB (bl.take k)) ∧ NmRow w6 m (some ⟨g, 0, none⟩) bl ∧ Frm w w6 S S m) := Lib.hid ⟨H5.out.1.below hb6, H5.out.2.1.below hb6, H5.out.2.2.trans (Frm.bel S m hb6)⟩
      have HB6 := Lib.hid (HB5.out.below hb6)
      clear hgo hb6 H5 HB5
      go_upto_region 9 with (fail)
      have hbd : Below w6.heap.size w6 w6.drew := (Below.refl _ _).drew
      obtain ⟨w8, hrun, hg8, ho8⟩ := put_own (H6.out.1.below hbd) HX.out.2.1 (by have := HF.out.2.2.1.2; have := HX.out.2.2.2; unfold maxLen; omega)
      have c1 := H6.out.1.c1
      have b0 := HB6.out.c0
      have b1 := HB6.out.c1
      have b2 := HB6.out.c2
      have HE : Hid (SS W w8 s p m S cp n L [] (k + 1) (inB (bl.take (k + 1))) ∧ NmRow w8 m (some ⟨g, 0, none⟩) bl ∧ Frm w w8 S S m) := Lib.hid ⟨((H6.out.1.below hbd).map hg8 ho8).kcongr (fun y _ => by rw [HX.out.1]; exact inB_take bl k HX.out.2.2.2 y), (H6.out.2.1.below hbd).grown hg8, (H6.out.2.2.trans (Frm.bel S m hbd)).trans (Frm.map S hg8)⟩
      clear hg8 ho8 hbd H6 HB6
      go_region_with (fail)
      all_goals
        clear c1 b0 b1 b2 hrun
        go_wp2_with (fail)
        go_roundw
        case rel => exact ⟨k + 1, by omega, by first | rfl | go_num, HE⟩
        case measure => simp [intOf]; omega
    · obtain rfl : k = len := by omega
      have hte : bl.take k = bl := by rw [HF.out.2.2.2.2, List.take_length]
      have hsy : Calls Tryz.prog 21 #[.pointer (some ⟨p, 0, none⟩)] wr fun e w' => e = .returned (.tuple #[]) ∧ ∃ S2, Hid (SS W w' s p m S2 cp n L [] bl.length (inB bl) ∧ Frm w w' S S2 m) := by
        refine (sync_K (Lib.hid HM.out.1.dk) (by simp only [List.length_nil]; have := HF.out.2.2.1.1; unfold maxLen; omega) (by have := HF.out.2.2.2.1; show totF L + 0 ≤ _; omega)).mono ?_
        rintro e w' ⟨rfl, hx⟩
        have h9 := HM.out.1.disk hx.out.1 hx.out.2
        rw [held_nil, hte, HF.out.2.2.2.2] at h9
        exact ⟨rfl, _, Lib.hid ⟨h9, HM.out.2.2.trans (Frm.disk m hx.out.2)⟩⟩
      clear hte HM
      go_wp2_with (fail)
      refine hsy.mono ?_
      rintro e w4 ⟨rfl, S2, H4⟩
      clear hsy
      go_wp2_with (fail)
      go_ret2
      exact ⟨s, m, S2, rfl, Lib.hid ⟨H4.out.1, H4.out.2, by have := HMS.out; omega, by have := HMS.out; omega⟩⟩
end Go.Proofs.YtmlikkjahkdilaaGreatDoor

namespace Go.Proofs.YtmlikkjahkdilaaGreatDoor
open Go.RowKit Go.Maps
section
variable {W w : World} {s p m n nk : Nat} {S : Nat → Prop} {cp : Int} {L : Fs} {K : Blk → Bool}
set_option maxRecDepth 100000 in
set_option maxHeartbeats 4000000 in
theorem write_known (x : Blk) (hx : okB x) (d : ByteArray) (hd : okD d) (h : Hid (SS W w s p m S cp n L [] nk K)) (hT : TabsS W) (hK : K x = true) (hsz : totF L ≤ 1099511627776) :
    Calls Tryz.prog 10 #[.pointer (some ⟨s, 0, none⟩), .agg #[.int .i64 x.a, .int .i64 x.b, .int .i64 x.c], .string d] w fun e w' => e = .returned (.int .i64 (cmpR L x d)) ∧ Below w.heap.size w w' := by
  obtain ⟨r, hr⟩ : ∃ r, r = cmpR L x d := ⟨_, rfl⟩
  rw [← hr]
  have HR := Lib.hid hr
  clear hr
  obtain ⟨wa, hwa⟩ : ∃ wa, wa = w.alloc (.cells #[.int .i64 x.a, .int .i64 x.b, .int .i64 x.c] 23) := ⟨_, rfl⟩
  obtain ⟨q, hq⟩ : ∃ q, q = w.heap.size := ⟨_, rfl⟩
  have HA : Hid (SS W wa s p m S cp n L [] nk K ∧ BxS w wa q x) := Lib.hid (by rw [hwa, hq]; exact ⟨h.out.below (bxs_new w x).bel, bxs_new w x⟩)
  have HO := Lib.hid (And.intro hx (And.intro hd (And.intro hK (And.intro hsz hT))))
  have b0 := HA.out.2.c0
  have b1 := HA.out.2.c1
  have b2 := HA.out.2.c2
  have hin := is_name (x.a : Int) x.b x.c wa
  rw [nmb_ok hx.1, nmb_ok hx.2.1, nmb_ok hx.2.2] at hin
  have HIN := Lib.hid hin
  clear hin hx h hT hd hK hsz
  go_enter Tryz.func10, Tryz.ntmps10
  go_wp2_with (fail)
  rw [← hwa, ← hq]
  clear hwa hq
  refine HIN.out.mono ?_
  rintro e w1 ⟨rfl, hb1⟩
  have H1 : Hid (SS W w1 s p m S cp n L [] nk K ∧ BxS w w1 q x) := Lib.hid ⟨HA.out.1.below hb1, HA.out.2.below hb1⟩
  clear HIN hb1 HA b0 b1 b2
  have hid := is_data d w1
  rw [show decide (0 < d.size ∧ d.size ≤ 4096) = true from decide_eq_true HO.out.2.1] at hid
  go_wp2_with (fail)
  refine hid.mono ?_
  rintro e w2 ⟨rfl, rfl⟩
  clear hid
  have hkn := knows_S x HO.out.1 (Lib.hid H1.out.1)
  rw [HO.out.2.2.1] at hkn
  have b0 := H1.out.2.c0
  have b1 := H1.out.2.c1
  have b2 := H1.out.2.c2
  go_wp2_with (fail)
  refine hkn.mono ?_
  rintro e w3 ⟨rfl, hb3⟩
  have H3 : Hid (SS W w3 s p m S cp n L [] nk K ∧ BxS w w3 q x) := Lib.hid ⟨H1.out.1.below hb3, H1.out.2.below hb3⟩
  clear hkn hb3 H1 b0 b1 b2
  have hcm := compare_S x HO.out.1 d (Lib.hid H3.out.1) HO.out.2.2.2.2 HO.out.2.2.2.1
  rw [← HR.out] at hcm
  have b0 := H3.out.2.c0
  have b1 := H3.out.2.c1
  have b2 := H3.out.2.c2
  go_wp2_with (fail)
  refine hcm.mono ?_
  rintro e w4 ⟨rfl, hb4⟩
  have HE := Lib.hid (H3.out.2.bel.trans (hb4.mono H3.out.2.bel.size))
  clear hcm hb4 b0 b1 b2
  go_wp2_with (fail)
  go_ret
  exact ⟨rfl, HE.out⟩
set_option maxRecDepth 100000 in
set_option maxHeartbeats 4000000 in
theorem read_good (x : Blk) (hx : okB x) (d : ByteArray) (h : Hid (SS W w s p m S cp n L [] nk K)) (hT : TabsS W) (hK : K x = true) (hl : lookR L x = (d, true)) (hsz : totF L ≤ 1099511627776) :
    Calls Tryz.prog 9 #[.pointer (some ⟨s, 0, none⟩), .agg #[.int .i64 x.a, .int .i64 x.b, .int .i64 x.c]] w fun e w' => e = .returned (.tuple #[.string d, .int .i64 0]) ∧ Below w.heap.size w w' := by
  obtain ⟨wa, hwa⟩ : ∃ wa, wa = w.alloc (.cells #[.int .i64 x.a, .int .i64 x.b, .int .i64 x.c] 23) := ⟨_, rfl⟩
  obtain ⟨q, hq⟩ : ∃ q, q = w.heap.size := ⟨_, rfl⟩
  have HA : Hid (SS W wa s p m S cp n L [] nk K ∧ BxS w wa q x) := Lib.hid (by rw [hwa, hq]; exact ⟨h.out.below (bxs_new w x).bel, bxs_new w x⟩)
  have HO := Lib.hid (And.intro hx (And.intro hl (And.intro hsz hT)))
  have b0 := HA.out.2.c0
  have b1 := HA.out.2.c1
  have b2 := HA.out.2.c2
  have hkn := knows_S x hx (Lib.hid HA.out.1)
  rw [hK] at hkn
  have HKN := Lib.hid hkn
  clear hkn hx h hT hl hK hsz
  go_enter Tryz.func9, Tryz.ntmps9
  go_wp2_with (fail)
  rw [← hwa, ← hq]
  clear hwa hq
  refine HKN.out.mono ?_
  rintro e w1 ⟨rfl, hb1⟩
  have H1 : Hid (SS W w1 s p m S cp n L [] nk K ∧ BxS w w1 q x) := Lib.hid ⟨HA.out.1.below hb1, HA.out.2.below hb1⟩
  clear HKN hb1 HA b0 b1 b2
  have hlo := look_S x HO.out.1 (Lib.hid H1.out.1) HO.out.2.2.2 HO.out.2.2.1
  rw [HO.out.2.1] at hlo
  have b0 := H1.out.2.c0
  have b1 := H1.out.2.c1
  have b2 := H1.out.2.c2
  go_wp2_with (fail)
  refine hlo.mono ?_
  rintro e w2 ⟨rfl, hb2⟩
  have HE := Lib.hid (H1.out.2.bel.trans (hb2.mono H1.out.2.bel.size))
  clear hlo hb2 b0 b1 b2
  go_wp2_with (fail)
  go_ret2
  exact ⟨rfl, HE.out⟩
set_option maxRecDepth 100000 in
set_option maxHeartbeats 4000000 in
theorem read_none (x : Blk) (hx : okB x) (h : Hid (SS W w s p m S cp n L [] nk K)) (hK : K x = false) :
    Calls Tryz.prog 9 #[.pointer (some ⟨s, 0, none⟩), .agg #[.int .i64 x.a, .int .i64 x.b, .int .i64 x.c]] w fun e w' => e = .returned (.tuple #[.string ⟨#[]⟩, .int .i64 140]) ∧ Below w.heap.size w w' := by
  obtain ⟨wa, hwa⟩ : ∃ wa, wa = w.alloc (.cells #[.int .i64 x.a, .int .i64 x.b, .int .i64 x.c] 23) := ⟨_, rfl⟩
  obtain ⟨q, hq⟩ : ∃ q, q = w.heap.size := ⟨_, rfl⟩
  have HA : Hid (SS W wa s p m S cp n L [] nk K ∧ BxS w wa q x) := Lib.hid (by rw [hwa, hq]; exact ⟨h.out.below (bxs_new w x).bel, bxs_new w x⟩)
  have b0 := HA.out.2.c0
  have b1 := HA.out.2.c1
  have b2 := HA.out.2.c2
  have hkn := knows_S x hx (Lib.hid HA.out.1)
  rw [hK] at hkn
  have HKN := Lib.hid hkn
  clear hkn hx h hK
  go_enter Tryz.func9, Tryz.ntmps9
  go_wp2_with (fail)
  rw [← hwa, ← hq]
  clear hwa hq
  refine HKN.out.mono ?_
  rintro e w1 ⟨rfl, hb1⟩
  have HE := Lib.hid (HA.out.2.bel.trans (hb1.mono HA.out.2.bel.size))
  clear HKN hb1 HA b0 b1 b2
  go_wp2_with (fail)
  go_ret2
  exact ⟨rfl, HE.out⟩
set_option maxRecDepth 100000 in
set_option maxHeartbeats 4000000 in
theorem write_bad (a b c : Int) (d : ByteArray) (s : Nat) (w : World) (hbad : (nmb a && nmb b && nmb c) = false ∨ ¬ okD d) :
    Calls Tryz.prog 10 #[.pointer (some ⟨s, 0, none⟩), .agg #[.int .i64 a, .int .i64 b, .int .i64 c], .string d] w fun e w' => e = .returned (.int .i64 2) ∧ Below w.heap.size w w' := by
  obtain ⟨wa, hwa⟩ : ∃ wa, wa = w.alloc (.cells #[.int .i64 a, .int .i64 b, .int .i64 c] 23) := ⟨_, rfl⟩
  have HB : Hid (Below w.heap.size w wa) := Lib.hid (by rw [hwa]; exact (Below.refl _ _).alloc (Nat.le_refl _) _)
  have hin := is_name a b c wa
  obtain ⟨t, ht⟩ : ∃ t, t = (nmb a && nmb b && nmb c) := ⟨_, rfl⟩
  rw [← ht] at hin hbad
  have HIN := Lib.hid hin
  have HBD := Lib.hid hbad
  clear hin ht hbad
  go_enter Tryz.func10, Tryz.ntmps10
  go_wp2_with (fail)
  rw [← hwa]
  clear hwa
  refine HIN.out.mono ?_
  rintro e w1 ⟨rfl, hb1⟩
  have HE := Lib.hid (HB.out.trans (hb1.mono HB.out.size))
  clear HIN hb1
  cases t with
  | false =>
    go_wp2_with (fail)
    go_ret
    exact ⟨rfl, HE.out⟩
  | true =>
    have hid := is_data d w1
    rw [show decide (0 < d.size ∧ d.size ≤ 4096) = false from decide_eq_false (HBD.out.resolve_left (by decide))] at hid
    go_wp2_with (fail)
    refine hid.mono ?_
    rintro e w2 ⟨rfl, rfl⟩
    clear hid
    go_wp2_with (fail)
    go_ret
    exact ⟨rfl, HE.out⟩
end
end Go.Proofs.YtmlikkjahkdilaaGreatDoor

namespace Go.Proofs.YtmlikkjahkdilaaGreatDoor
open Go.ChangeShapes Go.WideShapes Go.ChangeAt Go.RowKit
theorem half_in {W : World} (h : laidMetH Tryz.prog [("math/bits.deBruijn32tab", Rows.laid_math_bits_deBruijn32tab), ("math/bits.deBruijn64tab", Rows.laid_math_bits_deBruijn64tab), ("internal/strconv.uint64pow10", Rows.laid_internal_strconv_uint64pow10), ("unicode/utf8.acceptRanges", Rows.laid_unicode_utf8_acceptRanges), ("mahout/crc.half", Rows.laid_mahout_crc_half), ("strconv.ErrRange", Rows.laid_strconv_ErrRange), ("strconv.ErrSyntax", Rows.laid_strconv_ErrSyntax), ("unicode/utf8.first", Rows.laid_unicode_utf8_first)] W) : Half W := by
  refine half_of ?_
  have h2 := laidMetH.filter (fun x => x.1 == "mahout/crc.half") h
  exact h2
theorem pow_in {W : World} (h : laidMetH Tryz.prog [("math/bits.deBruijn32tab", Rows.laid_math_bits_deBruijn32tab), ("math/bits.deBruijn64tab", Rows.laid_math_bits_deBruijn64tab), ("internal/strconv.uint64pow10", Rows.laid_internal_strconv_uint64pow10), ("unicode/utf8.acceptRanges", Rows.laid_unicode_utf8_acceptRanges), ("mahout/crc.half", Rows.laid_mahout_crc_half), ("strconv.ErrRange", Rows.laid_strconv_ErrRange), ("strconv.ErrSyntax", Rows.laid_strconv_ErrSyntax), ("unicode/utf8.first", Rows.laid_unicode_utf8_first)] W) : Pw W := by
  have h2 := laidMetH.filter (fun x => x.1 == "internal/strconv.uint64pow10") h
  exact Lib.tabIs_of_head (rest := []) (show Tryz.prog.globalNamed "internal/strconv.uint64pow10" = some 4 by kernel_rfl) (show (Tryz.prog.globals[4]?).map (·.type) = some 182 by kernel_rfl) Tryz.underlying182 Tryz.underlying132 (by kernel_rfl) (by kernel_rfl) h2
theorem tabs_in {W : World} (hh : Half W) (hp : Pw W) : TabsS W := ⟨fun _ hb => hh.below hb hh.lt, fun _ hb => hp.below hb⟩
def litsOfS : DataW Unit → List Value
  | .lit (.int k n) => [.int k n]
  | _ => []
def litsInS : DataW Unit → List Value
  | .agg ds => ds.flatMap litsOfS
  | d => litsOfS d
def litsAllS : DataW Unit → List Value
  | .agg ds => ds.flatMap litsInS
  | _ => []
def holdsNowS (vs : List Value) : Obj → Obj
  | .cells _ t frozen => .cells vs.toArray t frozen
  | o => o
def errTextS : DataW Unit → ByteArray
  | .iface _ (.ptr (.agg [.lit (.string l)])) => ⟨l.toArray⟩
  | _ => ⟨#[]⟩
/-- A WORLD FOR THE WITNESS: the settled one, the tables and the two errors holding what their initialisers lay. -/
noncomputable def laidWorldS (os : Os) : World :=
  let w := World.holding Tryz.prog os ⟨#[], #[], []⟩
  { w with heap := ((((((((((w.heap.modify 3 (holdsNowS (litsAllS Rows.laid_mahout_crc_half))).modify 7 (holdsNowS (litsAllS Rows.laid_math_bits_deBruijn32tab))).modify 8 (holdsNowS (litsAllS Rows.laid_math_bits_deBruijn64tab))).modify 4 (holdsNowS (litsAllS Rows.laid_internal_strconv_uint64pow10))).modify 5 (holdsNowS (litsAllS Go.Pinned.utf8First))).modify 6 (holdsNowS (litsAllS Rows.laid_unicode_utf8_acceptRanges))).modify 2 (holdsNowS [.iface 191 (.pointer (some ⟨w.heap.size, 0, none⟩))])).modify 1 (holdsNowS [.iface 191 (.pointer (some ⟨w.heap.size + 1, 0, none⟩))])).push (.cells #[.string (errTextS Rows.laid_strconv_ErrRange)] 193 (0, 0))).push (.cells #[.string (errTextS Rows.laid_strconv_ErrSyntax)] 193 (0, 0))) }
set_option maxRecDepth 100000 in
theorem block_arg {H : Type} {enc : TypeId × Value → H} {w : World} {base n : Nat} {spare : Nat → Bool} {held : Bool} {cs : List Value} {d : DataW H} {p : List MemPlace}
    (h : DataW.trod enc Tryz.prog w base spare held n 23 cs = some (d, p)) :
    ∃ a b c : Int, cs = [.int .i64 a, .int .i64 b, .int .i64 c] ∧ n64 a ∧ n64 b ∧ n64 c := by
  obtain ⟨ys, m, _, hx, hlen, hyl, hf⟩ := DataW.trod_struct Tryz.underlying23 h
  have c3 : Tryz.prog.cellsOf 3 = 1 := by kernel_rfl
  have c29 : Tryz.prog.cellsOf 23 = 3 := by kernel_rfl
  rw [c29] at hlen
  match cs, hlen, ys, hyl with
  | [v0, v1, v2], _, [y0, y1, y2], _ =>
    have g0 : DataW.trod enc Tryz.prog w base spare held m 3 [v0] = some y0 := by have := hf 0 _ rfl; simpa [c3] using this
    have g1 : DataW.trod enc Tryz.prog w base spare held m 3 [v1] = some y1 := by have := hf 1 _ rfl; simpa [c3] using this
    have g2 : DataW.trod enc Tryz.prog w base spare held m 3 [v2] = some y2 := by have := hf 2 _ rfl; simpa [c3] using this
    obtain ⟨k, e0, f0, wk⟩ := DataW.trod_int Tryz.underlying3 g0
    obtain ⟨i, e1, f1, wi⟩ := DataW.trod_int Tryz.underlying3 g1
    obtain ⟨j, e2, f2, wj⟩ := DataW.trod_int Tryz.underlying3 g2
    simp only [List.cons.injEq, and_true] at e0 e1 e2
    subst e0 e1 e2
    exact ⟨k, i, j, rfl, i64_of_wf wk, i64_of_wf wi, i64_of_wf wj⟩
set_option maxRecDepth 100000 in
theorem open_block {H : Type} {enc : TypeId × Value → H} {W : World} {base : Nat} {v : Value} {d : DataW H} {p : List MemPlace}
    (hv : Value.okWide Tryz.prog W .any base 23 v) (h : DataW.Trod enc Tryz.prog W 0 (fun _ => true) true 23 v d p) :
    ∃ a b c : Int, v = .agg #[.int .i64 a, .int .i64 b, .int .i64 c] ∧ n64 a ∧ n64 b ∧ n64 c := by
  obtain ⟨cs, rfl, hsz⟩ := okWide_struct Tryz.underlying23 hv
  obtain ⟨fuel, hf⟩ := h
  obtain ⟨a, b, c, hx, hr⟩ := block_arg hf
  refine ⟨a, b, c, ?_, hr⟩
  have : cs.toList = _ := hx
  congr 1
  apply Array.ext'
  exact this
end Go.Proofs.YtmlikkjahkdilaaGreatDoor

namespace Go.Proofs.YtmlikkjahkdilaaGreatDoor
open Go.RowKit Go.Maps
def abcS : ByteArray := ⟨#[97, 98, 99]⟩
def blkA : Blk := ⟨1, 2, 0⟩
theorem open_none {W w : World} {p n : Nat} {S : Nat → Prop} {cp : Int} (h : Hid (DK W w p S cp n [] [])) (hT : TabsS W) (hn : n + 10 ≤ 8796093022206) :
    Calls Tryz.prog 8 #[.pointer (some ⟨p, 0, none⟩)] w fun e w' => ∃ s m S', e = .returned (.tuple #[.pointer (some ⟨s, 0, none⟩), .int .i64 0]) ∧ Hid (SS W w' s p m S' cp n [] [] 0 (fun _ => false) ∧ Frm w w' S S' m ∧ w.heap.size ≤ s ∧ w.heap.size ≤ m) := by
  refine (open_S [] h hT rfl (fun _ h => by cases h) ⟨hn, by decide⟩ (by decide)).mono ?_
  rintro e w' ⟨s, m, S', rfl, hx⟩
  exact ⟨s, m, S', rfl, Lib.hid ⟨hx.out.1.kcongr (fun y _ => by simp [inB]), hx.out.2⟩⟩
theorem look_wr (L : Fs) (x : Blk) (d : ByteArray) (hd : okD d) (ht : getF L newS = none) : lookR (wrL L x (fileB x d)) x = (d, true) := by
  unfold lookR
  rw [get_wrL L x _ _ ht, if_neg (fun e => nm_ne_new x e.symm), if_pos rfl]
  exact dataR_good x d hd
set_option maxRecDepth 100000 in
set_option maxHeartbeats 4000000 in
theorem speaks14_any (w : World) (hT : TabsS w) (hsm : (fileB blkA abcS).size ≤ 1000) : Calls Tryz.prog 7 #[] w fun e w' => e = .returned (.bool true) ∧ Below w.heap.size w w' := by
  have HT := Lib.hid hT
  have HS := Lib.hid hsm
  have hnew := new_K 1000 (Below.refl w.heap.size w)
  rw [show (max 1000 0 : Int) = 1000 from rfl] at hnew
  clear hT hsm
  go_enter Tryz.func7, Tryz.ntmps7
  go_wp2_with (fail)
  refine hnew.mono ?_
  rintro ex w1 ⟨rfl, h1⟩
  obtain ⟨p, hp⟩ : ∃ p, p = w.heap.size := ⟨_, rfl⟩
  obtain ⟨S0, hS0⟩ : ∃ S0 : Nat → Prop, S0 = fun b => b = w.heap.size := ⟨_, rfl⟩
  have HD1 : Hid (DK w w1 p S0 1000 0 [] []) := Lib.hid (by rw [hp, hS0]; exact h1.out.1)
  rw [← hp]
  clear h1 hnew hp hS0
  have ho1 := open_none HD1 HT.out (by decide)
  go_wp2_with (fail)
  refine ho1.mono ?_
  rintro ex w2 ⟨s, m, S2, rfl, h2⟩
  have H2 := Lib.hid h2.out.1
  clear ho1 h2 HD1
  obtain ⟨w3, hw3⟩ : ∃ w3, w3 = w2.alloc (.cells #[.int .i64 1, .int .i64 2, .int .i64 0] 23) := ⟨_, rfl⟩
  obtain ⟨q, hq⟩ : ∃ q, q = w2.heap.size := ⟨_, rfl⟩
  have hb3 : Below w2.heap.size w2 w3 := by rw [hw3]; exact (Below.refl _ _).alloc (Nat.le_refl _) _
  have hq3 : w3.heap[q]? = some (.cells #[.int .i64 1, .int .i64 2, .int .i64 0] 23 (0, 0)) := by rw [hw3, hq]; exact heap_alloc_new w2 _
  have hw := write_S blkA ⟨by decide, by decide, by decide⟩ abcS ⟨by decide, by decide⟩ (Lib.hid (H2.out.below hb3)) HT.out rfl (by decide) (by unfold maxLen; decide) (by have := HS.out; show (0 : Int) + _ ≤ _; omega) rfl rfl
  have hw2 : Calls Tryz.prog 10 #[.pointer (some ⟨s, 0, none⟩), .agg #[.int .i64 1, .int .i64 2, .int .i64 0], .string ⟨#[97, 98, 99]⟩] w3 fun e w' => e = .returned (.int .i64 0) ∧ ∃ S', Hid (SS w w' s p m S' 1000 (0 + 5) (wrL [] blkA (fileB blkA abcS)) [] (0 + 1) (fun y => false || decide (y = blkA)) ∧ Frm w3 w' S2 S' m) := hw
  have HQ := Lib.hid (And.intro hq3 (And.intro (show ¬ S2 q from fun e => by have := (H2.out.dk.m.own _ e).2; omega) (show ¬ q = m from fun e => by have := H2.out.ml; omega)))
  clear hb3 hq3 hw H2
  go_wp2_with (fail)
  rw [← hw3, ← hq]
  clear hw3 hq
  refine hw2.mono ?_
  rintro ex w4 ⟨rfl, S4, h4⟩
  have hq4 := (h4.out.2.t.block q (Array.getElem?_eq_some_iff.1 HQ.out.1).1 (fun e => e.elim HQ.out.2.1 HQ.out.2.2)).trans HQ.out.1
  have d0 : w4.cell? ⟨q, 0, none⟩ = some (.int .i64 1) := by simp [World.cell?, hq4]
  have d1 : w4.cell? ⟨q, 1, none⟩ = some (.int .i64 2) := by simp [World.cell?, hq4]
  have d2 : w4.cell? ⟨q, 2, none⟩ = some (.int .i64 0) := by simp [World.cell?, hq4]
  have hr := read_good blkA ⟨by decide, by decide, by decide⟩ abcS (Lib.hid h4.out.1) HT.out (by simp) (look_wr [] blkA abcS ⟨by decide, by decide⟩ rfl) (by rw [tot_wrL (by exact List.Pairwise.nil) blkA _ rfl rfl]; have := HS.out; show 0 + _ ≤ _; omega)
  have hr2 : Calls Tryz.prog 9 #[.pointer (some ⟨s, 0, none⟩), .agg #[.int .i64 1, .int .i64 2, .int .i64 0]] w4 fun e w' => e = .returned (.tuple #[.string ⟨#[97, 98, 99]⟩, .int .i64 0]) ∧ Below w4.heap.size w4 w' := hr
  have HB4 := Lib.hid h4.out.1.dk.bel
  clear hw2 hr h4 hq4
  go_wp2_with (fail)
  refine hr2.mono ?_
  rintro ex w5 ⟨rfl, hb5⟩
  have HE := Lib.hid (HB4.out.trans (hb5.mono HB4.out.size))
  clear hr2 hb5 d0 d1 d2
  go_wp2_with (fail)
  go_ret
  exact ⟨rfl, HE.out⟩
end Go.Proofs.YtmlikkjahkdilaaGreatDoor

namespace Go.Proofs.YtmlikkjahkdilaaGreatDoor
open Go.RowKit Go.Maps
theorem file_size2 (x : Blk) (d : ByteArray) (hd : d.size ≤ 4096) : (fileB x d).size ≤ 11 * d.size + 64 := by
  rw [fileB_of (by omega)]
  have h1 : (fileF x ⟨d, by omega⟩).data.toList.length = (fileF x ⟨d, by omega⟩).size := by simp
  rw [fileF_list] at h1
  have h2 := tot_hdP x ⟨d, by omega⟩ (chA 64 ⟨d, by omega⟩)
  have h3 : (chA 64 ⟨d, by omega⟩).length ≤ d.size := chA_len 64 d.size ⟨d, by omega⟩ (Nat.le_refl _)
  have h4 : d.data.toList.length = d.size := by simp
  simp only [stream, List.length_append, frameL_length, cat_length, List.length_nil] at h1
  omega
theorem abc_small : (fileB blkA abcS).size ≤ 1000 := by
  have h := file_size2 blkA abcS (by decide)
  have e : abcS.size = 3 := rfl
  omega
theorem open_no (w : World) : Calls Tryz.prog 8 #[.pointer none] w fun e w' => e = .returned (.tuple #[.pointer none, .int .i64 2]) ∧ w = w' := by
  go_enter Tryz.func8, Tryz.ntmps8
  go_wp2
  go_ret2
  exact ⟨rfl, rfl⟩
theorem read_no (a b c : Int) (w : World) : Calls Tryz.prog 9 #[.pointer none, .agg #[.int .i64 a, .int .i64 b, .int .i64 c]] w fun e w' => e = .returned (.tuple #[.string ⟨#[]⟩, .int .i64 140]) ∧ Below w.heap.size w w' := by
  have hb : Below w.heap.size w (w.alloc (.cells #[.int .i64 a, .int .i64 b, .int .i64 c] 23)) := (Below.refl _ _).alloc (Nat.le_refl _) _
  go_enter Tryz.func9, Tryz.ntmps9
  go_wp2
  go_ret2
  exact ⟨rfl, hb⟩
theorem write_no (a b c : Int) (d : ByteArray) (w : World) : Calls Tryz.prog 10 #[.pointer none, .agg #[.int .i64 a, .int .i64 b, .int .i64 c], .string d] w fun e w' => e = .returned (.int .i64 2) ∧ Below w.heap.size w w' := by
  have hb : Below w.heap.size w (w.alloc (.cells #[.int .i64 a, .int .i64 b, .int .i64 c] 23)) := (Below.refl _ _).alloc (Nat.le_refl _) _
  go_enter Tryz.func10, Tryz.ntmps10
  go_wp2
  go_ret
  exact ⟨rfl, hb⟩
theorem drop_no (a b c : Int) (w : World) : Calls Tryz.prog 11 #[.pointer none, .agg #[.int .i64 a, .int .i64 b, .int .i64 c]] w fun e w' => e = .returned (.int .i64 2) ∧ Below w.heap.size w w' := by
  have hb : Below w.heap.size w (w.alloc (.cells #[.int .i64 a, .int .i64 b, .int .i64 c] 23)) := (Below.refl _ _).alloc (Nat.le_refl _) _
  go_enter Tryz.func11, Tryz.ntmps11
  go_wp2
  go_ret
  exact ⟨rfl, hb⟩
theorem list_no (w : World) : Calls Tryz.prog 12 #[.pointer none] w fun e w' => e = .returned (.slice none 0 0) ∧ w = w' := by
  go_enter Tryz.func12, Tryz.ntmps12
  go_wp2
  go_ret
  exact ⟨rfl, rfl⟩
theorem scrub_no (w : World) : Calls Tryz.prog 13 #[.pointer none] w fun e w' => e = .returned (.slice none 0 0) ∧ w = w' := by
  go_enter Tryz.func13, Tryz.ntmps13
  go_wp2
  go_ret
  exact ⟨rfl, rfl⟩
end Go.Proofs.YtmlikkjahkdilaaGreatDoor

