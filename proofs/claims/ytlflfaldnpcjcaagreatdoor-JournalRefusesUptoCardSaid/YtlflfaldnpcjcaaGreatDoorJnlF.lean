/- Package journal: Roll: a new image, the old one and its records gone. Package journal: the files that a journal leaves: some records, an image. Package journal: Open over the files that a journal leaves, whatever the segment and the copy. Package journal: the file of some records, behind a crash; no program but for the disk's changes. Package journal: what a crash leaves of a segment's records, and what is found of them. JournalKeeps: a journal with its disk, as a state over a script; each act takes one state to the next. A script of acts as it came in, for the laws of package journal. -/
import Derived.Test.YtlflfaldnpcjcaaGreatDoorJnlE
import Derived.Test.YtlflfaldnpcjcaaGreatDoorJnlC
import Derived.Deep.Slices
import Derived.SizedLaws
import Derived.WideShapes
import Derived.ChangeShapes
namespace Go.Proofs.YtlflfaldnpcjcaaGreatDoor
open Go.RowKit Go.Maps
theorem get_delC (L : Fs) (cs : List Chg) (a q : ByteArray) : getF (held L (delC L cs a)) q = if q = a then none else getF (held L cs) q := by
  unfold delC
  by_cases h : delR (held L cs) a = 0
  · rw [if_pos h, held_one]
    exact getF_delF _ _ _
  · rw [if_neg h]
    by_cases e : q = a
    · rw [if_pos e, e]
      unfold delR at h
      cases hg : getF (held L cs) a with
      | none => rfl
      | some x => rw [hg] at h; exact absurd (if_pos rfl) h
    · rw [if_neg e]
theorem get_layL (M : Fs) (name g q : ByteArray) (ht : getF M tmpS = none) (hne : ¬ name = tmpS) : getF (layL M name g) q = if q = tmpS then none else if q = name then some g else getF M q := by
  unfold layL
  show getF (delF (putF (held M [.app tmpS g]) name (orE (getF (held M [.app tmpS g]) tmpS))) tmpS) q = _
  rw [getF_delF, getF_putF, held_tmp g ht, held_tmp g ht, if_pos rfl]
  by_cases h1 : q = tmpS
  · rw [if_pos h1, if_pos h1]
  · rw [if_neg h1, if_neg h1, if_neg h1]
    rfl
theorem delC_len (L : Fs) (cs : List Chg) (a : ByteArray) : (delC L cs a).length ≤ cs.length + 1 := by
  unfold delC
  split <;> simp
theorem delC_wts (L : Fs) (cs : List Chg) (a : ByteArray) : wts (delC L cs a) = wts cs := by
  unfold delC
  split
  · rw [wts_app]; rfl
  · rfl
theorem tot_delC (L : Fs) (hs : SrtF L) (cs : List Chg) (a : ByteArray) : totF (held L (delC L cs a)) ≤ totF (held L cs) := by
  unfold delC
  split
  · rw [held_one]
    have := tot_delF (srt_held hs cs) a
    show totF (delF (held L cs) a) ≤ _
    omega
  · exact Nat.le_refl _
theorem tot_lay (M : Fs) (name g : ByteArray) (hs : SrtF M) (ht : getF M tmpS = none) : totF (layL M name g) ≤ totF M + g.size := by
  have h1 : totF (held M [.app tmpS g]) = totF M + g.size := by
    have := tot_app M [] hs tmpS g
    simpa [held_nil] using this
  have h2 : SrtF (held M [.app tmpS g]) := srt_held hs _
  have h3 := tot_putF h2 name (orE (getF (held M [.app tmpS g]) tmpS))
  have h4 := tot_delF (srt_putF h2 name (orE (getF (held M [.app tmpS g]) tmpS))) tmpS
  rw [getF_putF] at h4
  have h5 : getF (held M [.app tmpS g]) tmpS = some g := by rw [held_tmp g ht, if_pos rfl]
  rw [h5] at h3 h4
  show totF (delF (putF (held M [.app tmpS g]) name (orE (getF (held M [.app tmpS g]) tmpS))) tmpS) ≤ _
  rw [h5]
  by_cases e : tmpS = name
  · rw [if_pos e] at h4
    subst e
    rw [h5] at h3
    simp [orE] at h3 h4 ⊢
    omega
  · rw [if_neg e] at h4
    simp [orE] at h3 h4 ⊢
    omega
/-- behind a roll: the files -/
def rolL (M : Fs) (s k : Nat) (F : ByteArray) : Fs := held (layL M (imgS (s + 1)) F) (delC (layL M (imgS (s + 1)) F) (delC (layL M (imgS (s + 1)) F) [] (edtS s k)) (imgS s))
theorem img_ne_tmp (a : Nat) : ¬ imgS a = tmpS := fun e => by
  have h2 := img_tmp a
  rw [e] at h2
  exact absurd h2 (by rw [ByteArray.toList_eq]; decide)
theorem edt_ne_tmp (a b : Nat) : ¬ edtS a b = tmpS := fun e => by
  have h2 := edt_tmp a b
  rw [e] at h2
  exact absurd h2 (by rw [ByteArray.toList_eq]; decide)
theorem get_rolL (M : Fs) (s k : Nat) (F q : ByteArray) (ht : getF M tmpS = none) : getF (rolL M s k F) q = if q = imgS s then none else if q = edtS s k then none else if q = imgS (s + 1) then some F else getF M q := by
  unfold rolL
  rw [get_delC, get_delC, held_nil, get_layL M _ _ _ ht (img_ne_tmp _)]
  by_cases h1 : q = imgS s
  · rw [if_pos h1, if_pos h1]
  · rw [if_neg h1, if_neg h1]
    by_cases h2 : q = edtS s k
    · rw [if_pos h2, if_pos h2]
    · rw [if_neg h2, if_neg h2]
      by_cases h3 : q = tmpS
      · rw [if_pos h3, if_neg (fun e => img_ne_tmp (s + 1) (by rw [← e, h3])), h3, ht]
      · rw [if_neg h3]
theorem jat_s0 {w : World} {j p : Nat} {s n c l : Int} (h : JAt w j p s n c l) : JAt (w.setCell ⟨j, 0, none⟩ (.pointer (some ⟨p, 0, none⟩))) j p s n c l := by
  obtain ⟨cs, hk⟩ := h.ty
  refine ⟨World.cell?_setCell_same _ _ _ h.c0, ?_, ?_, ?_, ?_, ⟨cs.set! 0 (.pointer (some ⟨p, 0, none⟩)), by simp [World.setCell, Array.getElem?_modify, hk]⟩⟩
  · exact (World.cell?_setCell_other _ _ _ _ (by simp)).trans h.c1
  · exact (World.cell?_setCell_other _ _ _ _ (by simp)).trans h.c2
  · exact (World.cell?_setCell_other _ _ _ _ (by simp)).trans h.c3
  · exact (World.cell?_setCell_other _ _ _ _ (by simp)).trans h.c4
theorem JS.setj2 {w0 w : World} {j p n i : Nat} {S : Nat → Prop} {cp seg nth cnt lst seg' nth' cnt' lst' : Int} {L : Fs} {cs : List Chg} {v : Value} (h : JS w0 w j p S cp n L cs seg nth cnt lst) (hj : JAt (w.setCell ⟨j, i, none⟩ v) j p seg' nth' cnt' lst') : JS w0 (w.setCell ⟨j, i, none⟩ v) j p S cp n L cs seg' nth' cnt' lst' :=
  ⟨⟨h.dk.bel.setCell (p := ⟨j, i, none⟩) h.lo _, h.dk.m.tch (S' := fun b => b = j) ⟨rfl, rfl, rfl, by simp [World.setCell], fun b _ hb => Below.heap_setCell _ _ _ _ hb⟩ (fun b hb e => h.no (e ▸ hb))⟩, hj, h.no, h.lo⟩
/-- the journal begins a new segment -/
theorem js_seg {w0 w : World} {j p n : Nat} {S : Nat → Prop} {cp seg nth cnt lst b : Int} {L : Fs} {cs : List Chg} (h : JS w0 w j p S cp n L cs seg nth cnt lst) : JS w0 (((((w.setCell ⟨j, 0, none⟩ (.pointer (some ⟨p, 0, none⟩))).setCell ⟨j, 1, none⟩ (.int .i64 b)).setCell ⟨j, 2, none⟩ (.int .i64 0)).setCell ⟨j, 3, none⟩ (.int .i64 0)).setCell ⟨j, 4, none⟩ (.int .i64 0)) j p S cp n L cs b 0 0 0 := by
  have h0 := h.setj2 (jat_s0 h.jt)
  have h1 := h0.setj2 (jat_s1 (b := b) h0.jt)
  have h2 := h1.setj2 (jat_s2 (b := 0) h1.jt)
  have h3 := h2.setj2 (jat_cnt (c := 0) h2.jt)
  exact h3.setj2 (jat_lst (c := 0) h3.jt)
theorem jq_seg (w : World) (j p : Nat) (b : Int) (S : Nat → Prop) : JQ w (((((w.setCell ⟨j, 0, none⟩ (.pointer (some ⟨p, 0, none⟩))).setCell ⟨j, 1, none⟩ (.int .i64 b)).setCell ⟨j, 2, none⟩ (.int .i64 0)).setCell ⟨j, 3, none⟩ (.int .i64 0)).setCell ⟨j, 4, none⟩ (.int .i64 0)) j S S :=
  (JQ.set _ _ _ _ _).trans ((JQ.set _ _ _ _ _).trans ((JQ.set _ _ _ _ _).trans ((JQ.set _ _ _ _ _).trans (JQ.set _ _ _ _ _))))
set_option maxRecDepth 100000 in
set_option maxHeartbeats 8000000 in
theorem roll_G {w0 w : World} {j p n : Nat} {S : Nat → Prop} {cp cnt lst : Int} {L M : Fs} {cs : List Chg} (s k : Nat) (im : ByteArray) (hM : held L cs = M) (h : Hid (JS w0 w j p S cp n L cs s k cnt lst)) (hsk : s + 1 ≤ 999999999 ∧ k ≤ 999999999) (hpw : ∀ w', Below w0.heap.size w0 w' → Pw w') (hh : ∀ w', Below w0.heap.size w0 w' → Half w') (his : im.size ≤ 1048576) (hcp : 0 ≤ cp ∧ cp ≤ 9223372036854775807) (hn : n + cs.length ≤ 1099511627000) (hsz : totF M + (im.size + 12) ≤ 140737488355328) (hsw : totF L + (wts cs + (im.size + 12)) ≤ 140737488355328) (hroom : ((im.size + 12 : Nat) : Int) ≤ cp - totF M)
    (ht : getF M tmpS = none) (hnm : getF M (imgS (s + 1)) = none) :
    Calls Tryz.prog 10 #[.pointer (some ⟨j, 0, none⟩), .string im] w fun e w' => e = .returned (.int .i64 0) ∧ ∃ S' n', n' ≤ n + cs.length + 8 ∧ Hid (JS w0 w' j p S' cp n' (rolL M s k ⟨(frameL im.data.toList).toArray⟩) [] (s + 1 : Nat) 0 0 0 ∧ JQ w w' j S S') := by
  have h0 : ¬ (1048576 : Int) < (im.size : Int) := by omega
  obtain ⟨F, hF⟩ : ∃ F : ByteArray, F = ⟨(frameL im.data.toList).toArray⟩ := ⟨_, rfl⟩
  have hfs : F.size = im.size + 12 := by
    rw [hF]
    show (frameL im.data.toList).toArray.size = _
    rw [List.size_toArray, frameL_length]
    simp
  rw [← hF]
  have hz1 : 1 ≤ (imgS (s + 1)).size := by
    have h3 : (imgS (s + 1)).size = 6 + (digS (s + 1)).size := by unfold imgS; rw [ByteArray.size_append]; rfl
    omega
  have c1 := h.out.jt.c1
  have hw1 : IntKind.i64.wrap ((s : Int) + 1) = (s : Int) + 1 := IntWalk.i64_in _ (by omega)
  have HP : Hid (∀ w', Below w.heap.size w w' → Pw w' ∧ Half w') := Lib.hid fun w' hb => ⟨hpw w' (h.out.dk.bel.trans (hb.mono h.out.dk.bel.size)), hh w' (h.out.dk.bel.trans (hb.mono h.out.dk.bel.size))⟩
  have HPW := Lib.hid hpw
  have hin := image_name_g (s + 1) hsk.1 w (HP.out w (Below.refl _ _)).1
  rw [show ((s + 1 : Nat) : Int) = (s : Int) + 1 by omega] at hin
  have hfr : ∀ w', Below w.heap.size w w' → Calls Tryz.prog 25 #[.string im] w' fun e w'' => e = .returned (.string F) ∧ Below w'.heap.size w' w'' := fun w' hb => by
    have := frame_any im w' (HP.out w' hb).2 his
    rw [← hF] at this
    exact this
  have hla : ∀ w', Below w.heap.size w w' → _ := fun w' hb => lay_G (imgS (s + 1)) F hM (Lib.hid (h.out.below hb)) hcp (by omega) (by rw [hfs]; exact hsz) (by rw [hfs]; exact hsw) (by rw [hfs]; exact hroom) ht hnm ⟨hz1, nm_size (.I (s + 1)) hsk.1⟩ (img_ne_tmp _)
  have HA := Lib.hid (And.intro hfr (And.intro hla (And.intro hsk (And.intro hn (And.intro hfs (And.intro ht hsz))))))
  clear hfr hla hF hfs hz1 hsk hpw hh his hcp hn hsz hsw hroom ht hnm
  go_enter Tryz.func10, Tryz.ntmps10
  go_wp2_with (fail)
  refine hin.mono ?_
  rintro e w1 ⟨rfl, hb1⟩
  have HB1 := Lib.hid hb1
  clear hb1 hin c1
  go_wp2_with (fail)
  refine (HA.out.1 w1 HB1.out).mono ?_
  rintro e w2 ⟨rfl, hb2⟩
  have HB2 : Hid (Below w.heap.size w w2) := Lib.hid (HB1.out.trans (hb2.mono HB1.out.size))
  clear hb2 HB1
  go_wp2_with (fail)
  refine (HA.out.2.1 w2 HB2.out).mono ?_
  rintro e w3 ⟨rfl, S3, hL3⟩
  have H3 : Hid (JS w0 w3 j p S3 cp (n + cs.length + 4) (layL M (imgS (s + 1)) F) [] s k cnt lst ∧ JQ w w3 j S S3) := Lib.hid ⟨hL3.out.1, (JP.q (JP.bel HB2.out)).trans (JP.q hL3.out.2)⟩
  clear hL3 HB2
  have hbd3 : Below w3.heap.size w3 w3.drew := ⟨rfl, rfl, rfl, Nat.le_refl _, fun _ _ => rfl⟩
  have hc3 : ∀ w', Below w3.heap.size w3 w' → w'.cell? ⟨j, 0, none⟩ = some (.pointer (some ⟨p, 0, none⟩)) := fun w' hb => (hb.cell (p := ⟨j, 0, none⟩) H3.out.1.jt.lt).trans H3.out.1.jt.c0
  have he3 : ∀ w', Below w3.heap.size w3 w' → _ := fun w' hb => jedits_g j p s k cnt lst w' (by have := HA.out.2.2.1.1; omega) HA.out.2.2.1.2 (HPW.out w' (H3.out.1.dk.bel.trans (hb.mono H3.out.1.dk.bel.size))) (Lib.hid (H3.out.1.jt.same (hb.block j H3.out.1.jt.lt)))
  have hT : totF (layL M (imgS (s + 1)) F) ≤ totF M + F.size := tot_lay M _ F (hM ▸ srt_held h.out.dk.srt cs) HA.out.2.2.2.2.2.1
  have hd3 : ∀ w', Below w3.heap.size w3 w' → _ := fun w' hb => delete_K (edtS s k) (Lib.hid (H3.out.1.dk.below hb)) (Nat.le_trans (nm_size (.E s k) ⟨by have := HA.out.2.2.1.1; omega, HA.out.2.2.1.2⟩) (by unfold maxLen; decide)) (by have := HA.out.2.2.2.1; unfold maxLen; omega) (by show 0 ≤ _; omega) (by rw [held_nil]; have h1 := HA.out.2.2.2.2.2.2; have h2 := HA.out.2.2.2.2.1; omega)
  have HT := Lib.hid hT
  have HA3 := Lib.hid (And.intro hc3 (And.intro he3 (And.intro hd3 hbd3)))
  have hS0 := hc3 _ hbd3
  obtain ⟨cs1, hcs1⟩ : ∃ cs1, cs1 = delC (layL M (imgS (s + 1)) F) [] (edtS s k) := ⟨_, rfl⟩
  have HCS1 := Lib.hid hcs1
  clear hbd3 hc3 he3 hd3 hT hw1
  go_wp2_with (fail)
  go_cut [] (fun wx => ∃ S', Hid (JS w0 wx j p S' cp (n + cs.length + 4 + 1) (layL M (imgS (s + 1)) F) cs1 s k cnt lst ∧ JQ w wx j S S'))
  case first =>
    go_region_held3 (fun w' => w'.cell? ⟨j, 0, none⟩ = some (.pointer (some ⟨p, 0, none⟩))) (assumption)
      (first
        | (go_at_call 20; with_reducible refine (HA3.out.2.1 _ (by first | exact HA3.out.2.2.2)).mono ?_; rintro e w6 ⟨rfl, hb6⟩; have hB6 : Below w3.heap.size w3 w6 := HA3.out.2.2.2.trans (hb6.mono HA3.out.2.2.2.size); have hS6 := HA3.out.1 _ hB6)
        | (go_at_call 29; with_reducible refine (HA3.out.2.2.1 _ (by first | exact hB6)).mono ?_; rintro e w7 ⟨rfl, hD7⟩; have HX7 := Lib.hid (And.intro ((H3.out.1.below hB6).disk hD7.out.1 hD7.out.2) (H3.out.2.trans ((JP.q (JP.bel hB6)).trans (JP.q (JP.of hD7.out.2))))); have hS7 := HX7.out.1.jt.c0))
    all_goals try go_wp2
    all_goals try go_meet
    all_goals exact ⟨_, by rw [HCS1.out]; exact HX7⟩
  case rest =>
    obtain ⟨S4, H4⟩ := hcut
    have hbd4 : Below wc.heap.size wc wc.drew := ⟨rfl, rfl, rfl, Nat.le_refl _, fun _ _ => rfl⟩
    have hc4 : ∀ w', Below wc.heap.size wc w' → w'.cell? ⟨j, 0, none⟩ = some (.pointer (some ⟨p, 0, none⟩)) := fun w' hb => (hb.cell (p := ⟨j, 0, none⟩) H4.out.1.jt.lt).trans H4.out.1.jt.c0
    have he4 : ∀ w', Below wc.heap.size wc w' → _ := fun w' hb => jimage_g j p s k cnt lst w' (by have := HA.out.2.2.1.1; omega) (HPW.out w' (H4.out.1.dk.bel.trans (hb.mono H4.out.1.dk.bel.size))) (Lib.hid (H4.out.1.jt.same (hb.block j H4.out.1.jt.lt)))
    have hsl : SrtF (layL M (imgS (s + 1)) F) := H4.out.1.dk.srt
    have hl1 : cs1.length ≤ 1 := by rw [HCS1.out]; exact delC_len _ [] _
    have ht1 : totF (held (layL M (imgS (s + 1)) F) cs1) ≤ totF (layL M (imgS (s + 1)) F) := by rw [HCS1.out]; exact tot_delC _ hsl [] _
    have hd4 : ∀ w', Below wc.heap.size wc w' → _ := fun w' hb => delete_K (imgS s) (Lib.hid (H4.out.1.dk.below hb)) (Nat.le_trans (nm_size (.I s) (by have := HA.out.2.2.1.1; show s ≤ _; omega)) (by unfold maxLen; decide)) (by have := HA.out.2.2.2.1; unfold maxLen; omega) (by omega) (by have h1 := HA.out.2.2.2.2.2.2; have h2 := HA.out.2.2.2.2.1; have h3 := HT.out; omega)
    have hl2 : (delC (layL M (imgS (s + 1)) F) cs1 (imgS s)).length ≤ 2 := by have := delC_len (layL M (imgS (s + 1)) F) cs1 (imgS s); omega
    have hw2 : wts (delC (layL M (imgS (s + 1)) F) cs1 (imgS s)) = 0 := by rw [delC_wts, HCS1.out, delC_wts]; rfl
    have HA4 := Lib.hid (And.intro hc4 (And.intro he4 (And.intro hd4 (And.intro hbd4 (And.intro hl2 hw2)))))
    have hS1 := hc4 _ hbd4
    clear HA3 H3 hS0 hbd4 hc4 he4 hd4 hsl hl1 ht1 hl2 hw2
    go_wp2_with (fail)
    go_cut [] (fun wx => ∃ S', Hid (JS w0 wx j p S' cp (n + cs.length + 4 + 1 + 1) (layL M (imgS (s + 1)) F) (delC (layL M (imgS (s + 1)) F) cs1 (imgS s)) s k cnt lst ∧ JQ w wx j S S'))
    case first =>
      go_region_held3 (fun w' => w'.cell? ⟨j, 0, none⟩ = some (.pointer (some ⟨p, 0, none⟩))) (assumption)
        (first
          | (go_at_call 30; with_reducible refine (HA4.out.2.1 _ (by first | exact HA4.out.2.2.2.1)).mono ?_; rintro e w6 ⟨rfl, hb6⟩; have hB6 : Below wc.heap.size wc w6 := HA4.out.2.2.2.1.trans (hb6.mono HA4.out.2.2.2.1.size); have hS6 := HA4.out.1 _ hB6)
          | (go_at_call 29; with_reducible refine (HA4.out.2.2.1 _ (by first | exact hB6)).mono ?_; rintro e w7 ⟨rfl, hD7⟩; have HX7 := Lib.hid (And.intro ((H4.out.1.below hB6).disk hD7.out.1 hD7.out.2) (H4.out.2.trans ((JP.q (JP.bel hB6)).trans (JP.q (JP.of hD7.out.2))))); have hS7 := HX7.out.1.jt.c0))
      all_goals try go_wp2
      all_goals try go_meet
      all_goals exact ⟨_, HX7⟩
    case rest =>
      obtain ⟨S5, H5⟩ := hcut
      have HL2 := Lib.hid HA4.out.2.2.2.2
      have hsy := sync_K (Lib.hid H5.out.1.dk) (by have h1 := HA.out.2.2.2.1; have h2 := HL2.out.1; unfold maxLen; omega) (by rw [HL2.out.2]; have h1 := HA.out.2.2.2.2.2.2; have h2 := HA.out.2.2.2.2.1; have h3 := HT.out; omega)
      have c0 := H5.out.1.jt.c0
      clear HA4 H4 hS1
      go_wp2_with (fail)
      refine hsy.mono ?_
      rintro e w8 ⟨rfl, hD8⟩
      have H8 := Lib.hid (And.intro (H5.out.1.disk hD8.out.1 hD8.out.2) (H5.out.2.trans (JP.q (JP.of hD8.out.2))))
      clear hsy hD8 H5 c0
      have c0 := H8.out.1.jt.c0
      have c1 := H8.out.1.jt.c1
      have hw1 : IntKind.i64.wrap ((s : Int) + 1) = (s : Int) + 1 := IntWalk.i64_in _ (by have := HA.out.2.2.1.1; omega)
      go_wp2_with (fail)
      go_still_tail 12, (by kernel_rfl)
      change wpList _ _ _ _ _ w8.drew
      clear c0 c1 hw1
      have hdr8 : Below w8.heap.size w8 w8.drew := ⟨rfl, rfl, rfl, Nat.le_refl _, fun _ _ => rfl⟩
      have H9 := Lib.hid (And.intro (H8.out.1.below hdr8) (H8.out.2.trans (JP.q (JP.bel hdr8))))
      clear H8 hdr8
      obtain ⟨w9, hw9⟩ : ∃ w9, w9 = w8.drew := ⟨_, rfl⟩
      rw [← hw9] at H9 ⊢
      clear hw9
      have c0 := H9.out.1.jt.c0
      have c1 := H9.out.1.jt.c1
      have c2 := H9.out.1.jt.c2
      have c3 := H9.out.1.jt.c3
      have c4 := H9.out.1.jt.c4
      have f0 := H9.out.1.jt.fr 0
      have f1 := H9.out.1.jt.fr 1
      have f2 := H9.out.1.jt.fr 2
      have f3 := H9.out.1.jt.fr 3
      have f4 := H9.out.1.jt.fr 4
      go_wp2_with (fail)
      go_ret
      have hl := HL2.out.1
      have hrl : held (layL M (imgS (s + 1)) F) (delC (layL M (imgS (s + 1)) F) cs1 (imgS s)) = rolL M s k F := by rw [HCS1.out]; rfl
      have h9 := js_seg (b := (s : Int) + 1) H9.out.1
      rw [hrl] at h9
      exact ⟨rfl, _, n + cs.length + 4 + 1 + 1 + (delC (layL M (imgS (s + 1)) F) cs1 (imgS s)).length, by omega, Lib.hid ⟨h9, H9.out.2.trans (jq_seg _ _ _ _ _)⟩⟩
end Go.Proofs.YtlflfaldnpcjcaaGreatDoor

namespace Go.Proofs.YtlflfaldnpcjcaaGreatDoor
open Go.RowKit Go.Maps
theorem fs_ext : ∀ {L M : Fs}, SrtF L → SrtF M → (∀ q, getF L q = getF M q) → L = M
  | [], [], _, _, _ => rfl
  | [], y :: M, _, _, h => by
    have := h y.n
    rw [getF_nil, getF_cons, if_pos rfl] at this
    cases this
  | x :: L, [], _, _, h => by
    have := h x.n
    rw [getF_nil, getF_cons, if_pos rfl] at this
    cases this
  | x :: L, y :: M, hL, hM, h => by
    obtain ⟨l1, l2⟩ := List.pairwise_cons.1 hL
    obtain ⟨m1, m2⟩ := List.pairwise_cons.1 hM
    have nx : getF L x.n = none := getF_none.2 fun z hz e => by have := l1 z hz; rw [e, blt_irrefl] at this; cases this
    have ny : getF M y.n = none := getF_none.2 fun z hz e => by have := m1 z hz; rw [e, blt_irrefl] at this; cases this
    have hn : x.n = y.n := by
      by_cases e : x.n = y.n
      · exact e
      · exfalso
        cases hb : blt x.n y.n with
        | true =>
          have h1 := h x.n
          rw [getF_cons, if_pos rfl, getF_cons, if_neg (fun e2 => e e2.symm)] at h1
          have h2 : getF M x.n = none := getF_none.2 fun z hz e2 => by
            have := blt_trans hb (m1 z hz)
            rw [e2, blt_irrefl] at this
            cases this
          rw [h2] at h1
          cases h1
        | false =>
          have hb2 := blt_total e hb
          have h1 := h y.n
          rw [getF_cons, if_neg e, getF_cons, if_pos rfl] at h1
          have h2 : getF L y.n = none := getF_none.2 fun z hz e2 => by
            have := blt_trans hb2 (l1 z hz)
            rw [e2, blt_irrefl] at this
            cases this
          rw [h2] at h1
          cases h1
    have hd : x.d = y.d := by
      have h1 := h x.n
      rw [getF_cons, if_pos rfl, getF_cons, if_pos hn.symm] at h1
      injection h1
    have he : x = y := by cases x; cases y; simp only at hn hd; subst hn hd; rfl
    subst he
    rw [fs_ext l2 m2 (fun q => by
      have h1 := h q
      rw [getF_cons, getF_cons] at h1
      by_cases e : x.n = q
      · subst e; rw [nx, ny]
      · rw [if_neg e, if_neg e] at h1; exact h1)]
/-- some records' file, an image's -/
def FL (s k : Nat) (im ed : Option ByteArray) : Fs := (match ed with | none => [] | some e => [⟨edtS s k, e⟩]) ++ (match im with | none => [] | some i => [⟨imgS s, i⟩])
def ksG (s k : Nat) (im ed : Option ByteArray) : List Nm := (match ed with | none => [] | some _ => [.E s k]) ++ (match im with | none => [] | some _ => [.I s])
theorem blt_ei (a b c : Nat) : blt (edtS a b) (imgS c) = true := by
  unfold blt
  rw [decide_eq_true_iff, edt_list, img_list]
  show (101 : UInt8) :: _ < 105 :: _
  exact List.Lex.rel (by decide)
theorem srt_FL (s k : Nat) (im ed : Option ByteArray) : SrtF (FL s k im ed) := by
  unfold FL
  cases ed <;> cases im <;> simp [SrtF, blt_ei]
theorem names_FL (s k : Nat) (im ed : Option ByteArray) : namesF (FL s k im ed) = (ksG s k im ed).map nmS := by
  unfold FL ksG namesF
  cases ed <;> cases im <;> simp [nmS]
theorem get_FL (s k : Nat) (im ed : Option ByteArray) (q : ByteArray) : getF (FL s k im ed) q = if q = imgS s then im else if q = edtS s k then ed else none := by
  have hne : ¬ edtS s k = imgS s := edtS_img
  have hne2 : ¬ imgS s = edtS s k := fun e => hne e.symm
  unfold FL
  by_cases h1 : q = imgS s
  · subst h1
    rw [if_pos rfl]
    cases ed <;> cases im <;> simp [getF_cons, getF_nil, hne]
  · rw [if_neg h1]
    have h1' : ¬ imgS s = q := fun e => h1 e.symm
    by_cases h2 : q = edtS s k
    · subst h2
      rw [if_pos rfl]
      cases ed <;> cases im <;> simp [getF_cons, getF_nil, hne2]
    · rw [if_neg h2]
      have h2' : ¬ edtS s k = q := fun e => h2 e.symm
      cases ed <;> cases im <;> simp [getF_cons, getF_nil, h1', h2']
theorem FL_len (s k : Nat) (im ed : Option ByteArray) : (FL s k im ed).length ≤ 2 ∧ (ksG s k im ed).length ≤ 2 := by
  unfold FL ksG
  cases ed <;> cases im <;> simp
theorem ksG_ok {s k : Nat} (h : s ≤ 999999999 ∧ k ≤ 999999999) (im ed : Option ByteArray) : ∀ x ∈ ksG s k im ed, okN x := by
  unfold ksG
  cases ed <;> cases im <;> simp [okN, h.1, h.2]
theorem segK_FL {s k : Nat} {im ed : Option ByteArray} (h : im = none → s = 0) : segK (ksG s k im ed) = s := by
  unfold ksG segK
  cases ed <;> cases im <;> simp [segN, h]
  all_goals (have := h rfl; omega)
theorem nthK_FL {s k : Nat} {im ed : Option ByteArray} (h : ed = none → k = 0) : nthK s (ksG s k im ed) = k := by
  unfold ksG nthK
  cases ed <;> cases im <;> simp [nthN, h]
  all_goals (have := h rfl; omega)
theorem ksG_nodup (s k : Nat) (im ed : Option ByteArray) : (ksG s k im ed).Nodup := by
  unfold ksG
  cases ed <;> cases im <;> simp
theorem delG_FL (s k : Nat) (im ed : Option ByteArray) : delG (ksG s k im ed) s k = [] := by
  unfold ksG delG
  cases ed <;> cases im <;> simp [leftN]
theorem tot_FL (s k : Nat) (im ed : Option ByteArray) : totF (FL s k im ed) = (orE ed).size + (orE im).size := by
  unfold FL totF
  cases ed <;> cases im <;> simp [orE]
end Go.Proofs.YtlflfaldnpcjcaaGreatDoor

namespace Go.Proofs.YtlflfaldnpcjcaaGreatDoor
open Go.RowKit Go.Maps
/-- a row of texts of the opening's own -/
def RowO (w : World) (B : Nat) (ao : Option Addr) (cap : Nat) (bs : List (List UInt8)) : Prop := w.ownsRow B 9 1 (.slice ao bs.length cap) bs.length (bs.map strV)
theorem RowO.at_ {w : World} {B cap g : Nat} {ao : Option Addr} {bs : List (List UInt8)} (h : RowO w B ao cap bs) (hg : ao = some ⟨g, 0, none⟩) : B ≤ g ∧ g < w.heap.size := by
  obtain ⟨_, h⟩ := h
  rcases h with ⟨h, _⟩ | ⟨g', cap', cur, h, h2, h3, _⟩
  · injection h with h _ _
    rw [hg] at h
    cases h
  · injection h with h _ _
    rw [hg] at h
    injection h with h
    injection h with h
    subst h
    exact ⟨h2, (Array.getElem?_eq_some_iff.1 h3).1⟩
theorem RowO.keep {w w' : World} {B B' cap : Nat} {ao : Option Addr} {bs : List (List UInt8)} (h : RowO w B ao cap bs) (hB : B' ≤ B) (hk : ∀ g, B ≤ g → g < w.heap.size → w'.heap[g]? = w.heap[g]?) : RowO w' B' ao cap bs := by
  obtain ⟨h0, h⟩ := h
  refine ⟨h0, ?_⟩
  rcases h with h | ⟨g, cap', cur, h1, h2, h3, h4⟩
  · exact .inl h
  · exact .inr ⟨g, cap', cur, h1, Nat.le_trans hB h2, (hk g h2 (Array.getElem?_eq_some_iff.1 h3).1).trans h3, h4⟩
theorem RowO.text {w : World} {B cap : Nat} {ao : Option Addr} {bs : List (List UInt8)} (h : RowO w B ao cap bs) : TextRow w B ao bs := by
  obtain ⟨hl, ho⟩ := h
  rcases ho with ⟨h1, h0⟩ | ⟨g, cap', cur, h1, h2, h3, h4, h5, h6, h7⟩
  · exact fun i hi => absurd hi (by omega)
  · injection h1 with h1 _ _
    intro i hi
    refine ⟨g, h1, h2, (Array.getElem?_eq_some_iff.1 h3).1, ?_⟩
    have hi2 : i < cur.size := by omega
    have e1 : cur.toList[i]? = some (strV bs[i]) := by
      have : (cur.toList.take (bs.length * 1))[i]? = some (strV bs[i]) := by rw [h7, List.getElem?_map, List.getElem?_eq_getElem hi]; rfl
      rw [List.getElem?_take] at this
      split at this
      · exact this
      · cases this
    simp only [World.cell?, h3]
    simpa using e1
theorem all_postO {w w' : World} {l : List UInt8} {bs : List (List UInt8)} {n : Nat} {er : Int} {e : Ending} (hal : allL l = (bs, n, er)) (h : AllPost w l e w') :
    ∃ ao cp, e = .returned (.tuple #[.slice ao bs.length cp, .int .i64 n, .int .i64 er]) ∧ RowO w' w.heap.size ao cp bs ∧ Below w.heap.size w w' := by
  obtain ⟨v, he, ho, hb⟩ := h
  rw [hal] at he ho
  simp only at he ho
  have hv : ∃ ao cp, v = .slice ao bs.length cp := by
    obtain ⟨_, ho⟩ := ho
    rcases ho with ⟨h1, h0⟩ | ⟨g, cap, cur, h1, _⟩
    · exact ⟨none, 0, by rw [h1, h0]⟩
    · exact ⟨_, _, h1⟩
  obtain ⟨ao, cp, rfl⟩ := hv
  exact ⟨ao, cp, he, ho, hb⟩
/-- the files behind opening, the copy's number -/
def opL (s k : Nat) (im ed : Option ByteArray) (en : Nat) (er : Int) : Fs := if er = 0 then FL s k im ed else FL s (k + 1) im (some ((orE ed).extract 0 en))
def opK (k : Nat) (er : Int) : Nat := if er = 0 then k else k + 1
/-- what is kept lies beside the old files, and is all that is left behind the sweep -/
theorem kept_FL (s k : Nat) (im ed : Option ByteArray) (g : ByteArray) (hsk : s ≤ 999999999 ∧ k + 1 ≤ 999999999) : ∃ ks, namesF (layL (FL s k im ed) (edtS s (k + 1)) g) = ks.map nmS ∧ ks.length ≤ 5 ∧ (layL (FL s k im ed) (edtS s (k + 1)) g).length ≤ 5 ∧ (∀ x ∈ ks, okN x) ∧ ks.Nodup ∧ held (layL (FL s k im ed) (edtS s (k + 1)) g) (delG ks s (k + 1)) = FL s (k + 1) im (some g) := by
  have ht : getF (FL s k im ed) tmpS = none := by rw [get_FL, if_neg (fun e => img_ne_tmp s e.symm), if_neg (fun e => edt_ne_tmp s k e.symm)]
  have hgL := fun q => get_layL (FL s k im ed) (edtS s (k + 1)) g q ht (edt_ne_tmp _ _)
  have hsL : SrtF (layL (FL s k im ed) (edtS s (k + 1)) g) := srt_held (srt_held (srt_FL s k im ed) _) _
  have hlen : (layL (FL s k im ed) (edtS s (k + 1)) g).length ≤ 4 := by
    have h1 := len_held (held (FL s k im ed) [.app tmpS g]) [.ren tmpS (edtS s (k + 1))]
    have h2 := len_held (FL s k im ed) [.app tmpS g]
    have h3 := (FL_len s k im ed).1
    simp only [List.length_cons, List.length_nil] at h1 h2
    show (held (held (FL s k im ed) [.app tmpS g]) [.ren tmpS (edtS s (k + 1))]).length ≤ 4
    omega
  obtain ⟨L1, hL1⟩ : ∃ L1, L1 = layL (FL s k im ed) (edtS s (k + 1)) g := ⟨_, rfl⟩
  rw [← hL1] at hgL hsL hlen ⊢
  obtain ⟨cl, hcl⟩ : ∃ cl : ByteArray → Nm, cl = fun q => if q = edtS s k then .E s k else if q = edtS s (k + 1) then .E s (k + 1) else .I s := ⟨_, rfl⟩
  have hmem : ∀ x ∈ L1, x.n = edtS s k ∨ x.n = edtS s (k + 1) ∨ x.n = imgS s := fun x hx => by
    have h1 := mem_getF hsL hx
    rw [hgL, get_FL] at h1
    by_cases e1 : x.n = tmpS
    · rw [if_pos e1] at h1; cases h1
    · rw [if_neg e1] at h1
      by_cases e2 : x.n = edtS s (k + 1)
      · exact .inr (.inl e2)
      · rw [if_neg e2] at h1
        by_cases e3 : x.n = imgS s
        · exact .inr (.inr e3)
        · rw [if_neg e3] at h1
          by_cases e4 : x.n = edtS s k
          · exact .inl e4
          · rw [if_neg e4] at h1; cases h1
  have hne : ¬ edtS s k = edtS s (k + 1) := fun e => by have := (edtS_inj e).2; omega
  have cl1 : cl (edtS s k) = .E s k := by rw [hcl]; exact if_pos rfl
  have cl2 : cl (edtS s (k + 1)) = .E s (k + 1) := by
    rw [hcl]
    show (if edtS s (k + 1) = edtS s k then Nm.E s k else if edtS s (k + 1) = edtS s (k + 1) then Nm.E s (k + 1) else Nm.I s) = _
    rw [if_neg (fun e => hne (Eq.symm e)), if_pos rfl]
  have cl3 : cl (imgS s) = .I s := by
    rw [hcl]
    show (if imgS s = edtS s k then Nm.E s k else if imgS s = edtS s (k + 1) then Nm.E s (k + 1) else Nm.I s) = _
    rw [if_neg (fun e => edtS_img (Eq.symm e)), if_neg (fun e => edtS_img (Eq.symm e))]
  have hclS : ∀ x ∈ L1, nmS (cl x.n) = x.n := fun x hx => by
    rcases hmem x hx with e | e | e
    · rw [e, cl1]; rfl
    · rw [e, cl2]; rfl
    · rw [e, cl3]; rfl
  have hnm : namesF L1 = (L1.map fun x => cl x.n).map nmS := by
    rw [List.map_map]
    exact List.map_congr_left fun x hx => (hclS x hx).symm
  have hnd : (L1.map fun x => cl x.n).Nodup := by
    have h1 : (namesF L1).Nodup := by
      refine List.Pairwise.imp ?_ (names_rise hsL)
      intro a b h e
      rw [e, blt_irrefl] at h
      cases h
    rw [hnm] at h1
    exact (List.pairwise_map.1 h1).imp (fun h e => h (by rw [e]))
  have hok : ∀ x ∈ L1.map fun x => cl x.n, okN x := fun x hx => by
    obtain ⟨y, hy, rfl⟩ := List.mem_map.1 hx
    rw [hcl]
    show okN (if _ then _ else if _ then _ else _)
    split
    · exact ⟨hsk.1, by omega⟩
    · split
      · exact hsk
      · exact hsk.1
  refine ⟨L1.map fun x => cl x.n, hnm, by rw [List.length_map]; omega, by omega, hok, hnd, ?_⟩
  refine fs_ext (srt_held hsL _) (srt_FL _ _ _ _) (fun q => ?_)
  rw [get_delsG, get_FL, hgL, get_FL]
  by_cases h1 : ∃ x ∈ L1.map fun x => cl x.n, leftN s (k + 1) x = true ∧ nmS x = q
  · rw [if_pos h1]
    obtain ⟨x, hx, hl, rfl⟩ := h1
    obtain ⟨y, hy, rfl⟩ := List.mem_map.1 hx
    rcases hmem y hy with e | e | e
    · have : nmS (cl y.n) = edtS s k := by rw [hclS y hy, e]
      rw [this, if_neg edtS_img, if_neg hne]
    · exfalso
      have h2 : cl y.n = .E s (k + 1) := nmS_inj (by rw [hclS y hy, e]; rfl)
      rw [h2] at hl
      simp [leftN] at hl
    · exfalso
      have h2 : cl y.n = .I s := nmS_inj (by rw [hclS y hy, e]; rfl)
      rw [h2] at hl
      simp [leftN] at hl
  · rw [if_neg h1]
    by_cases e1 : q = tmpS
    · rw [if_pos e1, e1, if_neg (fun e => img_ne_tmp s e.symm), if_neg (fun e => edt_ne_tmp s (k + 1) e.symm)]
    · rw [if_neg e1]
      by_cases e2 : q = edtS s (k + 1)
      · rw [if_pos e2, e2, if_neg edtS_img, if_pos rfl]
      · rw [if_neg e2, if_neg e2]
        by_cases e3 : q = imgS s
        · rw [if_pos e3, if_pos e3]
        · rw [if_neg e3, if_neg e3]
          by_cases e4 : q = edtS s k
          · rw [if_pos e4]
            cases hed : ed with
            | none => rfl
            | some x =>
              exfalso
              have h2 : getF L1 q = some x := by rw [hgL, get_FL, if_neg e1, if_neg e2, if_neg e3, if_pos e4, hed]
              have h3 := getF_mem h2
              refine h1 ⟨.E s k, List.mem_map.2 ⟨_, h3, ?_⟩, by simp [leftN], e4.symm⟩
              rw [hcl]
              show (if q = edtS s k then Nm.E s k else _) = _
              rw [if_pos e4]
          · rw [if_neg e4]
theorem JS.setqG {w0 w : World} {j p q n i : Nat} {S : Nat → Prop} {cp seg nth cnt lst : Int} {L : Fs} {cs : List Chg} {v : Value} (h : JS w0 w j p S cp n L cs seg nth cnt lst) (hq : ¬ S q) (hj : ¬ q = j) (hlo : w0.heap.size ≤ q) : JS w0 (w.setCell ⟨q, i, none⟩ v) j p S cp n L cs seg nth cnt lst :=
  ⟨⟨h.dk.bel.setCell (p := ⟨q, i, none⟩) hlo _, h.dk.m.tch (S' := fun b => b = q) ⟨rfl, rfl, rfl, by simp [World.setCell], fun b _ hb => Below.heap_setCell _ _ _ _ hb⟩ (fun b hb e => hq (e ▸ hb))⟩, h.jt.same (Below.heap_setCell _ _ _ _ (fun e => hj e.symm)), h.no, h.lo⟩
/-- ahead of the sweep -/
def MidG (w0 w5 wx : World) (j p : Nat) (S : Nat → Prop) (cp : Int) (n s k : Nat) (im ed : Option ByteArray) (en : Nat) (er : Int) : Prop :=
  ∃ S1 n1 L1 ks c, n1 ≤ n + 5 ∧ JS w0 wx j p S1 cp n1 L1 [] s (c : Nat) 0 0 ∧ JQ w5 wx j S S1 ∧ namesF L1 = ks.map nmS ∧ ks.length ≤ 5 ∧ L1.length ≤ 5 ∧ (∀ x ∈ ks, okN x) ∧ ks.Nodup ∧ (s ≤ 999999999 ∧ c ≤ 999999999) ∧ totF L1 ≤ 140737488355328 ∧ held L1 (delG ks s c) = opL s k im ed en er ∧ c = opK k er
set_option maxRecDepth 100000 in
set_option maxHeartbeats 4000000 in
theorem jopen_G {w0 w : World} {p n : Nat} {S : Nat → Prop} {cp : Int} (s k : Nat) (im ed : Option ByteArray) (bi : ByteArray) (bs : List (List UInt8)) (en : Nat) (er : Int) (h : Hid (DK w0 w p S cp n (FL s k im ed) [])) (hk : (s ≤ 999999999 ∧ k + 1 ≤ 999999999) ∧ (im = none → s = 0) ∧ (ed = none → k = 0) ∧ imR im = (bi, 0) ∧ (orE im).size ≤ 1099511627776 ∧ ∀ w', Below w0.heap.size w0 w' → Pw w') (hn : n ≤ 1099511627000) (hsz : (orE ed).size ≤ 1099511627776) (hcp : 0 ≤ cp ∧ cp ≤ 9223372036854775807) (hh : ∀ w', Below w0.heap.size w0 w' → Half w') (hal : allL (orE ed).data.toList = (bs, en, er)) (her : er = 0 ∨ (er = 23 ∧ en ≤ (orE ed).size ∧ (en : Int) ≤ cp - ((orE ed).size + (orE im).size : Nat))) :
    Calls Tryz.prog 7 #[.pointer (some ⟨p, 0, none⟩)] w fun e w' => ∃ j ao cap S' n', e = .returned (.tuple #[.pointer (some ⟨j, 0, none⟩), .agg #[.string bi, .slice ao bs.length cap], .int .i64 0]) ∧ n' ≤ n + 20 ∧ Hid (JS w0 w' j p S' cp n' (opL s k im ed en er) [] s (opK k er) bs.length bs.length ∧ RowO w' w.heap.size ao cap bs ∧ JP w w' S S' ∧ ∀ g, ao = some ⟨g, 0, none⟩ → ¬ S' g) := by
  have hbl : Below w.heap.size w (w.alloc (.cells #[.string ⟨#[]⟩, .slice none 0 0] 29)) := (Below.refl _ w).alloc (Nat.le_refl _) _
  obtain ⟨q, hq⟩ : ∃ q, q = w.heap.size := ⟨_, rfl⟩
  obtain ⟨wa, hwa⟩ : ∃ wa, wa = w.alloc (.cells #[.string ⟨#[]⟩, .slice none 0 0] 29) := ⟨_, rfl⟩
  have hx : wa.heap[q]? = some (.cells #[.string ⟨#[]⟩, .slice none 0 0] 29 (0, 0)) := by rw [hwa, hq]; exact heap_alloc_new w _
  rw [← hwa] at hbl
  have hsa : wa.heap.size = q + 1 := by rw [hwa, hq]; simp
  have HF := Lib.hid (And.intro hk (And.intro hn (And.intro hsz (And.intro hcp (And.intro hh (And.intro hal her))))))
  clear hk hn hsz hcp hh hal her
  have hnw := newest_G (ksG s k im ed) (Lib.hid (h.out.below hbl)) (by have := HF.out.2.1; omega) (by have := (FL_len s k im ed).2; omega) (names_FL s k im ed) (ksG_ok ⟨HF.out.1.1.1, by have := HF.out.1.1.2; omega⟩ im ed) HF.out.1.2.2.2.2.2
  rw [segK_FL HF.out.1.2.1, nthK_FL HF.out.1.2.2.1] at hnw
  go_enter Tryz.func7, Tryz.ntmps7
  go_wp2_with (fail)
  rw [← hwa, ← hq]
  clear hwa
  refine hnw.mono ?_
  rintro e w1 ⟨rfl, h1⟩
  clear hnw
  have HS1 : Hid (JS w0 w1 wa.heap.size p S cp n (FL s k im ed) [] s k 0 0) := Lib.hid ⟨(h.out.below hbl).below h1.out.2, h1.out.1, fun hs => by have := (h.out.m.own _ hs).2; omega, by have := h.out.bel.size; omega⟩
  have HX1 : Hid (w1.heap[q]? = some (.cells #[.string ⟨#[]⟩, .slice none 0 0] 29 (0, 0)) ∧ Below w.heap.size w w1) := Lib.hid ⟨(h1.out.2.block q (by omega)).trans hx, hbl.trans (h1.out.2.mono (by omega))⟩
  obtain ⟨j, hj⟩ : ∃ j, j = wa.heap.size := ⟨_, rfl⟩
  rw [← hj] at HS1 ⊢
  have HJ := Lib.hid (show j = q + 1 by omega)
  have HQ := Lib.hid hq
  clear h1 hbl hx hj hsa hq
  go_wp2_with (fail)
  have hri := readImage_G im HS1 HF.out.1.1.1 HF.out.1.2.2.2.2.2 HF.out.2.2.2.2.1 (by rw [held_nil, get_FL, if_pos rfl]) (fun f hf => by have := HF.out.1.2.2.2.2.1; rw [hf] at this; exact this)
  rw [HF.out.1.2.2.2.1] at hri
  refine hri.mono ?_
  rintro e w2 ⟨rfl, hb2⟩
  have H2 := Lib.hid (And.intro (HS1.out.below hb2) (And.intro ((hb2.block q (Array.getElem?_eq_some_iff.1 HX1.out.1).1).trans HX1.out.1) (HX1.out.2.trans (hb2.mono HX1.out.2.size))))
  clear hb2 HS1 HX1 hri
  go_wp2_with (fail)
  have hed := jedits_g j p s k 0 0 w2 HF.out.1.1.1 (by have := HF.out.1.1.2; omega) (HF.out.1.2.2.2.2.2 w2 H2.out.1.dk.bel) (Lib.hid H2.out.1.jt)
  refine hed.mono ?_
  rintro e w3 ⟨rfl, hb3⟩
  clear hed
  have H3 := Lib.hid (And.intro (H2.out.1.below hb3) (And.intro ((hb3.block q (Array.getElem?_eq_some_iff.1 H2.out.2.1).1).trans H2.out.2.1) (H2.out.2.2.trans (hb3.mono H2.out.2.2.size))))
  clear hb3 H2
  have hrd := read_K (edtS s k) (Lib.hid H3.out.1.dk) (Nat.le_trans (nm_size (.E s k) ⟨HF.out.1.1.1, by have := HF.out.1.1.2; omega⟩) (by unfold maxLen; decide))
  obtain ⟨Y, hY⟩ : ∃ Y, Y = rdE (FL s k im ed) (edtS s k) := ⟨_, rfl⟩
  rw [held_nil, show rdS (FL s k im ed) (edtS s k) = orE ed by unfold rdS; rw [get_FL, if_neg edtS_img, if_pos rfl], ← hY] at hrd
  clear hY
  go_wp2_with (fail)
  refine hrd.mono ?_
  rintro e w4 ⟨rfl, rfl⟩
  clear hrd
  go_wp2_with (fail)
  refine (all_any (orE ed) w3 HF.out.2.2.1 (HF.out.2.2.2.2.1 _ H3.out.1.dk.bel)).mono ?_
  intro e w5 hp5
  obtain ⟨ao, cap, rfl, hrow, hb5⟩ := all_postO HF.out.2.2.2.2.2.1 hp5
  have H5 := Lib.hid (And.intro (H3.out.1.below hb5) (And.intro ((hb5.block q (Array.getElem?_eq_some_iff.1 H3.out.2.1).1).trans H3.out.2.1) (And.intro (H3.out.2.2.trans (hb5.mono H3.out.2.2.size)) (And.intro hrow (And.intro H3.out.2.2.size H3.out.1.jt.lt)))))
  clear hrow hb5 hp5 H3
  go_upto_if 40 with (fail)
  go_cut [7] (fun s7 wx => s7 = .int .i64 0 ∧ Hid (MidG w0 w5 wx j p S cp n s k im ed en er))
  case first =>
    rcases HF.out.2.2.2.2.2.2 with rfl | ⟨rfl, hen, hroom⟩
    · go_wp2_with (fail)
      go_meet
      refine ⟨rfl, Lib.hid ⟨S, n, FL s k im ed, ksG s k im ed, k, by omega, H5.out.1, ⟨⟨rfl, rfl, rfl, Nat.le_refl _, fun _ _ _ => rfl⟩, fun _ h => .inl h⟩, names_FL s k im ed, ?_, ?_, ?_, ksG_nodup s k im ed, ⟨HF.out.1.1.1, by have := HF.out.1.1.2; omega⟩, ?_, ?_, ?_⟩⟩
      · have := (FL_len s k im ed).2; omega
      · have := (FL_len s k im ed).1; omega
      · exact ksG_ok ⟨HF.out.1.1.1, by have := HF.out.1.1.2; omega⟩ im ed
      · rw [tot_FL]; have h1 := HF.out.2.2.1; have h2 := HF.out.1.2.2.2.2.1; omega
      · rw [delG_FL, held_nil]; unfold opL; rw [if_pos rfl]
      · unfold opK; rw [if_pos rfl]
    · have hsz := HF.out.2.2.1
      have hg : ((orE ed).extract 0 en).size = en := by simp; omega
      have hke := keep_G s k ((orE ed).extract 0 en) (Lib.hid H5.out.1) HF.out.1.1 HF.out.1.2.2.2.2.2 HF.out.2.2.2.1 (by have := HF.out.2.1; omega) (by rw [tot_FL, hg]; have h2 := HF.out.1.2.2.2.2.1; omega) (by rw [tot_FL, hg]; exact hroom) (by rw [get_FL, if_neg (fun e => img_ne_tmp s e.symm), if_neg (fun e => edt_ne_tmp s k e.symm)]) (by rw [get_FL, if_neg edtS_img, if_neg (fun e => by have := (edtS_inj e).2; omega)])
      have HK := Lib.hid (And.intro hke (And.intro hg hsz))
      have hen0 : (0 : Int) ≤ (en : Int) := by omega
      have hen1 : (en : Int) ≤ ((orE ed).size : Int) := by omega
      clear hke hg hsz hroom
      go_wp2_with (fail)
      refine HK.out.1.mono ?_
      rintro e w6 ⟨rfl, S1, HL⟩
      go_wp2_with (fail)
      go_meet
      have e23 : ¬ (23 : Int) = 0 := by decide
      obtain ⟨ks, k1, k2, k3, k4, k5, k6⟩ := kept_FL s k im ed ((orE ed).extract 0 en) HF.out.1.1
      refine ⟨rfl, Lib.hid ⟨S1, n + 5, layL (FL s k im ed) (edtS s (k + 1)) ((orE ed).extract 0 en), ks, k + 1, Nat.le_refl _, HL.out.1, HL.out.2, k1, k2, k3, k4, k5, HF.out.1.1, ?_, ?_, ?_⟩⟩
      · have h1 := tot_lay (FL s k im ed) (edtS s (k + 1)) ((orE ed).extract 0 en) (srt_FL s k im ed) (by rw [get_FL, if_neg (fun e => img_ne_tmp s e.symm), if_neg (fun e => edt_ne_tmp s k e.symm)])
        rw [tot_FL, HK.out.2.1] at h1
        have h2 := HF.out.1.2.2.2.2.1
        have h3 := HK.out.2.2
        omega
      · rw [k6]; unfold opL; rw [if_neg e23]
      · unfold opK; rw [if_neg e23]
  case rest =>
    obtain ⟨rfl, HM⟩ := hcut
    obtain ⟨S1, n1, L1, ks, c, m1, m2, m3, m4, m5, m6, m7, m8, m9, m10, m11, m12⟩ := HM.out
    have hsw := sweep_G ks s c (Lib.hid m2) (by have := HF.out.2.1; omega) (by omega) (by omega) m4 m7 m8 m9 HF.out.1.2.2.2.2.2 m10
    rw [m11, m12] at hsw
    have hSq : ¬ (S q ∨ q = j) := fun e => e.elim (fun e => by have := (h.out.m.own _ e).2; have := HQ.out; omega) (fun e => by have := HJ.out; omega)
    have hqc := (m3.t.block q (Array.getElem?_eq_some_iff.1 H5.out.2.1).1 hSq).trans H5.out.2.1
    have hSlt : ∀ b, S b → b < w.heap.size := fun b hb => (h.out.m.own _ hb).2
    have hS1q : ¬ S1 q := fun e => (m3.s q e).elim (fun e => hSq (.inl e)) (fun e => by have h1 := (Array.getElem?_eq_some_iff.1 H5.out.2.1).1; omega)
    have HC : Hid (JQ w5 wc j S S1 ∧ wc.heap[q]? = some (.cells #[.string ⟨#[]⟩, .slice none 0 0] 29 (0, 0)) ∧ ¬ S1 q ∧ n1 ≤ n + 5 ∧ ks.length ≤ 5) := Lib.hid ⟨m3, hqc, hS1q, m1, m5⟩
    clear HM m1 m2 m3 m4 m5 m6 m7 m8 m9 m10 m11 m12 hSq hqc hS1q
    go_wp2_with (fail)
    refine hsw.mono ?_
    rintro e w7 ⟨rfl, S2, n2, hn2, HW⟩
    clear hsw
    have hq7 : w7.heap[q]? = some (.cells #[.string ⟨#[]⟩, .slice none 0 0] 29 (0, 0)) := (HW.out.2.t.block q (Array.getElem?_eq_some_iff.1 HC.out.2.1).1 HC.out.2.2.1).trans HC.out.2.1
    have hqj : ¬ q = j := by have := HJ.out; omega
    have hjq : ¬ j = q := fun e => hqj e.symm
    have HN2 := Lib.hid hn2
    have HQ7 := Lib.hid hq7
    have c3 := HW.out.1.jt.c3
    have c4 := HW.out.1.jt.c4
    have f3 := HW.out.1.jt.fr 3
    have f4 := HW.out.1.jt.fr 4
    have x0 : w7.cell? ⟨q, 0, none⟩ = some (.string ⟨#[]⟩) := by simp [World.cell?, hq7]
    have x1 : w7.cell? ⟨q, 1, none⟩ = some (.slice none 0 0) := by simp [World.cell?, hq7]
    have g0 : w7.frozen? ⟨q, 0, none⟩ = false := by simp [World.frozen?, hq7]
    have g1 : w7.frozen? ⟨q, 1, none⟩ = false := by simp [World.frozen?, hq7]
    clear hn2 hq7
    go_wp2_with (fail)
    have hS2q : ¬ S2 q := fun e => (HW.out.2.s q e).elim HC.out.2.2.1 (fun e => by have h1 := (Array.getElem?_eq_some_iff.1 HC.out.2.1).1; omega)
    have hJ1 : JS w0 ((w7.setCell ⟨j, 3, none⟩ (.int .i64 (bs.length : Int))).setCell ⟨j, 4, none⟩ (.int .i64 (bs.length : Int))) j p S2 cp n2 (opL s k im ed en er) [] s (opK k er) bs.length bs.length :=
      (HW.out.1.setj (jat_cnt HW.out.1.jt)).setj (jat_lst (jat_cnt HW.out.1.jt))
    have hwz : ∀ b, b ≠ j → b ≠ q → ((((w7.setCell ⟨j, 3, none⟩ (.int .i64 (bs.length : Int))).setCell ⟨j, 4, none⟩ (.int .i64 (bs.length : Int))).setCell ⟨q, 0, none⟩ (.string bi)).setCell ⟨q, 1, none⟩ (.slice ao bs.length cap)).heap[b]? = w7.heap[b]? := fun b h1 h2 => (Below.heap_setCell _ _ _ _ h2).trans ((Below.heap_setCell _ _ _ _ h2).trans ((Below.heap_setCell _ _ _ _ h1).trans (Below.heap_setCell _ _ _ _ h1)))
    have hsz : ((((w7.setCell ⟨j, 3, none⟩ (.int .i64 (bs.length : Int))).setCell ⟨j, 4, none⟩ (.int .i64 (bs.length : Int))).setCell ⟨q, 0, none⟩ (.string bi)).setCell ⟨q, 1, none⟩ (.slice ao bs.length cap)).heap.size = w7.heap.size := by simp [World.setCell]
    have hS1 : ∀ b, S1 b → S b ∨ w5.heap.size ≤ b := HC.out.1.s
    have hlo : w0.heap.size ≤ q := by have := h.out.bel.size; have := HQ.out; omega
    have hs5 := H5.out.2.2.1.size
    have hsc := HC.out.1.t.size
    have hs7 := HW.out.2.t.size
    refine bodyPost_ret (v := .tuple #[.pointer (some ⟨j, 0, none⟩), .agg #[.string bi, .slice ao bs.length cap], .int .i64 0]) ?_ rfl ⟨j, ao, cap, S2, n2, rfl, by have := HN2.out; have := HC.out.2.2.2; omega, Lib.hid ⟨(hJ1.setqG hS2q hqj hlo).setqG hS2q hqj hlo, ?_, ⟨⟨?_, ?_, ?_, ?_, ?_⟩, ?_⟩, ?_⟩⟩
    · have y1 : (((w7.setCell ⟨j, 3, none⟩ (.int .i64 (bs.length : Int))).setCell ⟨j, 4, none⟩ (.int .i64 (bs.length : Int))).setCell ⟨q, 0, none⟩ (.string bi)).cell? ⟨q, 1, none⟩ = some (.slice none 0 0) := by
        rw [World.cell?_setCell_other _ _ _ _ (by simp), World.cell?_setCell_other _ _ _ _ (by simp [hqj]), World.cell?_setCell_other _ _ _ _ (by simp [hqj])]
        exact x1
      have y0 : ((w7.setCell ⟨j, 3, none⟩ (.int .i64 (bs.length : Int))).setCell ⟨j, 4, none⟩ (.int .i64 (bs.length : Int))).cell? ⟨q, 0, none⟩ = some (.string ⟨#[]⟩) := by
        rw [World.cell?_setCell_other _ _ _ _ (by simp [hqj]), World.cell?_setCell_other _ _ _ _ (by simp [hqj])]
        exact x0
      have z1 := World.cell?_setCell_same _ _ (.slice ao bs.length cap) y1
      have z0 := (World.cell?_setCell_other (((w7.setCell ⟨j, 3, none⟩ (.int .i64 (bs.length : Int))).setCell ⟨j, 4, none⟩ (.int .i64 (bs.length : Int))).setCell ⟨q, 0, none⟩ (.string bi)) ⟨q, 1, none⟩ ⟨q, 0, none⟩ (.slice ao bs.length cap) (by simp)).trans (World.cell?_setCell_same _ _ (.string bi) y0)
      clear hwz hsz
      generalize ((((w7.setCell ⟨j, 3, none⟩ (.int .i64 (bs.length : Int))).setCell ⟨j, 4, none⟩ (.int .i64 (bs.length : Int))).setCell ⟨q, 0, none⟩ (.string bi)).setCell ⟨q, 1, none⟩ (.slice ao bs.length cap)) = wz at z0 z1 ⊢
      simp [results, Tryz.results7, go_sem, z0, z1]
    · refine H5.out.2.2.2.1.keep H5.out.2.2.2.2.1 (fun g h1 h2 => ?_)
      have hjg := H5.out.2.2.2.2.2
      have hSg : ¬ S g := fun e => by have := hSlt g e; have := H5.out.2.2.2.2.1; omega
      exact (hwz g (by omega) (by have := HJ.out; omega)).trans ((HW.out.2.t.block g (by omega) (fun e => (hS1 g e).elim hSg (by omega))).trans (HC.out.1.t.block g h2 (fun e => e.elim hSg (by omega))))
    · exact HW.out.2.t.os.trans (HC.out.1.t.os.trans H5.out.2.2.1.os)
    · exact HW.out.2.t.tape.trans (HC.out.1.t.tape.trans H5.out.2.2.1.tape)
    · exact HW.out.2.t.output.trans (HC.out.1.t.output.trans H5.out.2.2.1.output)
    · rw [hsz]; omega
    · intro b hb hn
      have hbj : b ≠ j := by have := HJ.out; have := HQ.out; omega
      have hbq : b ≠ q := by have := HQ.out; omega
      exact (hwz b hbj hbq).trans ((HW.out.2.t.block b (by omega) (fun e => (hS1 b e).elim hn (by omega))).trans ((HC.out.1.t.block b (by omega) (fun e => e.elim hn hbj)).trans (H5.out.2.2.1.block b hb)))
    · intro b hb
      rcases HW.out.2.s b hb with e | e
      · rcases hS1 b e with e | e
        · exact .inl e
        · exact .inr (by omega)
      · exact .inr (by omega)
    · intro g hg hs
      obtain ⟨h2, h3⟩ := H5.out.2.2.2.1.at_ hg
      have hSg : ¬ S g := fun e => by have := hSlt g e; have := H5.out.2.2.2.2.1; omega
      rcases HW.out.2.s g hs with e | e
      · exact (hS1 g e).elim hSg (by omega)
      · omega
end Go.Proofs.YtlflfaldnpcjcaaGreatDoor

namespace Go.Proofs.YtlflfaldnpcjcaaGreatDoor
open Go.RowKit Go.Maps
/-- the slice value holds the texts, all of them below B -/
def Texts (w : World) (B : Nat) (A : Option Addr) (bs : List (List UInt8)) : Prop :=
  ∀ i, (h : i < bs.length) → ∃ b off, A = some ⟨b, off, none⟩ ∧ b < B ∧ w.cell? ⟨b, off + i, none⟩ = some (strV bs[i])
theorem Texts.below {w w' : World} {B : Nat} {A : Option Addr} {bs : List (List UInt8)} (h : Texts w B A bs) (hb : Below B w w') : Texts w' B A bs := fun i hi => by
  obtain ⟨b, off, e, hB, hc⟩ := h i hi
  exact ⟨b, off, e, hB, (hb.cell (p := ⟨b, _, none⟩) hB).trans hc⟩
def totL : List (List UInt8) → Nat
  | [] => 0
  | b :: bs => b.length + 1 + totL bs
theorem stream_len (bs : List (List UInt8)) : (stream bs).length ≤ 12 * totL bs := by
  induction bs with
  | nil => simp [stream]
  | cons b bs ih => simp only [stream, List.length_append, frameL_length, totL]; omega
theorem len_le_tot (bs : List (List UInt8)) : bs.length ≤ totL bs := by
  induction bs with
  | nil => simp
  | cons b bs ih => simp only [List.length_cons, totL]; omega
theorem mem_le_tot {bs : List (List UInt8)} {b : List UInt8} (h : b ∈ bs) : b.length ≤ totL bs := by
  induction bs with
  | nil => cases h
  | cons x bs ih =>
    simp only [totL]
    rcases List.mem_cons.1 h with rfl | h
    · omega
    · have := ih h; omega
theorem small_of {bs : List (List UInt8)} (h : totL bs ≤ 1048576) : Small bs := fun _ hb => Nat.le_trans (mem_le_tot hb) h
/-- where the first n frames end -/
def endAt (bs : List (List UInt8)) (n : Nat) : Nat := (stream (bs.take n)).length
theorem endAt_succ {bs : List (List UInt8)} {n : Nat} (h : n < bs.length) : endAt bs (n + 1) = endAt bs n + (bs[n].length + 12) := by
  unfold endAt
  rw [List.take_succ_eq_append_getElem h, stream_append, List.length_append]
  simp [stream, frameL_length]
theorem endAt_all (bs : List (List UInt8)) : endAt bs bs.length = (stream bs).length := by unfold endAt; rw [List.take_length]
theorem stream_parts {bs : List (List UInt8)} {n : Nat} (h : n < bs.length) : stream bs = stream (bs.take n) ++ (frameL bs[n] ++ stream (bs.drop (n + 1))) := by
  have e : bs = bs.take n ++ bs[n] :: bs.drop (n + 1) := by
    rw [← List.drop_eq_getElem_cons h, List.take_append_drop]
  conv => lhs; rw [e]
  rw [stream_append]
  rfl
theorem small_take {bs : List (List UInt8)} (hb : Small bs) (n : Nat) : Small (bs.take n) := fun x hx => hb x (List.mem_of_mem_take hx)
theorem cut_read {bs : List (List UInt8)} (hb : Small bs) {n cut : Nat} (h : n < bs.length) (h1 : endAt bs n ≤ cut) (h2 : cut < endAt bs (n + 1)) :
    allL ((stream bs).take cut) = (bs.take n, endAt bs n, if endAt bs n = cut then 0 else 23) := by
  rw [endAt_succ h] at h2
  have e : (stream bs).take cut = stream (bs.take n) ++ (frameL bs[n]).take (cut - endAt bs n) := by
    rw [stream_parts h, List.take_append, List.take_of_length_le (by exact h1)]
    congr 1
    show List.take (cut - endAt bs n) _ = _
    rw [List.take_append, frameL_length, show cut - endAt bs n - (bs[n].length + 12) = 0 by omega, List.take_zero, List.append_nil]
  rw [e, all_stream _ (small_take hb n)]
  by_cases hc : endAt bs n = cut
  · rw [if_pos hc, show cut - endAt bs n = 0 by omega, List.take_zero, all_nil]
    simp only [List.append_nil, Nat.add_zero]
    rfl
  · rw [if_neg hc, all_torn (hb bs[n] (List.getElem_mem h)) (n := cut - endAt bs n) (by omega) (by omega) rfl]
    simp only [List.append_nil, Nat.add_zero]
    rfl
theorem take_end (bs : List (List UInt8)) (m : Nat) : (stream bs).take (endAt bs m) = stream (bs.take m) := by
  have e : stream bs = stream (bs.take m) ++ stream (bs.drop m) := by rw [← stream_append, List.take_append_drop]
  unfold endAt
  rw [e, List.take_append, List.take_length, Nat.sub_self, List.take_zero, List.append_nil]
theorem endAt_le (bs : List (List UInt8)) (m : Nat) : endAt bs m ≤ (stream bs).length := by
  have h := congrArg List.length (take_end bs m)
  rw [List.length_take] at h
  show (stream (bs.take m)).length ≤ _
  omega
theorem endAt_zero (bs : List (List UInt8)) : endAt bs 0 = 0 := rfl
theorem endAt_pos {bs : List (List UInt8)} {m : Nat} (h : m < bs.length) : 0 < endAt bs (m + 1) := by rw [endAt_succ h]; omega
/-- a file of a beginning of the records' bytes -/
def bytC (bs : List (List UInt8)) (cut : Nat) : ByteArray := ⟨((stream bs).take cut).toArray⟩
def fileC (bs : List (List UInt8)) (cut : Nat) : Option (Nat × ByteArray) := if cut = 0 then none else some (0, bytC bs cut)
theorem bytC_list (bs : List (List UInt8)) (cut : Nat) : (bytC bs cut).data.toList = (stream bs).take cut := by simp [bytC]
theorem bytC_zero (bs : List (List UInt8)) : bytC bs 0 = ⟨#[]⟩ := by simp [bytC]
theorem byt_fileC (bs : List (List UInt8)) (cut : Nat) : bytO (fileC bs cut) = bytC bs cut := by
  unfold fileC
  by_cases h : cut = 0
  · rw [if_pos h, h, bytC_zero]; rfl
  · rw [if_neg h]; rfl
theorem nth_fileC (bs : List (List UInt8)) (cut : Nat) : nthO (fileC bs cut) = 0 := by
  unfold fileC
  by_cases h : cut = 0
  · rw [if_pos h]; rfl
  · rw [if_neg h]; rfl
theorem bytC_size (bs : List (List UInt8)) (cut : Nat) : (bytC bs cut).size ≤ (stream bs).length := by
  show ((stream bs).take cut).toArray.size ≤ _
  rw [List.size_toArray, List.length_take]
  omega
theorem app_fileC {bs : List (List UInt8)} {m t : Nat} (h : m < bs.length) (ht : t ≤ bs[m].length + 12) (h0 : 0 < t) (d : ByteArray) (hd : d.data.toList = (frameL bs[m]).take t) :
    held (oneL (fileC bs (endAt bs m))) [.app (edN 0) d] = oneL (fileC bs (endAt bs m + t)) := by
  rw [app_one _ 0 d (fun _ => nth_fileC _ _), byt_fileC]
  have hne : ¬ endAt bs m + t = 0 := by omega
  have e : bytC bs (endAt bs m) ++ d = bytC bs (endAt bs m + t) := by
    apply ByteArray.ext
    apply Array.toList_inj.1
    rw [ByteArray.data_append, Array.toList_append, bytC_list, bytC_list, hd, take_end]
    conv => rhs; rw [stream_parts h]
    rw [List.take_append (l₁ := stream (bs.take m)), List.take_of_length_le (l := stream (bs.take m)) (by show (stream (bs.take m)).length ≤ endAt bs m + t; unfold endAt; omega), show endAt bs m + t - (stream (bs.take m)).length = t by unfold endAt; omega, List.take_append, frameL_length, show t - (bs[m].length + 12) = 0 by omega, List.take_zero, List.append_nil]
  rw [e]
  unfold fileC
  rw [if_neg hne]
/-- what is found of it -/
theorem find_fileC {bs : List (List UInt8)} (hb : Small bs) {n cut : Nat} (hn : n ≤ bs.length) (h1 : endAt bs n ≤ cut) (h2 : cut = endAt bs n ∨ (∃ h : n < bs.length, cut ≤ endAt bs (n + 1))) :
    ∃ m er, m ≤ bs.length ∧ allL ((stream bs).take cut) = (bs.take m, endAt bs m, er) ∧ ((er = 0 ∧ cut = endAt bs m) ∨ (er = 23 ∧ endAt bs m < cut)) := by
  have whole : ∀ m, m ≤ bs.length → cut = endAt bs m → ∃ m er, m ≤ bs.length ∧ allL ((stream bs).take cut) = (bs.take m, endAt bs m, er) ∧ ((er = 0 ∧ cut = endAt bs m) ∨ (er = 23 ∧ endAt bs m < cut)) := fun m hm hc => by
    refine ⟨m, 0, hm, ?_, .inl ⟨rfl, hc⟩⟩
    rw [hc, take_end, all_whole _ (small_take hb m)]
    rfl
  rcases h2 with h2 | ⟨hl, h2⟩
  · exact whole n hn h2
  · rcases Nat.lt_or_ge cut (endAt bs (n + 1)) with h3 | h3
    · by_cases h4 : endAt bs n = cut
      · exact whole n hn h4.symm
      · refine ⟨n, 23, hn, ?_, .inr ⟨rfl, by omega⟩⟩
        rw [cut_read hb hl h1 h3, if_neg h4]
    · exact whole (n + 1) hl (by omega)
/-- what is on the disk behind opening -/
def opF (bs : List (List UInt8)) (cut m : Nat) (er : Int) : Option (Nat × ByteArray) := opO (fileC bs cut) (endAt bs m) er
theorem opF_bytes {bs : List (List UInt8)} {cut m : Nat} {er : Int} (h : (er = 0 ∧ cut = endAt bs m) ∨ (er = 23 ∧ endAt bs m < cut)) : (bytO (opF bs cut m er)).data.toList = stream (bs.take m) ∧ nthO (opF bs cut m er) ≤ 1 := by
  unfold opF opO
  rcases h with ⟨rfl, hc⟩ | ⟨rfl, hc⟩
  · rw [if_pos rfl, byt_fileC, bytC_list, hc, take_end, nth_fileC]
    exact ⟨rfl, by omega⟩
  · rw [if_neg (by decide)]
    refine ⟨?_, by show nthO (fileC bs cut) + 1 ≤ 1; rw [nth_fileC]; omega⟩
    show ((bytO (fileC bs cut)).extract 0 (endAt bs m)).data.toList = _
    rw [byt_fileC]
    have : ((bytC bs cut).extract 0 (endAt bs m)).data.toList = ((bytC bs cut).data.toList).take (endAt bs m) := by simp
    rw [this, bytC_list, List.take_take, Nat.min_eq_left (by omega), take_end]
/-- the changes that wait: some frames behind the first sy -/
def pend (bs : List (List UInt8)) (sy d : Nat) : List Chg := (List.range d).map fun t => .app (edN 0) ⟨(frameL (bs.getD (sy + t) [])).toArray⟩
theorem pend_zero (bs : List (List UInt8)) (sy : Nat) : pend bs sy 0 = [] := rfl
theorem pend_succ (bs : List (List UInt8)) (sy d : Nat) : pend bs sy (d + 1) = pend bs sy d ++ [.app (edN 0) ⟨(frameL (bs.getD (sy + d) [])).toArray⟩] := by
  unfold pend
  rw [List.range_succ, List.map_append]
  rfl
theorem pend_len (bs : List (List UInt8)) (sy d : Nat) : (pend bs sy d).length = d := by simp [pend]
theorem getD_at2 (bs : List (List UInt8)) {i : Nat} (h : i < bs.length) : bs.getD i [] = bs[i] := by simp [List.getD, h]
theorem fr_size (b : List UInt8) : (⟨(frameL b).toArray⟩ : ByteArray).size = b.length + 12 := by
  show (frameL b).toArray.size = _
  rw [List.size_toArray, frameL_length]
theorem pend_wts (bs : List (List UInt8)) (sy : Nat) : ∀ d, sy + d ≤ bs.length → endAt bs sy + wts (pend bs sy d) = endAt bs (sy + d)
  | 0, _ => rfl
  | d + 1, h => by
    have ih := pend_wts bs sy d (by omega)
    rw [pend_succ, wts_app, show sy + (d + 1) = (sy + d) + 1 from rfl, endAt_succ (by omega), ← ih, getD_at2 bs (by omega)]
    show endAt bs sy + (wts (pend bs sy d) + ((⟨(frameL bs[sy + d]).toArray⟩ : ByteArray).size + 0)) = _
    rw [fr_size]
    omega
theorem pend_ok (bs : List (List UInt8)) (sy d : Nat) : ∀ c ∈ pend bs sy d, okC c := fun c hc => by
  obtain ⟨t, _, rfl⟩ := List.mem_map.1 hc
  show 9 ≤ 64
  decide
theorem srt_one (o : Option (Nat × ByteArray)) : SrtF (oneL o) := by
  match o with
  | none => exact List.Pairwise.nil
  | some (k, s) => exact List.pairwise_singleton _ _
theorem tot_pend {bs : List (List UInt8)} {sy d : Nat} (h : sy + d ≤ bs.length) : totF (held (oneL (fileC bs (endAt bs sy))) (pend bs sy d)) ≤ endAt bs (sy + d) := by
  have h1 := tot_held (srt_one (fileC bs (endAt bs sy))) (pend bs sy d) (pend_ok bs sy d)
  have h2 : totF (oneL (fileC bs (endAt bs sy))) ≤ endAt bs sy := by
    rw [tot_one, byt_fileC]
    show ((stream bs).take (endAt bs sy)).toArray.size ≤ _
    rw [List.size_toArray, List.length_take]
    omega
  have h3 := pend_wts bs sy d h
  omega
/-- what a crash leaves that keeps no change whole -/
theorem crash_fileC {bs : List (List UInt8)} {sy : Nat} (hs : sy ≤ bs.length) (tear : Int) : ∃ cut, crashL (oneL (fileC bs (endAt bs sy))) (pend bs sy (bs.length - sy)) 0 tear = oneL (fileC bs cut) ∧ endAt bs sy ≤ cut ∧ (cut = endAt bs sy ∨ (∃ h : sy < bs.length, cut ≤ endAt bs (sy + 1))) := by
  have hk : keepN (pend bs sy (bs.length - sy)) 0 = 0 := by unfold keepN; omega
  unfold crashL
  rw [hk, List.take_zero, List.nil_append]
  by_cases h : sy < bs.length
  · have hc : (pend bs sy (bs.length - sy))[0]? = some (.app (edN 0) ⟨(frameL bs[sy]).toArray⟩) := by
      unfold pend
      rw [List.getElem?_map, List.getElem?_range (by omega)]
      show some (Chg.app (edN 0) ⟨(frameL (bs.getD (sy + 0) [])).toArray⟩) = _
      rw [Nat.add_zero, getD_at2 bs h]
    rw [hc]
    unfold tornC
    by_cases ht : 0 < tear
    · simp only [if_pos ht]
      have hfs := fr_size bs[sy]
      refine ⟨endAt bs sy + min tear.toNat (bs[sy].length + 12), ?_, by omega, .inr ⟨h, by rw [endAt_succ h]; omega⟩⟩
      refine app_fileC h (by omega) (by omega) _ ?_
      rw [hfs]
      simp
    · simp only [if_neg ht]
      exact ⟨endAt bs sy, rfl, Nat.le_refl _, .inl rfl⟩
  · have hc : (pend bs sy (bs.length - sy))[0]? = none := by
      rw [show bs.length - sy = 0 by omega, pend_zero]; rfl
    rw [hc]
    exact ⟨endAt bs sy, rfl, Nat.le_refl _, .inl rfl⟩
/-- one name and what stands in its file, told -/
def accS (o : Option (Nat × ByteArray)) (k : Nat) : ByteArray := if k = 0 then ⟨#[]⟩ else match o with
  | none => ⟨#[]⟩
  | some (k', s) => ⟨#[]⟩ ++ (edN k' ++ ⟨#[61]⟩ ++ s)
end Go.Proofs.YtlflfaldnpcjcaaGreatDoor

namespace Go.Proofs.YtlflfaldnpcjcaaGreatDoor
open Go.RowKit Go.Maps
def frB (b : List UInt8) : ByteArray := ⟨(frameL b).toArray⟩
theorem frB_list (b : List UInt8) : (frB b).data.toList = frameL b := by simp [frB]
theorem frB_size (b : List UInt8) : (frB b).size = b.length + 12 := fr_size b
/-- changes that append to a segment's file -/
def apps (s k : Nat) (xs : List ByteArray) : List Chg := xs.map (.app (edtS s k))
def appE (ed : Option ByteArray) (xs : List ByteArray) : Option ByteArray := xs.foldl (fun o x => some (orE o ++ x)) ed
theorem app_FL (s k : Nat) (im ed : Option ByteArray) (x : ByteArray) : doC (FL s k im ed) (.app (edtS s k) x) = FL s k im (some (orE ed ++ x)) := by
  have hne : ¬ edtS s k = imgS s := edtS_img
  refine fs_ext (srt_doC (srt_FL s k im ed) _) (srt_FL s k im _) fun q => ?_
  show getF (putF (FL s k im ed) (edtS s k) (orE (getF (FL s k im ed) (edtS s k)) ++ x)) q = _
  rw [getF_putF, get_FL, get_FL, get_FL, if_neg hne, if_pos rfl]
  by_cases h1 : q = edtS s k
  · subst h1
    rw [if_pos rfl, if_neg hne, if_pos rfl]
  · rw [if_neg h1]
    by_cases h2 : q = imgS s
    · rw [if_pos h2, if_pos h2]
    · rw [if_neg h2, if_neg h2, if_neg h1, if_neg h1]
theorem held_apps (s k : Nat) (im : Option ByteArray) : ∀ (xs : List ByteArray) (ed : Option ByteArray), held (FL s k im ed) (apps s k xs) = FL s k im (appE ed xs)
  | [], _ => rfl
  | x :: xs, ed => by
    show held (doC (FL s k im ed) (.app (edtS s k) x)) (apps s k xs) = _
    rw [app_FL, held_apps s k im xs]
    rfl
theorem appE_list : ∀ (xs : List ByteArray) (ed : Option ByteArray), (orE (appE ed xs)).data.toList = (orE ed).data.toList ++ xs.flatMap (·.data.toList)
  | [], ed => by show (orE ed).data.toList = _; simp
  | x :: xs, ed => by
    show (orE (appE (some (orE ed ++ x)) xs)).data.toList = _
    rw [appE_list xs]
    show (orE ed ++ x).data.toList ++ _ = _
    rw [ByteArray.data_append, Array.toList_append, List.flatMap_cons, List.append_assoc]
theorem appE_none : ∀ (xs : List ByteArray) (ed : Option ByteArray), appE ed xs = none → ed = none
  | [], _, h => h
  | x :: xs, ed, h => by
    have := appE_none xs (some (orE ed ++ x)) h
    cases this
theorem fr_flat : ∀ bs : List (List UInt8), (bs.map frB).flatMap (·.data.toList) = stream bs
  | [] => rfl
  | b :: bs => by
    rw [List.map_cons, List.flatMap_cons, fr_flat bs, frB_list]
    rfl
/-- a segment's file, in which so many of the records last -/
def EdOf (ed : Option ByteArray) (k : Nat) (bs : List (List UInt8)) (m : Nat) : Prop := (orE ed).data.toList = stream (bs.take m) ∧ (ed = none → k = 0) ∧ m ≤ bs.length
def pendG (s k : Nat) (bs : List (List UInt8)) (m : Nat) : List Chg := apps s k ((bs.drop m).map frB)
theorem pendG_len (s k : Nat) (bs : List (List UInt8)) (m : Nat) : (pendG s k bs m).length = bs.length - m := by simp [pendG, apps]
theorem pendG_all (s k : Nat) (bs : List (List UInt8)) : pendG s k bs bs.length = [] := by simp [pendG, apps]
theorem pendG_add (s k : Nat) (bs : List (List UInt8)) (b : List UInt8) {m : Nat} (h : m ≤ bs.length) : pendG s k (bs ++ [b]) m = pendG s k bs m ++ [.app (edtS s k) ⟨(frameL b).toArray⟩] := by
  unfold pendG apps
  rw [List.drop_append_of_le_length h, List.map_append, List.map_append]
  rfl
theorem EdOf.add {ed : Option ByteArray} {k m : Nat} {bs : List (List UInt8)} (h : EdOf ed k bs m) (b : List UInt8) : EdOf ed k (bs ++ [b]) m :=
  ⟨by rw [List.take_append_of_le_length h.2.2]; exact h.1, h.2.1, by have := h.2.2; simp; omega⟩
theorem EdOf.size {ed : Option ByteArray} {k m : Nat} {bs : List (List UInt8)} (h : EdOf ed k bs m) : (orE ed).size = endAt bs m := by
  have h1 := congrArg List.length h.1
  unfold endAt
  rw [← h1]
  simp
theorem EdOf.held {ed : Option ByteArray} {s k m : Nat} {im : Option ByteArray} {bs : List (List UInt8)} (h : EdOf ed k bs m) : ∃ ed2, Proofs.YtlflfaldnpcjcaaGreatDoor.held (FL s k im ed) (pendG s k bs m) = FL s k im ed2 ∧ EdOf ed2 k bs bs.length := by
  refine ⟨_, held_apps s k im _ ed, ?_, fun e => h.2.1 (appE_none _ _ e), Nat.le_refl _⟩
  rw [appE_list, fr_flat, h.1, ← stream_append, List.take_append_drop, List.take_length]
theorem wts_apps (s k : Nat) : ∀ bs : List (List UInt8), wts (apps s k (bs.map frB)) = (stream bs).length
  | [] => rfl
  | b :: bs => by
    show (frB b).size + wts (apps s k (bs.map frB)) = (frameL b ++ stream bs).length
    rw [wts_apps s k bs, frB_size, List.length_append, frameL_length]
theorem EdOf.wts {ed : Option ByteArray} {s k m : Nat} {bs : List (List UInt8)} (h : EdOf ed k bs m) : (orE ed).size + Proofs.YtlflfaldnpcjcaaGreatDoor.wts (pendG s k bs m) = (stream bs).length := by
  rw [h.size]
  unfold pendG endAt
  rw [wts_apps, ← List.length_append, ← stream_append, List.take_append_drop]
/-- what is found of a beginning -/
theorem find_G {bs : List (List UInt8)} (hb : Small bs) {n cut : Nat} (hn : n ≤ bs.length) (h1 : endAt bs n ≤ cut) (h2 : cut = endAt bs n ∨ (∃ h : n < bs.length, cut ≤ endAt bs (n + 1))) :
    ∃ m er, n ≤ m ∧ m ≤ bs.length ∧ allL ((stream bs).take cut) = (bs.take m, endAt bs m, er) ∧ ((er = 0 ∧ cut = endAt bs m) ∨ (er = 23 ∧ endAt bs m < cut)) := by
  have whole : ∀ m, n ≤ m → m ≤ bs.length → cut = endAt bs m → ∃ m er, n ≤ m ∧ m ≤ bs.length ∧ allL ((stream bs).take cut) = (bs.take m, endAt bs m, er) ∧ ((er = 0 ∧ cut = endAt bs m) ∨ (er = 23 ∧ endAt bs m < cut)) := fun m hnm hm hc => by
    refine ⟨m, 0, hnm, hm, ?_, .inl ⟨rfl, hc⟩⟩
    rw [hc, take_end, all_whole _ (small_take hb m)]
    rfl
  rcases h2 with h2 | ⟨hl, h2⟩
  · exact whole n (Nat.le_refl _) hn h2
  · rcases Nat.lt_or_ge cut (endAt bs (n + 1)) with h3 | h3
    · by_cases h4 : endAt bs n = cut
      · exact whole n (Nat.le_refl _) hn h4.symm
      · refine ⟨n, 23, Nat.le_refl _, hn, ?_, .inr ⟨rfl, by omega⟩⟩
        rw [cut_read hb hl h1 h3, if_neg h4]
    · exact whole (n + 1) (Nat.le_succ _) hl (by omega)
/-- what lasts behind a crash: a beginning of the records' bytes -/
theorem crash_cut {ed : Option ByteArray} {s k m : Nat} {im : Option ByteArray} {bs : List (List UInt8)} (h : EdOf ed k bs m) (keep tear : Int) :
    ∃ ed2 n cut, crashL (FL s k im ed) (pendG s k bs m) keep tear = FL s k im ed2 ∧ (ed2 = none → k = 0) ∧ (orE ed2).data.toList = (stream bs).take cut ∧ m ≤ n ∧ n ≤ bs.length ∧ endAt bs n ≤ cut ∧ (cut = endAt bs n ∨ ∃ h : n < bs.length, cut ≤ endAt bs (n + 1)) := by
  obtain ⟨c, hc⟩ : ∃ c, c = keepN (pendG s k bs m) keep := ⟨_, rfl⟩
  have hcl : c ≤ bs.length - m := by rw [hc, ← pendG_len s k bs m]; exact keepN_le _ _
  have hm := h.2.2
  unfold crashL
  rw [← hc]
  have htk : (pendG s k bs m).take c = apps s k (((bs.drop m).take c).map frB) := by
    unfold pendG apps
    rw [← List.map_take, ← List.map_take]
  have hst : stream (bs.take m) ++ stream ((bs.drop m).take c) = stream (bs.take (m + c)) := by
    rw [← stream_append, ← List.take_add]
  rw [htk]
  by_cases hlt : m + c < bs.length
  · have hat : (pendG s k bs m)[c]? = some (.app (edtS s k) (frB bs[m + c])) := by
      unfold pendG apps
      rw [List.getElem?_map, List.getElem?_map, List.getElem?_drop, List.getElem?_eq_getElem hlt]
      rfl
    rw [hat]
    unfold tornC
    by_cases ht : 0 < tear
    · simp only [if_pos ht]
      obtain ⟨t, htt⟩ : ∃ t, t = min tear.toNat (frB bs[m + c]).size := ⟨_, rfl⟩
      rw [← htt]
      have hts : t ≤ bs[m + c].length + 12 := by rw [htt, frB_size]; omega
      have hx : ((frB bs[m + c]).extract 0 t).data.toList = (frameL bs[m + c]).take t := by
        have : ((frB bs[m + c]).extract 0 t).data.toList = (frB bs[m + c]).data.toList.take t := by simp
        rw [this, frB_list]
      refine ⟨appE ed (((bs.drop m).take c).map frB ++ [(frB bs[m + c]).extract 0 t]), m + c, endAt bs (m + c) + t, ?_, ?_, ?_, by omega, by omega, by omega, .inr ⟨hlt, by rw [endAt_succ hlt]; omega⟩⟩
      · rw [show apps s k (((bs.drop m).take c).map frB) ++ [Chg.app (edtS s k) ((frB bs[m + c]).extract 0 t)] = apps s k (((bs.drop m).take c).map frB ++ [(frB bs[m + c]).extract 0 t]) by unfold apps; rw [List.map_append]; rfl]
        exact held_apps s k im _ ed
      · exact fun e => h.2.1 (appE_none _ _ e)
      · rw [appE_list, List.flatMap_append, fr_flat, h.1, ← List.append_assoc, hst, List.flatMap_singleton, hx]
        conv => rhs; rw [stream_parts hlt]
        rw [List.take_append (l₁ := stream (bs.take (m + c))), List.take_of_length_le (l := stream (bs.take (m + c))) (by show (stream (bs.take (m + c))).length ≤ endAt bs (m + c) + t; unfold endAt; omega), show endAt bs (m + c) + t - (stream (bs.take (m + c))).length = t by unfold endAt; omega, List.take_append, frameL_length, show t - (bs[m + c].length + 12) = 0 by omega, List.take_zero, List.append_nil]
    · simp only [if_neg ht, List.append_nil]
      exact ⟨appE ed (((bs.drop m).take c).map frB), m + c, endAt bs (m + c), held_apps s k im _ ed, fun e => h.2.1 (appE_none _ _ e), by rw [appE_list, fr_flat, h.1, hst, take_end], by omega, by omega, Nat.le_refl _, .inl rfl⟩
  · have hat : (pendG s k bs m)[c]? = none := by
      rw [List.getElem?_eq_none_iff, pendG_len]
      omega
    rw [hat]
    simp only [tornC, List.append_nil]
    exact ⟨appE ed (((bs.drop m).take c).map frB), m + c, endAt bs (m + c), held_apps s k im _ ed, fun e => h.2.1 (appE_none _ _ e), by rw [appE_list, fr_flat, h.1, hst, take_end], by omega, by omega, Nat.le_refl _, .inl rfl⟩
/-- a crash and an opening: what is found, and what the disk holds then -/
theorem crash_open {ed : Option ByteArray} {s k m : Nat} {im : Option ByteArray} {bs : List (List UInt8)} (h : EdOf ed k bs m) (hb : Small bs) (keep tear : Int) :
    ∃ ed2 ed3 m2 er, crashL (FL s k im ed) (pendG s k bs m) keep tear = FL s k im ed2 ∧ (ed2 = none → k = 0) ∧ (orE ed2).size ≤ (stream bs).length ∧ m ≤ m2 ∧ m2 ≤ bs.length ∧ allL (orE ed2).data.toList = (bs.take m2, endAt bs m2, er) ∧ (er = 0 ∨ (er = 23 ∧ endAt bs m2 ≤ (orE ed2).size)) ∧ opL s k im ed2 (endAt bs m2) er = FL s (opK k er) im ed3 ∧ EdOf ed3 (opK k er) (bs.take m2) (bs.take m2).length := by
  obtain ⟨ed2, n, cut, e1, e2, e3, e4, e5, e6, e7⟩ := crash_cut (s := s) (im := im) h keep tear
  obtain ⟨m2, er, f1, f2, f3, f4⟩ := find_G hb e5 e6 e7
  have hsz : (orE ed2).size = min cut (stream bs).length := by
    have h1 := congrArg List.length e3
    rw [List.length_take] at h1
    rw [← h1]
    simp
  have hml := endAt_le bs m2
  rw [← e3] at f3
  have htt : (bs.take m2).take (bs.take m2).length = bs.take m2 := List.take_length
  rcases f4 with ⟨rfl, g2⟩ | ⟨rfl, g2⟩
  · refine ⟨ed2, ed2, m2, 0, e1, e2, by omega, by omega, f2, f3, .inl rfl, if_pos rfl, ?_, fun e => ?_, Nat.le_refl _⟩
    · rw [htt, e3, g2, take_end]
    · show (if (0 : Int) = 0 then k else k + 1) = 0
      rw [if_pos rfl]
      exact e2 e
  · refine ⟨ed2, some ((orE ed2).extract 0 (endAt bs m2)), m2, 23, e1, e2, by omega, by omega, f2, f3, .inr ⟨rfl, by omega⟩, by unfold opL opK; rw [if_neg (by decide), if_neg (by decide)], ?_, (fun e => absurd e (by simp)), Nat.le_refl _⟩
    rw [htt]
    have hx : ((orE ed2).extract 0 (endAt bs m2)).data.toList = (orE ed2).data.toList.take (endAt bs m2) := by simp
    show ((orE ed2).extract 0 (endAt bs m2)).data.toList = _
    rw [hx, e3, List.take_take, show min (endAt bs m2) cut = endAt bs m2 by omega, take_end]
/-- a new segment's files -/
theorem roll_FL {ed : Option ByteArray} {s k : Nat} {im : Option ByteArray} (F : ByteArray) : rolL (FL s k im ed) s k F = FL (s + 1) 0 (some F) none := by
  have ht : getF (FL s k im ed) tmpS = none := by rw [get_FL, if_neg (fun e => img_ne_tmp s e.symm), if_neg (fun e => edt_ne_tmp s k e.symm)]
  refine fs_ext ?_ (srt_FL _ _ _ _) fun q => ?_
  · exact srt_held (srt_held (srt_held (srt_FL s k im ed) _) _) _
  · rw [get_rolL _ _ _ _ _ ht, get_FL, get_FL]
    have i1 : ¬ imgS s = imgS (s + 1) := fun e => by have := imgS_inj e; omega
    by_cases h1 : q = imgS s
    · subst h1
      rw [if_pos rfl, if_neg i1]
      by_cases h9 : imgS s = edtS (s + 1) 0
      · rw [if_pos h9]
      · rw [if_neg h9]
    · rw [if_neg h1]
      by_cases h2 : q = edtS s k
      · subst h2
        rw [if_pos rfl, if_neg edtS_img]
        by_cases h9 : edtS s k = edtS (s + 1) 0
        · rw [if_pos h9]
        · rw [if_neg h9]
      · rw [if_neg h2]
        by_cases h3 : q = imgS (s + 1)
        · rw [if_pos h3, if_pos h3]
        · rw [if_neg h3, if_neg h3, if_neg h1, if_neg h2]
          by_cases h9 : q = edtS (s + 1) 0
          · rw [if_pos h9]
          · rw [if_neg h9]
end Go.Proofs.YtlflfaldnpcjcaaGreatDoor

namespace Go.Proofs.YtlflfaldnpcjcaaGreatDoor
open Go.RowKit Go.Maps
theorem JS.more {w0 w : World} {j p n n' : Nat} {S : Nat → Prop} {cp seg nth cnt lst : Int} {L : Fs} {cs : List Chg} (h : JS w0 w j p S cp n L cs seg nth cnt lst) (hn : n ≤ n') : JS w0 w j p S cp n' L cs seg nth cnt lst :=
  ⟨⟨h.dk.bel, h.dk.m.wide (fun _ h => h) h.dk.m.own hn⟩, h.jt, h.no, h.lo⟩
/-- the numbers of a state: image, records, how many last, the bytes' bound, the acts so far -/
structure KN (n s k : Nat) (im ed : Option ByteArray) (img : ByteArray) (bs : List (List UInt8)) (m b i : Nat) : Prop where
  nn : n + (bs.length - m) ≤ 60 + 60 * i
  nn2 : 2 ≤ n
  sk : s + k ≤ i
  edo : EdOf ed k bs m
  im0 : im = none → s = 0
  imr : imR im = (img, 0)
  ims : (orE im).size ≤ 1048588
  st : (stream bs).length ≤ 12 * b
  sm : Small bs
  len : bs.length ≤ i
def KSt (W w : World) (p j : Nat) (S : Nat → Prop) (img : ByteArray) (bs : List (List UInt8)) (m b i : Nat) : Prop :=
  ∃ n s k im ed, KN n s k im ed img bs m b i ∧ JS W w j p S 1099511627776 n (FL s k im ed) (pendG s k bs m) s k bs.length m
theorem KSt.below {W w w' : World} {p j : Nat} {S : Nat → Prop} {img : ByteArray} {bs : List (List UInt8)} {m b i : Nat} (h : KSt W w p j S img bs m b i) (hb : Below w.heap.size w w') : KSt W w' p j S img bs m b i := by
  obtain ⟨n, s, k, im, ed, h1, h2⟩ := h
  exact ⟨n, s, k, im, ed, h1, h2.below hb⟩
/-- what stays of the tables -/
def Tabs (W : World) : Prop := (∀ w', Below W.heap.size W w' → Half w') ∧ ∀ w', Below W.heap.size W w' → Pw w'
theorem pend_none {k : Nat} (s : Nat) (bs : List (List UInt8)) {im ed : Option ByteArray} {m : Nat} (h : EdOf ed k bs m) : totF (held (FL s k im ed) (pendG s k bs m)) = (stream bs).length + (orE im).size := by
  obtain ⟨ed2, h1, h2⟩ := h.held (s := s) (im := im)
  rw [h1, tot_FL, h2.size, endAt_all]
theorem kst_append {W w : World} {p j : Nat} {S : Nat → Prop} {img : ByteArray} {bs : List (List UInt8)} {m b i : Nat} (t : ByteArray) (h : Hid (KSt W w p j S img bs m b i)) (hT : Tabs W) (hb : b + (t.size + 1) ≤ 1048576) (hi : i ≤ 1048576) :
    Calls Tryz.prog 8 #[.pointer (some ⟨j, 0, none⟩), .string t] w fun e w' => e = .returned (.int .i64 0) ∧ ∃ S', Hid (KSt W w' p j S' img (bs ++ [t.data.toList]) m (b + (t.size + 1)) (i + 1) ∧ JQ w w' j S S') := by
  obtain ⟨n, s, k, im, ed, hk, hJ⟩ := h.out
  have htot := pend_none s bs (im := im) hk.edo
  have h1 := hk.st
  have h2 := hk.ims
  have h3 := hk.nn
  have h4 := hk.sk
  have h5 := hk.len
  have hm := hk.edo.2.2
  refine (jappend_G s k bs.length t (Lib.hid hJ) (by omega) hT.2 (by omega) hT.1 (by omega) (by decide) (by unfold maxLen; omega) (by rw [pendG_len]; omega) (by rw [htot]; omega) (by rw [htot]; omega)).mono ?_
  rintro e w' ⟨rfl, S', hx⟩
  refine ⟨rfl, S', Lib.hid ⟨⟨n + 1, s, k, im, ed, ⟨?_, ?_, ?_, hk.edo.add _, hk.im0, hk.imr, hk.ims, ?_, ?_, ?_⟩, ?_⟩, hx.out.2⟩⟩
  · simp only [List.length_append, List.length_cons, List.length_nil]; omega
  · have := hk.nn2; omega
  · omega
  · rw [stream_append, List.length_append]
    show (stream bs).length + (frameL t.data.toList ++ []).length ≤ _
    rw [List.append_nil, frameL_length]
    have e1 : t.data.toList.length = t.size := by simp
    omega
  · intro x hx2
    rcases List.mem_append.1 hx2 with hx2 | hx2
    · exact hk.sm x hx2
    · rw [List.mem_singleton.1 hx2]
      have e1 : t.data.toList.length = t.size := by simp
      omega
  · simp only [List.length_append, List.length_cons, List.length_nil]; omega
  · have := hx.out.1
    rw [pendG_add s k bs _ hm]
    simpa using this
theorem kst_sync {W w : World} {p j : Nat} {S : Nat → Prop} {img : ByteArray} {bs : List (List UInt8)} {m b i : Nat} (h : Hid (KSt W w p j S img bs m b i)) (hb : b ≤ 1048576) (hi : i ≤ 1048576) :
    Calls Tryz.prog 9 #[.pointer (some ⟨j, 0, none⟩)] w fun e w' => e = .returned (.tuple #[]) ∧ ∃ S', Hid (KSt W w' p j S' img bs bs.length b (i + 1) ∧ JQ w w' j S S') := by
  obtain ⟨n, s, k, im, ed, hk, hJ⟩ := h.out
  obtain ⟨ed2, he, hed⟩ := hk.edo.held (s := s) (im := im)
  have hw := hk.edo.wts (s := s)
  have h1 := hk.st
  have h2 := hk.ims
  have h3 := hk.nn
  have h4 := hk.sk
  have hm := hk.edo.2.2
  have h5 := hk.len
  refine (jsync_K (Lib.hid hJ) (by rw [pendG_len]; unfold maxLen; omega) (by rw [tot_FL]; omega)).mono ?_
  rintro e w' ⟨rfl, S', hx⟩
  rw [he, pendG_len] at hx
  refine ⟨rfl, S', Lib.hid ⟨⟨n + (bs.length - m), s, k, im, ed2, ⟨?_, ?_, ?_, hed, hk.im0, hk.imr, hk.ims, hk.st, hk.sm, ?_⟩, ?_⟩, hx.out.2⟩⟩
  · omega
  · have := hk.nn2; omega
  · omega
  · omega
  · rw [pendG_all]
    exact hx.out.1
theorem imR_frame (t : ByteArray) (ht : t.size ≤ 1048576) : imR (some ⟨(frameL t.data.toList).toArray⟩) = (t, 0) := by
  have e1 : t.data.toList.length = t.size := by simp
  have h1 : allL (frameL t.data.toList) = ([t.data.toList], (frameL t.data.toList).length, 0) := by
    have h2 := all_whole [t.data.toList] (fun x hx => by rw [List.mem_singleton.1 hx]; omega)
    have h3 : stream [t.data.toList] = frameL t.data.toList := by show frameL t.data.toList ++ [] = _; rw [List.append_nil]
    rw [h3] at h2
    exact h2
  show (if (allL (frameL t.data.toList).toArray.toList).2.2 = 0 ∧ (allL (frameL t.data.toList).toArray.toList).1.length = 1 then ((⟨((allL (frameL t.data.toList).toArray.toList).1.getD 0 []).toArray⟩ : ByteArray), (0 : Int)) else (⟨#[]⟩, 24)) = _
  rw [List.toList_toArray, h1, if_pos ⟨rfl, rfl⟩]
  rfl
theorem kst_roll {W w : World} {p j : Nat} {S : Nat → Prop} {img : ByteArray} {bs : List (List UInt8)} {m b i : Nat} (t : ByteArray) (h : Hid (KSt W w p j S img bs m b i)) (hT : Tabs W) (hb : b ≤ 1048576) (ht : t.size ≤ 1048576) (hi : i ≤ 1048576) :
    Calls Tryz.prog 10 #[.pointer (some ⟨j, 0, none⟩), .string t] w fun e w' => e = .returned (.int .i64 0) ∧ ∃ S', Hid (KSt W w' p j S' t [] 0 b (i + 1) ∧ JQ w w' j S S') := by
  obtain ⟨n, s, k, im, ed, hk, hJ⟩ := h.out
  obtain ⟨ed2, he, hed⟩ := hk.edo.held (s := s) (im := im)
  have hw := hk.edo.wts (s := s)
  have htot := pend_none s bs (im := im) hk.edo
  rw [he] at htot
  have h1 := hk.st
  have h2 := hk.ims
  have h3 := hk.nn
  have h4 := hk.sk
  have hm := hk.edo.2.2
  have h5 := hk.len
  have i1 : ¬ imgS (s + 1) = imgS s := fun e => by have := imgS_inj e; omega
  have i2 : ¬ imgS (s + 1) = edtS s k := fun e => edtS_img e.symm
  refine (roll_G s k t he (Lib.hid hJ) (by omega) hT.2 hT.1 ht (by decide) (by rw [pendG_len]; omega) (by omega) (by rw [tot_FL]; omega) (by omega) (by rw [get_FL, if_neg (fun e => img_ne_tmp s e.symm), if_neg (fun e => edt_ne_tmp s k e.symm)]) (by rw [get_FL, if_neg i1, if_neg i2])).mono ?_
  rintro e w' ⟨rfl, S', n', hn', hx⟩
  rw [roll_FL] at hx
  rw [pendG_len] at hn'
  have hfs : (⟨(frameL t.data.toList).toArray⟩ : ByteArray).size = t.size + 12 := by
    rw [fr_size]
    simp
  refine ⟨rfl, S', Lib.hid ⟨⟨n' + 2, s + 1, 0, some ⟨(frameL t.data.toList).toArray⟩, none, ⟨?_, ?_, ?_, ⟨rfl, fun _ => rfl, Nat.le_refl _⟩, (fun e => by cases e), imR_frame t ht, ?_, Nat.zero_le _, (fun _ hx => by cases hx), Nat.zero_le _⟩, ?_⟩, hx.out.2⟩⟩
  · simp only [List.length_nil]; omega
  · omega
  · omega
  · show (⟨(frameL t.data.toList).toArray⟩ : ByteArray).size ≤ _
    rw [hfs]
    omega
  · have := hx.out.1.more (n' := n' + 2) (by omega)
    exact this
/-- a disk behind a crash: what Open will find there -/
def CSt (W w : World) (p : Nat) (S : Nat → Prop) (img : ByteArray) (bs : List (List UInt8)) (m b i : Nat) : Prop :=
  ∃ n s k im ed2 ed3 m2 er, DK W w p S 1099511627776 n (FL s k im ed2) [] ∧ (n ≤ 70 + 60 * i ∧ 2 ≤ n) ∧ s + k ≤ i ∧ (ed2 = none → k = 0) ∧ (orE ed2).size ≤ (stream bs).length ∧ m ≤ m2 ∧ m2 ≤ bs.length ∧ allL (orE ed2).data.toList = (bs.take m2, endAt bs m2, er) ∧ (er = 0 ∨ (er = 23 ∧ endAt bs m2 ≤ (orE ed2).size)) ∧ opL s k im ed2 (endAt bs m2) er = FL s (opK k er) im ed3 ∧ EdOf ed3 (opK k er) (bs.take m2) (bs.take m2).length ∧ (im = none → s = 0) ∧ imR im = (img, 0) ∧ (orE im).size ≤ 1048588 ∧ (stream bs).length ≤ 12 * b ∧ Small bs ∧ bs.length ≤ i
theorem kst_crash {W w : World} {p j : Nat} {S : Nat → Prop} {img : ByteArray} {bs : List (List UInt8)} {m b i : Nat} (keep tear : Int) (h : Hid (KSt W w p j S img bs m b i)) (hb : b ≤ 1048576) (hi : i ≤ 1048576) :
    Calls Tryz.prog 11 #[.pointer (some ⟨p, 0, none⟩), .int .i64 keep, .int .i64 tear] w fun e w' => e = .returned (.tuple #[]) ∧ ∃ S', Hid (CSt W w' p S' img bs m b i ∧ JP w w' S S') := by
  obtain ⟨n, s, k, im, ed, hk, hJ⟩ := h.out
  obtain ⟨ed2, ed3, m2, er, c1, c2, c3, c4, c5, c6, c7, c8, c9⟩ := crash_open (s := s) (im := im) hk.edo hk.sm keep tear
  have hw := hk.edo.wts (s := s)
  have h1 := hk.st
  have h2 := hk.ims
  have h3 := hk.nn
  have h4 := hk.sk
  have hm := hk.edo.2.2
  have h5 := hk.len
  have h6 := hk.nn2
  refine (crash_K keep tear (Lib.hid hJ.dk) (by rw [pendG_len]; unfold maxLen; omega) (by have := (FL_len s k im ed).1; omega) (by rw [tot_FL]; omega)).mono ?_
  rintro e w' ⟨rfl, hx⟩
  rw [c1, pendG_len] at hx
  exact ⟨rfl, _, Lib.hid ⟨⟨_, s, k, im, ed2, ed3, m2, er, hx.out.1, by omega, h4, c2, c3, c4, c5, c6, c7, c8, c9, hk.im0, hk.imr, hk.ims, hk.st, hk.sm, hk.len⟩, JP.of hx.out.2⟩⟩
theorem opK_le (k : Nat) (er : Int) : opK k er ≤ k + 1 := by unfold opK; split <;> omega
theorem kst_open {W w : World} {p : Nat} {S : Nat → Prop} {img : ByteArray} {bs : List (List UInt8)} {m b i : Nat} (h : Hid (CSt W w p S img bs m b i)) (hT : Tabs W) (hb : b ≤ 1048576) (hi : i ≤ 1048576) :
    Calls Tryz.prog 7 #[.pointer (some ⟨p, 0, none⟩)] w fun e w' => ∃ j ao cap S' m2, e = .returned (.tuple #[.pointer (some ⟨j, 0, none⟩), .agg #[.string img, .slice ao m2 cap], .int .i64 0]) ∧ (m ≤ m2 ∧ m2 ≤ bs.length) ∧ Hid (KSt W w' p j S' img (bs.take m2) m2 b (i + 1) ∧ RowO w' w.heap.size ao cap (bs.take m2) ∧ JP w w' S S' ∧ ∀ g, ao = some ⟨g, 0, none⟩ → ¬ S' g) := by
  obtain ⟨n, s, k, im, ed2, ed3, m2, er, hD, hn, h4, c2, c3, c4, c5, c6, c7, c8, c9, hi0, hir, his, hst, hsm, hlen⟩ := h.out
  have hle := endAt_le bs m2
  have hml : (bs.take m2).length = m2 := by rw [List.length_take]; omega
  refine (jopen_G s k im ed2 img (bs.take m2) (endAt bs m2) er (Lib.hid hD) ⟨by omega, hi0, c2, hir, by omega, hT.2⟩ (by omega) (by omega) (by decide) hT.1 c6 (c7.imp id fun h => ⟨h.1, h.2, by omega⟩)).mono ?_
  rintro e w' ⟨j, ao, cap, S', n', rfl, hn', hx⟩
  rw [hml, c8] at hx
  rw [hml]
  rw [hml] at c9
  have hok := opK_le k er
  refine ⟨j, ao, cap, S', m2, rfl, ⟨c4, c5⟩, Lib.hid ⟨⟨n' + 2, s, opK k er, im, ed3, ⟨?_, ?_, ?_, c9, hi0, hir, his, ?_, small_take hsm m2, ?_⟩, ?_⟩, hx.out.2⟩⟩
  · rw [hml]; omega
  · omega
  · omega
  · have : (stream (bs.take m2)).length ≤ (stream bs).length := endAt_le bs m2
    omega
  · rw [hml]; omega
  · have h9 := hx.out.1.more (n' := n' + 2) (by omega)
    have hp : pendG s (opK k er) (bs.take m2) m2 = [] := by
      have := pendG_all s (opK k er) (bs.take m2)
      rw [hml] at this
      exact this
    rw [hp, hml]
    exact h9
/-- the first opening, of a fresh disk -/
theorem kst_first {W w : World} {p : Nat} {S : Nat → Prop} (h : Hid (DK W w p S 1099511627776 0 [] [])) (hT : Tabs W) :
    Calls Tryz.prog 7 #[.pointer (some ⟨p, 0, none⟩)] w fun e w' => ∃ j ao cap S', e = .returned (.tuple #[.pointer (some ⟨j, 0, none⟩), .agg #[.string ⟨#[]⟩, .slice ao 0 cap], .int .i64 0]) ∧ Hid (KSt W w' p j S' ⟨#[]⟩ [] 0 0 0 ∧ JP w w' S S') := by
  refine (jopen_G 0 0 none none ⟨#[]⟩ [] 0 0 h ⟨by omega, fun _ => rfl, fun _ => rfl, rfl, Nat.zero_le _, hT.2⟩ (Nat.zero_le _) (Nat.zero_le _) (by decide) hT.1 all_nil (.inl rfl)).mono ?_
  rintro e w' ⟨j, ao, cap, S', n', rfl, hn', hx⟩
  exact ⟨j, ao, cap, S', rfl, Lib.hid ⟨⟨n' + 2, 0, 0, none, none, ⟨by simp only [List.length_nil]; omega, by omega, by omega, ⟨rfl, fun _ => rfl, Nat.le_refl _⟩, fun _ => rfl, rfl, Nat.zero_le _, Nat.zero_le _, (fun _ hx => by cases hx), Nat.zero_le _⟩, hx.out.1.more (by omega)⟩, hx.out.2.2.1⟩⟩
theorem KSt.wide {W w : World} {p j : Nat} {S : Nat → Prop} {img : ByteArray} {bs : List (List UInt8)} {m b b' i : Nat} (h : KSt W w p j S img bs m b i) (hb : b ≤ b') : KSt W w p j S img bs m b' i := by
  obtain ⟨n, s, k, im, ed, hk, hJ⟩ := h
  exact ⟨n, s, k, im, ed, ⟨hk.nn, hk.nn2, hk.sk, hk.edo, hk.im0, hk.imr, hk.ims, by have := hk.st; omega, hk.sm, hk.len⟩, hJ⟩
theorem KSt.own {W w : World} {p j : Nat} {S : Nat → Prop} {img : ByteArray} {bs : List (List UInt8)} {m b i : Nat} (h : KSt W w p j S img bs m b i) : (∀ g, S g → g < w.heap.size) ∧ j < w.heap.size ∧ Below W.heap.size W w ∧ m ≤ bs.length ∧ bs.length ≤ i := by
  obtain ⟨n, s, k, im, ed, hk, hJ⟩ := h
  exact ⟨fun g hg => (hJ.dk.m.own g hg).2, hJ.jt.lt, hJ.dk.bel, hk.edo.2.2, hk.len⟩
theorem KSt.grown {W w w' : World} {p j : Nat} {S : Nat → Prop} {img : ByteArray} {bs : List (List UInt8)} {m b i : Nat} {r : Option Nat} (h : KSt W w p j S img bs m b i) (g : w.grownBy w' r) (hr : ∀ b, r = some b → W.heap.size ≤ b ∧ ¬ S b ∧ ¬ b = j) : KSt W w' p j S img bs m b i := by
  obtain ⟨n, s, k, im, ed, hk, hJ⟩ := h
  refine ⟨n, s, k, im, ed, hk, ⟨⟨hJ.dk.bel.grown g hJ.dk.bel.size (fun b hb => (hr b hb).1), hJ.dk.m.tch (tch_grown g) (fun b hb e => (hr b e.symm).2.1 hb)⟩, hJ.jt.same (g.block j hJ.jt.lt (fun e => (hr j e.symm).2.2 rfl)), hJ.no, hJ.lo⟩⟩
end Go.Proofs.YtlflfaldnpcjcaaGreatDoor

namespace Go.Proofs.YtlflfaldnpcjcaaGreatDoor
open Go.RowKit Go.ChangeShapes Go.WideShapes Go.Deep
theorem pow_in {W : World} (h : laidMetH Tryz.prog [("math/bits.deBruijn32tab", Rows.laid_math_bits_deBruijn32tab), ("math/bits.deBruijn64tab", Rows.laid_math_bits_deBruijn64tab), ("internal/strconv.uint64pow10", Rows.laid_internal_strconv_uint64pow10), ("mahout/crc.half", Rows.laid_mahout_crc_half), ("strconv.ErrRange", Rows.laid_strconv_ErrRange), ("strconv.ErrSyntax", Rows.laid_strconv_ErrSyntax)] W) : Pw W := by
  have h2 := laidMetH.filter (fun x => x.1 == "internal/strconv.uint64pow10") h
  exact Lib.tabIs_of_head (rest := []) (show Tryz.prog.globalNamed "internal/strconv.uint64pow10" = some 2 by kernel_rfl) (show (Tryz.prog.globals[2]?).map (·.type) = some 142 by kernel_rfl) Tryz.underlying142 Tryz.underlying111 (by kernel_rfl) (by kernel_rfl) h2

abbrev wf64j (n : Int) : Prop := -9223372036854775808 ≤ n ∧ n ≤ 9223372036854775807
structure JAc where
  k : Int
  a : Int
  b : Int
  t : ByteArray
abbrev jaCells (x : JAc) : List Value := [.int .i64 x.k, .int .i64 x.a, .int .i64 x.b, .string x.t]
structure JAcOk (x : JAc) : Prop where
  k : wf64j x.k
  a : wf64j x.a
  b : wf64j x.b
set_option maxRecDepth 100000 in
theorem jact_of {H : Type} {enc : TypeId × Value → H} {w : World} {base n : Nat} {spare : Nat → Bool} {held : Bool} {cs : List Value} {d : DataW H} {p : List MemPlace}
    (h : DataW.trod enc Tryz.prog w base spare held n 34 cs = some (d, p)) :
    ∃ x : JAc, cs = jaCells x ∧ JAcOk x ∧ d = .agg [.lit (.int .i64 x.k), .lit (.int .i64 x.a), .lit (.int .i64 x.b), .lit (.string x.t.data.toList)] := by
  obtain ⟨ys, m, _, hx, hlen, hyl, hf⟩ := DataW.trod_struct Tryz.underlying34 h
  have c3 : Tryz.prog.cellsOf 3 = 1 := by kernel_rfl
  have c9 : Tryz.prog.cellsOf 9 = 1 := by kernel_rfl
  have c29 : Tryz.prog.cellsOf 34 = 4 := by kernel_rfl
  rw [c29] at hlen
  simp only [Prod.mk.injEq] at hx
  match cs, hlen, ys, hyl with
  | [v0, v1, v2, v3], _, [y0, y1, y2, y3], _ =>
    have g0 : DataW.trod enc Tryz.prog w base spare held m 3 [v0] = some y0 := by have := hf 0 _ rfl; simpa [c3] using this
    have g1 : DataW.trod enc Tryz.prog w base spare held m 3 [v1] = some y1 := by have := hf 1 _ rfl; simpa [c3] using this
    have g2 : DataW.trod enc Tryz.prog w base spare held m 3 [v2] = some y2 := by have := hf 2 _ rfl; simpa [c3] using this
    have g3 : DataW.trod enc Tryz.prog w base spare held m 9 [v3] = some y3 := by have := hf 3 _ rfl; simpa [c9] using this
    obtain ⟨k, e0, f0, wk⟩ := DataW.trod_int Tryz.underlying3 g0
    obtain ⟨i, e1, f1, wi⟩ := DataW.trod_int Tryz.underlying3 g1
    obtain ⟨j, e2, f2, wj⟩ := DataW.trod_int Tryz.underlying3 g2
    obtain ⟨s, e3, f3, _⟩ := DataW.trod_string Tryz.underlying9 g3
    simp only [List.cons.injEq, and_true] at e0 e1 e2 e3
    subst e0 e1 e2 e3
    exact ⟨⟨k, i, j, s⟩, rfl, ⟨i64_of_wf wk, i64_of_wf wi, i64_of_wf wj⟩, by rw [hx.1, f0, f1, f2, f3]; rfl⟩
/-- the slice value holds the acts it 0, it 1, .., all of them below B -/
def JActs (w : World) (B : Nat) (A : Option Addr) (len : Nat) (it : Nat → JAc) : Prop :=
  ∀ i, i < len → JAcOk (it i) ∧ ∃ b off, A = some ⟨b, off, none⟩ ∧ b < B ∧ ∀ j u, (jaCells (it i))[j]? = some u → w.cell? ⟨b, off + i * 4 + j, none⟩ = some u
theorem bulk_app10 {H : Type} : ∀ (l r : List (DataW H)), Rows.uptoBulkAll (l ++ r) = Rows.uptoBulkAll l + Rows.uptoBulkAll r
  | [], r => by simp [Rows.uptoBulkAll]
  | d :: l, r => by simp only [List.cons_append, Rows.uptoBulkAll, bulk_app10 l r]; omega
/-- the letters and the number of the first acts -/
def sumJ (it : Nat → JAc) : Nat → Nat
  | 0 => 0
  | i + 1 => sumJ it i + ((it i).t.size + 1)
theorem sumJ_mono (it : Nat → JAc) {i j : Nat} (h : i ≤ j) : sumJ it i ≤ sumJ it j := by
  induction j with
  | zero => rw [Nat.le_zero.1 h]; exact Nat.le_refl _
  | succ j ih =>
    rcases Nat.lt_or_ge i (j + 1) with k | k
    · have := ih (by omega)
      simp only [sumJ]; omega
    · rw [show i = j + 1 by omega]; exact Nat.le_refl _
theorem sumJ_len (it : Nat → JAc) : ∀ n, n ≤ sumJ it n
  | 0 => Nat.zero_le _
  | n + 1 => by have := sumJ_len it n; simp only [sumJ]; omega
theorem bulk_jact {H : Type} (x : JAc) : x.t.size + 1 ≤ Rows.uptoBulk (H := H) (.agg [.lit (.int .i64 x.k), .lit (.int .i64 x.a), .lit (.int .i64 x.b), .lit (.string x.t.data.toList)]) := by
  have e1 : x.t.data.toList.length = x.t.size := by simp
  simp only [Rows.uptoBulk, Rows.uptoBulkAll]
  omega
theorem bulk_sum10 {H : Type} {D : Nat → DataW H} {it : Nat → JAc} : ∀ (len : Nat), (∀ i, i < len → (it i).t.size + 1 ≤ Rows.uptoBulk (D i)) → sumJ it len ≤ Rows.uptoBulkAll ((List.range len).map D)
  | 0, _ => Nat.zero_le _
  | len + 1, h => by
    have h1 := bulk_sum10 len (fun i hi => h i (by omega))
    have h2 := h len (by omega)
    rw [List.range_succ, List.map_append, bulk_app10]
    simp only [List.map_cons, List.map_nil, Rows.uptoBulkAll, sumJ]
    omega
set_option maxRecDepth 100000 in
theorem open_jacts {H : Type} {enc : TypeId × Value → H} {W : World} {base : Nat} {v : Value} {d : DataW H} {p : List MemPlace}
    (hv : Value.okWide Tryz.prog W .any base 22 v) (h : DataW.Trod enc Tryz.prog W 0 (fun _ => true) true 22 v d p) :
    ∃ (A : Option Addr) (len cap : Nat) (it : Nat → JAc), v = .slice A len cap ∧ JActs W W.heap.size A len it ∧ sumJ it len ≤ Rows.uptoBulk d := by
  obtain ⟨A, len, cap, rfl⟩ := okWide_slice Tryz.underlying22 hv
  obtain ⟨fuel, hf⟩ := h
  rcases open_slice Tryz.underlying22 hf with ⟨hcs, _⟩ | ⟨a, len', cap', m, n, D, Pl, hcs, _, hl, hm, hmm, hx, hi⟩
  · simp only [Value.cells, List.cons.injEq, and_true] at hcs
    injection hcs with e1 e2 e3
    subst e1 e2 e3
    exact ⟨none, 0, 0, fun _ => ⟨0, 0, 0, ⟨#[]⟩⟩, rfl, fun i hi => absurd hi (by omega), by simp [sumJ]⟩
  · simp only [Value.cells, List.cons.injEq, and_true] at hcs
    injection hcs with e1 e2 e3
    subst e1 e2 e3
    simp only [if_true] at hmm
    simp only [Prod.mk.injEq] at hx
    have c29 : Tryz.prog.cellsOf 34 = 4 := by kernel_rfl
    rw [c29] at hi
    have all : ∀ i, ∃ x : JAc, i < len → (JAcOk x ∧ ∃ b off, some a = some (⟨b, off, none⟩ : Addr) ∧ b < W.heap.size ∧ ∀ j u, (jaCells x)[j]? = some u → W.cell? ⟨b, off + i * 4 + j, none⟩ = some u) ∧ x.t.size + 1 ≤ Rows.uptoBulk (D i) := fun i => by
      by_cases hil : i < len
      · obtain ⟨cs', hc, ht⟩ := hi i (by omega)
        obtain ⟨x, rfl, b1, hD⟩ := jact_of ht
        obtain ⟨_, _, hat⟩ := World.cells?_some hc
        have hat' : ∀ j u, (jaCells x)[j]? = some u → W.cell? ((a.add (i * 4)).add j) = some u := fun j u hj => by
          have hj5 : j < 4 := by
            have := (List.getElem?_eq_some_iff.1 hj).1
            simpa using this
          rw [hat j hj5, hj]
        have h0 : a.spot = none := by
          obtain ⟨cs0, hc0, ht0⟩ := hi 0 (by omega)
          obtain ⟨x0, rfl, _, _⟩ := jact_of ht0
          obtain ⟨_, _, hat0⟩ := World.cells?_some hc0
          have := World.cell?_spot (hat0 0 (by omega))
          simpa [Addr.add] using this
        obtain ⟨b, off, spot⟩ := a
        have hspot : spot = none := h0
        subst hspot
        refine ⟨x, fun _ => ⟨⟨b1, b, off, rfl, ?_, fun j u hj => ?_⟩, ?_⟩⟩
        · have hc0 := hat' 0 _ rfl
          rw [add_plain, add_plain] at hc0
          rcases Nat.lt_or_ge b W.heap.size with hlt | hge
          · exact hlt
          · simp [World.cell?, Array.getElem?_eq_none hge] at hc0
        · have := hat' j u hj
          rwa [add_plain, add_plain] at this
        · rw [hD]; exact bulk_jact x
      · exact ⟨⟨0, 0, 0, ⟨#[]⟩⟩, fun h => absurd h hil⟩
    have hbk : Rows.uptoBulkAll ((List.range len).map D) ≤ Rows.uptoBulk d := by
      rw [hx.1]
      simp only [Rows.uptoBulk]
      omega
    exact ⟨some a, len, cap, fun i => Classical.choose (all i), rfl, fun i hi => (Classical.choose_spec (all i) hi).1, Nat.le_trans (bulk_sum10 len (fun i hi => (Classical.choose_spec (all i) hi).2)) hbk⟩
theorem rem_five (k : Int) (hk : wf64j k) : (wrap64 (k.tmod 5 + 5)).tmod 5 = k % 5 := by
  obtain ⟨h1, h2⟩ := hk
  rw [IntWalk.wrap64_in _ ⟨by have := Int.tmod_lt_of_pos k (by decide : (0:Int) < 5); have := Int.lt_tmod_of_pos k (by decide : (0:Int) < 5); omega, by have := Int.tmod_lt_of_pos k (by decide : (0:Int) < 5); omega⟩]
  rcases Int.le_total 0 k with h | h
  · rw [Int.tmod_eq_emod_of_nonneg h, Int.tmod_eq_emod_of_nonneg (by omega)]; omega
  · have : k.tmod 5 = -((-k) % 5) := by
      rw [← Int.tmod_eq_emod_of_nonneg (by omega : 0 ≤ -k), Int.neg_tmod, Int.neg_neg]
    rw [this, Int.tmod_eq_emod_of_nonneg (by omega)]
    omega
end Go.Proofs.YtlflfaldnpcjcaaGreatDoor

