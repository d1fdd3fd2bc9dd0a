/- Package journal: an opening that is refused: the image was changed, or the records were. -/
import Derived.Test.YtlflfaldnpcjcaaGreatDoorJnlF
namespace Go.Proofs.YtlflfaldnpcjcaaGreatDoor
open Go.RowKit Go.Maps
theorem set_back {w : World} {a : Addr} {v : Value} (h : w.cell? a = some v) : w.setCell a v = w := by
  have hh : (w.setCell a v).heap = w.heap := by
    apply Array.ext_getElem?
    intro k
    simp only [World.setCell, Array.getElem?_modify]
    by_cases hk : a.block = k
    · subst hk
      rw [if_pos rfl]
      unfold World.cell? at h
      split at h
      · next c e fr hg =>
        rw [hg]
        split at h
        · cases h
        · next hs =>
          simp only [Option.map_some, if_neg hs]
          have : c.setIfInBounds a.off v = c := by
            apply Array.ext_getElem?
            intro j
            rw [Array.getElem?_setIfInBounds]
            split
            · next e => subst e; rw [h]; have := (Array.getElem?_eq_some_iff.1 h).1; simp [this]
            · rfl
          rw [this]
      · cases h
    · rw [if_neg hk]
  cases w
  simp only [World.setCell, World.mk.injEq] at hh ⊢
  exact ⟨hh, trivial, trivial, trivial, trivial⟩
set_option maxRecDepth 100000 in
set_option maxHeartbeats 4000000 in
theorem jopen_bad {w0 w : World} {p n : Nat} {S : Nat → Prop} {cp : Int} (s k : Nat) (im ed : Option ByteArray) (bi : ByteArray) (bs : List (List UInt8)) (en : Nat) (h : Hid (DK w0 w p S cp n (FL s k im ed) [])) (hk : (s ≤ 999999999 ∧ k ≤ 999999999) ∧ (im = none → s = 0) ∧ (ed = none → k = 0) ∧ (orE im).size ≤ 1099511627776 ∧ ∀ w', Below w0.heap.size w0 w' → Pw w') (hn : n ≤ 1099511627000) (hsz : (orE ed).size ≤ 1099511627776) (hh : ∀ w', Below w0.heap.size w0 w' → Half w') (hbad : imR im = (⟨#[]⟩, 24) ∨ (imR im = (bi, 0) ∧ allL (orE ed).data.toList = (bs, en, 24))) :
    Calls Tryz.prog 7 #[.pointer (some ⟨p, 0, none⟩)] w fun e w' => e = .returned (.tuple #[.pointer none, .agg #[.string ⟨#[]⟩, .slice none 0 0], .int .i64 24]) ∧ Below w.heap.size w w' := by
  have hbl : Below w.heap.size w (w.alloc (.cells #[.string ⟨#[]⟩, .slice none 0 0] 29)) := (Below.refl _ w).alloc (Nat.le_refl _) _
  obtain ⟨q, hq⟩ : ∃ q, q = w.heap.size := ⟨_, rfl⟩
  obtain ⟨wa, hwa⟩ : ∃ wa, wa = w.alloc (.cells #[.string ⟨#[]⟩, .slice none 0 0] 29) := ⟨_, rfl⟩
  have hx : wa.heap[q]? = some (.cells #[.string ⟨#[]⟩, .slice none 0 0] 29 (0, 0)) := by rw [hwa, hq]; exact heap_alloc_new w _
  rw [← hwa] at hbl
  have hsa : wa.heap.size = q + 1 := by rw [hwa, hq]; simp
  have HF := Lib.hid (And.intro hk (And.intro hn (And.intro hsz (And.intro hh hbad))))
  clear hk hn hsz hh hbad
  have hnw := newest_G (ksG s k im ed) (Lib.hid (h.out.below hbl)) (by have := HF.out.2.1; omega) (by have := (FL_len s k im ed).2; omega) (names_FL s k im ed) (ksG_ok HF.out.1.1 im ed) HF.out.1.2.2.2.2
  rw [segK_FL HF.out.1.2.1, nthK_FL HF.out.1.2.2.1] at hnw
  go_enter Tryz.func7, Tryz.ntmps7
  go_wp2_with (fail)
  rw [← hwa, ← hq]
  clear hwa
  refine hnw.mono ?_
  rintro e w1 ⟨rfl, h1⟩
  clear hnw
  have HS1 : Hid (JS w0 w1 wa.heap.size p S cp n (FL s k im ed) [] s k 0 0) := Lib.hid ⟨(h.out.below hbl).below h1.out.2, h1.out.1, fun hs => by have := (h.out.m.own _ hs).2; omega, by have := h.out.bel.size; omega⟩
  have HX1 : Hid (w1.heap[q]? = some (.cells #[.string ⟨#[]⟩, .slice none 0 0] 29 (0, 0)) ∧ Below w.heap.size w w1) := Lib.hid ⟨(h1.out.2.block q (by omega)).trans hx, hbl.trans (h1.out.2.mono (by omega))⟩
  obtain ⟨j, hj⟩ : ∃ j, j = wa.heap.size := ⟨_, rfl⟩
  rw [← hj] at HS1 ⊢
  have HJ := Lib.hid (show j = q + 1 by omega)
  have HQ := Lib.hid hq
  clear h1 hbl hx hj hsa hq
  go_wp2_with (fail)
  have hri := readImage_G im HS1 HF.out.1.1.1 HF.out.1.2.2.2.2 HF.out.2.2.2.1 (by rw [held_nil, get_FL, if_pos rfl]) (fun f hf => by have := HF.out.1.2.2.2.1; rw [hf] at this; exact this)
  rcases HF.out.2.2.2.2 with hb | ⟨hb, hal⟩
  · rw [hb] at hri
    clear hb
    refine hri.mono ?_
    rintro e w2 ⟨rfl, hb2⟩
    have hx2 := (hb2.block q (Array.getElem?_eq_some_iff.1 HX1.out.1).1).trans HX1.out.1
    have HB2 := Lib.hid (HX1.out.2.trans (hb2.mono HX1.out.2.size))
    have x0 : w2.cell? ⟨q, 0, none⟩ = some (.string ⟨#[]⟩) := by simp [World.cell?, hx2]
    have x1 : w2.cell? ⟨q, 1, none⟩ = some (.slice none 0 0) := by simp [World.cell?, hx2]
    have g0 : w2.frozen? ⟨q, 0, none⟩ = false := by simp [World.frozen?, hx2]
    have g1 : w2.frozen? ⟨q, 1, none⟩ = false := by simp [World.frozen?, hx2]
    clear hb2 hri hx2
    go_wp2_with (fail)
    have e9 : (w2.setCell ⟨q, 0, none⟩ (.string ⟨#[]⟩)).setCell ⟨q, 1, none⟩ (.slice none 0 0) = w2 := by rw [set_back x0, set_back x1]
    rw [e9]
    refine bodyPost_ret (v := .tuple #[.pointer none, .agg #[.string ⟨#[]⟩, .slice none 0 0], .int .i64 24]) ?_ rfl ⟨rfl, HB2.out⟩
    simp [results, Tryz.results7, go_sem, x0, x1]
  · rw [hb] at hri
    clear hb
    refine hri.mono ?_
    rintro e w2 ⟨rfl, hb2⟩
    have H2 := Lib.hid (And.intro (HS1.out.below hb2) (And.intro ((hb2.block q (Array.getElem?_eq_some_iff.1 HX1.out.1).1).trans HX1.out.1) (HX1.out.2.trans (hb2.mono HX1.out.2.size))))
    have HAL := Lib.hid hal
    clear hb2 HS1 HX1 hri hal
    go_wp2_with (fail)
    have hed := jedits_g j p s k 0 0 w2 HF.out.1.1.1 HF.out.1.1.2 (HF.out.1.2.2.2.2 w2 H2.out.1.dk.bel) (Lib.hid H2.out.1.jt)
    refine hed.mono ?_
    rintro e w3 ⟨rfl, hb3⟩
    clear hed
    have H3 := Lib.hid (And.intro (H2.out.1.below hb3) (And.intro ((hb3.block q (Array.getElem?_eq_some_iff.1 H2.out.2.1).1).trans H2.out.2.1) (H2.out.2.2.trans (hb3.mono H2.out.2.2.size))))
    clear hb3 H2
    have hrd := read_K (edtS s k) (Lib.hid H3.out.1.dk) (Nat.le_trans (nm_size (.E s k) HF.out.1.1) (by unfold maxLen; decide))
    obtain ⟨Y, hY⟩ : ∃ Y, Y = rdE (FL s k im ed) (edtS s k) := ⟨_, rfl⟩
    rw [held_nil, show rdS (FL s k im ed) (edtS s k) = orE ed by unfold rdS; rw [get_FL, if_neg edtS_img, if_pos rfl], ← hY] at hrd
    clear hY
    go_wp2_with (fail)
    refine hrd.mono ?_
    rintro e w4 ⟨rfl, rfl⟩
    clear hrd
    go_wp2_with (fail)
    refine (all_any (orE ed) w3 HF.out.2.2.1 (HF.out.2.2.2.1 _ H3.out.1.dk.bel)).mono ?_
    intro e w5 hp5
    obtain ⟨ao, cap, rfl, hrow, hb5⟩ := all_postO HAL.out hp5
    have hx2 := (hb5.block q (Array.getElem?_eq_some_iff.1 H3.out.2.1).1).trans H3.out.2.1
    have HB5 := Lib.hid (H3.out.2.2.trans (hb5.mono H3.out.2.2.size))
    have x0 : w5.cell? ⟨q, 0, none⟩ = some (.string ⟨#[]⟩) := by simp [World.cell?, hx2]
    have x1 : w5.cell? ⟨q, 1, none⟩ = some (.slice none 0 0) := by simp [World.cell?, hx2]
    have g0 : w5.frozen? ⟨q, 0, none⟩ = false := by simp [World.frozen?, hx2]
    have g1 : w5.frozen? ⟨q, 1, none⟩ = false := by simp [World.frozen?, hx2]
    clear hrow hb5 hp5 H3 hx2
    go_wp2_with (fail)
    have e9 : (w5.setCell ⟨q, 0, none⟩ (.string ⟨#[]⟩)).setCell ⟨q, 1, none⟩ (.slice none 0 0) = w5 := by rw [set_back x0, set_back x1]
    rw [e9]
    refine bodyPost_ret (v := .tuple #[.pointer none, .agg #[.string ⟨#[]⟩, .slice none 0 0], .int .i64 24]) ?_ rfl ⟨rfl, HB5.out⟩
    simp [results, Tryz.results7, go_sem, x0, x1]
end Go.Proofs.YtlflfaldnpcjcaaGreatDoor
