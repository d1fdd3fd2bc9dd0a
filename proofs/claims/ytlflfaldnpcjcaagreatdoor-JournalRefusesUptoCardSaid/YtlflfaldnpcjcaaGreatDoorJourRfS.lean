/- JournalRefuses: a journal of one image and its records, all synced, as a state; a bit of them turned. -/
import Derived.Test.YtlflfaldnpcjcaaGreatDoorJnlF
import Derived.Test.YtlflfaldnpcjcaaGreatDoorJourBad
import Derived.Test.YtlflfaldnpcjcaaGreatDoorDkFlip
namespace Go.Proofs.YtlflfaldnpcjcaaGreatDoor
open Go.RowKit Go.Maps
/-- a journal with its segment, its copy, its files -/
def KE (W w : World) (p j : Nat) (S : Nat → Prop) (s k : Nat) (im ed : Option ByteArray) (img : ByteArray) (bs : List (List UInt8)) (m b i : Nat) : Prop :=
  ∃ n, KN n s k im ed img bs m b i ∧ JS W w j p S 1099511627776 n (FL s k im ed) (pendG s k bs m) s k bs.length m
theorem KE.below {W w w' : World} {p j s k : Nat} {S : Nat → Prop} {im ed : Option ByteArray} {img : ByteArray} {bs : List (List UInt8)} {m b i : Nat} (h : KE W w p j S s k im ed img bs m b i) (hb : Below w.heap.size w w') : KE W w' p j S s k im ed img bs m b i := by
  obtain ⟨n, h1, h2⟩ := h
  exact ⟨n, h1, h2.below hb⟩
theorem KE.own {W w : World} {p j s k : Nat} {S : Nat → Prop} {im ed : Option ByteArray} {img : ByteArray} {bs : List (List UInt8)} {m b i : Nat} (h : KE W w p j S s k im ed img bs m b i) : (∀ g, S g → g < w.heap.size) ∧ j < w.heap.size ∧ Below W.heap.size W w ∧ m ≤ bs.length ∧ bs.length ≤ i := by
  obtain ⟨n, hk, hJ⟩ := h
  exact ⟨fun g hg => (hJ.dk.m.own g hg).2, hJ.jt.lt, hJ.dk.bel, hk.edo.2.2, hk.len⟩
theorem ke_first {W w : World} {p : Nat} {S : Nat → Prop} (h : Hid (DK W w p S 1099511627776 0 [] [])) (hT : Tabs W) :
    Calls Tryz.prog 7 #[.pointer (some ⟨p, 0, none⟩)] w fun e w' => ∃ j ao cap S', e = .returned (.tuple #[.pointer (some ⟨j, 0, none⟩), .agg #[.string ⟨#[]⟩, .slice ao 0 cap], .int .i64 0]) ∧ Hid (KE W w' p j S' 0 0 none none ⟨#[]⟩ [] 0 0 0 ∧ JP w w' S S') := by
  refine (jopen_G 0 0 none none ⟨#[]⟩ [] 0 0 h ⟨by omega, fun _ => rfl, fun _ => rfl, rfl, Nat.zero_le _, hT.2⟩ (Nat.zero_le _) (Nat.zero_le _) (by decide) hT.1 all_nil (.inl rfl)).mono ?_
  rintro e w' ⟨j, ao, cap, S', n', rfl, hn', hx⟩
  exact ⟨j, ao, cap, S', rfl, Lib.hid ⟨⟨n' + 2, ⟨by simp only [List.length_nil]; omega, by omega, by omega, ⟨rfl, fun _ => rfl, Nat.le_refl _⟩, fun _ => rfl, rfl, Nat.zero_le _, Nat.zero_le _, (fun _ hx => by cases hx), Nat.zero_le _⟩, hx.out.1.more (by omega)⟩, hx.out.2.2.1⟩⟩
theorem ke_append {W w : World} {p j s k : Nat} {S : Nat → Prop} {im ed : Option ByteArray} {img : ByteArray} {bs : List (List UInt8)} {m b i : Nat} (t : ByteArray) (h : Hid (KE W w p j S s k im ed img bs m b i)) (hT : Tabs W) (hb : b + (t.size + 1) ≤ 1048576) (hi : i ≤ 1048576) :
    Calls Tryz.prog 8 #[.pointer (some ⟨j, 0, none⟩), .string t] w fun e w' => e = .returned (.int .i64 0) ∧ ∃ S', Hid (KE W w' p j S' s k im ed img (bs ++ [t.data.toList]) m (b + (t.size + 1)) (i + 1) ∧ JQ w w' j S S') := by
  obtain ⟨n, hk, hJ⟩ := h.out
  have htot := pend_none s bs (im := im) hk.edo
  have h1 := hk.st
  have h2 := hk.ims
  have h3 := hk.nn
  have h4 := hk.sk
  have h5 := hk.len
  have hm := hk.edo.2.2
  refine (jappend_G s k bs.length t (Lib.hid hJ) (by omega) hT.2 (by omega) hT.1 (by omega) (by decide) (by unfold maxLen; omega) (by rw [pendG_len]; omega) (by rw [htot]; omega) (by rw [htot]; omega)).mono ?_
  rintro e w' ⟨rfl, S', hx⟩
  refine ⟨rfl, S', Lib.hid ⟨⟨n + 1, ⟨?_, ?_, ?_, hk.edo.add _, hk.im0, hk.imr, hk.ims, ?_, ?_, ?_⟩, ?_⟩, hx.out.2⟩⟩
  · simp only [List.length_append, List.length_cons, List.length_nil]; omega
  · have := hk.nn2; omega
  · omega
  · rw [stream_append, List.length_append]
    show (stream bs).length + (frameL t.data.toList ++ []).length ≤ _
    rw [List.append_nil, frameL_length]
    have e1 : t.data.toList.length = t.size := by simp
    omega
  · intro x hx2
    rcases List.mem_append.1 hx2 with hx2 | hx2
    · exact hk.sm x hx2
    · rw [List.mem_singleton.1 hx2]
      have e1 : t.data.toList.length = t.size := by simp
      omega
  · simp only [List.length_append, List.length_cons, List.length_nil]; omega
  · have := hx.out.1
    rw [pendG_add s k bs _ hm]
    simpa using this
theorem ke_roll {W w : World} {p j s k : Nat} {S : Nat → Prop} {im ed : Option ByteArray} {img : ByteArray} {bs : List (List UInt8)} {m b i : Nat} (t : ByteArray) (h : Hid (KE W w p j S s k im ed img bs m b i)) (hT : Tabs W) (hb : b ≤ 1048576) (ht : t.size ≤ 1048576) (hi : i ≤ 1048576) :
    Calls Tryz.prog 10 #[.pointer (some ⟨j, 0, none⟩), .string t] w fun e w' => e = .returned (.int .i64 0) ∧ ∃ S', Hid (KE W w' p j S' (s + 1) 0 (some ⟨(frameL t.data.toList).toArray⟩) none t [] 0 b (i + 1) ∧ JQ w w' j S S') := by
  obtain ⟨n, hk, hJ⟩ := h.out
  obtain ⟨ed2, he, hed⟩ := hk.edo.held (s := s) (im := im)
  have hw := hk.edo.wts (s := s)
  have htot := pend_none s bs (im := im) hk.edo
  rw [he] at htot
  have h1 := hk.st
  have h2 := hk.ims
  have h3 := hk.nn
  have h4 := hk.sk
  have hm := hk.edo.2.2
  have h5 := hk.len
  have i1 : ¬ imgS (s + 1) = imgS s := fun e => by have := imgS_inj e; omega
  have i2 : ¬ imgS (s + 1) = edtS s k := fun e => edtS_img e.symm
  refine (roll_G s k t he (Lib.hid hJ) (by omega) hT.2 hT.1 ht (by decide) (by rw [pendG_len]; omega) (by omega) (by rw [tot_FL]; omega) (by omega) (by rw [get_FL, if_neg (fun e => img_ne_tmp s e.symm), if_neg (fun e => edt_ne_tmp s k e.symm)]) (by rw [get_FL, if_neg i1, if_neg i2])).mono ?_
  rintro e w' ⟨rfl, S', n', hn', hx⟩
  rw [roll_FL] at hx
  rw [pendG_len] at hn'
  have hfs : (⟨(frameL t.data.toList).toArray⟩ : ByteArray).size = t.size + 12 := by
    rw [fr_size]
    simp
  refine ⟨rfl, S', Lib.hid ⟨⟨n' + 2, ⟨?_, ?_, ?_, ⟨rfl, fun _ => rfl, Nat.le_refl _⟩, (fun e => by cases e), imR_frame t ht, ?_, Nat.zero_le _, (fun _ hx => by cases hx), Nat.zero_le _⟩, ?_⟩, hx.out.2⟩⟩
  · simp only [List.length_nil]; omega
  · omega
  · omega
  · show (⟨(frameL t.data.toList).toArray⟩ : ByteArray).size ≤ _
    rw [hfs]
    omega
  · have := hx.out.1.more (n' := n' + 2) (by omega)
    exact this
/-- the disk of a journal of which all is synced -/
def BSt (N : Nat) (W w : World) (p : Nat) (S : Nat → Prop) (im ed : Option ByteArray) : Prop :=
  ∃ n, (2 ≤ n ∧ n ≤ 100000000 + N ∧ N ≤ 1) ∧ DK W w p S 1099511627776 n (FL 1 0 im ed) [] ∧ (orE im).size ≤ 1048588 ∧ (orE ed).size ≤ 12582912
theorem BSt.below {N : Nat} {W w w' : World} {p : Nat} {S : Nat → Prop} {im ed : Option ByteArray} (h : BSt N W w p S im ed) (hb : Below w.heap.size w w') : BSt N W w' p S im ed := by
  obtain ⟨n, h1, h2, h3⟩ := h
  exact ⟨n, h1, h2.below hb, h3⟩
theorem BSt.bel {N : Nat} {W w : World} {p : Nat} {S : Nat → Prop} {im ed : Option ByteArray} (h : BSt N W w p S im ed) : Below W.heap.size W w := by
  obtain ⟨n, h1, h2, h3⟩ := h
  exact h2.bel
theorem ke_sync {W w : World} {p j : Nat} {S : Nat → Prop} {im ed : Option ByteArray} {img : ByteArray} {bs : List (List UInt8)} {m b i : Nat} (h : Hid (KE W w p j S 1 0 im ed img bs m b i)) (hb : b ≤ 1048576) (hi : i ≤ 1048576) :
    Calls Tryz.prog 9 #[.pointer (some ⟨j, 0, none⟩)] w fun e w' => e = .returned (.tuple #[]) ∧ ∃ S' ed2, EdOf ed2 0 bs bs.length ∧ Hid (BSt 0 W w' p S' im ed2) := by
  obtain ⟨n, hk, hJ⟩ := h.out
  obtain ⟨ed2, he, hed⟩ := hk.edo.held (s := 1) (im := im)
  have hw := hk.edo.wts (s := 1)
  have h1 := hk.st
  have h2 := hk.ims
  have h3 := hk.nn
  have hm := hk.edo.2.2
  have h5 := hk.len
  refine (jsync_K (Lib.hid hJ) (by rw [pendG_len]; unfold maxLen; omega) (by rw [tot_FL]; omega)).mono ?_
  rintro e w' ⟨rfl, S', hx⟩
  rw [he, pendG_len] at hx
  refine ⟨rfl, S', ed2, hed, Lib.hid ⟨n + (bs.length - m), by have := hk.nn2; omega, hx.out.1.dk, h2, ?_⟩⟩
  have h9 : (orE ed2).size = endAt bs bs.length := hed.size
  rw [h9, endAt_all]
  omega
/-- a byte with a bit turned is another one -/
theorem flip_near (d : ByteArray) (b : Nat) (hb : b / 8 < d.size) : Near4 (flipD d (b : Int)).data.toList d.data.toList (b / 8) ∧ (flipD d (b : Int)).data.toList ≠ d.data.toList := by
  have hq : ((b : Int) / 8).toNat = b / 8 := by omega
  have hl : b / 8 < d.data.toList.length := by simpa using hb
  have e1 : (flipD d (b : Int)).data.toList = d.data.toList.set (b / 8) ((d.data.toList[b / 8]?.getD 0) ^^^ bitB (b : Int)) := by
    unfold flipD
    rw [hq, List.toList_toArray]
  rw [e1]
  refine ⟨⟨by rw [List.length_set], fun i hi => ?_⟩, fun e => ?_⟩
  · rw [List.getElem?_set_ne (by omega)]
  · have h2 : (d.data.toList.set (b / 8) ((d.data.toList[b / 8]?.getD 0) ^^^ bitB (b : Int)))[b / 8]? = d.data.toList[b / 8]? := by rw [e]
    rw [List.getElem?_set_self hl, List.getElem?_eq_getElem hl] at h2
    injection h2 with h2
    simp only [Option.getD_some] at h2
    have h3 : bitB (b : Int) = 0 := by
      have h4 : d.data.toList[b / 8] ^^^ (d.data.toList[b / 8] ^^^ bitB (b : Int)) = d.data.toList[b / 8] ^^^ d.data.toList[b / 8] := by rw [h2]
      rw [← UInt8.xor_assoc, UInt8.xor_self, UInt8.zero_xor] at h4
      exact h4
    rw [bitB_nat] at h3
    have hr8 : b % 8 = 0 ∨ b % 8 = 1 ∨ b % 8 = 2 ∨ b % 8 = 3 ∨ b % 8 = 4 ∨ b % 8 = 5 ∨ b % 8 = 6 ∨ b % 8 = 7 := by omega
    rcases hr8 with h | h | h | h | h | h | h | h <;> rw [h] at h3 <;> exact absurd h3 (by decide)
theorem imR_turned (t : ByteArray) (ht : t.size ≤ 1048576) (b : Nat) (hb : b / 8 < t.size + 12) : imR (some (flipD ⟨(frameL t.data.toList).toArray⟩ (b : Int))) = (⟨#[]⟩, 24) := by
  have e1 : t.data.toList.length = t.size := by simp
  have hfs : (⟨(frameL t.data.toList).toArray⟩ : ByteArray).size = t.size + 12 := by
    rw [fr_size]
    simp
  obtain ⟨h1, h2⟩ := flip_near ⟨(frameL t.data.toList).toArray⟩ b (by omega)
  rw [List.toList_toArray] at h1 h2
  have h3 := all_corrupt (t2 := []) (by omega) h1 h2
  rw [List.append_nil] at h3
  show (if (allL _).2.2 = 0 ∧ (allL _).1.length = 1 then ((⟨((allL _).1.getD 0 []).toArray⟩ : ByteArray), (0 : Int)) else (⟨#[]⟩, 24)) = _
  rw [h3, if_neg (fun h => absurd h.1 (by decide))]
theorem edR_turned (d : ByteArray) (bs : List (List UInt8)) (hs : Small bs) (hd : d.data.toList = stream bs) (b : Nat) (hb : b / 8 < d.size) : ∃ cs en, allL (flipD d (b : Int)).data.toList = (cs, en, 24) := by
  obtain ⟨h1, h2⟩ := flip_near d b hb
  rw [hd] at h1 h2
  obtain ⟨k, _, h3⟩ := all_changed bs hs _ _ h1 h2
  exact ⟨_, _, h3⟩
theorem put_img (im : ByteArray) (ed : Option ByteArray) (d : ByteArray) : putF (FL 1 0 (some im) ed) (imgS 1) d = FL 1 0 (some d) ed := by
  refine fs_ext (srt_putF (srt_FL _ _ _ _) _ _) (srt_FL _ _ _ _) fun q => ?_
  rw [getF_putF, get_FL, get_FL]
  by_cases h : q = imgS 1
  · rw [if_pos h, if_pos h]
  · rw [if_neg h, if_neg h, if_neg h]
theorem put_edt (im : Option ByteArray) (ed d : ByteArray) : putF (FL 1 0 im (some ed)) (edtS 1 0) d = FL 1 0 im (some d) := by
  refine fs_ext (srt_putF (srt_FL _ _ _ _) _ _) (srt_FL _ _ _ _) fun q => ?_
  rw [getF_putF, get_FL, get_FL]
  by_cases h : q = edtS 1 0
  · have h2 : ¬ q = imgS 1 := fun e => edtS_img (h.symm.trans e)
    rw [if_pos h, if_neg h2, if_pos h]
  · rw [if_neg h, if_neg h, if_neg h]
theorem bst_flip {W w : World} {p : Nat} {S : Nat → Prop} {im ed im' ed' : Option ByteArray} (a d : ByteArray) (b : Nat) (hb : b ≤ 1000000000) (h : Hid (BSt 0 W w p S im ed)) (ha : a.size ≤ maxLen) (hg : getF (FL 1 0 im ed) a = some d) (hd : b / 8 < d.size) (hp : putF (FL 1 0 im ed) a (flipD d (b : Int)) = FL 1 0 im' ed') (hs : (orE im').size = (orE im).size ∧ (orE ed').size = (orE ed).size) :
    Calls Tryz.prog 14 #[.pointer (some ⟨p, 0, none⟩), .string a, .int .i64 (b : Int)] w fun e w' => e = .returned (.int .i64 0) ∧ ∃ S', Hid (BSt 1 W w' p S' im' ed') := by
  obtain ⟨n, h1, h2, h3, h4⟩ := h.out
  have hno : ¬ ((b : Int) < 0 ∨ (d.size : Int) ≤ (b : Int) / 8) := by omega
  have e1 : flR (FL 1 0 im ed) a (b : Int) = 0 := by unfold flR; rw [hg]; exact if_neg hno
  have e2 : flL (FL 1 0 im ed) a (b : Int) = FL 1 0 im' ed' := by unfold flL; rw [hg]; exact (if_neg hno).trans hp
  refine (flip_K a (b : Int) ⟨by omega, by omega⟩ (Lib.hid h2) ha (show n + 1 + 0 < maxLen by unfold maxLen; omega) ?_ (by rw [tot_FL]; show _ + 0 ≤ 1099511627776; omega)).mono ?_
  · have := (FL_len 1 0 im ed).1; omega
  · rintro e w' ⟨rfl, hx⟩
    rw [e2] at hx
    exact ⟨by rw [e1], _, Lib.hid ⟨n + 1 + 0, by omega, hx.out.1, by omega, by omega⟩⟩
/-- the file of which a bit is turned: whichever bit, the opening is refused -/
def Tgt (im ed : Option ByteArray) (a : ByteArray) (z : Nat) : Prop :=
  a.size ≤ maxLen ∧ ∃ d, getF (FL 1 0 im ed) a = some d ∧ d.size = z ∧ ∀ b : Nat, b / 8 < z → ∃ im' ed', putF (FL 1 0 im ed) a (flipD d (b : Int)) = FL 1 0 im' ed' ∧ ((orE im').size = (orE im).size ∧ (orE ed').size = (orE ed).size) ∧ (im' = none → (1 : Nat) = 0) ∧ ∃ bi cs en, imR im' = (⟨#[]⟩, 24) ∨ (imR im' = (bi, 0) ∧ allL (orE ed').data.toList = (cs, en, 24))
theorem imgS_one : imgS 1 = ⟨#[105, 109, 97, 103, 101, 45, 49]⟩ := by
  apply ByteArray.ext
  apply Array.ext'
  rw [img_list, Lib.decDigits_one (by decide)]
  rfl
theorem edtS_one : edtS 1 0 = ⟨#[101, 100, 105, 116, 115, 45, 49, 45, 48]⟩ := by
  apply ByteArray.ext
  apply Array.ext'
  rw [edt_list, Lib.decDigits_one (by decide), Lib.decDigits_one (by decide)]
  rfl
theorem tgt_img (t : ByteArray) (ht : t.size ≤ 1048576) (ed : Option ByteArray) : Tgt (some ⟨(frameL t.data.toList).toArray⟩) ed ⟨#[105, 109, 97, 103, 101, 45, 49]⟩ (t.size + 12) := by
  have hfs : (⟨(frameL t.data.toList).toArray⟩ : ByteArray).size = t.size + 12 := by
    rw [fr_size]
    simp
  rw [← imgS_one]
  refine ⟨by rw [imgS_one]; decide, _, by rw [get_FL, if_pos rfl], hfs, fun b hb => ⟨some (flipD ⟨(frameL t.data.toList).toArray⟩ (b : Int)), ed, put_img _ _ _, ⟨flipD_size _ _, rfl⟩, (fun e => by cases e), ⟨#[]⟩, [], 0, .inl (imR_turned t ht b hb)⟩⟩
theorem tgt_edt (t : ByteArray) (ht : t.size ≤ 1048576) (bs : List (List UInt8)) (hs : Small bs) (ed : Option ByteArray) (he : EdOf ed 0 bs bs.length) (h0 : (stream bs).length ≠ 0) : Tgt (some ⟨(frameL t.data.toList).toArray⟩) ed ⟨#[101, 100, 105, 116, 115, 45, 49, 45, 48]⟩ (stream bs).length := by
  have hz := he.size
  rw [endAt_all] at hz
  have hl := he.1
  rw [List.take_length] at hl
  cases ed with
  | none => exact absurd hz.symm h0
  | some d =>
    have hz : d.size = (stream bs).length := hz
    have hl : d.data.toList = stream bs := hl
    rw [← edtS_one]
    refine ⟨by rw [edtS_one]; decide, d, by rw [get_FL, if_neg edtS_img, if_pos rfl], hz, fun b hb => ?_⟩
    obtain ⟨cs, en, h⟩ := edR_turned d bs hs hl b (by omega)
    exact ⟨some ⟨(frameL t.data.toList).toArray⟩, some (flipD d (b : Int)), put_edt _ _ _, ⟨rfl, flipD_size _ _⟩, (fun e => by cases e), t, cs, en, .inr ⟨imR_frame t ht, h⟩⟩
theorem bst_read {N : Nat} {W w : World} {p : Nat} {S : Nat → Prop} {im ed : Option ByteArray} (a : ByteArray) (h : Hid (BSt N W w p S im ed)) (ha : a.size ≤ maxLen) :
    Calls Tryz.prog 15 #[.pointer (some ⟨p, 0, none⟩), .string a] w fun e w' => e = .returned (.tuple #[.string (rdS (FL 1 0 im ed) a), .int .i64 (rdE (FL 1 0 im ed) a)]) ∧ w = w' := by
  obtain ⟨n, h1, h2, h3⟩ := h.out
  have := read_K a (Lib.hid h2) ha
  rwa [held_nil] at this
theorem bst_list {N : Nat} {W w : World} {p : Nat} {S : Nat → Prop} {im ed : Option ByteArray} (h : Hid (BSt N W w p S im ed)) :
    Calls Tryz.prog 16 #[.pointer (some ⟨p, 0, none⟩)] w fun e w' => ∃ a c, e = .returned (.slice a (namesF (FL 1 0 im ed)).length c) ∧ Hid (Below w.heap.size w w') := by
  obtain ⟨n, h1, h2, h3⟩ := h.out
  have hl := (FL_len 1 0 im ed).1
  have := list_K (Lib.hid h2) (by omega) (by rw [held_nil]; omega)
  rw [held_nil] at this
  refine this.mono ?_
  rintro e w' ⟨v, rfl, hx⟩
  obtain ⟨a, c, hv, _⟩ := hx.out.1.sl
  exact ⟨a, c, by rw [hv], Lib.hid hx.out.2⟩
theorem bst_pending {N : Nat} {W w : World} {p : Nat} {S : Nat → Prop} {im ed : Option ByteArray} (h : Hid (BSt N W w p S im ed)) :
    Calls Tryz.prog 17 #[.pointer (some ⟨p, 0, none⟩)] w fun e w' => e = .returned (.int .i64 0) ∧ w = w' := by
  obtain ⟨n, h1, h2, h3⟩ := h.out
  exact pending_K (Lib.hid h2)
theorem bst_open {N : Nat} {W w : World} {p : Nat} {S : Nat → Prop} {im ed : Option ByteArray} (h : Hid (BSt N W w p S im ed)) (hT : Tabs W) (h0 : im = none → (1 : Nat) = 0) (hbad : ∃ bi cs en, imR im = (⟨#[]⟩, 24) ∨ (imR im = (bi, 0) ∧ allL (orE ed).data.toList = (cs, en, 24))) :
    Calls Tryz.prog 7 #[.pointer (some ⟨p, 0, none⟩)] w fun e w' => e = .returned (.tuple #[.pointer none, .agg #[.string ⟨#[]⟩, .slice none 0 0], .int .i64 24]) ∧ Below w.heap.size w w' := by
  obtain ⟨n, h1, h2, h3, h4⟩ := h.out
  obtain ⟨bi, cs, en, hb⟩ := hbad
  exact jopen_bad 1 0 im ed bi cs en (Lib.hid h2) ⟨by omega, h0, fun _ => rfl, by omega, hT.2⟩ (by omega) (by omega) hT.1 hb
end Go.Proofs.YtlflfaldnpcjcaaGreatDoor
