/- Package journal: there is no image; a record is appended; the records are synced. Package journal: which files are left over; they go. Package journal: the newest of the files of the first segment's records. Package journal: the files that are left over go. Package journal: Open over a disk that holds no file, or the one file of the first segment's records. Package journal: the laws' own check: of two records the synced one is found behind a crash. Package journal: what a row that lists the tables of several packages gives to the walks, and a world that meets it. -/
import Derived.Test.YtlflfaldnpcjcaaGreatDoorJnlA
import Derived.Test.YtlflfaldnpcjcaaGreatDoorJnlB
import Derived.LaidSub
namespace Go.Proofs.YtlflfaldnpcjcaaGreatDoor
open Go.RowKit Go.Maps
set_option maxRecDepth 100000 in
set_option maxHeartbeats 2000000 in
theorem readImage_K {w0 w : World} {j p n : Nat} {S : Nat → Prop} {cp nth cnt lst : Int} {L : Fs} {cs : List Chg} (h : Hid (JS w0 w j p S cp n L cs 0 nth cnt lst)) (hi : getF (held L cs) (imgS 0) = none) :
    Calls Tryz.prog 19 #[.pointer (some ⟨j, 0, none⟩)] w fun e w' => e = .returned (.tuple #[.string ⟨#[]⟩, .int .i64 0]) ∧ Below w.heap.size w w' := by
  have HB : Hid (Below w.heap.size w w.drew) := Lib.hid ⟨rfl, rfl, rfl, Nat.le_refl _, fun _ _ => rfl⟩
  have HJ := Lib.hid (h.out.jt.same (show w.drew.heap[j]? = w.heap[j]? from rfl))
  have hS0 : w.drew.cell? ⟨j, 0, none⟩ = some (.pointer (some ⟨p, 0, none⟩)) := HJ.out.c0
  have HD := Lib.hid (h.out.dk.below HB.out)
  have HI := Lib.hid hi
  have hrd := read_K (imgS 0) HD (imgS_size 0 (by decide))
  rw [show rdS (held L cs) (imgS 0) = ⟨#[]⟩ by unfold rdS; rw [hi]; rfl, show rdE (held L cs) (imgS 0) = 41 by unfold rdE; rw [hi]; rfl] at hrd
  have HRD := Lib.hid hrd
  clear hi hrd
  go_enter Tryz.func19, Tryz.ntmps19
  go_upto_region 1 with (fail)
  go_region_held3 (fun w' => w'.cell? ⟨j, 0, none⟩ = some (.pointer (some ⟨p, 0, none⟩))) (assumption)
    (first
      | (go_at_call 30; with_reducible refine (jimage_any j p 0 nth cnt lst _ (by decide) HJ).mono ?_; rintro e w6 ⟨rfl, rfl⟩)
      | (go_at_call 15; with_reducible refine HRD.out.mono ?_; rintro e w7 ⟨rfl, rfl⟩))
  all_goals
    go_wp2
    go_ret2
    exact ⟨rfl, HB.out⟩
theorem jat_cnt {w : World} {j p : Nat} {seg nth b c lst : Int} (h : JAt w j p seg nth b lst) : JAt (w.setCell ⟨j, 3, none⟩ (.int .i64 c)) j p seg nth c lst := by
  obtain ⟨cs, hk⟩ := h.ty
  refine ⟨?_, ?_, ?_, ?_, ?_, ?_⟩
  · exact (World.cell?_setCell_other _ _ _ _ (by simp)).trans h.c0
  · exact (World.cell?_setCell_other _ _ _ _ (by simp)).trans h.c1
  · exact (World.cell?_setCell_other _ _ _ _ (by simp)).trans h.c2
  · exact World.cell?_setCell_same _ _ _ h.c3
  · exact (World.cell?_setCell_other _ _ _ _ (by simp)).trans h.c4
  · exact ⟨cs.set! 3 (.int .i64 c), by simp [World.setCell, Array.getElem?_modify, hk]⟩
theorem jat_lst {w : World} {j p : Nat} {seg nth b c lst : Int} (h : JAt w j p seg nth b lst) : JAt (w.setCell ⟨j, 4, none⟩ (.int .i64 c)) j p seg nth b c := by
  obtain ⟨cs, hk⟩ := h.ty
  refine ⟨?_, ?_, ?_, ?_, ?_, ?_⟩
  · exact (World.cell?_setCell_other _ _ _ _ (by simp)).trans h.c0
  · exact (World.cell?_setCell_other _ _ _ _ (by simp)).trans h.c1
  · exact (World.cell?_setCell_other _ _ _ _ (by simp)).trans h.c2
  · exact (World.cell?_setCell_other _ _ _ _ (by simp)).trans h.c3
  · exact World.cell?_setCell_same _ _ _ h.c4
  · exact ⟨cs.set! 4 (.int .i64 c), by simp [World.setCell, Array.getElem?_modify, hk]⟩
/-- behind some calls of a journal: the old blocks stay but the disk's and its own -/
structure JQ (w w' : World) (j : Nat) (S S' : Nat → Prop) : Prop where
  t : Tch w w' (fun b => S b ∨ b = j)
  s : ∀ b, S' b → S b ∨ w.heap.size ≤ b
theorem JP.q {w w' : World} {j : Nat} {S S' : Nat → Prop} (h : JP w w' S S') : JQ w w' j S S' := ⟨⟨h.t.os, h.t.tape, h.t.output, h.t.size, fun b hb hn => h.t.block b hb (fun e => hn (.inl e))⟩, h.s⟩
theorem JQ.trans {w w1 w2 : World} {j : Nat} {S S1 S2 : Nat → Prop} (h : JQ w w1 j S S1) (k : JQ w1 w2 j S1 S2) : JQ w w2 j S S2 :=
  ⟨h.t.then k.t (fun i hi hs => hs.elim (fun e => .inl ((h.s i e).resolve_right (by omega))) .inr), fun b hb => (k.s b hb).elim (fun e => h.s b e) (fun e => .inr (Nat.le_trans h.t.size e))⟩
theorem JQ.set (w : World) (j i : Nat) (v : Value) (S : Nat → Prop) : JQ w (w.setCell ⟨j, i, none⟩ v) j S S := ⟨⟨rfl, rfl, rfl, by simp [World.setCell], fun b _ hn => Below.heap_setCell _ _ _ _ (fun e => hn (.inr e))⟩, fun _ h => .inl h⟩
set_option maxRecDepth 100000 in
set_option maxHeartbeats 2000000 in
theorem jsync_K {w0 w : World} {j p n : Nat} {S : Nat → Prop} {cp seg nth cnt lst : Int} {L : Fs} {cs : List Chg} (h : Hid (JS w0 w j p S cp n L cs seg nth cnt lst)) (hn : n + cs.length < maxLen) (hsz : totF L + wts cs ≤ 140737488355328) :
    Calls Tryz.prog 9 #[.pointer (some ⟨j, 0, none⟩)] w fun e w' => e = .returned (.tuple #[]) ∧ ∃ S', Hid (JS w0 w' j p S' cp (n + cs.length) (held L cs) [] seg nth cnt cnt ∧ JQ w w' j S S') := by
  have c0 := h.out.jt.c0
  have hsy := sync_K (Lib.hid h.out.dk) hn hsz
  go_enter Tryz.func9, Tryz.ntmps9
  go_wp2_with (fail)
  refine hsy.mono ?_
  rintro e w1 ⟨rfl, hD⟩
  have H1 := Lib.hid (And.intro (h.out.disk hD.out.1 hD.out.2) (JP.q (j := j) (JP.of hD.out.2)))
  clear hsy hD c0
  have c3 := H1.out.1.jt.c3
  have c4 := H1.out.1.jt.c4
  have f4 := H1.out.1.jt.fr 4
  go_wp2_with (fail)
  go_end0
  exact ⟨rfl, _, Lib.hid ⟨H1.out.1.setj (jat_lst H1.out.1.jt), H1.out.2.trans (JQ.set _ _ _ _ _)⟩⟩
set_option maxRecDepth 100000 in
set_option maxHeartbeats 2000000 in
theorem jappend_K {w0 w : World} {j p n : Nat} {S : Nat → Prop} {cp lst : Int} {L : Fs} {cs : List Chg} (k c : Nat) (s : ByteArray) (h : Hid (JS w0 w j p S cp n L cs 0 k c lst)) (hk : k < 10) (hc : c < 1099511627776) (hh : ∀ w', Below w0.heap.size w0 w' → Half w') (hs : s.size ≤ 1048576) (hcp : 0 ≤ cp ∧ cp ≤ 9223372036854775807) (hn : n < maxLen) (hq : cs.length ≤ 8796093022206) (hsz : totF (held L cs) + (s.size + 12) ≤ 140737488355328) (hroom : ((s.size + 12 : Nat) : Int) ≤ cp - totF (held L cs)) :
    Calls Tryz.prog 8 #[.pointer (some ⟨j, 0, none⟩), .string s] w fun e w' => e = .returned (.int .i64 0) ∧ ∃ S', Hid (JS w0 w' j p S' cp (n + 1) L (cs ++ [.app (edN k) ⟨(frameL s.data.toList).toArray⟩]) 0 k (c + 1 : Nat) lst ∧ JQ w w' j S S') := by
  have hdr : Below w.heap.size w w.drew := ⟨rfl, rfl, rfl, Nat.le_refl _, fun _ _ => rfl⟩
  have h0 : ¬ (1048576 : Int) < (s.size : Int) := by omega
  have hfs : (⟨(frameL s.data.toList).toArray⟩ : ByteArray).size = s.size + 12 := by
    show (frameL s.data.toList).toArray.size = _
    rw [List.size_toArray, frameL_length]
    simp
  have hR : appR cp (held L cs) (edN k) ⟨(frameL s.data.toList).toArray⟩ = 0 := by
    unfold appR
    rw [if_pos (by show 1 ≤ 9 ∧ 9 ≤ 64; decide), if_neg (by rw [hfs]; omega)]
  have hap : ∀ w', Below w.heap.size w w' → _ := fun w' hb => append_K (edN k) ⟨(frameL s.data.toList).toArray⟩ (Lib.hid (h.out.below hb).dk) hcp hn hq (by rw [hfs]; exact hsz)
  rw [hR, show appC cp L cs (edN k) ⟨(frameL s.data.toList).toArray⟩ = cs ++ [.app (edN k) ⟨(frameL s.data.toList).toArray⟩] by unfold appC; rw [if_pos hR]] at hap
  have HF := Lib.hid (And.intro hap (And.intro hk (And.intro hc (And.intro hh hs))))
  clear hap hk hc hh hs hcp hn hq hsz hroom hR hfs
  have hc0 : ∀ w', Below w.heap.size w w' → w'.cell? ⟨j, 0, none⟩ = some (.pointer (some ⟨p, 0, none⟩)) := fun w' hb => (hb.cell (p := ⟨j, 0, none⟩) h.out.jt.lt).trans h.out.jt.c0
  have hjed : ∀ w', Below w.heap.size w w' → Calls Tryz.prog 20 #[.pointer (some ⟨j, 0, none⟩)] w' fun e w'' => e = .returned (.string (edN k)) ∧ Below w'.heap.size w' w'' := fun w' hb => by
    have := jedits_any j p 0 k c lst w' (by decide) (Nat.lt_trans HF.out.2.1 (by decide)) (Lib.hid (h.out.jt.same (hb.block j h.out.jt.lt)))
    rw [edt_one HF.out.2.1] at this
    exact this
  have hfra : ∀ w', Below w.heap.size w w' → _ := fun w' hb => frame_any s w' (HF.out.2.2.2.1 w' (h.out.dk.bel.trans (hb.mono h.out.dk.bel.size))) HF.out.2.2.2.2
  have hfin : ∀ w' w'', Below w.heap.size w w' → Hid (DK w0 w'' p (grow S w' w'') cp (n + 1) L (cs ++ [.app (edN k) ⟨(frameL s.data.toList).toArray⟩]) ∧ Tch w' w'' S) → Hid (JS w0 w'' j p (grow S w' w'') cp (n + 1) L (cs ++ [.app (edN k) ⟨(frameL s.data.toList).toArray⟩]) 0 k c lst ∧ JQ w w'' j S (grow S w' w'')) := fun w' w'' hb hD => Lib.hid ⟨(h.out.below hb).disk hD.out.1 hD.out.2, (JP.q (JP.bel hb)).trans (JP.q (JP.of hD.out.2))⟩
  have HA := Lib.hid (And.intro hc0 (And.intro hjed (And.intro hfra (And.intro hfin hdr))))
  have hS0 : w.drew.cell? ⟨j, 0, none⟩ = some (.pointer (some ⟨p, 0, none⟩)) := hc0 _ hdr
  clear hc0 hjed hfra hfin hdr
  go_enter Tryz.func8, Tryz.ntmps8
  go_upto_region 5 with (fail)
  go_cut [5] (fun s5 wx => s5 = .int .i64 0 ∧ ∃ S', Hid (JS w0 wx j p S' cp (n + 1) L (cs ++ [.app (edN k) ⟨(frameL s.data.toList).toArray⟩]) 0 k c lst ∧ JQ w wx j S S'))
  case first =>
    go_region_held3 (fun w' => w'.cell? ⟨j, 0, none⟩ = some (.pointer (some ⟨p, 0, none⟩))) (assumption)
      (first
        | (go_at_call 20; with_reducible refine (HA.out.2.1 _ (by first | exact hB9 | exact HA.out.2.2.2.2)).mono ?_; rintro e w8 ⟨rfl, hb8⟩; have hB8 : Below w.heap.size w w8 := (by first | exact hB9.trans (hb8.mono hB9.size) | exact HA.out.2.2.2.2.trans (hb8.mono HA.out.2.2.2.2.size)); have hS8 := HA.out.1 _ hB8)
        | (go_at_call 25; with_reducible refine (HA.out.2.2.1 _ (by first | exact hB8 | exact HA.out.2.2.2.2)).mono ?_; rintro e w9 ⟨rfl, hb9⟩; have hB9 : Below w.heap.size w w9 := (by first | exact hB8.trans (hb9.mono hB8.size) | exact HA.out.2.2.2.2.trans (hb9.mono HA.out.2.2.2.2.size)); have hS9 := HA.out.1 _ hB9)
        | (go_at_call 24; with_reducible refine (HF.out.1 _ (by first | exact hB9 | exact hB8)).mono ?_; rintro e w7 ⟨rfl, hD⟩; have HX := (by first | exact HA.out.2.2.2.1 _ _ hB9 hD | exact HA.out.2.2.2.1 _ _ hB8 hD); have hS7 := HX.out.1.jt.c0))
    all_goals try go_wp2
    all_goals try go_meet
    all_goals exact ⟨rfl, _, HX⟩
  case rest =>
    obtain ⟨rfl, S1, HX⟩ := hcut
    have c3 := HX.out.1.jt.c3
    have f3 := HX.out.1.jt.fr 3
    have hw1 : IntKind.i64.wrap ((c : Int) + 1) = ((c + 1 : Nat) : Int) := by rw [IntWalk.i64_in _ (by have := HF.out.2.2.1; omega)]; omega
    go_wp2_with (fail)
    go_ret
    refine ⟨rfl, S1, Lib.hid ⟨HX.out.1.setj ?_, HX.out.2.trans (JQ.set _ _ _ _ _)⟩⟩
    have := jat_cnt (c := ((c + 1 : Nat) : Int)) HX.out.1.jt
    simpa using this
end Go.Proofs.YtlflfaldnpcjcaaGreatDoor

namespace Go.Proofs.YtlflfaldnpcjcaaGreatDoor
open Go.RowKit Go.Maps
theorem edN_inj {a b : Nat} (ha : a < 10) (hb : b < 10) : edN a = edN b ↔ a = b := by
  constructor
  · intro h
    have h1 : (edN a).data[8]! = (edN b).data[8]! := by rw [h]
    have h2 : UInt8.ofNat (48 + a) = UInt8.ofNat (48 + b) := h1
    have h3 := congrArg UInt8.toNat h2
    simp only [UInt8.toNat_ofNat'] at h3
    omega
  · rintro rfl; rfl
theorem edN_eq {a b : Nat} (ha : a < 10) (hb : b < 10) : ((edN a).toList == (edN b).toList) = decide (a = b) := by
  rw [Bool.eq_iff_iff, beq_iff_eq, decide_eq_true_iff, ByteArray.toList_eq, ByteArray.toList_eq, ← edN_inj ha hb]
  exact ⟨fun h => ByteArray.ext (Array.toList_inj.1 h), fun h => by rw [h]⟩
theorem edN_tmp (k : Nat) : (edN k = tmpS) ↔ False := by
  constructor
  · intro h
    have : (edN k).size = tmpS.size := by rw [h]
    exact absurd this (by show ¬ 9 = 3; decide)
  · exact False.elim
set_option maxRecDepth 100000 in
set_option maxHeartbeats 2000000 in
theorem left_K (j p c : Nat) (cnt lst : Int) (k : Nat) (w : World) (hc : c < 10) (hk : k < 10) (h : Hid (JAt w j p 0 c cnt lst)) :
    Calls Tryz.prog 42 #[.pointer (some ⟨j, 0, none⟩), .string (edN k)] w fun e w' => e = .returned (.bool (decide (k ≠ c))) ∧ Below w.heap.size w w' := by
  have HC := Lib.hid (And.intro hc hk)
  have ht : ((edN k).toList == [116, 109, 112]) = false := by rw [ByteArray.toList_eq]; rfl
  clear hc hk
  go_enter Tryz.func42, Tryz.ntmps42
  go_wp2_with (fail)
  refine (image_of k w).mono ?_
  rintro e w1 ⟨rfl, rfl⟩
  go_wp2_with (fail)
  refine (edits_of k HC.out.2 _).mono ?_
  rintro e w2 ⟨rfl, hb2⟩
  have H2 := Lib.hid (And.intro (h.out.same (hb2.block j h.out.lt)) hb2)
  clear hb2 h
  go_wp2_with (fail)
  have hed := jedits_any j p 0 c cnt lst w2 (by decide) (Nat.lt_trans HC.out.1 (by decide)) (Lib.hid H2.out.1)
  rw [edt_one HC.out.1] at hed
  refine hed.mono ?_
  rintro e w3 ⟨rfl, hb3⟩
  clear hed
  have HB := Lib.hid (H2.out.2.trans (hb3.mono H2.out.2.size))
  clear hb3
  go_wp2_with (fail)
  go_ret
  refine ⟨?_, HB.out⟩
  show Ending.returned (.bool (!((edN k).toList == (edN c).toList))) = _
  rw [edN_eq HC.out.2 HC.out.1]
  simp
end Go.Proofs.YtlflfaldnpcjcaaGreatDoor

namespace Go.Proofs.YtlflfaldnpcjcaaGreatDoor
open Go.RowKit Go.Maps
/-- the greatest of the numbers -/
def mxK (ks : List Nat) : Nat := ks.foldl max 0
theorem mxK_take {ks : List Nat} {i : Nat} (h : i < ks.length) : mxK (ks.take (i + 1)) = max (mxK (ks.take i)) ks[i] := by
  unfold mxK
  rw [List.take_succ_eq_append_getElem h, List.foldl_append]
  rfl
theorem mxK_lt {ks : List Nat} (h : ∀ k ∈ ks, k < 10) (i : Nat) : mxK (ks.take i) < 10 := by
  induction i with
  | zero => simp [mxK]
  | succ i ih =>
    by_cases hi : i < ks.length
    · rw [mxK_take hi]
      have := h ks[i] (List.getElem_mem hi)
      omega
    · rw [List.take_of_length_le (by omega)]
      rw [List.take_of_length_le (by omega)] at ih
      exact ih
theorem jat_set2 {w : World} {j p : Nat} {a b : Int} (h : JAt w j p 0 a 0 0) : JAt (w.setCell ⟨j, 2, none⟩ (.int .i64 b)) j p 0 b 0 0 := by
  obtain ⟨cs, hk⟩ := h.ty
  refine ⟨?_, ?_, ?_, ?_, ?_, ?_⟩
  · exact (World.cell?_setCell_other _ _ _ _ (by simp)).trans h.c0
  · exact (World.cell?_setCell_other _ _ _ _ (by simp)).trans h.c1
  · exact World.cell?_setCell_same _ _ _ h.c2
  · exact (World.cell?_setCell_other _ _ _ _ (by simp)).trans h.c3
  · exact (World.cell?_setCell_other _ _ _ _ (by simp)).trans h.c4
  · exact ⟨cs.set! 2 (.int .i64 b), by simp [World.setCell, Array.getElem?_modify, hk]⟩
/-- a list of names in a world: their cells -/
def Nms (w : World) (a : Option Addr) (ks : List Nat) : Prop := ∀ i (h : i < ks.length), ∃ g, a = some ⟨g, 0, none⟩ ∧ w.cell? ⟨g, i, none⟩ = some (.string (edN ks[i]))
theorem Nms.keep {w w' : World} {a : Option Addr} {ks : List Nat} (h : Nms w a ks) (hk : ∀ g i v, a = some ⟨g, 0, none⟩ → w.cell? ⟨g, i, none⟩ = some v → w'.cell? ⟨g, i, none⟩ = some v) : Nms w' a ks := fun i hi => by
  obtain ⟨g, h1, h2⟩ := h i hi
  exact ⟨g, h1, hk g i _ h1 h2⟩
/-- in the second loop: some names have been looked at -/
structure NwAt (W w : World) (j p : Nat) (a : Option Addr) (ks : List Nat) (i : Nat) : Prop where
  jt : JAt w j p 0 (mxK (ks.take i)) 0 0
  nm : Nms w a ks
  bel : Below W.heap.size W w
  jl : W.heap.size ≤ j
  ne : ∀ g, a = some ⟨g, 0, none⟩ → g ≠ j
theorem cell_lt {w : World} {d k : Nat} {v : Value} (hc : w.cell? ⟨d, k, none⟩ = some v) : d < w.heap.size := by
  unfold World.cell? at hc
  dsimp only at hc
  cases ho : w.heap[d]? with
  | none => rw [ho] at hc; cases hc
  | some o => exact (Array.getElem?_eq_some_iff.1 ho).1
set_option maxRecDepth 100000 in
set_option maxHeartbeats 2000000 in
theorem newest_K {w0 w : World} {p n : Nat} {S : Nat → Prop} {cp : Int} {L : Fs} (ks : List Nat) (h : Hid (DK w0 w p S cp n L [])) (hn : n ≤ 8796093022206) (hL : L.length ≤ 8796093022206) (hkl : ks.length ≤ 100) (hks : namesF L = ks.map edN) (hk9 : ∀ k ∈ ks, k < 10) :
    Calls Tryz.prog 18 #[.pointer (some ⟨p, 0, none⟩)] w fun e w' => e = .returned (.pointer (some ⟨w.heap.size, 0, none⟩)) ∧ Hid (JAt w' w.heap.size p 0 (mxK ks) 0 0 ∧ Below w.heap.size w w') := by
  have hbl : Below w.heap.size w (w.alloc (.cells #[.pointer (some ⟨p, 0, none⟩), .int .i64 0, .int .i64 0, .int .i64 0, .int .i64 0] 59)) := (Below.refl _ w).alloc (Nat.le_refl _) _
  have HD := Lib.hid (h.out.below hbl)
  have HJ := Lib.hid (jat_new w p)
  have HB := Lib.hid hbl
  have HK := Lib.hid (And.intro hks (And.intro hk9 (And.intro hn hL)))
  clear hbl h hks hk9 hn hL
  obtain ⟨j, hj⟩ : ∃ j, j = w.heap.size := ⟨_, rfl⟩
  have HJL := Lib.hid hj
  obtain ⟨w1, hw1⟩ : ∃ w1, w1 = w.alloc (.cells #[.pointer (some ⟨p, 0, none⟩), .int .i64 0, .int .i64 0, .int .i64 0, .int .i64 0] 59) := ⟨_, rfl⟩
  go_enter Tryz.func18, Tryz.ntmps18
  go_wp2_with (fail)
  rw [← hw1] at HD HJ HB ⊢
  rw [← hj] at HJ ⊢
  have HS := Lib.hid (show w1.heap.size = j + 1 by rw [hw1, hj]; simp)
  clear hw1 hj
  refine (list_K HD HK.out.2.2.1 HK.out.2.2.2).mono ?_
  rintro e w2 ⟨v, rfl, hv⟩
  obtain ⟨⟨a, c, rfl, hsl⟩, hb2⟩ := hv.out
  have hnm : namesF (held L []) = ks.map edN := HK.out.1
  rw [hnm] at hsl ⊢
  rw [List.length_map]
  have HN : Hid (Nms w2 a ks ∧ (∀ g, a = some ⟨g, 0, none⟩ → w1.heap.size ≤ g) ∨ ks = []) := by
    by_cases hk : ks = []
    · exact Lib.hid (.inr hk)
    · refine Lib.hid (.inl ⟨fun i hi => ?_, fun g hg => ?_⟩)
      · obtain ⟨g, h1, h2, h3⟩ := hsl i (edN ks[i]) (by simp [hi])
        exact ⟨g, h1, h3⟩
      · have h0 : 0 < ks.length := List.length_pos_iff.2 hk
        obtain ⟨g', h1, h2, h3⟩ := hsl 0 (edN ks[0]) (by simp [h0])
        rw [hg] at h1
        injection h1 with h1
        injection h1 with h1
        omega
  have HNW : Hid (NwAt w w2 j p a ks 0 ∨ ks = []) := by
    rcases HN.out with ⟨h1, h2⟩ | h1
    · refine Lib.hid (.inl ⟨?_, h1, HB.out.trans (hb2.mono HB.out.size), Nat.le_of_eq HJL.out.symm, fun g hg => ?_⟩)
      · have := HJ.out.same (hb2.block j (by rw [HS.out]; omega))
        simpa [mxK] using this
      · have := h2 g hg
        have := HS.out
        omega
    · exact Lib.hid (.inr h1)
  have HE : Hid (JAt w2 j p 0 0 0 0 ∧ Below w.heap.size w w2) := Lib.hid ⟨HJ.out.same (hb2.block j (by rw [HS.out]; omega)), HB.out.trans (hb2.mono HB.out.size)⟩
  clear hsl hb2 hv hnm HN HJ HB HD
  obtain ⟨len, hlen⟩ : ∃ len, len = ks.length := ⟨_, rfl⟩
  rw [← hlen]
  have HLN := Lib.hid hlen
  have hl100 : len ≤ 100 := by rw [hlen]; exact hkl
  clear hlen hkl
  have HK9 := Lib.hid HK.out.2.1
  go_wp2_with (fail)
  go_loopw [21] (fun i wr => ∃ k : Nat, k ≤ len ∧ i = .int .i64 (k : Int) ∧ w2 = wr) (fun i _ => len - (intOf i).toNat)
  case atStart => exact ⟨0, Nat.zero_le _, rfl, rfl⟩
  case round =>
    obtain ⟨k, hk, rfl, rfl⟩ := hrel
    by_cases hlt : k < len
    · have hkl : k < ks.length := by have := HLN.out; omega
      obtain ⟨g, rfl, hcell⟩ : ∃ g, a = some ⟨g, 0, none⟩ ∧ w2.cell? ⟨g, k, none⟩ = some (.string (edN ks[k])) := by
        rcases HNW.out with h1 | h1
        · exact h1.nm k hkl
        · rw [h1] at hkl; exact absurd hkl (Nat.not_lt_zero _)
      generalize ks[k] = kk at hcell
      go_wp2_with (fail)
      refine (image_of kk w2).mono ?_
      rintro e w3 ⟨rfl, rfl⟩
      go_wp2_with (fail)
      go_roundw
      case rel => exact ⟨k + 1, by omega, by first | rfl | go_num, by trivial⟩
      case measure => simp [intOf]; omega
    · obtain rfl : k = len := by omega
      clear hk hlt
      go_wp2_with (fail)
      have HNX : Hid ((NwAt w w2 j p a ks 0 ∨ ks = []) ∧ JAt w2 j p 0 (mxK (ks.take 0)) 0 0 ∧ Below w.heap.size w w2) := Lib.hid ⟨HNW.out, by simpa [mxK] using HE.out.1, HE.out.2⟩
      clear HNW HE
      go_loopw [43] (fun i w4 => ∃ m : Nat, m ≤ k ∧ i = .int .i64 (m : Int) ∧ Hid ((NwAt w w4 j p a ks m ∨ ks = []) ∧ JAt w4 j p 0 (mxK (ks.take m)) 0 0 ∧ Below w.heap.size w w4)) (fun i _ => k - (intOf i).toNat)
      case atStart => exact ⟨0, Nat.zero_le _, rfl, HNX⟩
      case round =>
        obtain ⟨m, hm, rfl, HM⟩ := hrel
        clear HNX
        by_cases hlt : m < k
        · have hkl : m < ks.length := by have := HLN.out; omega
          have HA : Hid (NwAt w wr j p a ks m) := by
            rcases HM.out.1 with h1 | h1
            · exact Lib.hid h1
            · rw [h1] at hkl; exact absurd hkl (Nat.not_lt_zero _)
          clear HM
          obtain ⟨g, rfl, hcell⟩ := HA.out.nm m hkl
          have hk10 : ks[m] < 10 := HK9.out _ (List.getElem_mem hkl)
          have hmx : mxK (ks.take (m + 1)) = max (mxK (ks.take m)) ks[m] := mxK_take hkl
          obtain ⟨kk, hkk⟩ : ∃ kk, kk = ks[m] := ⟨_, rfl⟩
          obtain ⟨M, hM⟩ : ∃ M, M = mxK (ks.take m) := ⟨_, rfl⟩
          have hM10 : M < 10 := by rw [hM]; exact mxK_lt HK9.out m
          rw [← hkk] at hcell hk10 hmx
          rw [← hM] at hmx
          have HJT : Hid (JAt wr j p 0 M 0 0) := Lib.hid (by rw [hM]; exact HA.out.jt)
          have HMX := Lib.hid hmx
          clear hkk hM hmx
          go_wp2_with (fail)
          refine (edits_of kk hk10 wr).mono ?_
          rintro e w5 ⟨rfl, hb5⟩
          have HJ5 := Lib.hid (HJT.out.same (hb5.block j HJT.out.lt))
          have HA5 : Hid (Nms w5 (some ⟨g, 0, none⟩) ks ∧ Below w.heap.size w w5) := Lib.hid ⟨HA.out.nm.keep (fun g' i v _ hv => (hb5.cell (p := ⟨g', i, none⟩) (cell_lt hv)).trans hv), HA.out.bel.trans (hb5.mono HA.out.bel.size)⟩
          clear hb5 HJT hcell
          have c1 := HJ5.out.c1
          have c2 := HJ5.out.c2
          have f2 := HJ5.out.fr 2
          go_wp2_with (fail)
          have hmi : (max (M : Int) (kk : Int)) = ((mxK (ks.take (m + 1)) : Nat) : Int) := by rw [HMX.out]; omega
          have hJ6 : JAt (w5.setCell ⟨j, 2, none⟩ (.int .i64 (max (M : Int) (kk : Int)))) j p 0 (mxK (ks.take (m + 1)) : Nat) 0 0 := by
            rw [hmi]
            exact jat_set2 HJ5.out
          have hB6 : Below w.heap.size w (w5.setCell ⟨j, 2, none⟩ (.int .i64 (max (M : Int) (kk : Int)))) := Below.setCell (p := ⟨j, 2, none⟩) HA5.out.2 HA.out.jl _
          refine ⟨⟨m + 1, by omega, by simp, Lib.hid ⟨.inl ⟨hJ6, HA5.out.1.keep (fun g' i v hg hv => ?_), hB6, HA.out.jl, HA.out.ne⟩, hJ6, hB6⟩⟩, by simp [intOf]; omega⟩
          exact (World.cell?_setCell_other _ _ _ _ (fun e => HA.out.ne g' hg (by injection e with e; exact e.symm))).trans hv
        · obtain rfl : m = k := by omega
          have HM2 : Hid (JAt wr j p 0 (mxK ks) 0 0 ∧ Below w.heap.size w wr) := Lib.hid ⟨by have := HM.out.2.1; rw [List.take_of_length_le (Nat.le_of_eq HLN.out.symm)] at this; exact this, HM.out.2.2⟩
          clear HM
          go_wp2
          go_ret
          refine ⟨by rw [HJL.out]; rfl, Lib.hid ⟨?_, HM2.out.2⟩⟩
          have h := HM2.out.1
          rw [HJL.out] at h
          exact h
end Go.Proofs.YtlflfaldnpcjcaaGreatDoor

namespace Go.Proofs.YtlflfaldnpcjcaaGreatDoor
open Go.RowKit Go.Maps
/-- the changes that take files away, all but one -/
def delK (ks : List Nat) (c : Nat) : List Chg := (ks.filter fun k => decide (k ≠ c)).map fun k => .del (edN k)
theorem delK_take {ks : List Nat} {i c : Nat} (h : i < ks.length) : delK (ks.take (i + 1)) c = if ks[i] = c then delK (ks.take i) c else delK (ks.take i) c ++ [.del (edN ks[i])] := by
  unfold delK
  rw [List.take_succ_eq_append_getElem h, List.filter_append, List.map_append]
  by_cases e : ks[i] = c <;> simp [e]
theorem get_dels (L : Fs) (q : ByteArray) : ∀ (ks : List Nat) (c : Nat), getF (held L (delK ks c)) q = if ∃ k ∈ ks, k ≠ c ∧ edN k = q then none else getF L q := by
  intro ks c
  suffices h : ∀ (ks : List Nat) (L : Fs), getF (held L (delK ks c)) q = if ∃ k ∈ ks, k ≠ c ∧ edN k = q then none else getF L q from h ks L
  intro ks
  induction ks with
  | nil => intro L; simp [delK, held_nil]
  | cons k ks ih =>
    intro L
    by_cases e : k = c
    · subst e
      rw [show delK (k :: ks) k = delK ks k by simp [delK], ih]
      congr 1
      simp
    · rw [show delK (k :: ks) c = [.del (edN k)] ++ delK ks c by simp [delK, e], held_app, ih]
      show (if _ then none else getF (delF L (edN k)) q) = _
      rw [getF_delF]
      by_cases e1 : ∃ k ∈ ks, k ≠ c ∧ edN k = q
      · rw [if_pos e1, if_pos (by obtain ⟨x, h1, h2⟩ := e1; exact ⟨x, List.mem_cons_of_mem _ h1, h2⟩)]
      · rw [if_neg e1]
        by_cases e2 : q = edN k
        · rw [if_pos e2, if_pos ⟨k, List.mem_cons_self .., e, e2.symm⟩]
        · rw [if_neg e2, if_neg (by
            rintro ⟨x, h1, h2, h3⟩
            rcases List.mem_cons.1 h1 with rfl | h1
            · exact e2 h3.symm
            · exact e1 ⟨x, h1, h2, h3⟩)]
theorem delK_wts (ks : List Nat) (c : Nat) : wts (delK ks c) = 0 := by
  unfold delK wts
  induction (ks.filter fun k => decide (k ≠ c)) with
  | nil => rfl
  | cons k ks ih => simpa [wtC] using ih
theorem delK_len (ks : List Nat) (c : Nat) : (delK ks c).length ≤ ks.length := by
  unfold delK
  rw [List.length_map]
  exact List.length_filter_le _ _
theorem tot_dels (L : Fs) (hs : SrtF L) (ks : List Nat) (c : Nat) : totF (held L (delK ks c)) ≤ totF L := by
  have := tot_held hs (delK ks c) (fun x hx => by
    obtain ⟨k, _, rfl⟩ := List.mem_map.1 hx
    show (edN k).size ≤ 64
    show 9 ≤ 64
    decide)
  rw [delK_wts] at this
  exact this
/-- some of the names have been looked at -/
structure SwAt (w0 W w : World) (j p : Nat) (S : Nat → Prop) (cp : Int) (n : Nat) (L : Fs) (ks : List Nat) (c i : Nat) (cnt lst : Int) (a : Option Addr) : Prop where
  ex : ∃ S' n', n' ≤ n + i ∧ JS w0 w j p S' cp n' L (delK (ks.take i) c) 0 c cnt lst ∧ JP W w S S' ∧ (0 < ks.length → ∀ g, a = some ⟨g, 0, none⟩ → g < w.heap.size ∧ ¬ S' g)
  nm : Nms w a ks
set_option maxRecDepth 100000 in
set_option maxHeartbeats 4000000 in
theorem sweep_K {w0 w : World} {j p n : Nat} {S : Nat → Prop} {cp cnt lst : Int} {L : Fs} (ks : List Nat) (c : Nat) (h : Hid (JS w0 w j p S cp n L [] 0 c cnt lst)) (hn : n ≤ 1099511627776) (hkl : ks.length ≤ 100) (hL : L.length ≤ 100) (hks : namesF L = ks.map edN) (hk9 : ∀ k ∈ ks, k < 10) (hnd : ks.Nodup) (hc : c < 10) (hsz : totF L ≤ 140737488355328) :
    Calls Tryz.prog 23 #[.pointer (some ⟨j, 0, none⟩)] w fun e w' => e = .returned (.tuple #[]) ∧ ∃ S' n', n' ≤ n + 2 * ks.length ∧ Hid (JS w0 w' j p S' cp n' (held L (delK ks c)) [] 0 c cnt lst ∧ JP w w' S S') := by
  have c0 := h.out.jt.c0
  have HF := Lib.hid (And.intro hn (And.intro hkl (And.intro hL (And.intro hks (And.intro hk9 (And.intro hnd (And.intro hc hsz)))))))
  clear hn hkl hL hks hk9 hnd hc hsz
  go_enter Tryz.func23, Tryz.ntmps23
  go_wp2_with (fail)
  refine (list_K (Lib.hid h.out.dk) (by have := HF.out.1; omega) (by have := HF.out.2.2.1; show L.length ≤ _; omega)).mono ?_
  rintro e w2 ⟨v, rfl, hv⟩
  obtain ⟨⟨a, cc, rfl, hsl⟩, hb2⟩ := hv.out
  have hnm : namesF (held L []) = ks.map edN := HF.out.2.2.2.1
  rw [hnm] at hsl ⊢
  rw [List.length_map]
  have HS0 : Hid (SwAt w0 w w2 j p S cp n L ks c 0 cnt lst a) := Lib.hid ⟨⟨S, n, Nat.le_refl _, h.out.below hb2, JP.bel hb2, fun hk g hg => by
      obtain ⟨g', h1, h2, h3⟩ := hsl 0 (edN ks[0]) (by rw [List.getElem?_map, List.getElem?_eq_getElem hk]; rfl)
      rw [hg] at h1
      injection h1 with h1
      injection h1 with h1
      subst h1
      exact ⟨cell_lt h3, fun hs => by have := (h.out.dk.m.own g hs).2; omega⟩⟩, fun i hi => by
      obtain ⟨g, h1, h2, h3⟩ := hsl i (edN ks[i]) (by simp [hi])
      exact ⟨g, h1, h3⟩⟩
  clear hsl hb2 hv hnm c0
  obtain ⟨len, hlen⟩ : ∃ len, len = ks.length := ⟨_, rfl⟩
  rw [← hlen]
  have HLN := Lib.hid hlen
  have hl100 : len ≤ 100 := by rw [hlen]; exact HF.out.2.1
  clear hlen
  go_wp2_with (fail)
  go_loopw [10] (fun i wr => ∃ k : Nat, k ≤ len ∧ i = .int .i64 (k : Int) ∧ Hid (SwAt w0 w wr j p S cp n L ks c k cnt lst a)) (fun i _ => len - (intOf i).toNat)
  case atStart => exact ⟨0, Nat.zero_le _, rfl, HS0⟩
  case round =>
    obtain ⟨k, hk, rfl, HK⟩ := hrel
    clear HS0
    by_cases hlt : k < len
    · have hkl : k < ks.length := by have := HLN.out; omega
      obtain ⟨g, rfl, hcell⟩ := HK.out.nm k hkl
      have hk10 : ks[k] < 10 := HF.out.2.2.2.2.1 _ (List.getElem_mem hkl)
      have htk := delK_take (c := c) hkl
      have hnot : ∀ x ∈ ks.take k, x ≠ ks[k] := fun x hx e => by
        obtain ⟨i, hi, hxi⟩ := List.getElem_of_mem hx
        rw [List.length_take] at hi
        have h3 := List.pairwise_iff_getElem.1 HF.out.2.2.2.2.2.1 i k (by omega) hkl (by omega)
        rw [List.getElem_take] at hxi
        exact h3 (hxi.trans e)
      obtain ⟨S1, n1, hn1, hJ, hP, hS⟩ := HK.out.ex
      have hget : (getF (held L (delK (ks.take k) c)) (edN ks[k])).isSome = true := by
        rw [get_dels, if_neg (by
          rintro ⟨x, h1, h2, h3⟩
          exact hnot x h1 ((edN_inj (HF.out.2.2.2.2.1 _ (List.mem_of_mem_take h1)) hk10).1 h3))]
        have hmem : edN ks[k] ∈ namesF L := by rw [HF.out.2.2.2.1]; exact List.mem_map.2 ⟨_, List.getElem_mem hkl, rfl⟩
        obtain ⟨x, h1, h2⟩ := List.mem_map.1 hmem
        have h3 := mem_getF h.out.dk.srt h1
        rw [← h2, h3]
        rfl
      obtain ⟨kk, hkk⟩ : ∃ kk, kk = ks[k] := ⟨_, rfl⟩
      rw [← hkk] at hcell hk10 htk hget
      have H1 := Lib.hid (And.intro hJ (And.intro hP (And.intro (hS (by omega) g rfl) (And.intro hget (And.intro htk (And.intro HK.out.nm hn1))))))
      clear hJ hP hS hget htk hkk hnot HK hn1
      go_wp2_with (fail)
      refine (left_K j p c cnt lst kk wr HF.out.2.2.2.2.2.2.1 hk10 (Lib.hid H1.out.1.jt)).mono ?_
      rintro e w3 ⟨rfl, hb3⟩
      have H3 : Hid (JS w0 w3 j p S1 cp n1 L (delK (ks.take k) c) 0 c cnt lst ∧ JP w w3 S S1 ∧ (g < w3.heap.size ∧ ¬ S1 g) ∧ Nms w3 (some ⟨g, 0, none⟩) ks) :=
        Lib.hid ⟨H1.out.1.below hb3, H1.out.2.1.trans (JP.bel hb3), ⟨Nat.lt_of_lt_of_le H1.out.2.2.1.1 hb3.size, H1.out.2.2.1.2⟩, H1.out.2.2.2.2.2.1.keep (fun g' i v _ hv => (hb3.cell (p := ⟨g', i, none⟩) (cell_lt hv)).trans hv)⟩
      clear hb3 hcell
      by_cases hkc : kk = c
      · have htk := H1.out.2.2.2.2.1
        rw [if_pos hkc] at htk
        have HS1 : Hid (SwAt w0 w w3 j p S cp n L ks c (k + 1) cnt lst (some ⟨g, 0, none⟩)) := Lib.hid ⟨⟨S1, n1, by have := H1.out.2.2.2.2.2.2; omega, by rw [htk]; exact H3.out.1, H3.out.2.1, fun _ g' hg => by
          injection hg with hg
          injection hg with hg
          subst hg
          exact H3.out.2.2.1⟩, H3.out.2.2.2⟩
        have hdec : decide (kk ≠ c) = false := by simp [hkc]
        rw [hdec]
        clear H1 H3 htk hdec
        go_wp2_with (fail)
        exact ⟨⟨k + 1, by omega, by simp, HS1⟩, by simp [intOf]; omega⟩
      · have htk := H1.out.2.2.2.2.1
        rw [if_neg hkc] at htk
        have hdec : decide (kk ≠ c) = true := by simp [hkc]
        rw [hdec]
        have hR : delR (held L (delK (ks.take k) c)) (edN kk) = 0 := by unfold delR; rw [if_pos H1.out.2.2.2.1]
        have hde := delete_K (edN kk) (Lib.hid H3.out.1.dk) (by show 9 ≤ maxLen; decide) (by have h1 := H1.out.2.2.2.2.2.2; have h2 := HF.out.1; unfold maxLen; omega) (by have h1 := delK_len (ks.take k) c; rw [List.length_take] at h1; omega) (Nat.le_trans (tot_dels L h.out.dk.srt _ _) HF.out.2.2.2.2.2.2.2)
        rw [hR, show delC L (delK (ks.take k) c) (edN kk) = delK (ks.take (k + 1)) c by unfold delC; rw [if_pos hR, htk]] at hde
        have c0 := H3.out.1.jt.c0
        have HN1 := Lib.hid H1.out.2.2.2.2.2.2
        clear hdec hR htk H1
        go_wp2_with (fail)
        refine hde.mono ?_
        rintro e w5 ⟨rfl, hD⟩
        have HS1 : Hid (SwAt w0 w w5 j p S cp n L ks c (k + 1) cnt lst (some ⟨g, 0, none⟩)) := Lib.hid ⟨⟨_, n1 + 1, by have := HN1.out; omega, H3.out.1.disk hD.out.1 hD.out.2, H3.out.2.1.trans (JP.of hD.out.2), fun _ g' hg => by
          injection hg with hg
          injection hg with hg
          subst hg
          exact ⟨Nat.lt_of_lt_of_le H3.out.2.2.1.1 hD.out.2.size, fun hh => hh.elim H3.out.2.2.1.2 (fun hh => by have := H3.out.2.2.1.1; omega)⟩⟩, H3.out.2.2.2.keep (fun g' i v hg hv => by
            injection hg with hg
            injection hg with hg
            subst hg
            exact (cell_eq (hD.out.2.block g H3.out.2.2.1.1 H3.out.2.2.1.2) i).trans hv)⟩
        clear hde hD H3 c0
        go_wp2_with (fail)
        exact ⟨⟨k + 1, by omega, by simp, HS1⟩, by simp [intOf]; omega⟩
    · obtain rfl : k = len := by omega
      obtain ⟨S1, n1, hn1, hJ, hP, _⟩ := HK.out.ex
      rw [List.take_of_length_le (Nat.le_of_eq HLN.out.symm)] at hJ
      have HE := Lib.hid (And.intro hJ (And.intro hP hn1))
      have c0 := hJ.jt.c0
      clear hJ hP HK hn1
      go_wp2_with (fail)
      refine (sync_K (Lib.hid HE.out.1.dk) (by have h1 := HE.out.2.2; have h2 := HF.out.1; have h3 := delK_len ks c; have h4 := HF.out.2.1; unfold maxLen; omega) (by rw [delK_wts]; exact HF.out.2.2.2.2.2.2.2)).mono ?_
      rintro e w5 ⟨rfl, hD⟩
      have HE2 : Hid (∃ S' n', n' ≤ n + 2 * ks.length ∧ JS w0 w5 j p S' cp n' (held L (delK ks c)) [] 0 c cnt lst ∧ JP w w5 S S') := Lib.hid ⟨_, _, by have h1 := HE.out.2.2; have h3 := delK_len ks c; have := HLN.out; omega, HE.out.1.disk hD.out.1 hD.out.2, HE.out.2.1.trans (JP.of hD.out.2)⟩
      clear HE hD c0
      go_wp2
      go_end0
      obtain ⟨S', n', h1, h2⟩ := HE2.out
      exact ⟨rfl, S', n', h1, Lib.hid h2⟩
end Go.Proofs.YtlflfaldnpcjcaaGreatDoor

namespace Go.Proofs.YtlflfaldnpcjcaaGreatDoor
open Go.RowKit Go.Maps
/-- what is on the disk: no file, or one -/
def oneL : Option (Nat × ByteArray) → Fs
  | none => []
  | some (k, s) => [⟨edN k, s⟩]
def nthO : Option (Nat × ByteArray) → Nat
  | none => 0
  | some (k, _) => k
def bytO : Option (Nat × ByteArray) → ByteArray
  | none => ⟨#[]⟩
  | some (_, s) => s
def ksO : Option (Nat × ByteArray) → List Nat
  | none => []
  | some (k, _) => [k]
theorem get_one (o : Option (Nat × ByteArray)) (q : ByteArray) : getF (oneL o) q = match o with | none => none | some (k, s) => if edN k = q then some s else none := by
  match o with
  | none => rfl
  | some (k, s) => exact (getF_cons _ _ _).trans (by rfl)
theorem edN_ne_img (k : Nat) : ¬ edN k = imgS 0 := fun e => by
  have : (edN k).data[0]! = (imgS 0).data[0]! := by rw [e]
  have h2 : (imgS 0).data[0]! = 105 := by
    unfold imgS
    rw [digS_one (show 0 < 10 by decide)]
    decide
  rw [h2] at this
  exact absurd this (by show ¬ (101 : UInt8) = 105; decide)
theorem names_one (o : Option (Nat × ByteArray)) : namesF (oneL o) = (ksO o).map edN := by
  match o with
  | none => rfl
  | some (k, s) => rfl
theorem mx_one (o : Option (Nat × ByteArray)) : mxK (ksO o) = nthO o := by
  match o with
  | none => rfl
  | some (k, s) => show max 0 k = k; omega
theorem rd_one (o : Option (Nat × ByteArray)) : rdS (oneL o) (edN (nthO o)) = bytO o := by
  unfold rdS
  rw [get_one]
  match o with
  | none => rfl
  | some (k, s) => show orE (if edN k = edN k then some s else none) = s; rw [if_pos rfl]; rfl
theorem del_one (o : Option (Nat × ByteArray)) : held (oneL o) (delK (ksO o) (nthO o)) = oneL o := by
  match o with
  | none => rfl
  | some (k, s) => simp [delK, ksO, nthO, held_nil]
theorem blt_facts {k : Nat} (hk : k < 9) : blt (edN k) tmpS = true ∧ blt tmpS (edN (k + 1)) = false ∧ blt (edN k) (edN (k + 1)) = true := by
  have : k = 0 ∨ k = 1 ∨ k = 2 ∨ k = 3 ∨ k = 4 ∨ k = 5 ∨ k = 6 ∨ k = 7 ∨ k = 8 := by omega
  rcases this with rfl | rfl | rfl | rfl | rfl | rfl | rfl | rfl | rfl <;> decide
theorem lay_one {k : Nat} (hk : k < 9) (s g : ByteArray) : layL (oneL (some (k, s))) (edN (k + 1)) g = [⟨edN k, s⟩, ⟨edN (k + 1), g⟩] := by
  obtain ⟨b1, b2, b3⟩ := blt_facts hk
  have n1 : ¬ edN k = tmpS := (edN_tmp k).1
  have n2 : ¬ edN (k + 1) = tmpS := (edN_tmp (k + 1)).1
  have n3 : ¬ edN k = edN (k + 1) := fun e => by have := (edN_inj (by omega) (by omega)).1 e; omega
  have n4 : ¬ tmpS = edN (k + 1) := fun e => n2 e.symm
  have h1 : held (oneL (some (k, s))) [.app tmpS g] = [⟨edN k, s⟩, ⟨tmpS, g⟩] := by
    show putF [⟨edN k, s⟩] tmpS (orE (getF [⟨edN k, s⟩] tmpS) ++ g) = _
    rw [getF_cons, if_neg n1, getF_nil, show orE none ++ g = g from ByteArray.empty_append]
    simp [putF, delF, insF, n1, b1]
  unfold layL
  rw [h1]
  show delF (putF [⟨edN k, s⟩, ⟨tmpS, g⟩] (edN (k + 1)) (orE (getF [⟨edN k, s⟩, ⟨tmpS, g⟩] tmpS))) tmpS = _
  rw [getF_cons, if_neg n1, getF_cons, if_pos rfl, show orE (some g) = g from rfl]
  simp [putF, delF, insF, n1, n2, n3, n4, b2, b3]
theorem del_two {k : Nat} (hk : k < 9) (s g : ByteArray) : held [⟨edN k, s⟩, ⟨edN (k + 1), g⟩] (delK [k, k + 1] (k + 1)) = oneL (some (k + 1, g)) := by
  have n3 : ¬ edN (k + 1) = edN k := fun e => by have := (edN_inj (by omega) (by omega)).1 e; omega
  have e1 : delK [k, k + 1] (k + 1) = [.del (edN k)] := by simp [delK]
  rw [e1]
  show delF [⟨edN k, s⟩, ⟨edN (k + 1), g⟩] (edN k) = _
  simp [delF, n3, oneL]
/-- the row of texts stays where other blocks turn -/
theorem TextRow.keep {w w' : World} {B B' : Nat} {ao : Option Addr} {bs : List (List UInt8)} (h : TextRow w B ao bs) (hB : B' ≤ B) (hs : w.heap.size ≤ w'.heap.size) (hk : ∀ g, B ≤ g → g < w.heap.size → w'.heap[g]? = w.heap[g]?) : TextRow w' B' ao bs := fun i hi => by
  obtain ⟨g, h1, h2, h3, h4⟩ := h i hi
  exact ⟨g, h1, Nat.le_trans hB h2, Nat.lt_of_lt_of_le h3 hs, (cell_eq (hk g h2 h3) i).trans h4⟩
/-- what Open finds: the file then, the journal's number -/
def opO (o : Option (Nat × ByteArray)) (en : Nat) (er : Int) : Option (Nat × ByteArray) := if er = 0 then o else some (nthO o + 1, (bytO o).extract 0 en)
theorem one_len (o : Option (Nat × ByteArray)) : (ksO o).length ≤ 1 ∧ (oneL o).length ≤ 1 := by
  match o with
  | none => exact ⟨Nat.zero_le _, Nat.zero_le _⟩
  | some (k, s) => exact ⟨Nat.le_refl _, Nat.le_refl _⟩
theorem ks_le (o : Option (Nat × ByteArray)) (k : Nat) (h : k ∈ ksO o) : k ≤ nthO o := by
  match o, h with
  | some (k', s), h =>
    have : k = k' := by simpa [ksO] using h
    exact Nat.le_of_eq this
theorem ks_nodup (o : Option (Nat × ByteArray)) : (ksO o).Nodup := by
  match o with
  | none => exact List.nodup_nil
  | some (k, s) => simp [ksO]
theorem tot_one (o : Option (Nat × ByteArray)) : totF (oneL o) = (bytO o).size := by
  match o with
  | none => rfl
  | some (k, s) => simp [totF, oneL, bytO]
theorem JS.setq {w0 w : World} {j p q n i : Nat} {S : Nat → Prop} {cp seg nth cnt lst : Int} {L : Fs} {cs : List Chg} {v : Value} (h : JS w0 w j p S cp n L cs seg nth cnt lst) (hq : ¬ S q) (hj : ¬ q = j) (hlo : w0.heap.size ≤ q) : JS w0 (w.setCell ⟨q, i, none⟩ v) j p S cp n L cs seg nth cnt lst :=
  ⟨⟨h.dk.bel.setCell (p := ⟨q, i, none⟩) hlo _, h.dk.m.tch (S' := fun b => b = q) ⟨rfl, rfl, rfl, by simp [World.setCell], fun b _ hb => Below.heap_setCell _ _ _ _ hb⟩ (fun b hb e => hq (e ▸ hb))⟩, h.jt.same (Below.heap_setCell _ _ _ _ (fun e => hj e.symm)), h.no, h.lo⟩
/-- ahead of the sweep -/
def MidO (w0 w5 wx : World) (j p : Nat) (S : Nat → Prop) (cp : Int) (n : Nat) (o : Option (Nat × ByteArray)) (en : Nat) (er : Int) : Prop :=
  ∃ S1 n1 L1 ks c, n1 ≤ n + 5 ∧ JS w0 wx j p S1 cp n1 L1 [] 0 (c : Nat) 0 0 ∧ JQ w5 wx j S S1 ∧ namesF L1 = ks.map edN ∧ ks.length ≤ 2 ∧ L1.length ≤ 2 ∧ (∀ k ∈ ks, k < 10) ∧ ks.Nodup ∧ c < 10 ∧ totF L1 ≤ 140737488355328 ∧ held L1 (delK ks c) = oneL (opO o en er) ∧ c = nthO (opO o en er)
set_option maxRecDepth 100000 in
set_option maxHeartbeats 4000000 in
theorem jopen_K {w0 w : World} {p n : Nat} {S : Nat → Prop} {cp : Int} (o : Option (Nat × ByteArray)) (bs : List (List UInt8)) (en : Nat) (er : Int) (h : Hid (DK w0 w p S cp n (oneL o) [])) (hk : nthO o < 9) (hn : n ≤ 1099511627000) (hsz : (bytO o).size ≤ 1099511627776) (hcp : 0 ≤ cp ∧ cp ≤ 9223372036854775807) (hh : ∀ w', Below w0.heap.size w0 w' → Half w') (hal : allL (bytO o).data.toList = (bs, en, er)) (her : er = 0 ∨ (er = 23 ∧ en ≤ (bytO o).size ∧ o.isSome = true ∧ (en : Int) ≤ cp - (bytO o).size)) :
    Calls Tryz.prog 7 #[.pointer (some ⟨p, 0, none⟩)] w fun e w' => ∃ j ao cap S' n', e = .returned (.tuple #[.pointer (some ⟨j, 0, none⟩), .agg #[.string ⟨#[]⟩, .slice ao bs.length cap], .int .i64 0]) ∧ n' ≤ n + 10 ∧ Hid (JS w0 w' j p S' cp n' (oneL (opO o en er)) [] 0 (nthO (opO o en er)) bs.length bs.length ∧ TextRow w' w.heap.size ao bs ∧ JP w w' S S' ∧ ∀ g, 0 < bs.length → ao = some ⟨g, 0, none⟩ → ¬ S' g) := by
  have hbl : Below w.heap.size w (w.alloc (.cells #[.string ⟨#[]⟩, .slice none 0 0] 29)) := (Below.refl _ w).alloc (Nat.le_refl _) _
  obtain ⟨q, hq⟩ : ∃ q, q = w.heap.size := ⟨_, rfl⟩
  obtain ⟨wa, hwa⟩ : ∃ wa, wa = w.alloc (.cells #[.string ⟨#[]⟩, .slice none 0 0] 29) := ⟨_, rfl⟩
  have hx : wa.heap[q]? = some (.cells #[.string ⟨#[]⟩, .slice none 0 0] 29 (0, 0)) := by rw [hwa, hq]; exact heap_alloc_new w _
  rw [← hwa] at hbl
  have hsa : wa.heap.size = q + 1 := by rw [hwa, hq]; simp
  have HF := Lib.hid (And.intro hk (And.intro hn (And.intro hsz (And.intro hcp (And.intro hh (And.intro hal her))))))
  clear hk hn hsz hcp hh hal her
  have hnw := newest_K (ksO o) (Lib.hid (h.out.below hbl)) (by have := HF.out.2.1; omega) (by match o with | none => exact Nat.zero_le _ | some _ => show 1 ≤ _; decide) (by match o with | none => exact Nat.zero_le _ | some _ => show 1 ≤ 100; decide) (names_one o) (fun k hk => by
    match o, hk with
    | some (k', s), hk =>
      have : k = k' := by simpa [ksO] using hk
      rw [this]
      exact Nat.lt_trans HF.out.1 (by decide))
  rw [mx_one] at hnw
  go_enter Tryz.func7, Tryz.ntmps7
  go_wp2_with (fail)
  rw [← hwa, ← hq]
  clear hwa
  refine hnw.mono ?_
  rintro e w1 ⟨rfl, h1⟩
  clear hnw
  have HS1 : Hid (JS w0 w1 wa.heap.size p S cp n (oneL o) [] 0 (nthO o) 0 0) := Lib.hid ⟨(h.out.below hbl).below h1.out.2, h1.out.1, fun hs => by have := (h.out.m.own _ hs).2; omega, by have := h.out.bel.size; omega⟩
  have HX1 : Hid (w1.heap[q]? = some (.cells #[.string ⟨#[]⟩, .slice none 0 0] 29 (0, 0)) ∧ Below w.heap.size w w1) := Lib.hid ⟨(h1.out.2.block q (by omega)).trans hx, hbl.trans (h1.out.2.mono (by omega))⟩
  obtain ⟨j, hj⟩ : ∃ j, j = wa.heap.size := ⟨_, rfl⟩
  rw [← hj] at HS1 ⊢
  have HJ := Lib.hid (show j = q + 1 by omega)
  have HQ := Lib.hid hq
  clear h1 hbl hx hj hsa hq
  go_wp2_with (fail)
  refine (readImage_K HS1 (by
    rw [held_nil, get_one]
    match o with
    | none => rfl
    | some (k, s) => exact if_neg (edN_ne_img k))).mono ?_
  rintro e w2 ⟨rfl, hb2⟩
  have H2 := Lib.hid (And.intro (HS1.out.below hb2) (And.intro ((hb2.block q (Array.getElem?_eq_some_iff.1 HX1.out.1).1).trans HX1.out.1) (HX1.out.2.trans (hb2.mono HX1.out.2.size))))
  clear hb2 HS1 HX1
  go_wp2_with (fail)
  have hed := jedits_any j p 0 (nthO o) 0 0 w2 (by decide) (Nat.lt_trans HF.out.1 (by decide)) (Lib.hid H2.out.1.jt)
  rw [edt_one (Nat.lt_trans HF.out.1 (by decide))] at hed
  refine hed.mono ?_
  rintro e w3 ⟨rfl, hb3⟩
  clear hed
  have H3 := Lib.hid (And.intro (H2.out.1.below hb3) (And.intro ((hb3.block q (Array.getElem?_eq_some_iff.1 H2.out.2.1).1).trans H2.out.2.1) (H2.out.2.2.trans (hb3.mono H2.out.2.2.size))))
  clear hb3 H2
  have hrd := read_K (edN (nthO o)) (Lib.hid H3.out.1.dk) (by show 9 ≤ maxLen; decide)
  rw [held_nil, rd_one] at hrd
  go_wp2_with (fail)
  refine hrd.mono ?_
  rintro e w4 ⟨rfl, rfl⟩
  clear hrd
  go_wp2_with (fail)
  refine (all_any (bytO o) w3 HF.out.2.2.1 (HF.out.2.2.2.2.1 _ H3.out.1.dk.bel)).mono ?_
  intro e w5 hp5
  obtain ⟨ao, cap, rfl, hrow, hb5⟩ := all_post HF.out.2.2.2.2.2.1 rfl hp5
  have H5 := Lib.hid (And.intro (H3.out.1.below hb5) (And.intro ((hb5.block q (Array.getElem?_eq_some_iff.1 H3.out.2.1).1).trans H3.out.2.1) (And.intro (H3.out.2.2.trans (hb5.mono H3.out.2.2.size)) (And.intro hrow (And.intro H3.out.2.2.size H3.out.1.jt.lt)))))
  clear hrow hb5 hp5 H3
  go_upto_if 40 with (fail)
  go_cut [7] (fun s7 wx => s7 = .int .i64 0 ∧ Hid (MidO w0 w5 wx j p S cp n o en er))
  case first =>
    rcases HF.out.2.2.2.2.2.2 with rfl | ⟨rfl, hen, hos, hroom⟩
    · go_wp2_with (fail)
      go_meet
      refine ⟨rfl, Lib.hid ⟨S, n, oneL o, ksO o, nthO o, by omega, H5.out.1, ⟨⟨rfl, rfl, rfl, Nat.le_refl _, fun _ _ _ => rfl⟩, fun _ h => .inl h⟩, names_one o, ?_, ?_, ?_, ?_, ?_, ?_, ?_, ?_⟩⟩
      · have := (one_len o).1; omega
      · have := (one_len o).2; omega
      · exact fun k hk => Nat.lt_of_le_of_lt (ks_le o k hk) (Nat.lt_trans HF.out.1 (by decide))
      · exact ks_nodup o
      · exact Nat.lt_trans HF.out.1 (by decide)
      · rw [tot_one]; have := HF.out.2.2.1; omega
      · rw [del_one]; unfold opO; rw [if_pos rfl]
      · unfold opO; rw [if_pos rfl]
    · obtain ⟨k, s, rfl⟩ : ∃ k s, o = some (k, s) := by
        match o, hos with
        | some (k, s), _ => exact ⟨k, s, rfl⟩
      have hk9 : k < 9 := HF.out.1
      have hb9 : (bytO (some (k, s))) = s := rfl
      rw [hb9] at hen hroom
      have hsz := HF.out.2.2.1
      rw [hb9] at hsz
      have hg : (s.extract 0 en).size = en := by simp; omega
      have hke := keep_K k (s.extract 0 en) (Lib.hid H5.out.1) (by omega) HF.out.2.2.2.1 (by have := HF.out.2.1; omega) (by rw [tot_one, hb9, hg]; omega) (by rw [tot_one, hb9, hg]; exact hroom) (by rw [get_one]; exact if_neg (edN_tmp k).1) (by rw [get_one]; exact if_neg (fun e => by have := (edN_inj (by omega) (by omega)).1 e; omega))
      rw [lay_one hk9] at hke
      have HK := Lib.hid (And.intro hke (And.intro hk9 (And.intro hg hsz)))
      have hen0 : (0 : Int) ≤ (en : Int) := by omega
      have hen1 : (en : Int) ≤ (s.size : Int) := by omega
      clear hke hk9 hg hsz hroom
      rw [hb9]
      clear hb9
      go_wp2_with (fail)
      refine HK.out.1.mono ?_
      rintro e w6 ⟨rfl, S1, HL⟩
      go_wp2_with (fail)
      go_meet
      obtain ⟨_, hk9, hg, hsz⟩ := HK.out
      have e23 : ¬ (23 : Int) = 0 := by decide
      refine ⟨rfl, Lib.hid ⟨S1, n + 5, [⟨edN k, s⟩, ⟨edN (k + 1), s.extract 0 en⟩], [k, k + 1], k + 1, Nat.le_refl _, HL.out.1, ⟨HL.out.2.1, HL.out.2.2⟩, rfl, ?_, ?_, ?_, ?_, by omega, ?_, ?_, ?_⟩⟩
      · exact Nat.le_refl _
      · exact Nat.le_refl _
      · intro x hx
        rcases List.mem_cons.1 hx with rfl | hx
        · omega
        · rcases List.mem_cons.1 hx with rfl | hx
          · omega
          · cases hx
      · simp
      · simp [totF, hg]; omega
      · rw [del_two hk9]; unfold opO; rw [if_neg e23]; rfl
      · unfold opO; rw [if_neg e23]; rfl
  case rest =>
    obtain ⟨rfl, HM⟩ := hcut
    obtain ⟨S1, n1, L1, ks, c, m1, m2, m3, m4, m5, m6, m7, m8, m9, m10, m11, m12⟩ := HM.out
    have hsw := sweep_K ks c (Lib.hid m2) (by have := HF.out.2.1; omega) (by omega) (by omega) m4 m7 m8 m9 m10
    rw [m11, m12] at hsw
    have hSq : ¬ (S q ∨ q = j) := fun e => e.elim (fun e => by have := (h.out.m.own _ e).2; have := HQ.out; omega) (fun e => by have := HJ.out; omega)
    have hqc := (m3.t.block q (Array.getElem?_eq_some_iff.1 H5.out.2.1).1 hSq).trans H5.out.2.1
    have hSlt : ∀ b, S b → b < w.heap.size := fun b hb => (h.out.m.own _ hb).2
    have hS1q : ¬ S1 q := fun e => (m3.s q e).elim (fun e => hSq (.inl e)) (fun e => by have h1 := (Array.getElem?_eq_some_iff.1 H5.out.2.1).1; omega)
    have HC : Hid (JQ w5 wc j S S1 ∧ wc.heap[q]? = some (.cells #[.string ⟨#[]⟩, .slice none 0 0] 29 (0, 0)) ∧ ¬ S1 q ∧ n1 ≤ n + 5 ∧ ks.length ≤ 2) := Lib.hid ⟨m3, hqc, hS1q, m1, m5⟩
    clear HM m1 m2 m3 m4 m5 m6 m7 m8 m9 m10 m11 m12 hSq hqc hS1q
    go_wp2_with (fail)
    refine hsw.mono ?_
    rintro e w7 ⟨rfl, S2, n2, hn2, HW⟩
    clear hsw
    have hq7 : w7.heap[q]? = some (.cells #[.string ⟨#[]⟩, .slice none 0 0] 29 (0, 0)) := (HW.out.2.t.block q (Array.getElem?_eq_some_iff.1 HC.out.2.1).1 HC.out.2.2.1).trans HC.out.2.1
    have hqj : ¬ q = j := by have := HJ.out; omega
    have hjq : ¬ j = q := fun e => hqj e.symm
    have HN2 := Lib.hid hn2
    have HQ7 := Lib.hid hq7
    have c3 := HW.out.1.jt.c3
    have c4 := HW.out.1.jt.c4
    have f3 := HW.out.1.jt.fr 3
    have f4 := HW.out.1.jt.fr 4
    have x0 : w7.cell? ⟨q, 0, none⟩ = some (.string ⟨#[]⟩) := by simp [World.cell?, hq7]
    have x1 : w7.cell? ⟨q, 1, none⟩ = some (.slice none 0 0) := by simp [World.cell?, hq7]
    have g0 : w7.frozen? ⟨q, 0, none⟩ = false := by simp [World.frozen?, hq7]
    have g1 : w7.frozen? ⟨q, 1, none⟩ = false := by simp [World.frozen?, hq7]
    clear hn2 hq7
    go_wp2_with (fail)
    have hS2q : ¬ S2 q := fun e => (HW.out.2.s q e).elim HC.out.2.2.1 (fun e => by have h1 := (Array.getElem?_eq_some_iff.1 HC.out.2.1).1; omega)
    have hJ1 : JS w0 ((w7.setCell ⟨j, 3, none⟩ (.int .i64 (bs.length : Int))).setCell ⟨j, 4, none⟩ (.int .i64 (bs.length : Int))) j p S2 cp n2 (oneL (opO o en er)) [] 0 (nthO (opO o en er)) bs.length bs.length :=
      (HW.out.1.setj (jat_cnt HW.out.1.jt)).setj (jat_lst (jat_cnt HW.out.1.jt))
    have hwz : ∀ b, b ≠ j → b ≠ q → ((((w7.setCell ⟨j, 3, none⟩ (.int .i64 (bs.length : Int))).setCell ⟨j, 4, none⟩ (.int .i64 (bs.length : Int))).setCell ⟨q, 0, none⟩ (.string ⟨#[]⟩)).setCell ⟨q, 1, none⟩ (.slice ao bs.length cap)).heap[b]? = w7.heap[b]? := fun b h1 h2 => (Below.heap_setCell _ _ _ _ h2).trans ((Below.heap_setCell _ _ _ _ h2).trans ((Below.heap_setCell _ _ _ _ h1).trans (Below.heap_setCell _ _ _ _ h1)))
    have hsz : ((((w7.setCell ⟨j, 3, none⟩ (.int .i64 (bs.length : Int))).setCell ⟨j, 4, none⟩ (.int .i64 (bs.length : Int))).setCell ⟨q, 0, none⟩ (.string ⟨#[]⟩)).setCell ⟨q, 1, none⟩ (.slice ao bs.length cap)).heap.size = w7.heap.size := by simp [World.setCell]
    have hS1 : ∀ b, S1 b → S b ∨ w5.heap.size ≤ b := HC.out.1.s
    have hlo : w0.heap.size ≤ q := by have := h.out.bel.size; have := HQ.out; omega
    have hs5 := H5.out.2.2.1.size
    have hsc := HC.out.1.t.size
    have hs7 := HW.out.2.t.size
    refine bodyPost_ret (v := .tuple #[.pointer (some ⟨j, 0, none⟩), .agg #[.string ⟨#[]⟩, .slice ao bs.length cap], .int .i64 0]) ?_ rfl ⟨j, ao, cap, S2, n2, rfl, by have := HN2.out; have := HC.out.2.2.2; omega, Lib.hid ⟨(hJ1.setq hS2q hqj hlo).setq hS2q hqj hlo, ?_, ⟨⟨?_, ?_, ?_, ?_, ?_⟩, ?_⟩, ?_⟩⟩
    · have y1 : (((w7.setCell ⟨j, 3, none⟩ (.int .i64 (bs.length : Int))).setCell ⟨j, 4, none⟩ (.int .i64 (bs.length : Int))).setCell ⟨q, 0, none⟩ (.string ⟨#[]⟩)).cell? ⟨q, 1, none⟩ = some (.slice none 0 0) := by
        rw [World.cell?_setCell_other _ _ _ _ (by simp), World.cell?_setCell_other _ _ _ _ (by simp [hqj]), World.cell?_setCell_other _ _ _ _ (by simp [hqj])]
        exact x1
      have y0 : ((w7.setCell ⟨j, 3, none⟩ (.int .i64 (bs.length : Int))).setCell ⟨j, 4, none⟩ (.int .i64 (bs.length : Int))).cell? ⟨q, 0, none⟩ = some (.string ⟨#[]⟩) := by
        rw [World.cell?_setCell_other _ _ _ _ (by simp [hqj]), World.cell?_setCell_other _ _ _ _ (by simp [hqj])]
        exact x0
      have z1 := World.cell?_setCell_same _ _ (.slice ao bs.length cap) y1
      have z0 := (World.cell?_setCell_other (((w7.setCell ⟨j, 3, none⟩ (.int .i64 (bs.length : Int))).setCell ⟨j, 4, none⟩ (.int .i64 (bs.length : Int))).setCell ⟨q, 0, none⟩ (.string ⟨#[]⟩)) ⟨q, 1, none⟩ ⟨q, 0, none⟩ (.slice ao bs.length cap) (by simp)).trans (World.cell?_setCell_same _ _ (.string ⟨#[]⟩) y0)
      clear hwz hsz
      generalize ((((w7.setCell ⟨j, 3, none⟩ (.int .i64 (bs.length : Int))).setCell ⟨j, 4, none⟩ (.int .i64 (bs.length : Int))).setCell ⟨q, 0, none⟩ (.string ⟨#[]⟩)).setCell ⟨q, 1, none⟩ (.slice ao bs.length cap)) = wz at z0 z1 ⊢
      simp [results, Tryz.results7, go_sem, z0, z1]
    · refine H5.out.2.2.2.1.keep H5.out.2.2.2.2.1 (by rw [hsz]; omega) (fun g h1 h2 => ?_)
      have hjg := H5.out.2.2.2.2.2
      have hSg : ¬ S g := fun e => by have := hSlt g e; have := H5.out.2.2.2.2.1; omega
      exact (hwz g (by omega) (by have := HJ.out; omega)).trans ((HW.out.2.t.block g (by omega) (fun e => (hS1 g e).elim hSg (by omega))).trans (HC.out.1.t.block g h2 (fun e => e.elim hSg (by omega))))
    · exact HW.out.2.t.os.trans (HC.out.1.t.os.trans H5.out.2.2.1.os)
    · exact HW.out.2.t.tape.trans (HC.out.1.t.tape.trans H5.out.2.2.1.tape)
    · exact HW.out.2.t.output.trans (HC.out.1.t.output.trans H5.out.2.2.1.output)
    · rw [hsz]; omega
    · intro b hb hn
      have hbj : b ≠ j := by have := HJ.out; have := HQ.out; omega
      have hbq : b ≠ q := by have := HQ.out; omega
      exact (hwz b hbj hbq).trans ((HW.out.2.t.block b (by omega) (fun e => (hS1 b e).elim hn (by omega))).trans ((HC.out.1.t.block b (by omega) (fun e => e.elim hn hbj)).trans (H5.out.2.2.1.block b hb)))
    · intro b hb
      rcases HW.out.2.s b hb with e | e
      · rcases hS1 b e with e | e
        · exact .inl e
        · exact .inr (by omega)
      · exact .inr (by omega)
    · intro g h0 hg hs
      obtain ⟨g', h1, h2, h3, _⟩ := H5.out.2.2.2.1 0 h0
      rw [hg] at h1
      injection h1 with h1
      injection h1 with h1
      subst h1
      have hSg : ¬ S g := fun e => by have := hSlt g e; have := H5.out.2.2.2.2.1; omega
      rcases HW.out.2.s g hs with e | e
      · exact (hS1 g e).elim hSg (by omega)
      · omega
end Go.Proofs.YtlflfaldnpcjcaaGreatDoor

namespace Go.Proofs.YtlflfaldnpcjcaaGreatDoor
open Go.RowKit Go.Maps
def frS (s : ByteArray) : ByteArray := ⟨(frameL s.data.toList).toArray⟩
theorem frS_list (s : ByteArray) : (frS s).data.toList = frameL s.data.toList := by simp [frS]
theorem frS_size (s : ByteArray) : (frS s).size = s.size + 12 := by
  show (frameL s.data.toList).toArray.size = _
  rw [List.size_toArray, frameL_length]
  simp
theorem app_one (o : Option (Nat × ByteArray)) (k : Nat) (d : ByteArray) (ho : o.isSome = true → nthO o = k) : held (oneL o) [.app (edN k) d] = oneL (some (k, bytO o ++ d)) := by
  show putF (oneL o) (edN k) (orE (getF (oneL o) (edN k)) ++ d) = _
  rw [get_one]
  match o, ho with
  | none, _ => rfl
  | some (k', s), ho =>
    have : k' = k := ho rfl
    subst this
    show putF [⟨edN k', s⟩] (edN k') (orE (if edN k' = edN k' then some s else none) ++ d) = _
    rw [if_pos rfl]
    simp [putF, delF, insF, orE, oneL, bytO]
def chA : ByteArray := ⟨#[97]⟩
def chB : ByteArray := ⟨#[98]⟩
set_option maxRecDepth 100000 in
set_option maxHeartbeats 4000000 in
theorem speaks10_any (w : World) (hh : Half w) : Calls Tryz.prog 5 #[] w fun e w' => e = .returned (.bool true) ∧ Below w.heap.size w w' := by
  have HH : Hid (∀ w', Below w.heap.size w w' → Half w') := Lib.hid fun w' hb => hh.below hb hh.lt
  clear hh
  have hnew := new_K 1000 (Below.refl w.heap.size w)
  rw [show (max 1000 0 : Int) = 1000 from rfl] at hnew
  go_enter Tryz.func5, Tryz.ntmps5
  go_wp2_with (fail)
  refine hnew.mono ?_
  rintro ex w1 ⟨rfl, h1⟩
  obtain ⟨p, hp⟩ : ∃ p, p = w.heap.size := ⟨_, rfl⟩
  obtain ⟨S0, hS0⟩ : ∃ S0 : Nat → Prop, S0 = fun b => b = w.heap.size := ⟨_, rfl⟩
  have HD1 : Hid (DK w w1 p S0 1000 0 (oneL none) []) := Lib.hid (by rw [hp, hS0]; exact h1.out.1)
  rw [← hp]
  clear h1 hnew hp hS0
  have ho1 := jopen_K none [] 0 0 HD1 (by show 0 < 9; decide) (Nat.zero_le _) (by show 0 ≤ _; omega) (by decide) HH.out all_nil (.inl rfl)
  go_wp2_with (fail)
  refine ho1.mono ?_
  rintro ex w2 ⟨j, ao, cap, S2, n2, rfl, hn2, hJ2⟩
  have HJ2 : Hid (JS w w2 j p S2 1000 n2 (oneL none) [] 0 ((0 : Nat) : Int) ((0 : Nat) : Int) ((0 : Nat) : Int)) := Lib.hid hJ2.out.1
  have HN2 := Lib.hid hn2
  clear hJ2 hn2 ho1 HD1
  have hap := fun wx (hb : Below w2.heap.size w2 wx) => jappend_K 0 0 chA (Lib.hid (HJ2.out.below hb)) (by decide) (by decide) HH.out (by show 1 ≤ 1048576; decide) (by decide) (by have := HN2.out; unfold maxLen; omega) (by show 0 ≤ _; omega) (by show 0 + (1 + 12) ≤ _; decide) (by show (13 : Int) ≤ 1000 - 0; decide)
  have HAP := Lib.hid hap
  clear hap
  go_wp2_with (fail)
  refine (HAP.out _ ((Below.refl _ _).alloc (Nat.le_refl _) _)).mono ?_
  rintro ex w3 ⟨rfl, S3, hJ3⟩
  have HJ3 : Hid (JS w w3 j p S3 1000 (n2 + 1) (oneL none) [.app (edN 0) (frS chA)] 0 ((0 : Nat) : Int) ((0 + 1 : Nat) : Int) ((0 : Nat) : Int)) := Lib.hid hJ3.out.1
  clear hJ3 HAP HJ2
  have hsy := jsync_K HJ3 (by have := HN2.out; unfold maxLen; simp; omega) (by show 0 + ((frS chA).size + 0) ≤ _; rw [frS_size]; show 0 + (1 + 12 + 0) ≤ _; decide)
  go_wp2_with (fail)
  refine hsy.mono ?_
  rintro ex w4 ⟨rfl, S4, hJ4⟩
  obtain ⟨F1, hF1⟩ : ∃ F1, F1 = bytO none ++ frS chA := ⟨_, rfl⟩
  have HJ4 : Hid (JS w w4 j p S4 1000 (n2 + 2) (oneL (some (0, F1))) [] 0 ((0 : Nat) : Int) ((1 : Nat) : Int) ((1 : Nat) : Int)) := Lib.hid (by
    have := hJ4.out.1
    rw [app_one none 0 (frS chA) (fun h => by cases h), ← hF1] at this
    exact this)
  have HF1 : Hid (F1.data.toList = frameL [97] ∧ F1.size = 13) := Lib.hid ⟨by rw [hF1, show bytO none ++ frS chA = frS chA from ByteArray.empty_append, frS_list]; rfl, by rw [hF1, show bytO none ++ frS chA = frS chA from ByteArray.empty_append, frS_size]; rfl⟩
  clear hJ4 HJ3 hsy hF1
  have hap := jappend_K 0 1 chB HJ4 (by decide) (by decide) HH.out (by show 1 ≤ 1048576; decide) (by decide) (by have := HN2.out; unfold maxLen; omega) (by show 0 ≤ _; omega) (by rw [held_nil, tot_one]; show F1.size + (1 + 12) ≤ _; rw [HF1.out.2]; decide) (by rw [held_nil, tot_one]; show (13 : Int) ≤ 1000 - (F1.size : Int); rw [HF1.out.2]; decide)
  go_wp2_with (fail)
  refine hap.mono ?_
  rintro ex w5 ⟨rfl, S5, hJ5⟩
  have HJ5 : Hid (JS w w5 j p S5 1000 (n2 + 3) (oneL (some (0, F1))) [.app (edN 0) (frS chB)] 0 ((0 : Nat) : Int) ((1 + 1 : Nat) : Int) ((1 : Nat) : Int)) := Lib.hid hJ5.out.1
  clear hJ5 HJ4 hap
  have hcr := crash_K 0 3 (Lib.hid HJ5.out.dk) (by have := HN2.out; unfold maxLen; simp; omega) (by show 1 ≤ n2 + 3; omega) (by rw [tot_one]; show F1.size + ((frS chB).size + 0) ≤ _; rw [HF1.out.2, frS_size]; show 13 + (1 + 12 + 0) ≤ _; decide)
  go_wp2_with (fail)
  refine hcr.mono ?_
  rintro ex w6 ⟨rfl, hD6⟩
  obtain ⟨F2, hF2⟩ : ∃ F2, F2 = F1 ++ (frS chB).extract 0 (min (3 : Int).toNat (frS chB).size) := ⟨_, rfl⟩
  have HD6 : Hid (DK w w6 p (grow S5 w5 w6) 1000 (n2 + 5) (oneL (some (0, F2))) []) := Lib.hid (by
    have := hD6.out.1
    have hcl : crashL (oneL (some (0, F1))) [.app (edN 0) (frS chB)] 0 3 = oneL (some (0, F2)) := by
      rw [hF2]
      exact app_one (some (0, F1)) 0 ((frS chB).extract 0 (min (3 : Int).toNat (frS chB).size)) (fun _ => rfl)
    rw [hcl] at this
    exact this)
  have hlB : (frameL [98]).length = 13 := by rw [frameL_length]; rfl
  have HF2 : Hid (F2.data.toList = frameL [97] ++ (frameL [98]).take 3 ∧ F2.size = 16) := by
    have e1 : min (3 : Int).toNat (frS chB).size = 3 := by rw [frS_size]; decide
    have e2 : ((frS chB).extract 0 3).data.toList = (frameL [98]).take 3 := by
      have : (frS chB).data.toList = frameL [98] := frS_list chB
      simp [this]
    have e3 : F2.data.toList = frameL [97] ++ (frameL [98]).take 3 := by
      rw [hF2, e1]
      simp only [ByteArray.data_append, Array.toList_append]
      rw [HF1.out.1, e2]
    refine Lib.hid ⟨e3, ?_⟩
    have e4 : F2.data.toList.length = F2.size := by simp
    rw [← e4, e3, List.length_append, List.length_take, hlB, frameL_length]
    rfl
  have hal : allL F2.data.toList = ([[97]], 13, 23) := by
    rw [HF2.out.1, all_frame _ _ (by show 1 ≤ 1048576; decide), all_torn (b := [98]) (n := 3) (by show 1 ≤ 1048576; decide) (by decide) (by show 3 < 1 + 12; decide) rfl]
    rfl
  clear hD6 HJ5 hcr hF2 hlB
  have ho2 := jopen_K (some (0, F2)) [[97]] 13 23 HD6 (by show 0 < 9; decide) (by have := HN2.out; omega) (by show F2.size ≤ _; rw [HF2.out.2]; decide) (by decide) HH.out hal (.inr ⟨rfl, by show 13 ≤ F2.size; rw [HF2.out.2]; decide, rfl, by show (13 : Int) ≤ 1000 - (F2.size : Int); rw [HF2.out.2]; decide⟩)
  go_wp2_with (fail)
  refine ho2.mono ?_
  rintro ex w7 ⟨j2, ao2, cap2, S7, n7, rfl, hn7, hJ7⟩
  obtain ⟨g, rfl, hg1, hg2, hg3⟩ := hJ7.out.2.1 0 (by decide)
  have HB7 := Lib.hid hJ7.out.1.dk.bel
  have hg4 : w7.cell? ⟨g, 0, none⟩ = some (.string ⟨#[97]⟩) := hg3
  clear hal ho2 HD6 hJ7 hn7 hg1 hg3
  rw [show ([[97]] : List (List UInt8)).length = 1 from rfl]
  have hne : ¬ g = w7.heap.size := Nat.ne_of_lt hg2
  have hg5 : ∀ o, (w7.alloc o).cell? ⟨g, 0, none⟩ = some (.string ⟨#[97]⟩) := fun o => (((Below.refl w7.heap.size w7).alloc (Nat.le_refl _) o).cell (p := ⟨g, 0, none⟩) hg2).trans hg4
  go_wp2_with (fail)
  go_ret
  exact ⟨rfl, HB7.out.alloc HB7.out.size _⟩
end Go.Proofs.YtlflfaldnpcjcaaGreatDoor

namespace Go.Proofs.YtlflfaldnpcjcaaGreatDoor
open Go.ChangeShapes Go.WideShapes Go.ChangeAt Go.RowKit
theorem half_in {W : World} (h : laidMetH Tryz.prog [("math/bits.deBruijn32tab", Rows.laid_math_bits_deBruijn32tab), ("math/bits.deBruijn64tab", Rows.laid_math_bits_deBruijn64tab), ("internal/strconv.uint64pow10", Rows.laid_internal_strconv_uint64pow10), ("mahout/crc.half", Rows.laid_mahout_crc_half), ("strconv.ErrRange", Rows.laid_strconv_ErrRange), ("strconv.ErrSyntax", Rows.laid_strconv_ErrSyntax)] W) : Half W := by
  refine half_of ?_
  have h2 := laidMetH.filter (fun x => x.1 == "mahout/crc.half") h
  exact h2
def litsOf : DataW Unit → List Value
  | .lit (.int k n) => [.int k n]
  | _ => []
def litsAll : DataW Unit → List Value
  | .agg ds => ds.flatMap litsOf
  | _ => []
def holdsNow (vs : List Value) : Obj → Obj
  | .cells _ t frozen => .cells vs.toArray t frozen
  | o => o
def errText : DataW Unit → ByteArray
  | .iface _ (.ptr (.agg [.lit (.string l)])) => ⟨l.toArray⟩
  | _ => ⟨#[]⟩
/-- A WORLD FOR THE WITNESS: the settled one, the tables and the two errors holding what their initialisers lay. -/
noncomputable def laidWorldJ (os : Os) : World :=
  let w := World.holding Tryz.prog os ⟨#[], #[], []⟩
  { w with heap := ((((((((w.heap.modify 0 (holdsNow (litsAll Rows.laid_mahout_crc_half))).modify 5 (holdsNow (litsAll Rows.laid_math_bits_deBruijn32tab))).modify 6 (holdsNow (litsAll Rows.laid_math_bits_deBruijn64tab))).modify 2 (holdsNow (litsAll Rows.laid_internal_strconv_uint64pow10))).modify 4 (holdsNow [.iface 153 (.pointer (some ⟨w.heap.size, 0, none⟩))])).modify 3 (holdsNow [.iface 153 (.pointer (some ⟨w.heap.size + 1, 0, none⟩))])).push (.cells #[.string (errText Rows.laid_strconv_ErrRange)] 155 (0, 0))).push (.cells #[.string (errText Rows.laid_strconv_ErrSyntax)] 155 (0, 0))) }
end Go.Proofs.YtlflfaldnpcjcaaGreatDoor

