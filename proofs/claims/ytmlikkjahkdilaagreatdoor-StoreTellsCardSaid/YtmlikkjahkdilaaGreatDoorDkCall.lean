/- Package disk: Append, Rename, Delete, Read, Used, Pending, New: a disk that holds whatever files. -/
import Derived.Test.YtmlikkjahkdilaaGreatDoorDkEnt
namespace Go.Proofs.YtmlikkjahkdilaaGreatDoor
open Go.RowKit Go.Maps

/-- a disk of the law's own -/
structure DK (w0 w : World) (p : Nat) (S : Nat → Prop) (cp : Int) (n : Nat) (L : Fs) (cs : List Chg) : Prop where
  bel : Below w0.heap.size w0 w
  m : DkM w0.heap.size w p S cp (totF (held L cs)) n L cs
theorem DK.srt {w0 w : World} {p : Nat} {S : Nat → Prop} {cp : Int} {n : Nat} {L : Fs} {cs : List Chg} (h : DK w0 w p S cp n L cs) : SrtF L := by
  obtain ⟨_, _, _, _, _, _, h4⟩ := h.m.st
  rcases h4 with ⟨_, e, _⟩ | ⟨_, _, _, _, _, _, h3, _⟩
  · rw [e]; exact List.Pairwise.nil
  · exact h3.srt
theorem bel_tch2 {w0 w w' : World} {S : Nat → Prop} (hb : Below w0.heap.size w0 w) (t : Tch w w' S) (h : ∀ i, S i → w0.heap.size ≤ i) : Below w0.heap.size w0 w' :=
  ⟨t.os.trans hb.os, t.tape.trans hb.tape, t.output.trans hb.output, Nat.le_trans hb.size t.size, fun i hi => (t.block i (Nat.lt_of_lt_of_le hi hb.size) (fun e => by have := h i e; omega)).trans (hb.block i hi)⟩
theorem DK.below {w0 w w' : World} {p : Nat} {S : Nat → Prop} {cp : Int} {n : Nat} {L : Fs} {cs : List Chg} (h : DK w0 w p S cp n L cs) (hb : Below w.heap.size w w') : DK w0 w' p S cp n L cs :=
  ⟨h.bel.trans (hb.mono h.bel.size), h.m.below hb⟩
theorem grow_own {w0 w w' : World} {S : Nat → Prop} (h : ∀ b, S b → w0.heap.size ≤ b ∧ b < w.heap.size) (hb : w0.heap.size ≤ w.heap.size) (hs : w.heap.size ≤ w'.heap.size) : ∀ b, grow S w w' b → w0.heap.size ≤ b ∧ b < w'.heap.size := fun b hb' => by
  rcases hb' with k | ⟨h1, h2⟩
  · have := h b k; omega
  · omega
theorem DK.still {w0 w w' : World} {p : Nat} {S : Nat → Prop} {cp : Int} {n : Nat} {L : Fs} {cs : List Chg} (h : DK w0 w p S cp n L cs) (hb : Below w.heap.size w w') {n' : Nat} (hn : n ≤ n') : DK w0 w' p (grow S w w') cp n' L cs ∧ Tch w w' S :=
  have k := h.below hb
  ⟨⟨k.bel, k.m.wide (fun _ h => .inl h) (grow_own h.m.own h.bel.size hb.size) hn⟩, tch_below S hb⟩
theorem isName_no (s : ByteArray) (w : World) (h : ¬ (1 ≤ s.size ∧ s.size ≤ 64)) :
    Calls Tryz.prog 48 #[.string s] w fun e w' => e = .returned (.bool false) ∧ w = w' := by
  by_cases h0 : s.size = 0
  · obtain rfl : s = ByteArray.empty := ByteArray.ext (Array.eq_empty_of_size_eq_zero h0)
    go_enter Tryz.func48, Tryz.ntmps48
    go_wp2
    go_ret
    exact ⟨rfl, rfl⟩
  · have h1 : ¬ (s.size : Int) ≤ 64 := by omega
    have h2 : decide ((s.size : Int) ≤ 64) = false := decide_eq_false h1
    have hne := some_name (R := s) (by omega)
    clear h
    go_enter Tryz.func48, Tryz.ntmps48
    go_wp2
    go_ret
    exact ⟨rfl, rfl⟩
theorem gf_look {w : World} {m n : Nat} {G : Hv} {q : ByteArray} (h : GF w m n G) (hq : q.size ≤ maxLen) :
    (Instr.lookup 62 (.map (some m)) (.string q) true).run Tryz.prog w = .ok (.tuple #[(G q).getD nilS, .bool (G q).isSome]) w := by
  obtain ⟨D, h1, h2⟩ := h
  have := look_ok_file h1 hq (h2 q).2
  rwa [(h2 q).1] at this
theorem gf_file {w : World} {m n : Nat} {G : Hv} {q : ByteArray} (h : GF w m n G) (hq : q.size ≤ maxLen) :
    (Instr.lookup 62 (.map (some m)) (.string q) false).run Tryz.prog w = .ok ((G q).getD nilS) w := by
  obtain ⟨D, h1, h2⟩ := h
  exact look_file h1 hq (h2 q).2
/-- is a file held? -/
theorem holds_K {w0 w : World} {p : Nat} {S : Nat → Prop} {cp : Int} {n : Nat} {L : Fs} {cs : List Chg} (name : ByteArray) (h : Hid (DK w0 w p S cp n L cs)) (hq : name.size ≤ maxLen) :
    Calls Tryz.prog 43 #[.pointer (some ⟨p, 0, none⟩), .string name] w fun e w' => e = .returned (.bool (getF (held L cs) name).isSome) ∧ w = w' := by
  obtain ⟨last, chg, hel, hk, _, _, hmp⟩ := h.out.m.st
  have c3 := hk.c3
  rcases hmp with ⟨rfl, rfl, rfl, hhel⟩ | ⟨l, m, V, U, rfl, rfl, hl, hm, sl, sm, lm, rv, ru, apt⟩
  · have e0 : (getF (held [] []) name).isSome = false := rfl
    rw [e0]
    rcases hhel with rfl | ⟨m, rfl, _, hg⟩
    · exact holds_nil p _ _ _ _ name w hk hq
    · have hlk := gf_look hg hq
      clear hk h e0
      go_enter Tryz.func43, Tryz.ntmps43
      go_wp2
      go_ret
      exact ⟨rfl, rfl⟩
  · have hlk := gf_look hm.gf hq
    rw [hm.has] at hlk
    obtain ⟨b, hb⟩ : ∃ b, b = (getF (held L cs) name).isSome := ⟨_, rfl⟩
    rw [← hb] at hlk ⊢
    clear hk h hl hm apt rv ru hb
    go_enter Tryz.func43, Tryz.ntmps43
    go_wp2
    go_ret
    exact ⟨rfl, rfl⟩
/-- what is read, and the error's number -/
def rdS (H : Fs) (q : ByteArray) : ByteArray := orE (getF H q)
def rdE (H : Fs) (q : ByteArray) : Int := if (getF H q).isSome then 0 else 41
theorem conv_of {w : World} {B : Nat} {d : ByteArray} {v : Value} (hr : w.ownsRow B 5 1 v d.size (Lib.byteCells d.data.toList)) : (convert 76 9 v).run Tryz.prog w = .ok (.string d) w := by
  have h := convert_any (X := d.data.toList) (v := v) (B := B) (w := w) (by
    rw [show d.data.toList.length = d.size by simp]
    exact hr)
  rw [h]
theorem read_K {w0 w : World} {p : Nat} {S : Nat → Prop} {cp : Int} {n : Nat} {L : Fs} {cs : List Chg} (name : ByteArray) (h : Hid (DK w0 w p S cp n L cs)) (hq : name.size ≤ maxLen) :
    Calls Tryz.prog 45 #[.pointer (some ⟨p, 0, none⟩), .string name] w fun e w' => e = .returned (.tuple #[.string (rdS (held L cs) name), .int .i64 (rdE (held L cs) name)]) ∧ w = w' := by
  have hh := holds_K name h hq
  unfold rdS rdE
  cases hg : getF (held L cs) name with
  | none =>
    rw [hg] at hh
    exact read_not p name w hh
  | some d =>
    rw [hg] at hh
    simp only [Option.isSome_some, if_true] at hh ⊢
    have e1 : orE (some d) = d := rfl
    rw [e1]
    obtain ⟨last, chg, hel, hk, _, _, hmp⟩ := h.out.m.st
    have c3 := hk.c3
    rcases hmp with ⟨rfl, rfl, rfl, hhel⟩ | ⟨l, m, V, U, rfl, rfl, hl, hm, sl, sm, lm, rv, ru, apt⟩
    · simp [held, getF] at hg
    · have hlk := gf_file hm.gf hq
      obtain ⟨v, hv, hr⟩ := hm.row name d hg
      rw [hv] at hlk
      simp only [Option.getD_some] at hlk
      have hcv := conv_of hr
      clear hk h hl hm apt rv ru hg hr e1 hv
      go_enter Tryz.func45, Tryz.ntmps45
      go_wp2_with (fail)
      refine hh.mono ?_
      rintro e w' ⟨rfl, rfl⟩
      clear hh
      go_wp2
      go_ret2
      exact ⟨rfl, rfl⟩
/-- a new disk -/
theorem new_K {w0 w : World} (room : Int) (hb : Below w0.heap.size w0 w) : Calls Tryz.prog 14 #[.int .i64 room] w fun e w' => e = .returned (.pointer (some ⟨w.heap.size, 0, none⟩)) ∧ Hid (DK w0 w' w.heap.size (fun b => b = w.heap.size) (max room 0) 0 [] [] ∧ Below w.heap.size w w') := by
  refine (dnew_any room w).mono ?_
  rintro e w' ⟨he, hk, hbl⟩
  refine ⟨he, Lib.hid ⟨⟨hb.trans (hbl.mono hb.size), ⟨rfl, fun b hb' => ?_, (fun _ h => by cases h), (fun _ h => by cases h), _, _, _, hk, row_nil _ _ _, (fun _ h => by cases h), .inl ⟨rfl, rfl, rfl, .inl rfl⟩⟩⟩, hbl⟩⟩
  subst hb'
  exact ⟨hb.size, hk.lt⟩
/-- Append: the error's number, the changes then -/
def appR (cp : Int) (H : Fs) (q d : ByteArray) : Int := if 1 ≤ q.size ∧ q.size ≤ 64 then (if cp - totF H < d.size then 40 else 0) else 2
def appC (cp : Int) (L : Fs) (cs : List Chg) (q d : ByteArray) : List Chg := if appR cp (held L cs) q d = 0 then cs ++ [.app q d] else cs
theorem tot_app (L : Fs) (cs : List Chg) (hs : SrtF L) (q d : ByteArray) : totF (held L (cs ++ [.app q d])) = totF (held L cs) + d.size := by
  rw [held_one]
  have h1 := tot_putF (srt_held hs cs) q (orE (getF (held L cs) q) ++ d)
  rw [ByteArray.size_append, orE_size] at h1
  simp only [doC]
  omega
set_option maxRecDepth 100000 in
set_option maxHeartbeats 4000000 in
theorem append_K {w0 w : World} {p : Nat} {S : Nat → Prop} {cp : Int} {n : Nat} {L : Fs} {cs : List Chg} (name d : ByteArray) (h : Hid (DK w0 w p S cp n L cs)) (hcp : 0 ≤ cp ∧ cp ≤ 9223372036854775807) (hn : n < maxLen) (hq : cs.length ≤ 8796093022206) (hsz : totF (held L cs) + d.size ≤ 140737488355328) :
    Calls Tryz.prog 28 #[.pointer (some ⟨p, 0, none⟩), .string name, .string d] w fun e w' => e = .returned (.int .i64 (appR cp (held L cs) name d)) ∧ Hid (DK w0 w' p (grow S w w') cp (n + 1) L (appC cp L cs name d) ∧ Tch w w' S) := by
  unfold appC
  by_cases hv : 1 ≤ name.size ∧ name.size ≤ 64
  case neg =>
    have hr : appR cp (held L cs) name d = 2 := if_neg hv
    rw [hr, if_neg (by decide)]
    have hnm := isName_no name w hv
    clear hv hr
    go_enter Tryz.func28, Tryz.ntmps28
    go_wp2_with (fail)
    refine hnm.mono ?_
    rintro e w' ⟨rfl, rfl⟩
    clear hnm
    have HF := Lib.hid (h.out.still (Below.refl _ w) (Nat.le_succ n))
    go_wp2
    go_ret
    exact ⟨rfl, HF⟩
  case pos =>
    have hnm := isName_any name w hv.1 hv.2
    obtain ⟨last, chg, hel, hk, _, _, _⟩ := h.out.m.st
    obtain ⟨H, hH⟩ : ∃ H, H = totF (held L cs) := ⟨_, rfl⟩
    have hc0 := hk.c0
    have hc4 := hk.c4
    rw [← hH] at hc4 hsz
    have hw1 : wrap64 (cp - H) = cp - H := IntWalk.wrap64_in _ ⟨by omega, by omega⟩
    by_cases hf : cp - H < d.size
    · have hr : appR cp (held L cs) name d = 40 := by unfold appR; rw [if_pos hv, ← hH, if_pos hf]
      rw [hr, if_neg (by decide)]
      have hd1 : decide (cp - H < (d.size : Int)) = true := by simpa using hf
      clear hv hr hk hH hf
      go_enter Tryz.func28, Tryz.ntmps28
      go_upto_region 4 with (first | (go_at_call 48; refine hnm.mono ?_; rintro e w' ⟨rfl, rfl⟩) | go_in | go_quiet (fail))
      have HF := Lib.hid (h.out.still (below_drewN (Below.refl _ w) nq) (Nat.le_succ n))
      go_wp2
      go_ret
      exact ⟨rfl, HF⟩
    · have hr : appR cp (held L cs) name d = 0 := by unfold appR; rw [if_pos hv, ← hH, if_neg hf]
      rw [hr, if_pos rfl]
      have hd1 : decide (cp - H < (d.size : Int)) = false := by simpa using hf
      have HSZ := Lib.hid (And.intro hn (And.intro hq (And.intro hsz (And.intro hH hv))))
      have HB := Lib.hid h.out.bel
      have hds : d.size ≤ 140737488355328 := by omega
      have hns : name.size ≤ 64 := hv.2
      clear hv hr hk hf hn hq hsz hH
      go_enter Tryz.func28, Tryz.ntmps28
      go_upto_region 5 with (first | (go_at_call 48; refine hnm.mono ?_; rintro e w' ⟨rfl, rfl⟩) | go_in | go_quiet (fail))
      have HB1 : Hid (Below w.heap.size w (w.drewN nq)) := Lib.hid (below_drewN (Below.refl _ w) nq)
      generalize w.drewN nq = w1 at *
      clear hnm hc0 hc4 hw1 hd1
      go_wp2_with (fail)
      refine (clone_any name w1 (by omega)).mono ?_
      rintro e w2 ⟨rfl, hb2⟩
      have HB2 := Lib.hid (HB1.out.trans (hb2.mono HB1.out.size))
      clear hb2 HB1
      go_wp2_with (fail)
      refine (clone_any d w2 (by omega)).mono ?_
      rintro e w3 ⟨rfl, hb3⟩
      have HB3 := Lib.hid (HB2.out.trans (hb3.mono HB2.out.size))
      clear hb3 HB2
      have hent := enter_F (.app name d) (Lib.hid (h.out.m.below HB3.out)) HSZ.out.2.2.2.2.2 (Nat.le_trans HB.out.size HB3.out.size) HSZ.out.1 HSZ.out.2.1 (by have := HSZ.out.2.2.1; have := HSZ.out.2.2.2.1; simp only [wtC]; omega)
      go_wp2_with (fail)
      refine hent.mono ?_
      rintro e w4 ⟨rfl, H4⟩
      obtain ⟨last, chg, hel, k4, q2, q3, q4⟩ := H4.out.1.st
      have d4 := k4.c4
      have f4 := k4.fr 4
      rw [← HSZ.out.2.2.2.1] at d4
      have hw2 : wrap64 ((H : Int) + (d.size : Int)) = (H : Int) + (d.size : Int) := by
        have := HSZ.out.2.2.1
        exact IntWalk.wrap64_in _ ⟨by omega, by omega⟩
      have HF : Hid (DK w0 (w4.setCell ⟨p, 4, none⟩ (.int .i64 ((H : Int) + (d.size : Int)))) p (grow S w (w4.setCell ⟨p, 4, none⟩ (.int .i64 ((H : Int) + (d.size : Int))))) cp (n + 1) L (cs ++ [.app name d]) ∧ Tch w (w4.setCell ⟨p, 4, none⟩ (.int .i64 ((H : Int) + (d.size : Int)))) S) := Lib.hid (by
        obtain ⟨X, hX⟩ : ∃ X : Int, X = (H : Int) + (d.size : Int) := ⟨_, rfl⟩
        rw [← hX]
        have eX : X = ((totF (held L (cs ++ [.app name d])) : Nat) : Int) := by
          rw [tot_app L cs h.out.srt name d, hX, HSZ.out.2.2.2.1]
          simp
        have ts := tch_set w4 ⟨p, 4, none⟩ (.int .i64 X)
        have hnp : ∀ (m' : Nat) {k : Nat} {G : Hv} {F : Fs}, FsR w0.heap.size w4 m' k G F → FsR w0.heap.size (w4.setCell ⟨p, 4, none⟩ (.int .i64 X)) m' k G F := fun m' {k} {G} {F} hf => hf.setp k4 4 _
        have tw : Tch w w4 S := (tch_below S HB3.out).then H4.out.2 (fun _ _ e => e)
        have t5 : Tch w (w4.setCell ⟨p, 4, none⟩ (.int .i64 X)) S := tw.then ts (fun i _ e => by
          have e : i = p := e
          rw [e]; exact h.out.m.hp)
        have hsz5 : (w4.setCell ⟨p, 4, none⟩ (.int .i64 X)).heap.size = w4.heap.size := by simp
        have hin : ∀ b, grow S w3 w4 b → grow S w (w4.setCell ⟨p, 4, none⟩ (.int .i64 X)) b := fun b hb => hb.imp id (fun ⟨h1, h2⟩ => ⟨Nat.le_trans HB3.out.size h1, by rw [hsz5]; exact h2⟩)
        refine ⟨⟨bel_tch2 HB.out t5 (fun i hi => (h.out.m.own i hi).1), ⟨.inl h.out.m.hp, grow_own h.out.m.own HB.out.size t5.size, H4.out.1.ok, H4.out.1.nm, last, chg, hel, by rw [← eX]; exact k4.uses X, row_tch q2 ts (fun b hb e => cells_apart (row_at q2 hb) k4.ty (by decide) e), fun b hb => hin b (q3 b hb), ?_⟩⟩, t5⟩
        rcases q4 with ⟨h1, h2, h3, h4⟩ | ⟨l, m, V, U, h1, h2, h3, h4, h5, h6, h7, h8, h9, h10⟩
        · exact absurd h3 (by simp)
        · exact .inr ⟨l, m, V, U, h1, h2, hnp l h3, hnp m h4, hin l h5, hin m h6, h7, fun b hb => hin b (h8 b hb), fun b hb => hin b (h9 b hb), h10⟩)
      clear k4 q2 q3 q4 hent H4 HB3 HB
      go_wp2
      go_ret
      exact ⟨rfl, HF⟩
/-- Rename: the error's number, the changes then -/
def renR (H : Fs) (a b : ByteArray) : Int := if 1 ≤ b.size ∧ b.size ≤ 64 then (if (getF H a).isSome then (if (getF H b).isSome then 42 else 0) else 41) else 2
def renC (L : Fs) (cs : List Chg) (a b : ByteArray) : List Chg := if renR (held L cs) a b = 0 then cs ++ [.ren a b] else cs
theorem tot_ren (L : Fs) (cs : List Chg) (hs : SrtF L) {a b : ByteArray} (ha : (getF (held L cs) a).isSome = true) (hb : (getF (held L cs) b).isSome = false) : totF (held L (cs ++ [.ren a b])) = totF (held L cs) := by
  rw [held_one]
  have h0 := srt_held hs cs
  have hne : ¬ a = b := fun e => by rw [e, hb] at ha; cases ha
  have h1 := tot_putF h0 b (orE (getF (held L cs) a))
  have h2 := tot_delF (srt_putF h0 b (orE (getF (held L cs) a))) a
  rw [getF_putF, if_neg hne] at h2
  rw [orE_size] at h1
  have hb' : getF (held L cs) b = none := by cases h : getF (held L cs) b with
    | none => rfl
    | some x => rw [h] at hb; cases hb
  rw [hb'] at h1
  simp only [Option.map_none, Option.getD_none] at h1
  simp only [doC]
  omega
theorem nm_get {L : Fs} (h : NmF L) {q : ByteArray} (hq : (getF L q).isSome = true) : q.size ≤ 64 := by
  obtain ⟨d, hd⟩ := Option.isSome_iff_exists.1 hq
  exact h _ (getF_mem hd)
set_option maxRecDepth 100000 in
set_option maxHeartbeats 4000000 in
theorem rename_K {w0 w : World} {p : Nat} {S : Nat → Prop} {cp : Int} {n : Nat} {L : Fs} {cs : List Chg} (a b : ByteArray) (h : Hid (DK w0 w p S cp n L cs)) (ha : a.size ≤ maxLen) (hn : n < maxLen) (hq : cs.length ≤ 8796093022206) (hsz : totF (held L cs) ≤ 140737488355328) :
    Calls Tryz.prog 31 #[.pointer (some ⟨p, 0, none⟩), .string a, .string b] w fun e w' => e = .returned (.int .i64 (renR (held L cs) a b)) ∧ Hid (DK w0 w' p (grow S w w') cp (n + 1) L (renC L cs a b) ∧ Tch w w' S) := by
  unfold renC
  have HSTILL := Lib.hid (h.out.still (Below.refl _ w) (Nat.le_succ n))
  by_cases hv : 1 ≤ b.size ∧ b.size ≤ 64
  case neg =>
    have hr : renR (held L cs) a b = 2 := if_neg hv
    rw [hr, if_neg (by decide)]
    have hnm := isName_no b w hv
    clear hv hr
    go_enter Tryz.func31, Tryz.ntmps31
    go_wp2_with (fail)
    refine hnm.mono ?_
    rintro e w' ⟨rfl, rfl⟩
    clear hnm
    go_wp2
    go_ret
    exact ⟨rfl, HSTILL⟩
  case pos =>
    have hnm := isName_any b w hv.1 hv.2
    have hh := holds_K a h ha
    have hh2 := holds_K b h (by unfold maxLen; omega)
    cases hga : (getF (held L cs) a).isSome with
    | false =>
      have hr : renR (held L cs) a b = 41 := by unfold renR; rw [if_pos hv, hga]; rfl
      rw [hr, if_neg (by decide)]
      rw [hga] at hh
      clear hv hr hga hh2
      go_enter Tryz.func31, Tryz.ntmps31
      go_wp2_with (fail)
      refine hnm.mono ?_
      rintro e w' ⟨rfl, rfl⟩
      clear hnm
      go_wp2_with (fail)
      refine hh.mono ?_
      rintro e w' ⟨rfl, rfl⟩
      clear hh
      go_wp2
      go_ret
      exact ⟨rfl, HSTILL⟩
    | true =>
      rw [hga] at hh
      cases hgb : (getF (held L cs) b).isSome with
      | true =>
        have hr : renR (held L cs) a b = 42 := by unfold renR; rw [if_pos hv, hga, hgb]; rfl
        rw [hr, if_neg (by decide)]
        rw [hgb] at hh2
        clear hv hr hga hgb
        go_enter Tryz.func31, Tryz.ntmps31
        go_wp2_with (fail)
        refine hnm.mono ?_
        rintro e w' ⟨rfl, rfl⟩
        clear hnm
        go_wp2_with (fail)
        refine hh.mono ?_
        rintro e w' ⟨rfl, rfl⟩
        clear hh
        go_wp2_with (fail)
        refine hh2.mono ?_
        rintro e w' ⟨rfl, rfl⟩
        clear hh2
        go_wp2
        go_ret
        exact ⟨rfl, HSTILL⟩
      | false =>
        have hr : renR (held L cs) a b = 0 := by unfold renR; rw [if_pos hv, hga, hgb]; rfl
        rw [hr, if_pos rfl]
        rw [hgb] at hh2
        have hok : okC (.ren a b) := ⟨nm_get (nm_held h.out.m.nm cs h.out.m.ok) hga, hv.2, fun e => by rw [e, hgb] at hga; cases hga⟩
        have HSZ := Lib.hid (And.intro hn (And.intro hq (And.intro hsz hok)))
        have HT := Lib.hid (tot_ren L cs h.out.srt hga hgb)
        have has : a.size ≤ 64 := hok.1
        have hbs : b.size ≤ 64 := hv.2
        clear hv hr hga hgb hok hn hq hsz
        go_enter Tryz.func31, Tryz.ntmps31
        go_wp2_with (fail)
        refine hnm.mono ?_
        rintro e w' ⟨rfl, rfl⟩
        clear hnm
        go_wp2_with (fail)
        refine hh.mono ?_
        rintro e w' ⟨rfl, rfl⟩
        clear hh
        go_wp2_with (fail)
        refine hh2.mono ?_
        rintro e w' ⟨rfl, rfl⟩
        clear hh2
        go_wp2_with (fail)
        refine (clone_any a w (by omega)).mono ?_
        rintro e w2 ⟨rfl, hb2⟩
        have HB2 := Lib.hid hb2
        clear hb2
        go_wp2_with (fail)
        refine (clone_any b w2 (by omega)).mono ?_
        rintro e w3 ⟨rfl, hb3⟩
        have HB3 := Lib.hid (HB2.out.trans (hb3.mono HB2.out.size))
        clear hb3 HB2
        have hent := enter_F (.ren a b) (Lib.hid (h.out.m.below HB3.out)) HSZ.out.2.2.2 (Nat.le_trans h.out.bel.size HB3.out.size) HSZ.out.1 HSZ.out.2.1 (by have := HSZ.out.2.2.1; simp only [wtC]; omega)
        go_wp2_with (fail)
        refine hent.mono ?_
        rintro e w4 ⟨rfl, H4⟩
        have HF : Hid (DK w0 w4 p (grow S w w4) cp (n + 1) L (cs ++ [.ren a b]) ∧ Tch w w4 S) := Lib.hid (by
          have t4 : Tch w w4 S := (tch_below S HB3.out).then H4.out.2 (fun _ _ e => e)
          refine ⟨⟨bel_tch2 h.out.bel t4 (fun i hi => (h.out.m.own i hi).1), ?_⟩, t4⟩
          rw [HT.out]
          exact H4.out.1.wide (fun b hb => hb.imp id (fun ⟨h1, h2⟩ => ⟨Nat.le_trans HB3.out.size h1, h2⟩)) (grow_own h.out.m.own h.out.bel.size t4.size) (Nat.le_refl _))
        clear hent H4
        go_wp2
        go_ret
        exact ⟨rfl, HF⟩
theorem GF.drew2 {w : World} {m n : Nat} {G : Hv} (h : GF w m n G) : GF w.drew m n G := h
/-- Delete: the error's number, the changes then -/
def delR (H : Fs) (a : ByteArray) : Int := if (getF H a).isSome then 0 else 41
def delC (L : Fs) (cs : List Chg) (a : ByteArray) : List Chg := if delR (held L cs) a = 0 then cs ++ [.del a] else cs
set_option maxRecDepth 100000 in
set_option maxHeartbeats 4000000 in
theorem delete_K {w0 w : World} {p : Nat} {S : Nat → Prop} {cp : Int} {n : Nat} {L : Fs} {cs : List Chg} (a : ByteArray) (h : Hid (DK w0 w p S cp n L cs)) (ha : a.size ≤ maxLen) (hn : n < maxLen) (hq : cs.length ≤ 8796093022206) (hsz : totF (held L cs) ≤ 140737488355328) :
    Calls Tryz.prog 20 #[.pointer (some ⟨p, 0, none⟩), .string a] w fun e w' => e = .returned (.int .i64 (delR (held L cs) a)) ∧ Hid (DK w0 w' p (grow S w w') cp (n + 1) L (delC L cs a) ∧ Tch w w' S) := by
  unfold delC
  have hh := holds_K a h ha
  unfold delR
  cases hga : getF (held L cs) a with
  | none =>
    rw [hga] at hh
    have HSTILL := Lib.hid (h.out.still (Below.refl _ w) (Nat.le_succ n))
    have e0 : ((none : Option ByteArray).isSome) = false := rfl
    rw [e0] at hh ⊢
    rw [if_neg (by decide), if_neg (by decide)]
    clear hga e0
    go_enter Tryz.func20, Tryz.ntmps20
    go_wp2_with (fail)
    refine hh.mono ?_
    rintro e w' ⟨rfl, rfl⟩
    clear hh
    go_wp2
    go_ret
    exact ⟨rfl, HSTILL⟩
  | some d =>
    rw [hga] at hh
    have e0 : ((some d).isSome) = true := rfl
    rw [e0] at hh ⊢
    rw [if_pos rfl, if_pos rfl]
    have has : a.size ≤ 64 := nm_get (nm_held h.out.m.nm cs h.out.m.ok) (by rw [hga]; rfl)
    have hds := size_le_tot hga
    have htd := tot_delF (srt_held h.out.srt cs) a
    rw [hga] at htd
    simp only [Option.map_some, Option.getD_some] at htd
    obtain ⟨last, chg, hel, hk, hcr, hcs, hmp⟩ := h.out.m.st
    rcases hmp with ⟨h1, h2, h3, h4⟩ | ⟨l, m, V, U, rfl, rfl, hl, hm, sl, sm, lm, rv, ru, apt⟩
    · rw [h2, h3] at hga
      simp [held, getF] at hga
    · obtain ⟨v, hv, hrow⟩ := hm.row a d hga
      obtain ⟨aa, cc, rfl⟩ := row_slice0 hrow
      have hlk := gf_file hm.gf.drew2 (q := a) (by unfold maxLen; omega)
      rw [hv] at hlk
      simp only [Option.getD_some] at hlk
      obtain ⟨H, hH⟩ : ∃ H, H = totF (held L cs) := ⟨_, rfl⟩
      have HH := Lib.hid hH
      have c3 := hk.c3
      have c4 := hk.c4
      have f4 := hk.fr 4
      rw [← hH] at c4 hds htd hsz
      have hw1 : wrap64 ((H : Int) - (d.size : Int)) = (H : Int) - (d.size : Int) := IntWalk.wrap64_in _ ⟨by omega, by omega⟩
      have HSZ := Lib.hid (And.intro hn (And.intro hq (And.intro hsz (And.intro hds (And.intro htd has)))))
      have HK := Lib.hid (And.intro hk (And.intro hcr hcs))
      have HM : Hid (DkMaps w0.heap.size w S n L cs (.map (some l)) (.map (some m))) := Lib.hid (.inr ⟨l, m, V, U, rfl, rfl, hl, hm, sl, sm, lm, rv, ru, apt⟩)
      clear hk hl hm apt rv ru hga hrow hcr hcs sl sm lm hH hn hq hsz hds htd hv e0
      go_enter Tryz.func20, Tryz.ntmps20
      go_wp2_with (fail)
      refine hh.mono ?_
      rintro e w' ⟨rfl, rfl⟩
      clear hh
      go_upto_region 5 with (fail)
      go_region
      obtain ⟨X, hX⟩ : ∃ X : Int, X = (H : Int) - (d.size : Int) := ⟨_, rfl⟩
      have H5 : Hid (DkM w0.heap.size (w.setCell ⟨p, 4, none⟩ (.int .i64 X)).drew p S cp X n L cs ∧ Tch w (w.setCell ⟨p, 4, none⟩ (.int .i64 X)).drew S) := Lib.hid (by
        have t0 := tch_set w ⟨p, 4, none⟩ (.int .i64 X)
        have t1 : Tch (w.setCell ⟨p, 4, none⟩ (.int .i64 X)) (w.setCell ⟨p, 4, none⟩ (.int .i64 X)).drew (fun _ => False) := tch_below _ (Below.refl _ _).drew
        have tt : Tch w (w.setCell ⟨p, 4, none⟩ (.int .i64 X)).drew (fun i => i = p) := Tch.then t0 t1 (fun _ _ h => h.elim)
        have tS : Tch w (w.setCell ⟨p, 4, none⟩ (.int .i64 X)).drew S := (Tch.refl w S).then tt (fun i _ e => by rw [e]; exact h.out.m.hp)
        refine ⟨⟨h.out.m.hp, fun b hb => ⟨(h.out.m.own b hb).1, Nat.lt_of_lt_of_le (h.out.m.own b hb).2 tS.size⟩, h.out.m.ok, h.out.m.nm, _, chg, _, (HK.out.1.uses X).tch t1 (fun e => e), row_tch HK.out.2.1 tt (fun b hb e => cells_apart (row_at HK.out.2.1 hb) HK.out.1.ty (by decide) e), HK.out.2.2, ?_⟩, tS⟩
        rcases HM.out with ⟨h1, _⟩ | ⟨l', m', V, U, h1, h2, h3, h4, h5⟩
        · cases h1
        · exact .inr ⟨l', m', V, U, h1, h2, h3.tch tt (fun e => rows_p h3 HK.out.1 (.inl e.symm)) (fun b hb e => rows_p h3 HK.out.1 (.inr (e ▸ hb))), h4.tch tt (fun e => rows_p h4 HK.out.1 (.inl e.symm)) (fun b hb e => rows_p h4 HK.out.1 (.inr (e ▸ hb))), h5⟩)
      rw [← hX]
      generalize (w.setCell ⟨p, 4, none⟩ (.int .i64 X)).drew = w5 at *
      have HX := Lib.hid hX
      clear hlk hw1 c3 c4 f4 hX
      go_wp2_with (fail)
      refine (clone_any a w5 (by omega)).mono ?_
      rintro e w6 ⟨rfl, hb6⟩
      have HB6 := Lib.hid hb6
      clear hb6
      have hent := enter_F (.del a) (Lib.hid (H5.out.1.below HB6.out)) HSZ.out.2.2.2.2.2 (Nat.le_trans h.out.bel.size (Nat.le_trans H5.out.2.size HB6.out.size)) HSZ.out.1 HSZ.out.2.1 (by have := HSZ.out.2.2.1; have := HH.out; simp only [wtC]; omega)
      go_wp2_with (fail)
      refine hent.mono ?_
      rintro e w7 ⟨rfl, H7⟩
      have HF : Hid (DK w0 w7 p (grow S w w7) cp (n + 1) L (cs ++ [.del a]) ∧ Tch w w7 S) := Lib.hid (by
        have t6 : Tch w w6 S := H5.out.2.then (tch_below (fun _ => False) HB6.out) (fun _ _ e => e.elim)
        have t7 : Tch w w7 S := t6.then H7.out.2 (fun _ _ e => e)
        refine ⟨⟨bel_tch2 h.out.bel t7 (fun i hi => (h.out.m.own i hi).1), ?_⟩, t7⟩
        have e1 : X = ((totF (held L (cs ++ [.del a])) : Nat) : Int) := by
          rw [held_one, HX.out]
          have h1 := HSZ.out.2.2.2.2.1
          show (H : Int) - _ = ((totF (delF (held L cs) a) : Nat) : Int)
          omega
        rw [← e1]
        exact H7.out.1.wide (fun b hb => hb.imp id (fun ⟨h1, h2⟩ => ⟨Nat.le_trans t6.size h1, h2⟩)) (grow_own h.out.m.own h.out.bel.size t7.size) (Nat.le_refl _))
      clear hent H7
      go_wp2
      go_ret
      exact ⟨rfl, HF⟩
end Go.Proofs.YtmlikkjahkdilaaGreatDoor
