/- Package disk: Sync and Crash, whatever was changed. -/
import Derived.Test.YtmlikkjahkdilaaGreatDoorDkHold
namespace Go.Proofs.YtmlikkjahkdilaaGreatDoor
open Go.RowKit Go.Maps

/-- behind the settling of the first k changes -/
def SetK (B : Nat) (w w' : World) (p : Nat) (S : Nat → Prop) (cp used : Int) (n : Nat) (L : Fs) (cs : List Chg) (k : Nat) : Prop :=
  Tch w w' S ∧ ∃ last chg' hel, DiskAt w' p cp last chg' hel used ∧ (∃ a' c', chg' = .slice a' (cs.length - k) c' ∧ ∀ d, cs[k]? = some d → ∃ g o, a' = some ⟨g, o, none⟩ ∧ w'.cell? ⟨g, o, none⟩ = some (cV d)) ∧
    ((last = .map none ∧ L = [] ∧ cs = [] ∧ (hel = .map none ∨ ∃ m, hel = .map (some m) ∧ S m ∧ GF w' m n (fun _ => none))) ∨
      ∃ l m V U, last = .map (some l) ∧ hel = .map (some m) ∧ FsR B w' l (n + k) V (held L (cs.take k)) ∧ FsR B w' m n U (held L cs) ∧ S l ∧ S m ∧ ¬ l = m ∧ (∀ b, Rows V b → S b ∨ w.heap.size ≤ b) ∧ (∀ b, Rows U b → S b) ∧ ∀ b, Rows V b → ¬ Rows U b)
theorem settle_K {B : Nat} {w : World} {p : Nat} {S : Nat → Prop} {cp used : Int} {n : Nat} {L : Fs} {cs : List Chg} (k : Nat) (h : DkM B w p S cp used n L cs) (hk : k ≤ cs.length) (hB : B ≤ w.heap.size) (hn : n + cs.length < maxLen) (hsz : totF L + wts cs ≤ 140737488355328) :
    Calls Tryz.prog 34 #[.pointer (some ⟨p, 0, none⟩), .int .i64 k] w fun e w' => e = .returned (.tuple #[]) ∧ Hid (SetK B w w' p S cp used n L cs k) := by
  obtain ⟨last, chg, hel, hd, hcr, hcs, hmp⟩ := h.st
  rcases hmp with ⟨rfl, rfl, rfl, hhel⟩ | ⟨l, m, V, U, rfl, rfl, hl, hm, sl, sm, lm, rv, ru, apt⟩
  · obtain rfl : k = 0 := by simpa using hk
    have hfin : ∀ (X : Value) (a' : Option Addr) (c' : Nat), X = .slice a' 0 c' → SetK B w (w.setCell ⟨p, 2, none⟩ X) p S cp used n [] [] 0 := fun X a' c' hX => by
      have ts := tch_set w ⟨p, 2, none⟩ X
      refine ⟨(Tch.refl w S).then ts (fun i _ e => by
        have e : i = p := e
        rw [e]; exact h.hp), _, X, _, hd.chg X, ⟨a', c', hX, fun d hd => by simp at hd⟩, .inl ⟨rfl, rfl, rfl, hhel.imp id ?_⟩⟩
      rintro ⟨m, q1, q2, q3⟩
      exact ⟨m, q1, q2, q3.tch ts (fun e => q3.apart hd.ty e.symm)⟩
    rcases hcr.form with ⟨rfl, _⟩ | ⟨g, c, rfl, hc1, hc2⟩
    · refine (settle_none_any p cp used _ hel w hd).mono ?_
      rintro e w' ⟨he, rfl⟩
      exact ⟨he, Lib.hid (hfin _ _ _ rfl)⟩
    · refine (settle_none p c g 0 cp used _ hel w hd (Nat.zero_le _) (by unfold maxLen at hc2; omega)).mono ?_
      rintro e w' ⟨he, rfl⟩
      exact ⟨he, Lib.hid (hfin _ _ _ rfl)⟩
  · refine (settle_F k hd hl hcr hk h.ok hB hn hsz).mono ?_
    rintro e w' ⟨he, G', chg', q1, q2, q3, q4, q5⟩
    have t1 : Tch w w' S := (Tch.refl w S).then q3 (fun i _ e => by
      rcases e with e | e | e
      · rw [e]; exact h.hp
      · rw [e]; exact sl
      · exact rv i e)
    refine ⟨he, Lib.hid ⟨t1, _, chg', _, q1, q5, .inr ⟨l, m, G', U, rfl, rfl, q2, hm.tch q3 (fun e => ?_) (fun b hb e => ?_), sl, sm, lm, fun b hb => ?_, ru, fun b hb hu => ?_⟩⟩⟩
    · rcases e with e | e | e
      · exact hm.gf.apart hd.ty e.symm
      · exact lm e.symm
      · exact hm.gf.apart (hl.rows_at e).2.2 rfl
    · rcases e with e | e | e
      · exact rows_p hm hd (.inr (e ▸ hb))
      · subst e
        exact hl.gf.apart (hm.rows_at hb).2.2 rfl
      · exact apt b e hb
    · rcases q4 b hb with k | k
      · exact .inl (rv b k)
      · exact .inr k
    · rcases q4 b hb with k | k
      · exact apt b k hu
      · have := (hm.rows_at hu).2.1; omega
theorem sync_fin {B : Nat} {w w' : World} {p : Nat} {S : Nat → Prop} {cp used : Int} {n : Nat} {L : Fs} {cs : List Chg} (h : DkM B w p S cp used n L cs) (k : SetK B w w' p S cp used n L cs cs.length) (hB : B ≤ w.heap.size) :
    DkM B (w'.setCell ⟨p, 2, none⟩ nilS) p (grow S w (w'.setCell ⟨p, 2, none⟩ nilS)) cp used (n + cs.length) (held L cs) [] ∧ Tch w (w'.setCell ⟨p, 2, none⟩ nilS) S := by
  obtain ⟨t, last, chg', hel, hd, _, hm⟩ := k
  have ts := tch_set w' ⟨p, 2, none⟩ nilS
  have tw : Tch w (w'.setCell ⟨p, 2, none⟩ nilS) S := t.then ts (fun i _ e => by
    have e : i = p := e
    rw [e]; exact h.hp)
  refine ⟨⟨.inl h.hp, fun b hb => ?_, (fun _ h => by cases h), nm_held h.nm cs h.ok, last, nilS, hel, hd.chg _, row_nil _ _ _, (fun _ h => by cases h), ?_⟩, tw⟩
  · rcases hb with hb | ⟨h1, h2⟩
    · exact ⟨(h.own b hb).1, Nat.lt_of_lt_of_le (h.own b hb).2 tw.size⟩
    · exact ⟨Nat.le_trans hB h1, h2⟩
  · rcases hm with ⟨h1, h2, h3, h4⟩ | ⟨l, m, V, U, h1, h2, h3, h4, h5, h6, h7, h8, h9, h10⟩
    · refine .inl ⟨h1, by rw [h2, h3]; rfl, rfl, h4.imp id ?_⟩
      rintro ⟨m, q1, q2, q3⟩
      exact ⟨m, q1, .inl q2, (q3.tch ts (fun e => q3.apart hd.ty e.symm)).mono (Nat.le_add_right _ _)⟩
    · rw [List.take_of_length_le (Nat.le_refl _)] at h3
      have f3 := h3.setp hd 2 nilS
      refine .inr ⟨l, m, V, U, h1, h2, f3, (h4.setp hd 2 nilS).mono (Nat.le_add_right _ _), .inl h5, .inl h6, h7, fun b hb => (h8 b hb).imp id (fun k => ⟨k, (f3.rows_at hb).2.1⟩), fun b hb => .inl (h9 b hb), h10⟩
set_option maxRecDepth 100000 in
set_option maxHeartbeats 4000000 in
theorem sync_K {w0 w : World} {p : Nat} {S : Nat → Prop} {cp : Int} {n : Nat} {L : Fs} {cs : List Chg} (h : Hid (DK w0 w p S cp n L cs)) (hn : n + cs.length < maxLen) (hsz : totF L + wts cs ≤ 140737488355328) :
    Calls Tryz.prog 21 #[.pointer (some ⟨p, 0, none⟩)] w fun e w' => e = .returned (.tuple #[]) ∧ Hid (DK w0 w' p (grow S w w') cp (n + cs.length) (held L cs) [] ∧ Tch w w' S) := by
  obtain ⟨q, hq⟩ : ∃ q, q = cs.length := ⟨_, rfl⟩
  have hst := settle_K q h.out.m (by omega) h.out.bel.size hn hsz
  obtain ⟨last, chg, hel, hk, hc, _, _⟩ := h.out.m.st
  obtain ⟨a0, c0', hchg⟩ : ∃ a c, chg = .slice a q c := by
    rcases hc.form with ⟨h1, h2⟩ | ⟨g, c, h1, _⟩
    · exact ⟨none, 0, by rw [h1, hq, h2]; rfl⟩
    · exact ⟨_, _, by rw [hq]; exact h1⟩
  have c2 := hk.c2
  rw [hchg] at c2
  have HQ := Lib.hid hq
  clear hk hc hchg hq hn hsz
  go_enter Tryz.func21, Tryz.ntmps21
  go_wp2_with (fail)
  refine hst.mono ?_
  rintro e w1 ⟨rfl, h1⟩
  have HF : Hid (DK w0 (w1.setCell ⟨p, 2, none⟩ nilS) p (grow S w (w1.setCell ⟨p, 2, none⟩ nilS)) cp (n + cs.length) (held L cs) [] ∧ Tch w (w1.setCell ⟨p, 2, none⟩ nilS) S) := Lib.hid (by
    have k := h1.out
    rw [HQ.out] at k
    obtain ⟨q1, q2⟩ := sync_fin h.out.m k h.out.bel.size
    exact ⟨⟨bel_tch2 h.out.bel q2 (fun i hi => (h.out.m.own i hi).1), q1⟩, q2⟩)
  obtain ⟨_, _, _, _, k1, _, _⟩ := h1.out
  have d2 := k1.c2
  have f2 := k1.fr 2
  clear h1 hst c2 k1
  go_wp2
  first
    | (go_end0; exact ⟨rfl, HF⟩)
    | (go_ret; exact ⟨rfl, HF⟩)
    | exact bodyPost_ret (v := .tuple #[]) (results_none rfl _ _ _) rfl ⟨rfl, HF⟩
end Go.Proofs.YtmlikkjahkdilaaGreatDoor
