/- Package disk: a map of files as a list of files; what each change makes of it. -/
import Derived.Test.YtmlikkjahkdilaaGreatDoorDiskMov
import Derived.Test.YtmlikkjahkdilaaGreatDoorDiskAny
import Derived.Test.YtmlikkjahkdilaaGreatDoorDkMath
namespace Go.Proofs.YtmlikkjahkdilaaGreatDoor
open Go.RowKit Go.Maps

theorem sk_inj {s t : ByteArray} (h : sk s = sk t) : s = t := by
  unfold sk at h
  injection h with h
  exact ByteArray.ext (Array.toList_inj.1 h)
theorem sk_neq {a b : ByteArray} (h : ¬ a = b) : sk a ≠ sk b := fun e => h (sk_inj e)
abbrev nilS : Value := .slice none 0 0
/-- the slice that holds each file -/
abbrev Hv := ByteArray → Option Value
def Rows (G : Hv) (b : Nat) : Prop := ∃ q v, G q = some v ∧ v.ownBlock = some b
def GF (w : World) (m n : Nat) (G : Hv) : Prop := ∃ D, FM w m n D ∧ ∀ q, Maps.has D (sk q) = (G q).isSome ∧ hdr ((G q).getD nilS) = some (D.atKey (sk q) (hd nilS), [])
theorem GF.tch {w w' : World} {S : Nat → Prop} {m n : Nat} {G : Hv} (h : GF w m n G) (t : Tch w w' S) (hm : ¬ S m) : GF w' m n G := by
  obtain ⟨D, h1, h2⟩ := h
  exact ⟨D, fm_tch h1 t hm, h2⟩
theorem GF.mono {w : World} {m n n' : Nat} {G : Hv} (h : GF w m n G) (hn : n ≤ n') : GF w m n' G := by
  obtain ⟨D, h1, h2⟩ := h
  exact ⟨D, h1.mono hn, h2⟩
theorem GF.lt {w : World} {m n : Nat} {G : Hv} (h : GF w m n G) : m < w.heap.size := by
  obtain ⟨D, h1, _⟩ := h
  exact h1.lt
theorem GF.apart {w : World} {m n b : Nat} {e : TypeId} {G : Hv} (h : GF w m n G) (hb : ∃ cs, w.heap[b]? = some (.cells cs e (0, 0))) : ¬ b = m := by
  obtain ⟨D, h1, _⟩ := h
  exact map_apart hb h1
theorem gf_made (w : World) : GF (w.alloc (.map #[] 0)) w.heap.size 0 (fun _ => none) := ⟨_, World.ownsMap_made _ _ _ _, fun _ => ⟨rfl, rfl⟩⟩
/-- the map m leads each name of L to a slice that holds the file's bytes, each in a block of its own that is new since B -/
structure FsR (B : Nat) (w : World) (m n : Nat) (G : Hv) (L : Fs) : Prop where
  gf : GF w m n G
  row : ∀ q d, getF L q = some d → ∃ v, G q = some v ∧ w.ownsRow B 5 1 v d.size (Lib.byteCells d.data.toList)
  non : ∀ q, getF L q = none → G q = none
  one : ∀ q q' v v' b, G q = some v → G q' = some v' → v.ownBlock = some b → v'.ownBlock = some b → q = q'
  srt : SrtF L
theorem FsR.has {B : Nat} {w : World} {m n : Nat} {G : Hv} {L : Fs} (h : FsR B w m n G L) (q : ByteArray) : (G q).isSome = (getF L q).isSome := by
  cases hg : getF L q with
  | none => rw [h.non q hg]; rfl
  | some d => obtain ⟨v, h1, _⟩ := h.row q d hg; rw [h1]; rfl
theorem FsR.of {B : Nat} {w : World} {m n : Nat} {G : Hv} {L : Fs} (h : FsR B w m n G L) {q : ByteArray} {v : Value} (hg : G q = some v) : ∃ d, getF L q = some d ∧ w.ownsRow B 5 1 v d.size (Lib.byteCells d.data.toList) := by
  cases hf : getF L q with
  | none => rw [h.non q hf] at hg; cases hg
  | some d =>
    obtain ⟨v', h1, h2⟩ := h.row q d hf
    rw [hg] at h1
    injection h1 with h1
    exact ⟨d, rfl, by rw [h1]; exact h2⟩
theorem FsR.rows_at {B : Nat} {w : World} {m n b : Nat} {G : Hv} {L : Fs} (h : FsR B w m n G L) (hb : Rows G b) : B ≤ b ∧ b < w.heap.size ∧ ∃ cs, w.heap[b]? = some (.cells cs 5 (0, 0)) := by
  obtain ⟨q, v, h1, h2⟩ := hb
  obtain ⟨d, _, hr⟩ := h.of h1
  exact ⟨(hr.lt b h2).1, (hr.lt b h2).2, row_at hr h2⟩
theorem FsR.tch {B : Nat} {w w' : World} {S : Nat → Prop} {m n : Nat} {G : Hv} {L : Fs} (h : FsR B w m n G L) (t : Tch w w' S) (hm : ¬ S m) (hr : ∀ b, Rows G b → ¬ S b) : FsR B w' m n G L :=
  ⟨h.gf.tch t hm, fun q d hq => by
    obtain ⟨v, h1, h2⟩ := h.row q d hq
    exact ⟨v, h1, row_tch h2 t (fun b hb => hr b ⟨q, v, h1, hb⟩)⟩, h.non, h.one, h.srt⟩
theorem FsR.mono {B : Nat} {w : World} {m n n' : Nat} {G : Hv} {L : Fs} (h : FsR B w m n G L) (hn : n ≤ n') : FsR B w m n' G L := ⟨h.gf.mono hn, h.row, h.non, h.one, h.srt⟩
/-- the row of a name, be it there or not -/
theorem FsR.any {B : Nat} {w : World} {m n : Nat} {G : Hv} {L : Fs} (h : FsR B w m n G L) (q : ByteArray) : w.ownsRow B 5 1 ((G q).getD nilS) (orE (getF L q)).size (Lib.byteCells (orE (getF L q)).data.toList) := by
  cases hg : getF L q with
  | none => rw [h.non q hg]; exact row_nil _ _ _
  | some d => obtain ⟨v, h1, h2⟩ := h.row q d hg; rw [h1]; exact h2
theorem fsr_made (B : Nat) (w : World) : FsR B (w.alloc (.map #[] 0)) w.heap.size 0 (fun _ => none) [] :=
  ⟨gf_made w, (fun _ _ h => by simp [getF] at h), fun _ _ => rfl, (fun _ _ _ _ _ h => by cases h), List.Pairwise.nil⟩
def cV : Chg → Value
  | .app n d => ap n d
  | .ren a b => rn a b
  | .del a => dl a
def DoPost (B : Nat) (w w' : World) (m n : Nat) (G : Hv) (L : Fs) (c : Chg) : Prop :=
  ∃ G', FsR B w' m (n + 1) G' (doC L c) ∧ Tch w w' (fun b => b = m ∨ Rows G b) ∧ ∀ b, Rows G' b → Rows G b ∨ w.heap.size ≤ b
theorem cells_app (x y : ByteArray) : Lib.byteCells x.data.toList ++ Lib.strCells y = Lib.byteCells (x ++ y).data.toList := by
  rw [ByteArray.data_append]
  simp [Lib.byteCells, Lib.strCells]
theorem do_app_F {B : Nat} {w : World} {m n : Nat} {G : Hv} {L : Fs} (h : FsR B w m n G L) (name d : ByteArray) (hn : n < maxLen) (hname : name.size ≤ 64) (hB : B ≤ w.heap.size) (hsz : totF L + d.size ≤ 140737488355328) :
    Calls Tryz.prog 36 #[.agg #[.string name, .string d], .map (some m)] w fun e w' => e = .returned (.tuple #[]) ∧ DoPost B w w' m n G L (.app name d) := by
  obtain ⟨D, h1, h2⟩ := h.gf
  have hrow := h.any name
  have hle : (orE (getF L name)).size ≤ totF L := by
    cases hg : getF L name with
    | none => exact Nat.zero_le _
    | some x => exact size_le_tot hg
  refine (do_append_s m n B _ D ((G name).getD nilS) _ name d w h1 hn (by unfold maxLen; omega) (h2 name).2 hrow hB (by omega)).mono ?_
  rintro e w' ⟨rfl, v', hf, hr, ht, hfr⟩
  refine ⟨rfl, fun q => if q = name then some v' else G q, ?_, ?_, ?_⟩
  case refine_2 =>
    refine ⟨ht.os, ht.tape, ht.output, ht.size, fun k hk hne => ht.block k hk (fun e => hne (.inl e)) (fun e => hne (.inr ?_))⟩
    cases hg : G name with
    | none => rw [hg] at e; cases e
    | some v => rw [hg] at e; exact ⟨name, v, hg, e.symm⟩
  case refine_3 =>
    rintro b ⟨q, v, hq, hb⟩
    by_cases e : q = name
    · simp only [if_pos e, Option.some.injEq] at hq
      subst hq
      rcases hfr b hb with k | k
      · refine .inl ?_
        cases hg : G name with
        | none => rw [hg] at k; cases k
        | some u => rw [hg] at k; exact ⟨name, u, hg, k⟩
      · exact .inr k
    · simp only [if_neg e] at hq
      exact .inl ⟨q, v, hq, hb⟩
  case refine_1 =>
    have hm := h1.isMap
    refine ⟨⟨_, hf, fun q => ?_⟩, fun q x hq => ?_, fun q hq => ?_, ?_, srt_putF h.srt _ _⟩
    · by_cases e : q = name
      · subst e
        rw [Maps.has_put_same hm (sk_key _), Maps.atKey_put_same hm (sk_key _)]
        simp only [if_true, Option.isSome_some, Option.getD_some, true_and]
        exact hdr_row hr
      · rw [Maps.has_put_other (sk_neq e), Maps.atKey_put_other (sk_neq e)]
        simp only [if_neg e]
        exact h2 q
    · simp only [doC] at hq
      rw [getF_putF] at hq
      by_cases e : q = name
      · rw [if_pos e] at hq ⊢
        injection hq with hq
        subst hq
        rw [cells_app] at hr
        rw [ByteArray.size_append]
        exact ⟨v', rfl, hr⟩
      · rw [if_neg e] at hq ⊢
        obtain ⟨v, q1, q2⟩ := h.row q x hq
        refine ⟨v, q1, ?_⟩
        refine row_tch q2 (S := fun k => k = m ∨ some k = ((G name).getD nilS).ownBlock) ⟨ht.os, ht.tape, ht.output, ht.size, fun k hk hne => ht.block k hk (fun e => hne (.inl e)) (fun e => hne (.inr e))⟩ (fun b hb hs => ?_)
        rcases hs with hs | hs
        · exact h.gf.apart (row_at q2 hb) hs
        · cases hg : G name with
          | none => rw [hg] at hs; cases hs
          | some u => rw [hg] at hs; exact e (h.one q name v u b q1 hg hb hs.symm)
    · simp only [doC] at hq
      rw [getF_putF] at hq
      by_cases e : q = name
      · rw [if_pos e] at hq; cases hq
      · rw [if_neg e] at hq
        simp only [if_neg e]
        exact h.non q hq
    · intro q q' v u b hq hq' hb hb'
      have hold : ∀ (r : ByteArray) (z : Value), ¬ r = name → G r = some z → z.ownBlock = some b → v'.ownBlock = some b → False := fun r z hr0 hz hzb hvb => by
        rcases hfr b hvb with k | k
        · cases hg : G name with
          | none => rw [hg] at k; cases k
          | some y => rw [hg] at k; exact hr0 (h.one r name z y b hz hg hzb k)
        · have := (h.rows_at ⟨r, z, hz, hzb⟩).2.1; omega
      by_cases e : q = name <;> by_cases e' : q' = name
      · rw [e, e']
      · simp only [if_pos e, Option.some.injEq] at hq
        simp only [if_neg e'] at hq'
        subst hq
        exact (hold q' u e' hq' hb' hb).elim
      · simp only [if_neg e] at hq
        simp only [if_pos e', Option.some.injEq] at hq'
        subst hq'
        exact (hold q v e hq hb hb').elim
      · simp only [if_neg e] at hq
        simp only [if_neg e'] at hq'
        exact h.one q q' v u b hq hq' hb hb'
theorem do_del_F {B : Nat} {w : World} {m n : Nat} {G : Hv} {L : Fs} (h : FsR B w m n G L) (name : ByteArray) (hname : name.size ≤ 64) :
    Calls Tryz.prog 161 #[.agg #[.string name], .map (some m)] w fun e w' => e = .returned (.tuple #[]) ∧ DoPost B w w' m n G L (.del name) := by
  obtain ⟨D, h1, h2⟩ := h.gf
  refine (do_delete m n D name w h1 (by unfold maxLen; omega)).mono ?_
  rintro e w' ⟨rfl, hf, ht⟩
  refine ⟨rfl, fun q => if q = name then none else G q, ?_, ⟨ht.os, ht.tape, ht.output, ht.size, fun k hk hne => ht.block k hk (fun e => hne (.inl e))⟩, ?_⟩
  · refine ⟨⟨_, hf.mono (Nat.le_succ _), fun q => ?_⟩, fun q x hq => ?_, fun q hq => ?_, ?_, srt_delF h.srt _⟩
    · by_cases e : q = name
      · subst e
        rw [Maps.has_del_same, Maps.atKey_del_same]
        simp only [if_true, Option.isSome_none, Option.getD_none, true_and]
        rfl
      · rw [Maps.has_del_other (sk_neq e), Maps.atKey_del_other (sk_neq e)]
        simp only [if_neg e]
        exact h2 q
    · simp only [doC] at hq
      rw [getF_delF] at hq
      by_cases e : q = name
      · rw [if_pos e] at hq; cases hq
      · rw [if_neg e] at hq ⊢
        obtain ⟨v, q1, q2⟩ := h.row q x hq
        exact ⟨v, q1, row_tch q2 ht (fun b hb hs => h.gf.apart (row_at q2 hb) hs)⟩
    · simp only [doC] at hq
      rw [getF_delF] at hq
      by_cases e : q = name
      · simp [e]
      · rw [if_neg e] at hq
        simp only [if_neg e]
        exact h.non q hq
    · intro q q' v u b hq hq' hb hb'
      by_cases e : q = name
      · simp [e] at hq
      · by_cases e' : q' = name
        · simp [e'] at hq'
        · simp only [if_neg e] at hq
          simp only [if_neg e'] at hq'
          exact h.one q q' v u b hq hq' hb hb'
  · rintro b ⟨q, v, hq, hb⟩
    by_cases e : q = name
    · simp [e] at hq
    · simp only [if_neg e] at hq
      exact .inl ⟨q, v, hq, hb⟩
theorem do_ren_F {B : Nat} {w : World} {m n : Nat} {G : Hv} {L : Fs} (h : FsR B w m n G L) (fr tt : ByteArray) (hn : n < maxLen) (hf0 : fr.size ≤ 64) (ht0 : tt.size ≤ 64) (hne : ¬ fr = tt) :
    Calls Tryz.prog 162 #[.agg #[.string fr, .string tt], .map (some m)] w fun e w' => e = .returned (.tuple #[]) ∧ DoPost B w w' m n G L (.ren fr tt) := by
  obtain ⟨D, h1, h2⟩ := h.gf
  refine (do_rename m n D fr tt w h1 hn (by unfold maxLen; omega) (by unfold maxLen; omega) ((G fr).getD nilS) (h2 fr).2).mono ?_
  rintro e w' ⟨rfl, hf, ht⟩
  have hm := h1.isMap
  have hne' : ¬ tt = fr := fun e => hne e.symm
  have hkeep : ∀ (q : ByteArray) (v : Value) (k : Nat) (xs : List Value), w.ownsRow B 5 1 v k xs → w'.ownsRow B 5 1 v k xs := fun q v k xs hr => row_tch hr ht (fun b hb hs => h.gf.apart (row_at hr hb) hs)
  refine ⟨rfl, fun q => if q = fr then none else if q = tt then some ((G fr).getD nilS) else G q, ?_, ⟨ht.os, ht.tape, ht.output, ht.size, fun k hk hne => ht.block k hk (fun e => hne (.inl e))⟩, ?_⟩
  · refine ⟨⟨_, hf, fun q => ?_⟩, fun q x hq => ?_, fun q hq => ?_, ?_, srt_delF (srt_putF h.srt _ _) _⟩
    · by_cases e : q = fr
      · subst e
        rw [Maps.has_del_same, Maps.atKey_del_same]
        simp only [if_true, Option.isSome_none, Option.getD_none, true_and]
        rfl
      · rw [Maps.has_del_other (sk_neq e), Maps.atKey_del_other (sk_neq e)]
        simp only [if_neg e]
        by_cases e2 : q = tt
        · subst e2
          rw [Maps.has_put_same hm (sk_key _), Maps.atKey_put_same hm (sk_key _)]
          simp only [if_true, Option.isSome_some, Option.getD_some, true_and]
          exact hdr_hd (h2 fr).2
        · rw [Maps.has_put_other (sk_neq e2), Maps.atKey_put_other (sk_neq e2)]
          simp only [if_neg e2]
          exact h2 q
    · simp only [doC] at hq
      rw [getF_delF] at hq
      by_cases e : q = fr
      · rw [if_pos e] at hq; cases hq
      · rw [if_neg e, getF_putF] at hq
        simp only [if_neg e]
        by_cases e2 : q = tt
        · rw [if_pos e2] at hq ⊢
          injection hq with hq
          subst hq
          exact ⟨_, rfl, hkeep q _ _ _ (h.any fr)⟩
        · rw [if_neg e2] at hq ⊢
          obtain ⟨v, q1, q2⟩ := h.row q x hq
          exact ⟨v, q1, hkeep q _ _ _ q2⟩
    · simp only [doC] at hq
      rw [getF_delF] at hq
      by_cases e : q = fr
      · simp [e]
      · rw [if_neg e, getF_putF] at hq
        simp only [if_neg e]
        by_cases e2 : q = tt
        · rw [if_pos e2] at hq; cases hq
        · rw [if_neg e2] at hq ⊢
          exact h.non q hq
    · intro q q' v u b hq hq' hb hb'
      have hold : ∀ (r : ByteArray) (z : Value), ¬ r = fr → G r = some z → z.ownBlock = some b → ((G fr).getD nilS).ownBlock = some b → False := fun r z hr0 hz hzb hvb => by
        cases hg : G fr with
        | none => rw [hg] at hvb; cases hvb
        | some y => rw [hg] at hvb; exact hr0 (h.one r fr z y b hz hg hzb hvb)
      by_cases e : q = fr
      · simp [e] at hq
      · by_cases e' : q' = fr
        · simp [e'] at hq'
        · simp only [if_neg e] at hq
          simp only [if_neg e'] at hq'
          by_cases e2 : q = tt <;> by_cases e2' : q' = tt
          · rw [e2, e2']
          · simp only [if_pos e2, Option.some.injEq] at hq
            simp only [if_neg e2'] at hq'
            subst hq
            exact (hold q' u e' hq' hb' hb).elim
          · simp only [if_neg e2] at hq
            simp only [if_pos e2', Option.some.injEq] at hq'
            subst hq'
            exact (hold q v e hq hb hb').elim
          · simp only [if_neg e2] at hq
            simp only [if_neg e2'] at hq'
            exact h.one q q' v u b hq hq' hb hb'
  · rintro b ⟨q, v, hq, hb⟩
    by_cases e : q = fr
    · simp [e] at hq
    · simp only [if_neg e] at hq
      by_cases e2 : q = tt
      · simp only [if_pos e2, Option.some.injEq] at hq
        subst hq
        cases hg : G fr with
        | none => rw [hg] at hb; cases hb
        | some y => rw [hg] at hb; exact .inl ⟨fr, y, hg, hb⟩
      · simp only [if_neg e2] at hq
        exact .inl ⟨q, v, hq, hb⟩
/-- what a change does, whichever it is -/
theorem chg_do (c : Chg) : ∃ (t : TypeId) (a : Value) (f : FuncId), (f = 36 ∨ f = 162 ∨ f = 161) ∧ cV c = .iface t a ∧ (∀ (n : Nat) (w : World), (nilAhead (n + 1) t a "mahout/disk.do").run Tryz.prog w = .ok (some false) w) ∧ (∀ (n : Nat) (w : World), (method (n + 1) t a "mahout/disk.do").run Tryz.prog w = .ok (f, a) w) ∧
    ∀ (B : Nat) (w : World) (m n : Nat) (G : Hv) (L : Fs), FsR B w m n G L → okC c → n < maxLen → B ≤ w.heap.size → totF L + wtC c ≤ 140737488355328 → Calls Tryz.prog f #[a, .map (some m)] w fun e w' => e = .returned (.tuple #[]) ∧ DoPost B w w' m n G L c := by
  cases c with
  | app n d => exact ⟨68, .agg #[.string n, .string d], 36, .inl rfl, rfl, fun _ _ => by kernel_rfl, fun _ _ => by kernel_rfl, fun B w m k G L h hc hn hB hs => do_app_F h n d hn hc hB hs⟩
  | ren a b => exact ⟨97, .agg #[.string a, .string b], 162, .inr (.inl rfl), rfl, fun _ _ => by kernel_rfl, fun _ _ => by kernel_rfl, fun B w m k G L h hc hn hB hs => do_ren_F h a b hn hc.1 hc.2.1 hc.2.2⟩
  | del a => exact ⟨83, .agg #[.string a], 161, .inr (.inr rfl), rfl, fun _ _ => by kernel_rfl, fun _ _ => by kernel_rfl, fun B w m k G L h hc hn hB hs => do_del_F h a hc⟩
end Go.Proofs.YtmlikkjahkdilaaGreatDoor
