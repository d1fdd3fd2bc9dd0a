/- Package disk: a map of files is copied, and its bytes are counted, whatever it holds. -/
import Derived.Test.YtmlikkjahkdilaaGreatDoorDkCall
namespace Go.Proofs.YtmlikkjahkdilaaGreatDoor
open Go.RowKit Go.Maps

theorem keys_file {w : World} {m n : Nat} {D : DataW Unit} (h : FM w m n D) {kl : Lit} (hk : Maps.has D kl = true) : ∃ q, kl = sk q ∧ q.size ≤ maxLen := by
  obtain ⟨es, clock, _, F, _, rfl⟩ := h
  obtain ⟨p, hp, hpk⟩ := List.any_eq_true.1 hk
  have hp' := mem_sorted.1 hp
  obtain ⟨v, hv⟩ := Maps.fit_keys F p hp'
  obtain ⟨s, rfl⟩ := Maps.keyOf_string_inv Tryz.underlying9 hv
  have : p.1 = kl := Classical.byContradiction fun hne => by rw [Maps.sameKey_ne hne] at hpk; cases hpk
  refine ⟨s, ?_, ?_⟩
  · rw [← this]
    rw [keyOf_string Tryz.underlying9] at hv
    simp [mapKey, Tryz.underlying9] at hv
    exact hv.2.symm
  · rw [keyOf_string Tryz.underlying9] at hv
    simp [mapKey, Tryz.underlying9] at hv
    first | exact hv.1 | omega
/-- the files still to come -/
def Lf (L : Fs) (left : Lit → Bool) : Fs := L.filter fun x => left (sk x.n)
/-- the files that have come -/
def Ld (L : Fs) (left : Lit → Bool) : Fs := L.filter fun x => !left (sk x.n)
theorem getF_filter (f : ByteArray → Bool) (q : ByteArray) : ∀ L : Fs, getF (L.filter fun x => f x.n) q = if f q then getF L q else none
  | [] => by simp [getF]
  | x :: L => by
    have ih := getF_filter f q L
    by_cases h : f x.n = true
    · rw [List.filter_cons_of_pos (by simpa using h), getF_cons, getF_cons, ih]
      by_cases e : x.n = q
      · subst e; simp [h]
      · simp [e]
    · rw [List.filter_cons_of_neg (by simpa using h), ih, getF_cons]
      by_cases e : x.n = q
      · subst e; simp [h]
      · simp [e]
abbrev next (left : Lit → Bool) (q : ByteArray) : Lit → Bool := fun z => left z && !z.sameKey (sk q)
theorem next_at (left : Lit → Bool) (q r : ByteArray) : next left q (sk r) = if r = q then false else left (sk r) := by
  unfold next
  by_cases e : r = q
  · subst e
    rw [if_pos rfl, WideAt.sameKey_self (sk_key _)]
    simp
  · rw [if_neg e, Maps.sameKey_ne (sk_neq e)]
    simp
theorem lf_next (L : Fs) (left : Lit → Bool) (q : ByteArray) : Lf L (next left q) = delF (Lf L left) q := by
  unfold Lf delF
  rw [List.filter_filter]
  congr 1
  funext x
  rw [next_at]
  by_cases e : x.n = q <;> simp [e]
theorem lf_done (L : Fs) {left : Lit → Bool} (h : ∀ kl, left kl = false) : Lf L left = [] := by
  unfold Lf
  rw [List.filter_eq_nil_iff]
  simp [h]
theorem ld_done (L : Fs) {left : Lit → Bool} (h : ∀ kl, left kl = false) : Ld L left = L := by
  unfold Ld
  rw [List.filter_eq_self]
  simp [h]
theorem len_delF1 {L : Fs} {q d : ByteArray} (h : getF L q = some d) : (delF L q).length + 1 ≤ L.length := by
  induction L with
  | nil => cases h
  | cons x L ih =>
    rw [getF_cons] at h
    unfold delF at ih ⊢
    by_cases e : x.n = q
    · rw [List.filter_cons_of_neg (by simp [e])]
      have := List.length_filter_le (fun y : Fl => !decide (y.n = q)) L
      simp only [List.length_cons]
      omega
    · rw [if_neg e] at h
      rw [List.filter_cons_of_pos (by simp [e])]
      have := ih h
      simp only [List.length_cons]
      omega
/-- the entry that comes is a file of the list -/
theorem entry_F {B : Nat} {w : World} {m n : Nat} {D : DataW Unit} {G : Hv} {L : Fs} (h : FsR B w m n G L) (h2 : ∀ q, Maps.has D (sk q) = (G q).isSome ∧ hdr ((G q).getD nilS) = some (D.atKey (sk q) (hd nilS), [])) {left : Lit → Bool} (honly : ∀ kl, left kl = true → ∃ x ∈ L, kl = sk x.n)
    {q : ByteArray} {kl : Lit} (hk : keyOf Tryz.prog 9 (.string q) = some kl) (hl : left kl = true) {cv : Value} {y : DataW Unit × List MemPlace} (hy : hdr cv = some y) (hat : ∀ zd, D.atKey kl zd = y.1) :
    ∃ d, getF L q = some d ∧ kl = sk q ∧ G q = some cv ∧ w.ownsRow B 5 1 cv d.size (Lib.byteCells d.data.toList) := by
  obtain ⟨x, hx, rfl⟩ := honly kl hl
  have hxq : q = x.n := by
    rw [keyOf_string Tryz.underlying9] at hk
    simp [mapKey, Tryz.underlying9, sk] at hk
    exact ByteArray.ext hk.2
  subst hxq
  have hg := mem_getF h.srt hx
  obtain ⟨v, hv, hr⟩ := h.row _ _ hg
  have h3 := (h2 x.n).2
  rw [hv] at h3
  have : cv = v := hdr_inj (z := y) hy (by
    simp only [Option.getD_some] at h3
    rw [h3, hat]
    have := hdr_ps hy
    rw [← this])
  rw [this]
  exact ⟨x.d, hg, rfl, hv, hr⟩
theorem only_F {w : World} {B m n : Nat} {D : DataW Unit} {G : Hv} {L : Fs} (h : FsR B w m n G L) (h1 : FM w m n D) (h2 : ∀ q, Maps.has D (sk q) = (G q).isSome ∧ hdr ((G q).getD nilS) = some (D.atKey (sk q) (hd nilS), [])) : ∀ kl, Maps.has D kl = true → ∃ x ∈ L, kl = sk x.n := fun kl hk => by
  obtain ⟨q, rfl, _⟩ := keys_file h1 hk
  rw [(h2 q).1, h.has] at hk
  obtain ⟨d, hd⟩ := Option.isSome_iff_exists.1 hk
  exact ⟨⟨q, d⟩, getF_mem hd, rfl⟩
theorem lf_all {w : World} {B m n : Nat} {D : DataW Unit} {G : Hv} {L : Fs} (h : FsR B w m n G L) (h2 : ∀ q, Maps.has D (sk q) = (G q).isSome ∧ hdr ((G q).getD nilS) = some (D.atKey (sk q) (hd nilS), [])) : Lf L (Maps.has D) = L ∧ Ld L (Maps.has D) = [] := by
  have hall : ∀ x ∈ L, Maps.has D (sk x.n) = true := fun x hx => by
    rw [(h2 x.n).1, h.has, mem_getF h.srt hx]; rfl
  refine ⟨List.filter_eq_self.2 hall, List.filter_eq_nil_iff.2 fun x hx => ?_⟩
  rw [hall x hx]; decide
/-- one file more is copied -/
theorem FsR.put {B : Nat} {w w' : World} {m k : Nat} {G : Hv} {L M : Fs} {q d : ByteArray} {v : Value} (h : FsR B w m k G M) (hs : SrtF L) (hM : ∀ r, getF L r = if r = q then some d else getF M r) (hnew : getF M q = none) (hg : GF w' m (k + 1) (fun r => if r = q then some v else G r)) (hrow : w'.ownsRow B 5 1 v d.size (Lib.byteCells d.data.toList))
    (hk : ∀ b, Rows G b → w'.heap[b]? = w.heap[b]?) (hv : ∀ b, v.ownBlock = some b → ¬ Rows G b) : FsR B w' m (k + 1) (fun r => if r = q then some v else G r) L := by
  refine ⟨hg, fun r x hr => ?_, fun r hr => ?_, ?_, hs⟩
  · rw [hM] at hr
    by_cases e : r = q
    · rw [if_pos e] at hr
      injection hr with hr
      subst hr
      exact ⟨v, by simp [e], hrow⟩
    · rw [if_neg e] at hr
      obtain ⟨u, q1, q2⟩ := h.row r x hr
      refine ⟨u, by simp [e, q1], ?_⟩
      obtain ⟨z1, z2⟩ := q2
      refine ⟨z1, z2.imp id fun ⟨g, cap, cur, e1, e2, e3, e4⟩ => ⟨g, cap, cur, e1, e2, (hk g ⟨r, u, q1, by rw [e1]; rfl⟩).trans e3, e4⟩⟩
  · rw [hM] at hr
    by_cases e : r = q
    · rw [if_pos e] at hr; cases hr
    · rw [if_neg e] at hr
      simp only [if_neg e]
      exact h.non r hr
  · intro r r' u u' b hr hr' hb hb'
    by_cases e : r = q <;> by_cases e' : r' = q
    · rw [e, e']
    · simp only [if_pos e, Option.some.injEq] at hr
      simp only [if_neg e'] at hr'
      subst hr
      exact absurd ⟨r', u', hr', hb'⟩ (hv b hb)
    · simp only [if_neg e] at hr
      simp only [if_pos e', Option.some.injEq] at hr'
      subst hr'
      exact absurd ⟨r, u, hr, hb⟩ (hv b hb')
    · simp only [if_neg e] at hr
      simp only [if_neg e'] at hr'
      exact h.one r r' u u' b hr hr' hb hb'
theorem gf_put {w' : World} {m k : Nat} {G : Hv} {q : ByteArray} {v : Value} {D : DataW Unit} (h2 : ∀ r, Maps.has D (sk r) = (G r).isSome ∧ hdr ((G r).getD nilS) = some (D.atKey (sk r) (hd nilS), [])) (hD : IsMap D) (hv : hdr v = some (hd v, [])) (h : FM w' m k (D.put (sk q) (hd v))) : GF w' m k (fun r => if r = q then some v else G r) := by
  refine ⟨_, h, fun r => ?_⟩
  by_cases e : r = q
  · subst e
    rw [Maps.has_put_same hD (sk_key _), Maps.atKey_put_same hD (sk_key _)]
    simpa using hv
  · rw [Maps.has_put_other (sk_neq e), Maps.atKey_put_other (sk_neq e)]
    simp only [if_neg e]
    exact h2 r
theorem FsR.base {B B' : Nat} {w : World} {m n : Nat} {G : Hv} {L : Fs} (h : FsR B w m n G L) (hB : B' ≤ B) : FsR B' w m n G L :=
  ⟨h.gf, fun q d hq => by
    obtain ⟨v, h1, h2⟩ := h.row q d hq
    exact ⟨v, h1, h2.1, h2.2.imp id fun ⟨g, cap, cur, q1, q2, q3⟩ => ⟨g, cap, cur, q1, Nat.le_trans hB q2, q3⟩⟩, h.non, h.one, h.srt⟩
set_option maxRecDepth 100000 in
set_option maxHeartbeats 2000000 in
theorem size_F {B : Nat} {w : World} {m n : Nat} {G : Hv} {L : Fs} (h : FsR B w m n G L) (hsz : totF L ≤ 140737488355328) :
    Calls Tryz.prog 59 #[.map (some m)] w fun e w' => e = .returned (.int .i64 (totF L)) ∧ Below w.heap.size w w' := by
  obtain ⟨D, ho, h2⟩ := h.gf
  have HH := Lib.hid h
  have H2 := Lib.hid h2
  have HA := Lib.hid (lf_all h h2)
  have HO := Lib.hid (only_F h ho h2)
  clear h h2
  go_enter Tryz.func59, Tryz.ntmps59
  go_wp2_with (first
    | (at_range; refine wpList_range_own _ rfl _ 62 rfl 9 76 strLaw Tryz.underlying62 hdr m n _ rfl ho ?_; intro w0 hrg0 hg0 hs0)
    | go_in)
  go_frame
  go_loopw [3, 5] (fun z _ wr => ∃ (left : Lit → Bool) (cnt s : Nat), wr.ranges Tryz.prog 9 hdr m w.heap.size n D left cnt ∧ z = .int .i64 (s : Int) ∧ Hid (Below w.heap.size w wr ∧ s + totF (Lf L left) = totF L ∧ ∀ kl, left kl = true → ∃ x ∈ L, kl = sk x.n))
    (fun _ _ wr => wr.rangeLeft m w.heap.size)
  case atStart =>
    exact ⟨_, _, 0, hrg0, rfl, Lib.hid ⟨(Below.refl _ w).grown hg0 (Nat.le_refl _) (fun j hj => by cases hj), by rw [HA.out.1, Nat.zero_add], HO.out⟩⟩
  case round =>
    obtain ⟨left, cnt, s, hrg, rfl, HB⟩ := hrel
    go_wp2_with (first
      | (at_next; refine nextS _ rfl _ rfl hdr m w.heap.size n _ _ _ rfl hrg ?_ ?_)
      | go_in)
    · intro hc0 hl0
      have hst : s = totF L := by
        have := HB.out.2.1
        rw [lf_done L hl0] at this
        simpa [totF] using this
      subst hst
      go_wp2
      go_ret
      exact ⟨rfl, HB.out.1⟩
    · intro x cv kl y y2 w1 cnt1 hkx hlx hcy hat hrg1 hlt hg1 hs1 hen
      obtain ⟨d, hd, rfl, hgx, hrow⟩ := entry_F (y := (y, y2)) HH.out H2.out HB.out.2.2 hkx hlx hcy hat
      obtain ⟨aa, cc, rfl⟩ := row_slice0 hrow
      have htot := HB.out.2.1
      have hdel := tot_delF (HH.out.srt.filter (fun x => left (sk x.n))) x
      have hgl : getF (Lf L left) x = some d := by
        unfold Lf
        rw [getF_filter (fun q => left (sk q)) x L, if_pos hlx]
        exact hd
      change totF (delF (Lf L left) x) + ((getF (Lf L left) x).map (·.size)).getD 0 = totF (Lf L left) at hdel
      rw [hgl, ← lf_next] at hdel
      simp only [Option.map_some, Option.getD_some] at hdel
      have HB1 : Hid (Below w.heap.size w w1 ∧ (s + d.size) + totF (Lf L (next left x)) = totF L ∧ ∀ kl, next left x kl = true → ∃ x ∈ L, kl = sk x.n) := Lib.hid ⟨HB.out.1.grown hg1 HB.out.1.size (fun j hj => by cases hj; exact Nat.le_refl _), by omega, fun kl hk => HB.out.2.2 kl (by
        unfold next at hk
        cases k : left kl <;> simp_all)⟩
      have hw : wrap64 ((s : Int) + (d.size : Int)) = (s : Int) + (d.size : Int) := IntWalk.wrap64_in _ ⟨by omega, by omega⟩
      have HM : Hid (cnt1 < cnt) := Lib.hid hlt
      have HRL := Lib.hid hrg.left_eq
      clear hkx hlx hcy hat hs1 hrg hlt hg1 hd hgx hrow htot hdel hgl
      go_wp2
      go_roundw
      case rel => exact ⟨_, cnt1, s + d.size, hrg1, by rw [Int.natCast_add, hw], HB1⟩
      case measure => rw [hrg1.left_eq, HRL.out]; exact HM.out
/-- where a copying stands -/
structure CpAt (w wr : World) (L : Fs) (left : Lit → Bool) (k : Nat) (G' : Hv) : Prop where
  bel : Below w.heap.size w wr
  fs : FsR w.heap.size wr w.heap.size k G' (Ld L left)
  cnt : k + (Lf L left).length ≤ L.length
  only : ∀ kl, left kl = true → ∃ x ∈ L, kl = sk x.n
theorem ld_get (L : Fs) (left : Lit → Bool) (q : ByteArray) : getF (Ld L left) q = if left (sk q) then none else getF L q := by
  unfold Ld
  have := getF_filter (fun q => !left (sk q)) q L
  rw [this]
  cases left (sk q) <;> rfl
theorem ld_next {L : Fs} {left : Lit → Bool} {q d : ByteArray} (hd : getF L q = some d) (r : ByteArray) : getF (Ld L (next left q)) r = if r = q then some d else getF (Ld L left) r := by
  rw [ld_get, ld_get, next_at]
  by_cases e : r = q
  · subst e
    simp [hd]
  · simp [e]
set_option maxRecDepth 100000 in
set_option maxHeartbeats 4000000 in
theorem copied_F {B : Nat} {w : World} {m n : Nat} {G : Hv} {L : Fs} (h : FsR B w m n G L) (hsz : totF L ≤ 1099511627776) (hlen : L.length < maxLen) :
    Calls Tryz.prog 58 #[.map (some m)] w fun e w' => e = .returned (.map (some w.heap.size)) ∧ ∃ G', FsR w.heap.size w' w.heap.size L.length G' L ∧ Below w.heap.size w w' := by
  obtain ⟨D, ho, h2⟩ := h.gf
  have HH := Lib.hid h
  have H2 := Lib.hid h2
  have HA := Lib.hid (lf_all h h2)
  have HO := Lib.hid (only_F h ho h2)
  have HSZ := Lib.hid (And.intro hsz hlen)
  have hbl := ho.lt
  have e1 : (w.alloc (.map #[] 0)).heap.size = w.heap.size + 1 := by simp
  have HMK : Hid (∀ w : World, (Instr.makeMap 62 (some (.int .i64 (Maps.size D)))).run Tryz.prog w = .ok (.map (some w.heap.size)) (w.alloc (.map #[] 0))) := Lib.hid (fun w => by simp [Instr.makeMap, run_underlying Tryz.underlying62, asInt, asIntOf])
  have hmk := HMK.out
  have HT : Hid (∀ w2, Below w.heap.size w w2 → FsR B w2 m n G L) := Lib.hid (fun w2 hb => h.tch (tch_below (fun _ => False) hb) (fun e => e) (fun _ _ e => e))
  clear h h2 hsz hlen
  go_enter Tryz.func58, Tryz.ntmps58
  go_wp2_with (first
    | (at_len; refine wpList_len_own _ rfl _ 62 rfl 9 76 Tryz.underlying62 hdr m n D rfl ho ?_)
    | (at_range; refine wpList_range_own _ rfl _ 62 rfl 9 76 strLaw Tryz.underlying62 hdr m n _ rfl (ho.alloc _) ?_; intro w0 hrg0 hg0 hs0)
    | go_in)
  go_frame
  rw [e1] at hrg0 hs0 ⊢
  go_loopw [4, 5] (fun _ _ wr => ∃ (left : Lit → Bool) (cnt k : Nat) (G' : Hv), wr.ranges Tryz.prog 9 hdr m (w.heap.size + 1) n D left cnt ∧ Hid (CpAt w wr L left k G'))
    (fun _ _ wr => wr.rangeLeft m (w.heap.size + 1))
  case atStart =>
    refine ⟨_, _, 0, fun _ => none, hrg0, Lib.hid ⟨((Below.refl _ _).alloc (Nat.le_refl _) _).grown hg0 (by simp) (fun j hj => by cases hj), ?_, by rw [HA.out.1]; omega, HO.out⟩⟩
    rw [HA.out.2]
    exact (fsr_made w.heap.size w).tch (tch_grown hg0) (by simp) (fun b hb => absurd hb (rows_none b))
  case round =>
    obtain ⟨left, cnt, k, G', hrg, HC⟩ := hrel
    go_wp2_with (first
      | (at_next; refine nextS _ rfl _ rfl hdr m (w.heap.size + 1) n _ _ _ rfl hrg ?_ ?_)
      | go_in)
    · intro hc0 hl0
      have hF : FsR w.heap.size wr w.heap.size L.length G' L := by
        have := HC.out.fs
        rw [ld_done L hl0] at this
        exact this.mono (by have := HC.out.cnt; omega)
      have HF := Lib.hid (And.intro hF HC.out.bel)
      clear hF
      go_wp2
      go_ret
      exact ⟨rfl, G', HF.out.1, HF.out.2⟩
    · intro x cv kl y y2 w1 cnt1 hkx hlx hcy hat hrg1 hlt hg1 hs1 hen
      obtain ⟨d, hd, rfl, hgx, _⟩ := entry_F (y := (y, y2)) HH.out H2.out HC.out.only hkx hlx hcy hat
      have hb1 : Below w.heap.size w w1 := HC.out.bel.grown hg1 HC.out.bel.size (fun j hj => by cases hj; omega)
      obtain ⟨v0, hv0, hrow⟩ := (HT.out w1 hb1).row x d hd
      rw [hgx] at hv0
      injection hv0 with hv0
      subst hv0
      obtain ⟨aa, cc, rfl⟩ := row_slice0 hrow
      have hds : d.size ≤ 1099511627776 := Nat.le_trans (size_le_tot hd) HSZ.out.1
      have hcl := clone_vrow B d.size cc aa _ w1 hrow hds (byteCells_one _)
      have hfs1 : FsR w.heap.size w1 w.heap.size k G' (Ld L left) := HC.out.fs.tch (tch_grown hg1) (by simp) (fun b hb e => by
        have e := Option.some.inj e
        subst e
        obtain ⟨es, clock, since, seen, c0, _, _, _, _, hr, _⟩ := hrg
        obtain ⟨cs, hcs⟩ := (HC.out.fs.rows_at hb).2.2
        rw [hcs] at hr
        cases hr)
      have hgl : getF (Lf L left) x = some d := by
        unfold Lf
        rw [getF_filter (fun q => left (sk q)) x L, if_pos hlx]
        exact hd
      have hcnt : k + 1 + (Lf L (next left x)).length ≤ L.length := by
        have := len_delF1 hgl
        rw [← lf_next] at this
        have := HC.out.cnt
        omega
      have HX := Lib.hid (And.intro hd (And.intro hlx (And.intro hcnt (And.intro hfs1 (And.intro hb1 hs1)))))
      have HM : Hid (cnt1 < cnt) := Lib.hid hlt
      have HRL := Lib.hid hrg.left_eq
      have HRG1 := Lib.hid hrg1
      have HKX : Hid (keyOf Tryz.prog 9 (.string x) = some (sk x)) := Lib.hid hkx
      obtain ⟨D', ho', h2'⟩ := hfs1.gf
      have HO' := Lib.hid (And.intro ho' h2')
      clear hkx hlx hcy hat hs1 hrg hlt hg1 hd hgx hrow hgl hcnt hfs1 hb1 hds h2' ho'
      go_wp2_with (fail)
      refine hcl.mono ?_
      rintro e w2 ⟨v2, rfl, hrow2, hb2⟩
      have hout2 : FM w2 w.heap.size k D' := fm_tch HO'.out.1 (tch_below (fun _ => False) hb2) (fun e => e)
      have hrg2 := hrg1.kept (row := none) (w' := w2) ⟨hb2.os, hb2.tape, hb2.output, hb2.size, fun i hi _ => hb2.block i hi⟩ (by simp) (by simp)
      have HB2 := Lib.hid (And.intro hb2 hrow2)
      have HVW := Lib.hid (hdr_row hrow2)
      have hk : k < maxLen := by have := HX.out.2.2.1; have := HSZ.out.2; omega
      clear hcl hb2 hrow2 hrg1
      go_wp2_with (first
        | (at_mapUpdate; refine wpList_mapUpdate_own _ rfl _ _ _ 62 rfl 9 76 strLaw Tryz.underlying62 _ w.heap.size _ _ rfl hout2 hk _ _ _ rfl rfl HKX.out _ [] HVW.out ?_; intro w3 hout3 hg3; go_frame)
        | go_in)
      have hrg3 := hrg2.kept hg3 (fun e => by have := Option.some.inj e; omega) (fun e => by have := Option.some.inj e; omega)
      have HFIN : Hid (CpAt w w3 L (next left x) (k + 1) (fun r => if r = x then some v2 else G' r)) := Lib.hid (by
        obtain ⟨hd, hlx, hcnt, hfs1, hb1, hs1⟩ := HX.out
        obtain ⟨hb2, hrow2⟩ := HB2.out
        have hb12 := hb1.trans (hb2.mono hb1.size)
        have hmw : w.heap.size < w1.heap.size := by have := HRG1.out.lt; omega
        refine ⟨hb12.grown hg3 hb12.size (fun j hj => by cases hj; exact Nat.le_refl _), ?_, hcnt, fun kl hk => HC.out.only kl (by
          unfold next at hk
          cases k : left kl <;> simp_all)⟩
        have hkeep : ∀ b, Rows G' b → w3.heap[b]? = w1.heap[b]? := fun b hb => by
          have hr := hfs1.rows_at hb
          have hne : ¬ b = w.heap.size := hfs1.gf.apart hr.2.2
          exact (hg3.block b (Nat.lt_of_lt_of_le hr.2.1 hb2.size) (fun e => hne (Option.some.inj e))).trans (hb2.block b hr.2.1)
        have hrow3 : w3.ownsRow w.heap.size 5 1 v2 d.size (Lib.byteCells d.data.toList) := by
          have hr2 : w2.ownsRow w.heap.size 5 1 v2 d.size (Lib.byteCells d.data.toList) := ⟨hrow2.1, hrow2.2.imp id fun ⟨g, cap, cur, q1, q2, q3⟩ => ⟨g, cap, cur, q1, Nat.le_trans (Nat.le_of_lt hmw) q2, q3⟩⟩
          exact World.ownsRow.kept hr2 hg3 (.inr (fun e => by have := (hrow2.lt w.heap.size e).1; omega))
        exact hfs1.put (v := v2) (HH.out.srt.filter _) (ld_next hd) (by rw [ld_get, if_pos hlx]) (gf_put HO'.out.2 HO'.out.1.isMap HVW.out hout3) hrow3 hkeep (fun b hb hr => by
          have := (hfs1.rows_at hr).2.1
          have := (hrow2.lt b hb).1
          omega))
      clear HX HO' HVW hout3 hg3 hout2 hrg2
      go_roundw
      case rel => exact ⟨_, cnt1, k + 1, _, hrg3, HFIN⟩
      case measure => rw [hrg3.left_eq, HRL.out]; exact HM.out
end Go.Proofs.YtmlikkjahkdilaaGreatDoor
