/- Package disk: Crash, whatever was changed, is kept and torn. -/
import Derived.Test.YtmlikkjahkdilaaGreatDoorDkSync
namespace Go.Proofs.YtmlikkjahkdilaaGreatDoor
open Go.RowKit Go.Maps

/-- how many changes a crash keeps -/
def keepN (cs : List Chg) (keep : Int) : Nat := (min (max keep 0) (cs.length : Int)).toNat
theorem keepN_le (cs : List Chg) (keep : Int) : keepN cs keep ≤ cs.length := by unfold keepN; omega
theorem keepN_int (cs : List Chg) (keep : Int) : (keepN cs keep : Int) = min (max keep 0) (cs.length : Int) := by unfold keepN; omega
/-- .. and what it tears -/
def tornC (c : Option Chg) (tear : Int) : List Chg := match c with
  | some (.app n d) => if 0 < tear then [.app n (d.extract 0 (min tear.toNat d.size))] else []
  | _ => []
/-- what lasts behind a crash -/
def crashL (L : Fs) (cs : List Chg) (keep tear : Int) : Fs := held L (cs.take (keepN cs keep) ++ tornC cs[keepN cs keep]? tear)
theorem torn_len (c : Option Chg) (tear : Int) : (tornC c tear).length ≤ 1 := by
  unfold tornC
  split
  · split <;> simp
  · simp
theorem torn_ok {c : Option Chg} {tear : Int} (h : ∀ d, c = some d → okC d) : ∀ x ∈ tornC c tear, okC x := fun x hx => by
  unfold tornC at hx
  split at hx
  · next n d =>
    split at hx
    · rw [List.mem_singleton.1 hx]
      exact show n.size ≤ 64 from h (.app n d) rfl
    · cases hx
  · cases hx
theorem torn_wt {c : Option Chg} {tear : Int} : wts (tornC c tear) ≤ (c.map wtC).getD 0 := by
  unfold tornC
  split
  · next n d =>
    split
    · simp only [wts, List.map_cons, List.map_nil, List.sum_cons, List.sum_nil, wtC, Option.map_some, Option.getD_some, ByteArray.size_extract]
      omega
    · simp [wts]
  · simp [wts]
theorem crash_wt (cs : List Chg) (k : Nat) (tear : Int) : wts (cs.take k ++ tornC cs[k]? tear) ≤ wts cs := by
  rw [wts_app]
  have h1 := torn_wt (c := cs[k]?) (tear := tear)
  cases hd : cs[k]? with
  | none =>
    rw [hd] at h1
    simp only [Option.map_none, Option.getD_none] at h1
    have h4 : wts (cs.take k) + wts (cs.drop k) = wts cs := by rw [← wts_app, List.take_append_drop]
    omega
  | some d =>
    rw [hd] at h1
    simp only [Option.map_some, Option.getD_some] at h1
    have h3 : wts (cs.take (k + 1)) = wts (cs.take k) + wtC d := by rw [List.take_add_one, hd, wts_app]; simp [wts]
    have h4 : wts (cs.take (k + 1)) + wts (cs.drop (k + 1)) = wts cs := by rw [← wts_app, List.take_append_drop]
    omega
theorem crash_ok {cs : List Chg} (h : ∀ c ∈ cs, okC c) (k : Nat) (tear : Int) : ∀ x ∈ cs.take k ++ tornC cs[k]? tear, okC x := fun x hx => by
  rcases List.mem_append.1 hx with hx | hx
  · exact h x (List.mem_of_mem_take hx)
  · exact torn_ok (fun d hd => h d (List.mem_of_getElem? hd)) x hx
/-- what lasts is known in w4: the changes are struck -/
theorem dka_of {B : Nat} {w w4 : World} {p : Nat} {S : Nat → Prop} {cp used : Int} {n : Nat} {L' : Fs} {last chg hel : Value} (hp : S p) (hown : ∀ b, S b → B ≤ b ∧ b < w.heap.size) (hB : B ≤ w.heap.size) (hnm : NmF L') (t : Tch w w4 S) (hd : DiskAt w4 p cp last chg hel used)
    (hm : (last = .map none ∧ L' = []) ∨ ∃ l V, last = .map (some l) ∧ FsR B w4 l n V L' ∧ S l ∧ ∀ b, Rows V b → S b ∨ w.heap.size ≤ b) :
    DkA B (w4.setCell ⟨p, 2, none⟩ nilS) p (grow S w (w4.setCell ⟨p, 2, none⟩ nilS)) cp used n L' [] ∧ Tch w (w4.setCell ⟨p, 2, none⟩ nilS) S := by
  have ts := tch_set w4 ⟨p, 2, none⟩ nilS
  have tw : Tch w (w4.setCell ⟨p, 2, none⟩ nilS) S := t.then ts (fun i _ e => by
    have e : i = p := e
    rw [e]; exact hp)
  refine ⟨⟨.inl hp, fun b hb => ?_, (fun _ h => by cases h), hnm, last, nilS, hel, hd.chg _, row_nil _ _ _, (fun _ h => by cases h), ?_⟩, tw⟩
  · rcases hb with hb | ⟨h1, h2⟩
    · exact ⟨(hown b hb).1, Nat.lt_of_lt_of_le (hown b hb).2 tw.size⟩
    · exact ⟨Nat.le_trans hB h1, h2⟩
  · rcases hm with ⟨h1, h2⟩ | ⟨l, V, h1, h2, h3, h4⟩
    · exact .inl ⟨h1, h2, rfl⟩
    · have f3 := h2.setp hd 2 nilS
      exact .inr ⟨l, V, h1, f3, .inl h3, fun b hb => (h4 b hb).imp id (fun k => ⟨k, (f3.rows_at hb).2.1⟩)⟩
/-- the end of a crash -/
theorem crash_end_K {w0 w w5 : World} {p : Nat} {S : Nat → Prop} {cp used : Int} {n : Nat} {L' : Fs} (hb : Below w0.heap.size w0 w) (hown : ∀ b, S b → w0.heap.size ≤ b ∧ b < w.heap.size) (h : DkA w0.heap.size w5 p (grow S w w5) cp used n L' []) (t : Tch w w5 S) (hn : n < maxLen) (hln : L'.length ≤ n) (hsz : totF L' ≤ 1099511627776) :
    Calls Tryz.prog 37 #[.pointer (some ⟨p, 0, none⟩)] w5 fun e w' => e = .returned (.tuple #[]) ∧ Hid (DK w0 w' p (grow S w w') cp n L' [] ∧ Tch w w' S) := by
  refine (anew_F (Lib.hid h) (Nat.le_trans hb.size t.size) (by simpa using hn) hln (by simpa [wts] using hsz)).mono ?_
  rintro e w' ⟨he, H⟩
  have t2 : Tch w w' S := t.then H.out.2 (fun i hi e => by
    rcases e with e | ⟨e, _⟩
    · exact e
    · omega)
  refine ⟨he, Lib.hid ⟨⟨bel_tch2 hb t2 (fun i hi => (hown i hi).1), ?_⟩, t2⟩⟩
  have := H.out.1
  exact this.wide (fun b hb => by
    rcases hb with (k | ⟨k1, k2⟩) | ⟨k1, k2⟩
    · exact .inl k
    · exact .inr ⟨k1, Nat.lt_of_lt_of_le k2 H.out.2.size⟩
    · exact .inr ⟨Nat.le_trans t.size k1, k2⟩) (grow_own hown hb.size t2.size) (by simp)
set_option maxRecDepth 100000 in
set_option maxHeartbeats 4000000 in
theorem crash_K {w0 w : World} {p : Nat} {S : Nat → Prop} {cp : Int} {n : Nat} {L : Fs} {cs : List Chg} (keep tear : Int) (h : Hid (DK w0 w p S cp n L cs)) (hn : n + cs.length + 1 < maxLen) (hln : L.length ≤ n) (hsz : totF L + wts cs ≤ 1099511627776) :
    Calls Tryz.prog 15 #[.pointer (some ⟨p, 0, none⟩), .int .i64 keep, .int .i64 tear] w fun e w' => e = .returned (.tuple #[]) ∧ Hid (DK w0 w' p (grow S w w') cp (n + cs.length + 1) (crashL L cs keep tear) [] ∧ Tch w w' S) := by
  obtain ⟨k, hk⟩ : ∃ k, k = keepN cs keep := ⟨_, rfl⟩
  have hkl : k ≤ cs.length := by rw [hk]; exact keepN_le _ _
  have hki := keepN_int cs keep
  rw [← hk] at hki
  obtain ⟨q, hq⟩ : ∃ q, q = cs.length := ⟨_, rfl⟩
  have hst := settle_K k h.out.m hkl h.out.bel.size (by omega) (by omega)
  obtain ⟨last, chg, hel, hd, hc, _, _⟩ := h.out.m.st
  obtain ⟨a0, c0', hchg⟩ : ∃ a c, chg = .slice a q c := by
    rcases hc.form with ⟨h1, h2⟩ | ⟨g, c, h1, _⟩
    · exact ⟨none, 0, by rw [h1, hq, h2]; rfl⟩
    · exact ⟨_, _, by rw [hq]; exact h1⟩
  have c2 := hd.c2
  rw [hchg] at c2
  have HSZ := Lib.hid (And.intro hn (And.intro hln (And.intro hsz hkl)))
  have HQ := Lib.hid (And.intro hq hk)
  have HST := Lib.hid hst
  rw [← hq] at hki hkl
  clear hd hc hchg hst hsz hln hn hk hq
  go_enter Tryz.func15, Tryz.ntmps15
  go_upto_region 1 with (fail)
  go_cut [] (fun wx => Hid (SetK w0.heap.size w wx p S cp ((totF (held L cs) : Nat) : Int) n L cs k))
  case first =>
    go_wp2_with (fail)
    all_goals
      refine calls_int (k' := (k : Int)) (by omega) (HST.out.mono ?_)
      rintro e w1 ⟨rfl, h1⟩
      go_wp2
      go_meet
      exact h1
  case rest =>
    obtain ⟨t1, last1, chg1, hel1, k1, ⟨a1, c1', hch, hcell⟩, hm1⟩ := hcut.out
    have d2 := k1.c2
    rw [hch, ← HQ.out.1] at d2
    have K1 := Lib.hid k1
    have HLEN : ∀ (ds : List Chg), ds.length ≤ 1 → (held L (cs.take k ++ ds)).length ≤ n + cs.length + 1 := fun ds hds => by
      have h1 := len_held L (cs.take k ++ ds)
      rw [List.length_append, List.length_take] at h1
      have := HSZ.out.2.1
      omega
    have HTOT : totF (held L (cs.take k ++ tornC cs[k]? tear)) ≤ 1099511627776 := by
      have h1 := tot_held h.out.srt _ (crash_ok h.out.m.ok k tear)
      have h2 := crash_wt cs k tear
      have := HSZ.out.2.2.1
      omega
    have HNM := nm_held h.out.m.nm _ (crash_ok h.out.m.ok k tear)
    have HCL : crashL L cs keep tear = held L (cs.take k ++ tornC cs[k]? tear) := by
      unfold crashL
      rw [← HQ.out.2]
    /- nothing is torn -/
    have hplain : ∀ wx, Below wc.heap.size wc wx → tornC cs[k]? tear = [] → Calls Tryz.prog 37 #[.pointer (some ⟨p, 0, none⟩)] (wx.setCell ⟨p, 2, none⟩ nilS) fun e w' => e = .returned (.tuple #[]) ∧ Hid (DK w0 w' p (grow S w w') cp (n + cs.length + 1) (crashL L cs keep tear) [] ∧ Tch w w' S) := fun wx hb htn => by
      have tb := tch_below (fun _ => False) hb
      have tx : Tch w wx S := t1.then tb (fun _ _ e => e.elim)
      rw [HCL]
      rw [htn] at HTOT HNM ⊢
      rw [List.append_nil] at HTOT HNM ⊢
      have hl := HLEN [] (by simp)
      rw [List.append_nil] at hl
      obtain ⟨q1, q2⟩ := dka_of (n := n + cs.length + 1) (L' := held L (cs.take k)) h.out.m.hp h.out.m.own h.out.bel.size HNM tx (k1.tch tb (fun e => e)) (by
        rcases hm1 with ⟨e1, e2, e3, _⟩ | ⟨l, m, V, U, e1, e2, e3, e4, e5, e6, e7, e8, _⟩
        · exact .inl ⟨e1, by rw [e2, e3]; simp [held]⟩
        · exact .inr ⟨l, V, e1, (e3.tch tb (fun e => e) (fun _ _ e => e)).mono (by have := HSZ.out.2.2.2; omega), e5, e8⟩)
      exact crash_end_K h.out.bel h.out.m.own q1 q2 HSZ.out.1 hl HTOT
    have HPL := Lib.hid hplain
    clear hplain hch
    by_cases ht : 0 < tear ∧ k < q
    case neg =>
      have htn : tornC cs[k]? tear = [] := by
        by_cases h1 : 0 < tear
        · have : cs[k]? = none := List.getElem?_eq_none (by have := HQ.out.1; omega)
          rw [this]; rfl
        · unfold tornC
          split
          · rw [if_neg h1]
          · rfl
      have hx := HPL.out wc (Below.refl _ _) htn
      have f1 := k1.c2
      have f2 := k1.fr 2
      clear hcell f1 hm1 t1 k1 HLEN HTOT HNM HCL htn HPL
      by_cases h1 : 0 < tear
      · have ht3 : decide (0 < tear) = true := by simpa using h1
        have ht4 : ¬ (0 : Int) < ((q - k : Nat) : Int) := by omega
        have ht5 : ¬ 0 < q - k := by omega
        have ht6 : q - k = 0 := by omega
        rw [ht6] at d2
        clear ht ht4 ht5 ht6 h1
        go_wp2_with (fail)
        refine hx.mono ?_
        rintro e w6 ⟨rfl, HF⟩
        go_wp2
        first
          | (go_end0; exact ⟨rfl, HF⟩)
          | (go_ret; exact ⟨rfl, HF⟩)
          | exact bodyPost_ret (v := .tuple #[]) (results_none rfl _ _ _) rfl ⟨rfl, HF⟩
      · have ht3 : decide (0 < tear) = false := by simpa using h1
        clear ht
        go_wp2_with (fail)
        refine hx.mono ?_
        rintro e w6 ⟨rfl, HF⟩
        go_wp2
        first
          | (go_end0; exact ⟨rfl, HF⟩)
          | (go_ret; exact ⟨rfl, HF⟩)
          | exact bodyPost_ret (v := .tuple #[]) (results_none rfl _ _ _) rfl ⟨rfl, HF⟩
    case pos =>
      obtain ⟨ht1, ht2⟩ := ht
      obtain ⟨d, hd⟩ : ∃ d, cs[k]? = some d := ⟨_, List.getElem?_eq_getElem (by have := HQ.out.1; omega)⟩
      obtain ⟨g, o, rfl, hx⟩ := hcell d hd
      have ht3 : decide (0 < tear) = true := by simpa using ht1
      have ht4 : (0 : Int) < ((q - k : Nat) : Int) := by omega
      have ht5 : 0 < q - k := by omega
      cases d with
      | ren a b =>
        have hpl := fun wx hb => HPL.out wx hb (by rw [hd]; rfl)
        have hta : ∀ w : World, (Instr.typeAssert (rn a b) 71 68 true).run Tryz.prog w = .ok (.tuple #[.agg #[.string ⟨#[]⟩, .string ⟨#[]⟩], .bool false]) w := fun _ => by kernel_rfl
        change wc.cell? ⟨g, o, none⟩ = some (rn a b) at hx
        have hbx : Below wc.heap.size wc (wc.alloc (.cells #[.string ⟨#[]⟩, .string ⟨#[]⟩] 68)) := (Below.refl _ wc).alloc (Nat.le_refl _) _
        have HC := Lib.hid (hpl _ hbx)
        have K2 := k1.tch (tch_below (fun _ => False) hbx) (fun e => e)
        have f1 := K2.c2
        have f2 := K2.fr 2
        clear hcell hm1 t1 k1 HLEN HTOT HNM HCL HPL hpl hd ht1 K2 hbx
        go_wp2_with (fail)
        refine HC.out.mono ?_
        rintro e w6 ⟨rfl, HF⟩
        go_wp2
        first
          | (go_end0; exact ⟨rfl, HF⟩)
          | (go_ret; exact ⟨rfl, HF⟩)
          | exact bodyPost_ret (v := .tuple #[]) (results_none rfl _ _ _) rfl ⟨rfl, HF⟩
      | del a =>
        have hpl := fun wx hb => HPL.out wx hb (by rw [hd]; rfl)
        have hta : ∀ w : World, (Instr.typeAssert (dl a) 71 68 true).run Tryz.prog w = .ok (.tuple #[.agg #[.string ⟨#[]⟩, .string ⟨#[]⟩], .bool false]) w := fun _ => by kernel_rfl
        change wc.cell? ⟨g, o, none⟩ = some (dl a) at hx
        have hbx : Below wc.heap.size wc (wc.alloc (.cells #[.string ⟨#[]⟩, .string ⟨#[]⟩] 68)) := (Below.refl _ wc).alloc (Nat.le_refl _) _
        have HC := Lib.hid (hpl _ hbx)
        have K2 := k1.tch (tch_below (fun _ => False) hbx) (fun e => e)
        have f1 := K2.c2
        have f2 := K2.fr 2
        clear hcell hm1 t1 k1 HLEN HTOT HNM HCL HPL hpl hd ht1 K2 hbx
        go_wp2_with (fail)
        refine HC.out.mono ?_
        rintro e w6 ⟨rfl, HF⟩
        go_wp2
        first
          | (go_end0; exact ⟨rfl, HF⟩)
          | (go_ret; exact ⟨rfl, HF⟩)
          | exact bodyPost_ret (v := .tuple #[]) (results_none rfl _ _ _) rfl ⟨rfl, HF⟩
      | app name d =>
        rcases hm1 with ⟨_, _, e3, _⟩ | ⟨l, m, V, U, rfl, rfl, fl, fm, sl, sm, lm, rv, ru, apt⟩
        · rw [e3] at hd; simp at hd
        have hta : ∀ w : World, (Instr.typeAssert (ap name d) 71 68 true).run Tryz.prog w = .ok (.tuple #[.agg #[.string name, .string d], .bool true]) w := fun _ => by kernel_rfl
        change wc.cell? ⟨g, o, none⟩ = some (ap name d) at hx
        have hmem : (Chg.app name d) ∈ cs := List.mem_of_getElem? hd
        have hnm : name.size ≤ 64 := h.out.m.ok _ hmem
        have htt := tot_take h.out.srt h.out.m.ok (by have := HSZ.out.2.2.1; omega) hd
        have hds : d.size ≤ 1099511627776 := by
          have h3 : wts (cs.take (k + 1)) = wts (cs.take k) + wtC (.app name d) := by rw [List.take_add_one, hd, wts_app]; simp [wts]
          have h4 : wts (cs.take (k + 1)) + wts (cs.drop (k + 1)) = wts cs := by rw [← wts_app, List.take_append_drop]
          have := HSZ.out.2.2.1
          simp only [wtC] at h3
          omega
        obtain ⟨part, hpart⟩ : ∃ part, part = d.extract 0 (min tear.toNat d.size) := ⟨_, rfl⟩
        have hps : part.size ≤ d.size := by rw [hpart, ByteArray.size_extract]; omega
        have htc : tornC cs[k]? tear = [.app name part] := by rw [hd, hpart]; unfold tornC; simp only; rw [if_pos ht1]
        rw [htc] at HTOT HNM HCL
        have HX := Lib.hid (And.intro t1 (And.intro fl (And.intro sl (And.intro rv (And.intro (HLEN [.app name part] (by simp)) (And.intro HTOT (And.intro HNM (And.intro HCL (And.intro htt (And.intro hps hnm))))))))))
        clear t1 fl fm sl sm lm rv ru apt HLEN HTOT HNM HCL HPL htt hd hcell htc hmem
        go_upto_region 5 with (fail)
        have TB := Lib.hid (tch_below (w := wc) (fun _ => False) ((Below.refl _ wc).alloc (Nat.le_refl _) (.cells #[.string name, .string d] 68)))
        have b0 : (wc.alloc (.cells #[.string name, .string d] 68)).cell? ⟨wc.heap.size, 0, none⟩ = some (.string name) := by simp
        have b1 : (wc.alloc (.cells #[.string name, .string d] 68)).cell? ⟨wc.heap.size, 1, none⟩ = some (.string d) := by simp
        have K2 := Lib.hid (K1.out.tch TB.out (fun e => e))
        have O2 := Lib.hid (HX.out.2.1.tch TB.out (fun e => e) (fun _ _ e => e))
        have T2 := Lib.hid (HX.out.1.then TB.out (fun _ _ e => e.elim))
        clear hta d2 TB k1
        generalize wc.alloc (.cells #[.string name, .string d] 68) = w2 at *
        have e1 := K2.out.c1
        have HC3 : Hid (∀ w3, Below w2.heap.size w2.drew w3 → w3.cell? ⟨p, 1, none⟩ = some (.map (some l))) := Lib.hid (fun w3 hb => (hb.cell (p := ⟨p, 1, none⟩) K2.out.lt).trans K2.out.c1)
        have HDO : Hid (∀ w3, Below w2.heap.size w2.drew w3 → Calls Tryz.prog 36 #[.agg #[.string name, .string part], .map (some l)] w3 fun e w' => e = .returned (.tuple #[]) ∧ ∃ V', Hid (FsR w0.heap.size w' l (n + k + 1) V' (doC (held L (cs.take k)) (.app name part)) ∧ Tch w2 w' (fun i => i = l ∨ Rows V i) ∧ ∀ b, Rows V' b → Rows V b ∨ w2.heap.size ≤ b)) := Lib.hid (by
          intro w3 hb
          have hb' : Below w2.heap.size w2 w3 := ⟨hb.os, hb.tape, hb.output, hb.size, hb.block⟩
          have tb := tch_below (fun _ => False) hb'
          refine (do_app_F (O2.out.tch tb (fun e => e) (fun _ _ e => e)) name part (by have := HSZ.out.1; have := HSZ.out.2.2.2; omega) HX.out.2.2.2.2.2.2.2.2.2.2 (Nat.le_trans h.out.bel.size (Nat.le_trans T2.out.size hb'.size)) (by
            have h1 := HX.out.2.2.2.2.2.2.2.2.1
            have h2 := HX.out.2.2.2.2.2.2.2.2.2.1
            simp only [wtC] at h1
            omega)).mono ?_
          rintro e w' ⟨rfl, V', q1, q2, q3⟩
          exact ⟨rfl, V', Lib.hid ⟨q1, (tch_below (fun i => i = l ∨ Rows V i) hb').then q2 (fun _ _ e => e), fun b hb2 => (q3 b hb2).imp id (fun k => Nat.le_trans hb'.size k)⟩⟩)
        have htorn := torn_any tear name d w2.drew ht1 hds
        rw [← hpart] at htorn
        clear hpart hps hds
        go_cut [] (fun wx => ∃ V', Hid (FsR w0.heap.size wx l (n + k + 1) V' (doC (held L (cs.take k)) (.app name part)) ∧ Tch w2 wx (fun i => i = l ∨ Rows V i) ∧ ∀ b, Rows V' b → Rows V b ∨ w2.heap.size ≤ b))
        case first =>
          go_region_with (first
            | (go_at_call 35; refine htorn.mono ?_; rintro e w3 ⟨rfl, hb3⟩; have d3 := HC3.out w3 hb3; have hdo := HDO.out w3 hb3)
            | (go_at_call 36; refine hdo.mono ?_; rintro e w4 ⟨rfl, v3, H4⟩))
          all_goals
            first
              | (go_meet; exact ⟨v3, H4⟩)
              | (go_wp2; go_meet; exact ⟨v3, H4⟩)
        case rest =>
          obtain ⟨V', H4⟩ := hcut
          have K4 : DiskAt wc p cp (.map (some l)) chg1 (.map (some m)) ((totF (held L cs) : Nat) : Int) := K2.out.tch H4.out.2.1 (fun e => rows_p O2.out K2.out e)
          have T4 : Tch w wc S := T2.out.then H4.out.2.1 (fun i hi e => by
            rcases e with e | e
            · rw [e]; exact HX.out.2.2.1
            · rcases HX.out.2.2.2.1 i e with k | k
              · exact k
              · omega)
          have hap : held L (cs.take k ++ [.app name part]) = doC (held L (cs.take k)) (.app name part) := held_one _ _ _
          have HE : Hid (Calls Tryz.prog 37 #[.pointer (some ⟨p, 0, none⟩)] (wc.setCell ⟨p, 2, none⟩ nilS) fun e w' => e = .returned (.tuple #[]) ∧ Hid (DK w0 w' p (grow S w w') cp (n + cs.length + 1) (crashL L cs keep tear) [] ∧ Tch w w' S)) := Lib.hid (by
            obtain ⟨_, _, q3, q4, q5, q6, q7, q8, _⟩ := HX.out
            rw [q8]
            obtain ⟨z1, z2⟩ := dka_of (n := n + cs.length + 1) (L' := held L (cs.take k ++ [.app name part])) h.out.m.hp h.out.m.own h.out.bel.size q7 T4 K4 (.inr ⟨l, V', rfl, by rw [hap]; exact H4.out.1.mono (by have := HSZ.out.2.2.2; omega), q3, fun b hb => by
              rcases H4.out.2.2 b hb with k | k
              · exact q4 b k
              · exact .inr (Nat.le_trans T2.out.size k)⟩)
            exact crash_end_K h.out.bel h.out.m.own z1 z2 HSZ.out.1 q5 q6)
          have f1 := K4.c2
          have f2 := K4.fr 2
          clear K4 T4 hap H4 HX htorn HDO HC3 e1 b0 b1 O2 K2 T2
          go_wp2_with (fail)
          refine HE.out.mono ?_
          rintro e w6 ⟨rfl, HF⟩
          go_wp2
          first
            | (go_end0; exact ⟨rfl, HF⟩)
            | (go_ret; exact ⟨rfl, HF⟩)
            | exact bodyPost_ret (v := .tuple #[]) (results_none rfl _ _ _) rfl ⟨rfl, HF⟩
end Go.Proofs.YtmlikkjahkdilaaGreatDoor
