/- Package disk: what is held is worked out anew, whatever lasts and whatever was changed. -/
import Derived.Test.YtmlikkjahkdilaaGreatDoorDkAnew
namespace Go.Proofs.YtmlikkjahkdilaaGreatDoor
open Go.RowKit Go.Maps

theorem rangeN0 (w : World) : (Instr.range 62 (.map none)).run Tryz.prog w = .ok (.pointer (some ⟨w.heap.size, 0, none⟩)) (w.alloc (.mapIter none 0 #[] 0)) := by kernel_rfl
theorem nextN0 (r : Nat) (t : TypeId) (w : World) (h : w.heap[r]? = some (.mapIter none 0 #[] 0)) : (Instr.next (.pointer (some ⟨r, 0, none⟩)) false t).run Tryz.prog w = .ok (.tuple #[.bool false]) w := by
  simp only [Instr.next, getObj, Sem.run_bind, Sem.run, h, Result.andThen]
  rfl
set_option maxRecDepth 100000 in
set_option maxHeartbeats 4000000 in
theorem copied_nil (w : World) : Calls Tryz.prog 58 #[.map none] w fun e w' => e = .returned (.map (some w.heap.size)) ∧ GF w' w.heap.size 0 (fun _ => none) ∧ Below w.heap.size w w' := by
  have hmk : ∀ w : World, (Instr.makeMap 62 (some (.int .i64 0))).run Tryz.prog w = .ok (.map (some w.heap.size)) (w.alloc (.map #[] 0)) := fun w => by simp [Instr.makeMap, run_underlying Tryz.underlying62, asInt, asIntOf]
  have hln := fun (w : World) ty => Maps.len_nil (w := w) Tryz.underlying62 ty
  have e1 : (w.alloc (.map #[] 0)).heap.size = w.heap.size + 1 := by simp
  have hrg := rangeN0 (w.alloc (.map #[] 0))
  have hnx := fun t => nextN0 (w.alloc (.map #[] 0)).heap.size t _ (heap_alloc_new (w.alloc (.map #[] 0)) (.mapIter none 0 #[] 0))
  rw [e1] at hrg hnx
  have HF : Hid (GF ((w.alloc (.map #[] 0)).alloc (.mapIter none 0 #[] 0)) w.heap.size 0 (fun _ => none) ∧ Below w.heap.size w ((w.alloc (.map #[] 0)).alloc (.mapIter none 0 #[] 0))) := Lib.hid ⟨(gf_made w).tch (S := fun _ => False) (tch_below _ ((Below.refl _ _).alloc (Nat.le_refl _) _)) (fun e => e), ((Below.refl _ w).alloc (Nat.le_refl _) _).alloc (by simp) _⟩
  go_enter Tryz.func58, Tryz.ntmps58
  go_wp2_with (fail)
  obtain ⟨w1, hw1⟩ : ∃ w1, w1 = (w.alloc (.map #[] 0)).alloc (.mapIter none 0 #[] 0) := ⟨_, rfl⟩
  rw [← hw1] at hnx HF ⊢
  clear hw1 hrg hmk hln
  go_loopw [4, 5] (fun _ _ wr => wr = w1) (fun _ _ _ => 0)
  case atStart => rfl
  case round =>
    obtain rfl := hrel
    go_wp2
    go_ret
    exact ⟨rfl, HF.out.1, HF.out.2⟩
/-- the pieces behind the copying -/
structure Cpd (B : Nat) (w w2 : World) (p : Nat) (cp used : Int) (n : Nat) (L : Fs) (cs : List Chg) (chg : Value) (l m : Nat) (V G : Hv) : Prop where
  k : DiskAt w2 p cp (.map (some l)) chg (.map (some m)) used
  cr : Cr w2 B chg cs
  fl : FsR B w2 l n V L
  fm : FsR B w2 m n G L
  mw : w.heap.size ≤ m
  rg : ∀ b, Rows G b → w.heap.size ≤ b
  rv : ∀ b, Rows V b → b < w.heap.size
  lw : l < w.heap.size
  cw : ∀ b, chg.ownBlock = some b → b < w.heap.size
  pw : p < w.heap.size
  t : Tch w w2 (fun b => b = p)
theorem tot_take {L : Fs} {cs : List Chg} (hs : SrtF L) (hok : ∀ c ∈ cs, okC c) (hsz : totF L + wts cs ≤ 140737488355328) {j : Nat} {d : Chg} (hd : cs[j]? = some d) : totF (held L (cs.take j)) + wtC d ≤ 140737488355328 := by
  have h2 := tot_held hs (cs.take j) (fun x hx => hok x (List.mem_of_mem_take hx))
  have h3 : wts (cs.take (j + 1)) = wts (cs.take j) + wtC d := by rw [List.take_add_one, hd, wts_app]; simp [wts]
  have h4 : wts (cs.take (j + 1)) + wts (cs.drop (j + 1)) = wts cs := by rw [← wts_app, List.take_append_drop]
  omega
/-- a disk of which what lasts is known, be held what may -/
structure DkA (B : Nat) (w : World) (p : Nat) (S : Nat → Prop) (cp used : Int) (n : Nat) (L : Fs) (cs : List Chg) : Prop where
  hp : S p
  own : ∀ b, S b → B ≤ b ∧ b < w.heap.size
  ok : ∀ c ∈ cs, okC c
  nm : NmF L
  st : ∃ last chg hel, DiskAt w p cp last chg hel used ∧ Cr w B chg cs ∧ (∀ b, chg.ownBlock = some b → S b) ∧ ((last = .map none ∧ L = [] ∧ cs = []) ∨ ∃ l V, last = .map (some l) ∧ FsR B w l n V L ∧ S l ∧ ∀ b, Rows V b → S b)
theorem DkM.a {B : Nat} {w : World} {p : Nat} {S : Nat → Prop} {cp used : Int} {n : Nat} {L : Fs} {cs : List Chg} (h : DkM B w p S cp used n L cs) : DkA B w p S cp used n L cs := by
  obtain ⟨last, chg, hel, h1, h2, h3, h4⟩ := h.st
  refine ⟨h.hp, h.own, h.ok, h.nm, last, chg, hel, h1, h2, h3, ?_⟩
  rcases h4 with ⟨q1, q2, q3, _⟩ | ⟨l, m, V, U, q1, q2, q3, q4, q5, q6, q7, q8, _⟩
  · exact .inl ⟨q1, q2, q3⟩
  · exact .inr ⟨l, V, q1, q3, q5, q8⟩
set_option maxRecDepth 100000 in
set_option maxHeartbeats 4000000 in
theorem anew_F {B : Nat} {w : World} {p : Nat} {S : Nat → Prop} {cp used : Int} {n : Nat} {L : Fs} {cs : List Chg} (h : Hid (DkA B w p S cp used n L cs)) (hB : B ≤ w.heap.size) (hn : n + cs.length < maxLen) (hln : L.length ≤ n) (hsz : totF L + wts cs ≤ 1099511627776) :
    Calls Tryz.prog 37 #[.pointer (some ⟨p, 0, none⟩)] w fun e w' => e = .returned (.tuple #[]) ∧ Hid (DkM B w' p (grow S w w') cp (totF (held L cs)) (n + cs.length) L cs ∧ Tch w w' S) := by
  have HSZ := Lib.hid (And.intro hB (And.intro hn (And.intro hln hsz)))
  obtain ⟨last, chg, hel, hk, hcr, hcs, hmp⟩ := h.out.st
  rcases hmp with ⟨rfl, hL0, hcs0⟩ | ⟨l, V, rfl, hl, sl, rv⟩
  · have hcp := copied_nil w
    have c1 := hk.c1
    subst hL0
    subst hcs0
    have hch : (∃ g c, chg = .slice g 0 c) := by
      rcases hcr.form with ⟨h1, _⟩ | ⟨g, c, h1, _⟩
      · exact ⟨none, 0, h1⟩
      · exact ⟨_, c, h1⟩
    obtain ⟨a0, c0', rfl⟩ := hch
    have HK := Lib.hid (And.intro hk (And.intro hcr hcs))
    clear hk hcr hcs hB hn hln hsz
    go_enter Tryz.func37, Tryz.ntmps37
    go_wp2_with (fail)
    refine hcp.mono ?_
    rintro e w1 ⟨rfl, hG, hb1⟩
    obtain ⟨m, hmw⟩ : ∃ m, m = w.heap.size := ⟨_, rfl⟩
    rw [← hmw] at hG ⊢
    have K1 := HK.out.1.tch (tch_below (fun _ => False) hb1) (fun e => e)
    have d1 := K1.c1
    have d2 := K1.c2
    have d3 := K1.c3
    have f3 := K1.fr 3
    have H2 : Hid (DiskAt (w1.setCell ⟨p, 3, none⟩ (.map (some m))) p cp (.map none) (.slice a0 0 c0') (.map (some m)) used ∧ Cr (w1.setCell ⟨p, 3, none⟩ (.map (some m))) B (.slice a0 0 c0') [] ∧ FsR B (w1.setCell ⟨p, 3, none⟩ (.map (some m))) m 0 (fun _ => none) [] ∧ Tch w (w1.setCell ⟨p, 3, none⟩ (.map (some m))) (fun b => b = p)) := Lib.hid (by
      obtain ⟨hk, hcr, hcs⟩ := HK.out
      have tb := tch_below (fun _ => False) hb1
      have ts := tch_set w1 ⟨p, 3, none⟩ (.map (some m))
      have cr1 : Cr w1 B (.slice a0 0 c0') [] := row_tch hcr tb (fun _ _ e => e)
      have fm1 : FsR B w1 m 0 (fun _ => none) [] := ⟨hG, (fun _ _ h => by simp [getF] at h), fun _ _ => rfl, (fun _ _ _ _ _ h => by cases h), List.Pairwise.nil⟩
      exact ⟨K1.hld _, row_tch cr1 ts (fun b hb e => cells_apart (row_at cr1 hb) K1.ty (by decide) e), fm1.setp K1 3 _, ⟨ts.os.trans hb1.os, ts.tape.trans hb1.tape, ts.output.trans hb1.output, Nat.le_trans hb1.size ts.size, fun b hb hne => (ts.block b (Nat.lt_of_lt_of_le hb hb1.size) hne).trans (hb1.block b hb)⟩⟩)
    have HMW := Lib.hid hmw
    clear hcp c1 K1 hG hb1 hmw
    go_wp2
    generalize w1.setCell ⟨p, 3, none⟩ (.map (some m)) = w2 at *
    clear d1 d2 d3 f3
    go_loopw [17] (fun i wr => i = .int .i64 0 ∧ wr = w2) (fun _ _ => 0)
    case atStart => exact ⟨rfl, rfl⟩
    case round =>
      obtain ⟨rfl, rfl⟩ := hrel
      have hsz := size_F H2.out.2.2.1 (by simp [totF])
      have e0 : totF [] = 0 := rfl
      rw [e0] at hsz
      have d3 := H2.out.1.c3
      go_wp2_with (fail)
      refine hsz.mono ?_
      rintro e w4 ⟨rfl, hb4⟩
      have D4 := H2.out.1.tch (tch_below (fun _ => False) hb4) (fun e => e)
      have d4 := D4.c4
      have f4 := D4.fr 4
      have HF : Hid (DkM B (w4.setCell ⟨p, 4, none⟩ (.int .i64 0)) p (grow S w (w4.setCell ⟨p, 4, none⟩ (.int .i64 0))) cp ((totF (held [] []) : Nat) : Int) (n + ([] : List Chg).length) [] [] ∧ Tch w (w4.setCell ⟨p, 4, none⟩ (.int .i64 0)) S) := Lib.hid (by
        have tb := tch_below (fun _ => False) hb4
        have ts := tch_set w4 ⟨p, 4, none⟩ (.int .i64 0)
        have c4 : Cr w4 B (.slice a0 0 c0') [] := row_tch H2.out.2.1 tb (fun _ _ e => e)
        have fm4 := (H2.out.2.2.1.tch tb (fun e => e) (fun _ _ e => e)).setp D4 4 (.int .i64 0)
        have tw : Tch w (w4.setCell ⟨p, 4, none⟩ (.int .i64 0)) S := (((Tch.refl w S).then H2.out.2.2.2 (fun i _ e => by rw [e]; exact h.out.hp)).then tb (fun _ _ e => e.elim)).then ts (fun i _ e => by
          have e : i = p := e
          rw [e]; exact h.out.hp)
        refine ⟨⟨.inl h.out.hp, fun b hb => ?_, h.out.ok, h.out.nm, _, _, _, D4.usd _, row_tch c4 ts (fun b hb e => cells_apart (row_at c4 hb) D4.ty (by decide) e), fun b hb => .inl (HK.out.2.2 b hb), .inl ⟨rfl, rfl, rfl, .inr ⟨m, rfl, .inr ⟨by rw [HMW.out]; exact Nat.le_refl _, fm4.gf.lt⟩, fm4.gf.mono (Nat.zero_le _)⟩⟩⟩, tw⟩
        rcases hb with hb | ⟨h1, h2⟩
        · exact ⟨(h.out.own b hb).1, Nat.lt_of_lt_of_le (h.out.own b hb).2 tw.size⟩
        · exact ⟨Nat.le_trans HSZ.out.1 h1, h2⟩)
      clear hsz hb4 D4 H2
      go_wp2
      first
        | (go_end0; exact ⟨rfl, HF⟩)
        | (go_ret; exact ⟨rfl, HF⟩)
        | exact bodyPost_ret (v := .tuple #[]) (results_none rfl _ _ _) rfl ⟨rfl, HF⟩
  · have hcp := copied_F hl (by omega) (by omega)
    have c1 := hk.c1
    obtain ⟨a0, c0', hchg⟩ : ∃ a c, chg = .slice a cs.length c := by
      rcases hcr.form with ⟨h1, h2⟩ | ⟨g, c, h1, _⟩
      · exact ⟨none, 0, by rw [h1, h2]; rfl⟩
      · exact ⟨_, _, h1⟩
    have HK := Lib.hid (And.intro hk (And.intro hcr (And.intro hcs (And.intro hl (And.intro rv (And.intro sl hchg))))))
    clear hk hcr hcs hl rv hB hn hln hsz sl hchg
    go_enter Tryz.func37, Tryz.ntmps37
    go_wp2_with (fail)
    refine hcp.mono ?_
    rintro e w1 ⟨rfl, G, hG, hb1⟩
    obtain ⟨m, hmw⟩ : ∃ m, m = w.heap.size := ⟨_, rfl⟩
    have K1 := HK.out.1.tch (tch_below (fun _ => False) hb1) (fun e => e)
    have d1 := K1.c1
    have d2 := K1.c2
    have d3 := K1.c3
    have f3 := K1.fr 3
    have H2 : Hid (Cpd B w (w1.setCell ⟨p, 3, none⟩ (.map (some m))) p cp used n L cs chg l m V G) := Lib.hid (by
      obtain ⟨hk, hcr, hcs, hl, rv, sl, _⟩ := HK.out
      have tb := tch_below (fun _ => False) hb1
      have ts := tch_set w1 ⟨p, 3, none⟩ (.map (some m))
      have cr1 : Cr w1 B chg cs := row_tch hcr tb (fun _ _ e => e)
      have fl1 := hl.tch tb (fun e => e) (fun _ _ e => e)
      have fm1 : FsR B w1 m n G L := by rw [hmw]; exact (hG.mono HSZ.out.2.2.1).base HSZ.out.1
      refine ⟨K1.hld _, row_tch cr1 ts (fun b hb e => cells_apart (row_at cr1 hb) K1.ty (by decide) e), fl1.setp K1 3 _, fm1.setp K1 3 _, by omega, fun b hb => (hG.rows_at hb).1, fun b hb => (hl.rows_at hb).2.1, hl.gf.lt, fun b hb => (hcr.lt b hb).2, hk.lt, ?_⟩
      exact ⟨ts.os.trans hb1.os, ts.tape.trans hb1.tape, ts.output.trans hb1.output, Nat.le_trans hb1.size ts.size, fun b hb hne => (ts.block b (Nat.lt_of_lt_of_le hb hb1.size) hne).trans (hb1.block b hb)⟩)
    rw [← hmw]
    have hchg := HK.out.2.2.2.2.2.2
    rw [hchg] at d2
    clear hcp c1 K1 hG hb1 hmw
    go_wp2
    generalize w1.setCell ⟨p, 3, none⟩ (.map (some m)) = w2 at *
    clear d1 d2 d3 f3
    obtain ⟨q, hq⟩ : ∃ q, q = cs.length := ⟨_, rfl⟩
    have HQ := Lib.hid hq
    rw [← hq] at hchg ⊢
    have hqi : (q : Int) ≤ 9223372036854775807 := by have := HSZ.out.2.1; unfold maxLen at this; omega
    clear hq
    go_loopw [17] (fun i wr => ∃ j : Nat, j ≤ q ∧ i = .int .i64 j ∧ Hid (Apl B w2 wr m n G L cs j)) (fun i _ => q - (intOf i).toNat)
    case atStart => exact ⟨0, Nat.zero_le _, rfl, Lib.hid (apl_zero cs H2.out.fm)⟩
    case round =>
      obtain ⟨j, hjq, rfl, HR⟩ := hrel
      obtain ⟨G1, hf1, ht1, hg1⟩ := HR.out
      have D1 := H2.out.k.tch ht1 (rows_p H2.out.fm H2.out.k)
      have C1 : Cr wr B chg cs := row_tch H2.out.cr ht1 (fun b hb => rows_chg H2.out.fm H2.out.cr hb)
      by_cases hlt : j < q
      · obtain ⟨d, hd⟩ : ∃ d, cs[j]? = some d := ⟨_, List.getElem?_eq_getElem (by have := HQ.out; omega)⟩
        obtain ⟨g, hg9, hx⟩ : ∃ g, a0 = some ⟨g, 0, none⟩ ∧ wr.cell? ⟨g, j, none⟩ = some (cV d) := by
          rcases C1.form with ⟨_, e⟩ | ⟨g, c, e, _⟩
          · rw [e] at hd; simp at hd
          · refine ⟨g, ?_, by rw [e] at C1; exact C1.cell hd⟩
            rw [hchg] at e
            injection e
        subst hg9
        have d3 := D1.c3
        have hki : (j : Int) < (q : Int) := by omega
        obtain ⟨t, a, f, hfn, hcv, hna, hme, hdo⟩ := chg_do d
        have hdo := hdo B wr.drew m (n + j) G1 (held L (cs.take j)) hf1.drew (h.out.ok d (List.mem_of_getElem? hd)) (by have := HSZ.out.2.1; have := HQ.out; omega) (Nat.le_trans HSZ.out.1 (Nat.le_trans H2.out.t.size ht1.size)) (tot_take HK.out.2.2.2.1.srt h.out.ok (by have := HSZ.out.2.2.2; omega) hd)
        rw [hcv] at hx
        have HD := Lib.hid hd
        have HT1 := Lib.hid (And.intro ht1 hg1)
        have hw2 : IntKind.i64.wrap ((j : Int) + 1) = (j : Int) + 1 := IntWalk.i64_in _ (by omega)
        clear D1 C1 hd hcv ht1 hg1 hf1
        go_upto_region 4 with (fail)
        rcases hfn with rfl | rfl | rfl
        all_goals
          go_region_with (first
            | (go_at_call 36; refine hdo.mono ?_; rintro e w3 ⟨rfl, h1⟩)
            | (go_at_call 162; refine hdo.mono ?_; rintro e w3 ⟨rfl, h1⟩)
            | (go_at_call 161; refine hdo.mono ?_; rintro e w3 ⟨rfl, h1⟩))
          all_goals
            have H1 : Hid (Apl B w2 w3 m n G L cs (j + 1)) := Lib.hid (apl_next HD.out HT1.out.1 HT1.out.2 (by
              obtain ⟨G2, q1, q2, q3⟩ := h1
              exact ⟨G2, q1, tch_drew q2, q3⟩))
            clear h1 hdo
            go_wp2
            go_round
            case rel => exact ⟨j + 1, by omega, by simp, H1⟩
            case measure => simp [intOf]; omega
      · obtain rfl : j = q := by omega
        have e9 : cs.take j = cs := List.take_of_length_le (by rw [HQ.out]; exact Nat.le_refl _)
        rw [e9] at hf1
        have hth : totF (held L cs) ≤ 140737488355328 := by
          have h1 := tot_held HK.out.2.2.2.1.srt cs h.out.ok
          have := HSZ.out.2.2.2
          omega
        have hsz := size_F hf1 hth
        have d3 := D1.c3
        have HX := Lib.hid (And.intro D1 (And.intro C1 (And.intro hf1 (And.intro ht1 hg1))))
        clear D1 C1 hf1 ht1 hg1 hth e9
        go_wp2_with (fail)
        refine hsz.mono ?_
        rintro e w4 ⟨rfl, hb4⟩
        obtain ⟨T, hT⟩ : ∃ T, T = totF (held L cs) := ⟨_, rfl⟩
        have D4 := HX.out.1.tch (tch_below (fun _ => False) hb4) (fun e => e)
        have d4 := D4.c4
        have f4 := D4.fr 4
        have HF : Hid (DkM B (w4.setCell ⟨p, 4, none⟩ (.int .i64 T)) p (grow S w (w4.setCell ⟨p, 4, none⟩ (.int .i64 T))) cp T (n + j) L cs ∧ Tch w (w4.setCell ⟨p, 4, none⟩ (.int .i64 T)) S) := Lib.hid (by
          obtain ⟨D1, C1, hf1, ht1, hg1⟩ := HX.out
          have tb := tch_below (fun _ => False) hb4
          have ts := tch_set w4 ⟨p, 4, none⟩ (.int .i64 T)
          have c4 : Cr w4 B chg cs := row_tch C1 tb (fun _ _ e => e)
          have fl1 : FsR B wr l n V L := H2.out.fl.tch ht1 (fun e => e.elim (fun e => by have := H2.out.lw; have := H2.out.mw; omega) (fun e => by have := H2.out.rg l e; have := H2.out.lw; omega)) (fun b hb e => e.elim (fun e => by have := H2.out.rv b hb; have := H2.out.mw; omega) (fun e => by have := H2.out.rg b e; have := H2.out.rv b hb; omega))
          have fl4 := (fl1.tch tb (fun e => e) (fun _ _ e => e)).setp D4 4 (.int .i64 T)
          have fm4 := (hf1.tch tb (fun e => e) (fun _ _ e => e)).setp D4 4 (.int .i64 T)
          have hnew : ∀ b, Rows G1 b → w.heap.size ≤ b := fun b hb => by
            rcases hg1 b hb with k | k
            · exact H2.out.rg b k
            · exact Nat.le_trans H2.out.t.size k
          have hszs : (w4.setCell ⟨p, 4, none⟩ (.int .i64 T)).heap.size = w4.heap.size := by simp
          have tw : Tch w (w4.setCell ⟨p, 4, none⟩ (.int .i64 T)) S := by
            have t1 : Tch w wr S := ((Tch.refl w S).then H2.out.t (fun i _ e => by rw [e]; exact h.out.hp)).then ht1 (fun i hi e => by
              rcases e with e | e
              · have := H2.out.mw; omega
              · have := H2.out.rg i e; omega)
            have t2 : Tch w w4 S := t1.then tb (fun _ _ e => e.elim)
            exact t2.then ts (fun i _ e => by
              have e : i = p := e
              rw [e]; exact h.out.hp)
          refine ⟨⟨.inl h.out.hp, fun b hb => ?_, h.out.ok, h.out.nm, _, chg, _, D4.usd _, row_tch c4 ts (fun b hb e => cells_apart (row_at c4 hb) D4.ty (by decide) e), fun b hb => .inl (HK.out.2.2.1 b hb), .inr ⟨l, m, V, G1, rfl, rfl, fl4.mono (Nat.le_add_right _ _), fm4, .inl HK.out.2.2.2.2.2.1, .inr ⟨H2.out.mw, fm4.gf.lt⟩, fun e => by have := H2.out.lw; have := H2.out.mw; omega, fun b hb => .inl (HK.out.2.2.2.2.1 b hb), fun b hb => .inr ⟨hnew b hb, (fm4.rows_at hb).2.1⟩, fun b hv hu => by have := H2.out.rv b hv; have := hnew b hu; omega⟩⟩, tw⟩
          rcases hb with hb | ⟨h1, h2⟩
          · exact ⟨(h.out.own b hb).1, Nat.lt_of_lt_of_le (h.out.own b hb).2 tw.size⟩
          · exact ⟨Nat.le_trans HSZ.out.1 h1, h2⟩)
        have HF : Hid (DkM B (w4.setCell ⟨p, 4, none⟩ (.int .i64 T)) p (grow S w (w4.setCell ⟨p, 4, none⟩ (.int .i64 T))) cp ((totF (held L cs) : Nat) : Int) (n + cs.length) L cs ∧ Tch w (w4.setCell ⟨p, 4, none⟩ (.int .i64 T)) S) := Lib.hid (by
          rw [← hT, ← HQ.out]
          exact HF.out)
        rw [hT] at HF
        clear hsz hb4 D4 HX
        go_wp2
        first
          | (go_end0; exact ⟨rfl, HF⟩)
          | (go_ret; exact ⟨rfl, HF⟩)
          | exact bodyPost_ret (v := .tuple #[]) (results_none rfl _ _ _) rfl ⟨rfl, HF⟩
          | (go_end0; exact HF)
end Go.Proofs.YtmlikkjahkdilaaGreatDoor
