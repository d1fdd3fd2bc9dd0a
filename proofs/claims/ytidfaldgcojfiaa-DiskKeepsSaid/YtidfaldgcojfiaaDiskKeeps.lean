/- DiskKeeps: a crash that keeps all changes is a sync, one that keeps none is what was synced, whatever the script. -/
import Derived.Test.YtidfaldgcojfiaaDkThree
import Derived.Deep.CutBlock

import Derived.Test.YtidfaldgcojfiaaLawEnd

import Derived.Test.YtidfaldgcojfiaaPlainKit

namespace Go.Proofs.Ytidfaldgcojfiaa.fnDiskKeeps
open Go.ChangeShapes Go.WideShapes Go.ChangeAt Go.RowKit Go.WideMaps Go.WideElems
open Go.ChangeMaps (open_string)

open Go.Maps
/-- what a step of the script makes of a disk -/
def stepK (syn : Bool) (st : Fs × List Chg) (a : Ac) : Fs × List Chg :=
  if r7 a.k = 0 then (st.1, appC 1000 st.1 st.2 a.a a.b) else if r7 a.k = 1 then (st.1, renC st.1 st.2 a.a a.b) else if r7 a.k = 2 then (st.1, delC st.1 st.2 a.a) else if r7 a.k = 3 ∧ syn = true then (held st.1 st.2, []) else st
def runK (it : Nat → Ac) (syn : Bool) : Nat → Fs × List Chg
  | 0 => ([], [])
  | i + 1 => stepK syn (runK it syn i) (it i)
structure KB (i : Nat) (st : Fs × List Chg) : Prop where
  srt : SrtF st.1
  nm : NmF st.1
  ok : ∀ c ∈ st.2, okC c
  len : st.1.length + st.2.length ≤ i
  wt : totF st.1 + wts st.2 ≤ 1000 * i
  cap : totF (held st.1 st.2) ≤ 1000
theorem KB.more {i : Nat} {st : Fs × List Chg} (h : KB i st) : KB (i + 1) st := ⟨h.srt, h.nm, h.ok, by have := h.len; omega, by have := h.wt; omega, h.cap⟩
theorem KB.chg {i : Nat} {st : Fs × List Chg} (h : KB i st) (c : Chg) (hc : okC c) (hw : wtC c ≤ 1000) (ht : totF (held st.1 (st.2 ++ [c])) ≤ 1000) : KB (i + 1) (st.1, st.2 ++ [c]) := by
  refine ⟨h.srt, h.nm, fun x hx => ?_, ?_, ?_, ht⟩
  · rcases List.mem_append.1 hx with hx | hx
    · exact h.ok x hx
    · rw [List.mem_singleton.1 hx]; exact hc
  · have := h.len
    simp only [List.length_append, List.length_cons, List.length_nil]
    omega
  · have := h.wt
    simp only
    rw [wts_app]
    have : wts [c] = wtC c := by simp [wts]
    omega
theorem kb_step {i : Nat} {st : Fs × List Chg} (h : KB i st) (syn : Bool) (a : Ac) : KB (i + 1) (stepK syn st a) := by
  unfold stepK
  split
  · unfold appC
    split
    · next hr =>
      unfold appR at hr
      by_cases hv : 1 ≤ a.a.size ∧ a.a.size ≤ 64
      · rw [if_pos hv] at hr
        by_cases hf : (1000 : Int) - totF (held st.1 st.2) < a.b.size
        · rw [if_pos hf] at hr; cases hr
        · refine h.chg _ hv.2 (by simp only [wtC]; omega) ?_
          rw [tot_app _ _ h.srt]
          omega
      · rw [if_neg hv] at hr; cases hr
    · exact h.more
  · split
    · unfold renC
      split
      · next hr =>
        unfold renR at hr
        by_cases hv : 1 ≤ a.b.size ∧ a.b.size ≤ 64
        · rw [if_pos hv] at hr
          cases hga : (getF (held st.1 st.2) a.a).isSome
          · rw [hga] at hr; cases hr
          · cases hgb : (getF (held st.1 st.2) a.b).isSome
            · refine h.chg _ ⟨nm_get (nm_held h.nm _ h.ok) hga, hv.2, fun e => by rw [e, hgb] at hga; cases hga⟩ (by simp [wtC]) ?_
              rw [tot_ren _ _ h.srt hga hgb]
              exact h.cap
            · rw [hga, hgb] at hr; cases hr
        · rw [if_neg hv] at hr; cases hr
      · exact h.more
    · split
      · unfold delC
        split
        · next hr =>
          unfold delR at hr
          cases hga : (getF (held st.1 st.2) a.a).isSome
          · rw [hga] at hr; cases hr
          · refine h.chg _ (nm_get (nm_held h.nm _ h.ok) hga) (by simp [wtC]) ?_
            rw [held_one]
            have := tot_delF (srt_held h.srt st.2) a.a
            have := h.cap
            simp only [doC]
            omega
        · exact h.more
      · split
        · refine ⟨srt_held h.srt _, nm_held h.nm _ h.ok, (fun _ h => by cases h), ?_, ?_, h.cap⟩
          · have := len_held st.1 st.2
            have := h.len
            simp only [List.length_nil]
            omega
          · have := tot_held h.srt st.2 h.ok
            have := h.wt
            simp only [wts, List.map_nil, List.sum_nil] at *
            omega
        · exact h.more
theorem kb_run (it : Nat → Ac) (syn : Bool) : ∀ i, KB i (runK it syn i)
  | 0 => ⟨List.Pairwise.nil, (fun _ h => by cases h), (fun _ h => by cases h), by simp [runK], by simp [runK, totF, wts], by simp [runK, held, totF]⟩
  | i + 1 => kb_step (kb_run it syn i) syn (it i)
/-- whether a disk is synced in the script -/
def sy (k : Nat) : Bool := decide (k < 2)
abbrev cpK : Nat → Int := fun _ => 1000
theorem crash_all (L : Fs) (cs : List Chg) (tear : Int) : crashL L cs cs.length tear = held L cs := by
  have hk : keepN cs cs.length = cs.length := by unfold keepN; omega
  unfold crashL
  rw [hk, List.take_length, List.getElem?_eq_none (Nat.le_refl _)]
  simp [tornC]
theorem crash_none (L : Fs) (cs : List Chg) : crashL L cs 0 0 = L := by
  have hk : keepN cs 0 = 0 := by unfold keepN; omega
  have ht : tornC cs[0]? 0 = [] := by
    unfold tornC
    split <;> rfl
  unfold crashL
  rw [hk, ht, List.take_zero]
  rfl
theorem run_none (it : Nat → Ac) : ∀ i, (runK it false i).1 = []
  | 0 => rfl
  | i + 1 => by
    have ih := run_none it i
    show (stepK false (runK it false i) (it i)).1 = []
    unfold stepK
    split
    · exact ih
    · split
      · exact ih
      · split
        · exact ih
        · split
          · next h => cases h.2
          · exact ih
theorem DK.more {w0 w : World} {p : Nat} {S : Nat → Prop} {cp : Int} {n n' : Nat} {L : Fs} {cs : List Chg} (h : DK w0 w p S cp n L cs) (hn : n ≤ n') : DK w0 w p S cp n' L cs := ⟨h.bel, h.m.wide (fun _ h => h) h.m.own hn⟩
/-- a list of texts that lies there -/
def LsC (w : World) (v : Value) (ys : List ByteArray) : Prop := ∃ a c, v = .slice a ys.length c ∧ ∀ j s, ys[j]? = some s → ∃ g, a = some ⟨g, 0, none⟩ ∧ w.cell? ⟨g, j, none⟩ = some (.string s)
theorem LsC.below {w w' : World} {v : Value} {ys : List ByteArray} (h : LsC w v ys) (hb : Below w.heap.size w w') : LsC w' v ys := by
  obtain ⟨a, c, h1, h2⟩ := h
  refine ⟨a, c, h1, fun j s hj => ?_⟩
  obtain ⟨g, e, hc⟩ := h2 j s hj
  refine ⟨g, e, (hb.cell (p := ⟨g, j, none⟩) ?_).trans hc⟩
  rcases Nat.lt_or_ge g w.heap.size with k | k
  · exact k
  · simp [World.cell?, Array.getElem?_eq_none k] at hc
theorem lsc_of {w w' : World} {v : Value} {ys : List ByteArray} (h : LsRow w w' v ys) : LsC w' v ys := by
  obtain ⟨a, c, h1, h2⟩ := h.sl
  exact ⟨a, c, h1, fun j s hj => by obtain ⟨g, e, _, hc⟩ := h2 j s hj; exact ⟨g, e, hc⟩⟩
theorem below_dn (w : World) (n : Nat) : Below w.heap.size w (w.drewN n) := ⟨rfl, rfl, rfl, Nat.le_refl _, fun _ _ => rfl⟩
structure Bel1 (a w : World) : Prop where
  b : Below a.heap.size a w
/-- the disks while disk k goes through the script -/
structure KS (W w : World) (g k j M : Nat) (P : Nat → Nat) (it : Nat → Ac) (S : Nat → Nat → Prop) (N : Nat → Nat) : Prop where
  t : TD W w g 3 cpK P S (putN (fun a => runK it (sy a) M) k (runK it (sy k) j)) N (k + 1)
  o : ∀ a, a < k → N a ≤ 61 * M
  n : N k ≤ 61 * j
theorem KS.dk {W w : World} {g k j M : Nat} {P : Nat → Nat} {it : Nat → Ac} {S : Nat → Nat → Prop} {N : Nat → Nat} (h : KS W w g k j M P it S N) : ∃ n, n ≤ 61 * j ∧ Hid (DK W w (P k) (S k) 1000 n (runK it (sy k) j).1 (runK it (sy k) j).2) := by
  obtain ⟨n, h1, h2⟩ := h.t.dk k (Nat.lt_succ_self k)
  rw [putN_same] at h2
  exact ⟨n, Nat.le_trans h1 h.n, Lib.hid h2⟩
theorem KS.below {W w w' : World} {g k j M : Nat} {P : Nat → Nat} {it : Nat → Ac} {S : Nat → Nat → Prop} {N : Nat → Nat} (h : KS W w g k j M P it S N) (hb : Below w.heap.size w w') : KS W w' g k j M P it S N := ⟨h.t.below hb, h.o, h.n⟩
theorem KS.step {W w w' : World} {g k j M n' : Nat} {P : Nat → Nat} {it : Nat → Ac} {S : Nat → Nat → Prop} {N : Nat → Nat} {s' : Fs × List Chg} (h : KS W w g k j M P it S N) (d : Hid (DK W w' (P k) (grow (S k) w w') 1000 n' s'.1 s'.2 ∧ Tch w w' (S k))) (hs : runK it (sy k) (j + 1) = s') (hn : n' ≤ 61 * (j + 1)) :
    KS W w' g k (j + 1) M P it (putN S k (grow (S k) w w')) (putN N k n') := by
  refine ⟨(h.t.step (Nat.lt_succ_self k) d.out.1 d.out.2).congr fun a _ => ?_, fun a ha => ?_, ?_⟩
  · by_cases e : a = k
    · subst e
      rw [putN_same, putN_same, hs]
    · rw [putN_other _ _ e, putN_other _ _ e, putN_other _ _ e]
  · rw [putN_other _ _ (by omega)]
    exact h.o a ha
  · rw [putN_same]
    exact hn
theorem KS.stay {W w : World} {g k j M : Nat} {P : Nat → Nat} {it : Nat → Ac} {S : Nat → Nat → Prop} {N : Nat → Nat} (h : KS W w g k j M P it S N) (hs : runK it (sy k) (j + 1) = runK it (sy k) j) : KS W w g k (j + 1) M P it S N :=
  ⟨by rw [hs]; exact h.t, h.o, by have := h.n; omega⟩
set_option maxRecDepth 100000 in
set_option maxHeartbeats 40000000 in
theorem walk (A : Option Addr) (len cap : Nat) (it : Nat → Ac) (tear : Int) (W : World) (hl : len * 56 ≤ 140737488351232) (hS : Acts W W.heap.size A len it) :
    Calls Try.prog 4 #[.slice A len cap, .int .i64 tear] W fun e w' => e = .returned (.bool true) ∧ Below W.heap.size W w' := by
  have HS := Lib.hid hS
  have HL := Lib.hid hl
  have hl' : (len : Int) ≤ 9223372036854775807 := by omega
  clear hS hl
  go_enter Try.func4, Try.ntmps4
  go_wp2_with (fail)
  refine (dspeaks _).mono ?_
  rintro e w1 ⟨rfl, hb1⟩
  have HB1 := Lib.hid hb1
  clear hb1
  go_wp2
  obtain ⟨g, hg⟩ : ∃ g, g = w1.heap.size := ⟨_, rfl⟩
  obtain ⟨w2, hw2⟩ : ∃ w2, w2 = w1.alloc (.cells #[.pointer none, .pointer none, .pointer none] 37) := ⟨_, rfl⟩
  have HT0 : Hid (TD W w2 g 3 cpK (fun _ => 0) (fun _ _ => False) (fun _ => ([], [])) (fun _ => 0) 0) := Lib.hid (by
    rw [hw2, hg]
    refine ⟨HB1.out.alloc HB1.out.size _, HB1.out.size, by simp, fun j hj => by omega, fun j _ hj => ?_, fun i => by simp, fun j hj => by omega, fun i j hi => by omega, fun j hj => by omega⟩
    match j, hj with
    | 0, _ => simp
    | 1, _ => simp
    | 2, _ => simp)
  rw [← hw2, ← hg]
  clear hw2 hg HB1
  obtain ⟨M, hM⟩ : ∃ M, M = min len 60 := ⟨_, rfl⟩
  have HM := Lib.hid hM
  clear hM
  go_loopw [6] (fun i wr => ∃ (k : Nat) (p : Nat → Nat) (S : Nat → Nat → Prop) (N : Nat → Nat), k ≤ 3 ∧ i = .int .i64 k ∧ Hid (TD W wr g 3 cpK p S (fun j => runK it (sy j) M) N k ∧ ∀ j, j < k → N j ≤ 61 * M)) (fun i _ => 3 - (intOf i).toNat)
  case atStart => exact ⟨0, _, _, _, by omega, rfl, Lib.hid ⟨HT0.out.congr (fun j hj => by omega), fun j hj => by omega⟩⟩
  case round =>
    obtain ⟨k, p, S, N, hk, rfl, HK⟩ := hrel
    clear HT0
    by_cases hk3 : k < 3
    · have hki : (k : Int) < 3 := by omega
      go_wp2_with (fail)
      refine (new_K (w0 := W) 1000 HK.out.1.bel).mono ?_
      rintro e w3 ⟨rfl, H3⟩
      obtain ⟨q, hq⟩ : ∃ q, q = wr.heap.size := ⟨_, rfl⟩
      have D3 : Hid (TD W w3 g 3 cpK p S (fun j => runK it (sy j) M) N k) := Lib.hid (HK.out.1.below H3.out.2)
      have HA : Hid (TD W (w3.setCell ⟨g, k, none⟩ (.pointer (some ⟨q, 0, none⟩))) g 3 cpK (putN p k q) (putN S k (fun b => b = q)) (putN (fun j => runK it (sy j) M) k (runK it (sy k) 0)) (putN N k 0) (k + 1)) := Lib.hid (HK.out.1.add hk3 H3.out.2 (by
        have := H3.out.1
        rw [show max (1000 : Int) 0 = 1000 by decide, ← hq] at this
        exact this) (fun b hb => by rw [hb, hq]; exact Nat.le_refl _))
      have HN : Hid (∀ j, j < k → N j ≤ 61 * M) := Lib.hid HK.out.2
      rw [← hq]
      have e1 := D3.out.emp k (Nat.le_refl _) hk3
      have f1 := D3.out.fr k
      clear H3 hq D3 HK
      go_wp2
      obtain ⟨P, hP⟩ : ∃ P, P = putN p k q := ⟨_, rfl⟩
      obtain ⟨w4, hw4⟩ : ∃ w4, w4 = w3.setCell ⟨g, k, none⟩ (.pointer (some ⟨q, 0, none⟩)) := ⟨_, rfl⟩
      have HK4 : Hid (KS W w4 g k 0 M P it (putN S k (fun b => b = q)) (putN N k 0)) := Lib.hid (by
        rw [hP, hw4]
        exact ⟨HA.out, fun a ha => by rw [putN_other _ _ (by omega)]; exact HN.out a ha, by rw [putN_same]; exact Nat.zero_le _⟩)
      rw [← hw4]
      clear HA HN hP hw4 e1 f1
      go_loopw [7] (fun i wy => ∃ (j : Nat) (S : Nat → Nat → Prop) (N : Nat → Nat), j ≤ M ∧ i = .int .i64 j ∧ Hid (KS W wy g k j M P it S N)) (fun i _ => M - (intOf i).toNat)
      case atStart => exact ⟨0, _, _, Nat.zero_le _, rfl, HK4⟩
      case round =>
        obtain ⟨j, S, N, hj, rfl, HJ⟩ := hrel
        clear HK4
        by_cases hjM : j < M
        · have hj1 : j < len := by have := HM.out; omega
          have hj60 : j < 60 := by have := HM.out; omega
          have hj1' : (j : Int) < (len : Int) := by omega
          have hj2' : (j : Int) < 60 := by omega
          obtain ⟨HW, b, off, rfl, hB, hc⟩ := HS.out j hj1
          obtain ⟨x, hx⟩ : ∃ x, x = it j := ⟨_, rfl⟩
          rw [← hx] at HW hc
          have hin := fun a u (ha : (acCells x)[a]? = some u) => (HJ.out.t.bel.cell (p := ⟨b, off + j * 5 + a, none⟩) hB).trans (hc a u ha)
          have i0 := hin 0 _ rfl
          have i1 := hin 1 _ rfl
          have i2 := hin 2 _ rfl
          have i3 := hin 3 _ rfl
          have i4 := hin 4 _ rfl
          rw [Nat.add_zero] at i0
          have HXO := Lib.hid (And.intro HW hx)
          have HBX : Hid (KS W (wr.alloc (.cells #[.int .i64 x.k, .string x.a, .string x.b, .int .i64 x.m, .int .i64 x.n] 34)) g k j M P it S N ∧ AcB (wr.alloc (.cells #[.int .i64 x.k, .string x.a, .string x.b, .int .i64 x.m, .int .i64 x.n] 34)) wr.heap.size x) := Lib.hid ⟨HJ.out.below ((Below.refl _ wr).alloc (Nat.le_refl _) _), acb_new wr x⟩
          clear hin hc hB HW hx HJ
          go_upto_block 3 with (fail)
          go_cut [] (fun wy => ∃ (S : Nat → Nat → Prop) (N : Nat → Nat), Hid (KS W wy g k (j + 1) M P it S N))
          case first =>
            go_upto_region 12 with (fail)
            obtain ⟨h, hh⟩ : ∃ h, h = wr.heap.size := ⟨_, rfl⟩
            obtain ⟨wx, hwx⟩ : ∃ wx, wx = wr.alloc (.cells #[.int .i64 x.k, .string x.a, .string x.b, .int .i64 x.m, .int .i64 x.n] 34) := ⟨_, rfl⟩
            rw [← hwx, ← hh] at HBX ⊢
            clear hh hwx i0 i1 i2 i3 i4
            obtain ⟨x0, x1, x2, x3, x4⟩ := HBX.out.2
            go_wp2_with (fail)
            refine (what_any x.k HXO.out.1.k _).mono ?_
            rintro e w9 ⟨rfl, rfl⟩
            have HD : Hid (KS W wx.drew g k j M P it S N) := Lib.hid (HBX.out.1.below (Below.refl _ wx).drew)
            obtain ⟨n, hn, HDK⟩ := HD.out.dk
            have HKB := Lib.hid (kb_run it (sy k) j)
            have hcs60 : (runK it (sy k) j).2.length ≤ 60 := by have := HKB.out.len; omega
            have e0 := HBX.out.1.t.cell k (Nat.lt_succ_self k)
            have hn60 : n ≤ 3660 := by omega
            have HCAP := Lib.hid HKB.out.cap
            have hxa := HXO.out.1.a
            have hxb := HXO.out.1.b
            rcases r7_cases x.k with hr | hr | hr | hr | hr | hr | hr
            · have h1 : (r7 x.k == 0) = true := by simpa using hr
              have HST : Hid (runK it (sy k) (j + 1) = ((runK it (sy k) j).1, appC 1000 (runK it (sy k) j).1 (runK it (sy k) j).2 x.a x.b)) := Lib.hid (by
                show stepK _ _ (it j) = _
                rw [← HXO.out.2]
                unfold stepK
                rw [if_pos hr])
              have hca := append_K x.a x.b HDK (by decide) (by unfold maxLen; omega) (by omega) (by have := HCAP.out; omega)
              clear hr
              go_wp2_with (fail)
              go_region_with (go_at_call 11; refine hca.mono ?_; rintro e w5 ⟨rfl, H5⟩)
              all_goals
                have HF := Lib.hid (HD.out.step (s' := (_, _)) H5 HST.out (by omega))
                go_wp2
                go_meet
                exact ⟨_, _, HF⟩
            · have h1 : (r7 x.k == 0) = false := by simp [hr]
              have h2 : (r7 x.k == 1) = true := by simpa using hr
              have HST : Hid (runK it (sy k) (j + 1) = ((runK it (sy k) j).1, renC (runK it (sy k) j).1 (runK it (sy k) j).2 x.a x.b)) := Lib.hid (by
                show stepK _ _ (it j) = _
                rw [← HXO.out.2]
                unfold stepK
                simp [hr])
              have hca := rename_K x.a x.b HDK (by unfold maxLen; omega) (by unfold maxLen; omega) (by omega) (by have := HCAP.out; omega)
              clear hr
              go_wp2_with (fail)
              go_region_with (go_at_call 12; refine hca.mono ?_; rintro e w5 ⟨rfl, H5⟩)
              all_goals
                have HF := Lib.hid (HD.out.step (s' := (_, _)) H5 HST.out (by omega))
                go_wp2
                go_meet
                exact ⟨_, _, HF⟩
            · have h1 : (r7 x.k == 0) = false := by simp [hr]
              have h2 : (r7 x.k == 1) = false := by simp [hr]
              have h3 : (r7 x.k == 2) = true := by simpa using hr
              have HST : Hid (runK it (sy k) (j + 1) = ((runK it (sy k) j).1, delC (runK it (sy k) j).1 (runK it (sy k) j).2 x.a)) := Lib.hid (by
                show stepK _ _ (it j) = _
                rw [← HXO.out.2]
                unfold stepK
                simp [hr])
              have hca := delete_K x.a HDK (by unfold maxLen; omega) (by unfold maxLen; omega) (by omega) (by have := HCAP.out; omega)
              clear hr
              go_wp2_with (fail)
              go_region_with (go_at_call 13; refine hca.mono ?_; rintro e w5 ⟨rfl, H5⟩)
              all_goals
                have HF := Lib.hid (HD.out.step (s' := (_, _)) H5 HST.out (by omega))
                go_wp2
                go_meet
                exact ⟨_, _, HF⟩
            · have h1 : (r7 x.k == 0) = false := by simp [hr]
              have h2 : (r7 x.k == 1) = false := by simp [hr]
              have h3 : (r7 x.k == 2) = false := by simp [hr]
              have h4 : (r7 x.k == 3) = true := by simpa using hr
              by_cases hk2 : k < 2
              · have hk2' : (k : Int) < 2 := by omega
                have HST : Hid (runK it (sy k) (j + 1) = (held (runK it (sy k) j).1 (runK it (sy k) j).2, [])) := Lib.hid (by
                  show stepK _ _ (it j) = _
                  rw [← HXO.out.2]
                  unfold stepK
                  simp [hr, sy, hk2])
                obtain ⟨n2, hn2, HDK2⟩ := HBX.out.1.dk
                have hca := sync_K HDK2 (by unfold maxLen; omega) (by have := HKB.out.wt; omega)
                clear hr hk2
                go_wp2_with (fail)
                refine hca.mono ?_
                rintro e w5 ⟨rfl, H5⟩
                have HF := Lib.hid (HBX.out.1.step (s' := (_, _)) H5 HST.out (by have := HKB.out.len; omega))
                go_wp2
                go_meet
                exact ⟨_, _, HF⟩
              · have hk2' : decide ((k : Int) < 2) = false := by simp; omega
                have HF := Lib.hid (HBX.out.1.stay (by
                  show stepK _ _ (it j) = _
                  rw [← HXO.out.2]
                  unfold stepK
                  simp [hr, sy, hk2]))
                clear hr hk2
                go_wp2
                go_meet
                exact ⟨_, _, HF⟩
            · have h1 : (r7 x.k == 0) = false := by simp [hr]
              have h2 : (r7 x.k == 1) = false := by simp [hr]
              have h3 : (r7 x.k == 2) = false := by simp [hr]
              have h4 : (r7 x.k == 3) = false := by simp [hr]
              have HF := Lib.hid (HBX.out.1.stay (by
                show stepK _ _ (it j) = _
                rw [← HXO.out.2]
                unfold stepK
                simp [hr]))
              clear hr
              go_wp2
              go_meet
              exact ⟨_, _, HF⟩
            · have h1 : (r7 x.k == 0) = false := by simp [hr]
              have h2 : (r7 x.k == 1) = false := by simp [hr]
              have h3 : (r7 x.k == 2) = false := by simp [hr]
              have h4 : (r7 x.k == 3) = false := by simp [hr]
              have HF := Lib.hid (HBX.out.1.stay (by
                show stepK _ _ (it j) = _
                rw [← HXO.out.2]
                unfold stepK
                simp [hr]))
              clear hr
              go_wp2
              go_meet
              exact ⟨_, _, HF⟩
            · have h1 : (r7 x.k == 0) = false := by simp [hr]
              have h2 : (r7 x.k == 1) = false := by simp [hr]
              have h3 : (r7 x.k == 2) = false := by simp [hr]
              have h4 : (r7 x.k == 3) = false := by simp [hr]
              have HF := Lib.hid (HBX.out.1.stay (by
                show stepK _ _ (it j) = _
                rw [← HXO.out.2]
                unfold stepK
                simp [hr]))
              clear hr
              go_wp2
              go_meet
              exact ⟨_, _, HF⟩
          case rest =>
            obtain ⟨S, N, HF⟩ := hcut
            go_wp2
            go_roundw
            case rel => exact ⟨j + 1, _, _, by omega, by simp, HF⟩
            case measure => simp [intOf]; omega
        · obtain rfl : j = M := by omega
          have HN1 : Hid (TD W wr g 3 cpK P S (fun a => runK it (sy a) j) N (k + 1) ∧ ∀ a, a < k + 1 → N a ≤ 61 * j) := Lib.hid ⟨HJ.out.t.congr (fun a _ => by
            by_cases e : a = k
            · subst e; rw [putN_same]
            · rw [putN_other _ _ e]), fun a ha => by
            by_cases e : a = k
            · subst e; exact HJ.out.n
            · exact HJ.out.o a (by omega)⟩
          have hx : (¬ (j : Int) < (len : Int)) ∨ ((j : Int) < (len : Int) ∧ ¬ (j : Int) < 60) := by have := HM.out; omega
          clear HJ hjM
          rcases hx with hx | ⟨hx, hx2⟩
          · have hx3 : decide ((j : Int) < (len : Int)) = false := by simpa using hx
            have hx4 : decide (j < len) = false := by simp; omega
            clear hx
            go_wp2
            go_roundw
            case rel => exact ⟨k + 1, _, _, _, by omega, by simp, HN1⟩
            case measure => simp [intOf]; omega
          · have hx3 : decide ((j : Int) < 60) = false := by simpa using hx2
            have hx4 : decide (j < 60) = false := by simp; omega
            clear hx2
            go_wp2
            go_roundw
            case rel => exact ⟨k + 1, _, _, _, by omega, by simp, HN1⟩
            case measure => simp [intOf]; omega
    · obtain rfl : k = 3 := by omega
      have hM60 : M ≤ 60 := by have := HM.out; omega
      obtain ⟨s0, hs0⟩ : ∃ s0, s0 = runK it true M := ⟨_, rfl⟩
      obtain ⟨s2, hs2⟩ : ∃ s2, s2 = runK it false M := ⟨_, rfl⟩
      have HB0 : Hid (KB M s0) := Lib.hid (by rw [hs0]; exact kb_run it true M)
      have HB2 : Hid (KB M s2 ∧ s2.1 = []) := Lib.hid (by rw [hs2]; exact ⟨kb_run it false M, run_none it M⟩)
      obtain ⟨st, hst⟩ : ∃ st : Nat → Fs × List Chg, st = fun j => if j = 2 then s2 else s0 := ⟨_, rfl⟩
      have HT : Hid (TD W wr g 3 cpK p S st N 3 ∧ ∀ j, j < 3 → N j ≤ 3660) := Lib.hid ⟨HK.out.1.congr (fun j hj => by
        rw [hst, hs0, hs2]
        match j, hj with
        | 0, _ => rfl
        | 1, _ => rfl
        | 2, _ => rfl), fun j hj => Nat.le_trans (HK.out.2 j hj) (by omega)⟩
      have HST : Hid (st 0 = s0 ∧ st 1 = s0 ∧ st 2 = s2) := Lib.hid (by rw [hst]; exact ⟨rfl, rfl, rfl⟩)
      have e0 := HT.out.1.cell 0 (by decide)
      have hki : ¬ (((3 : Nat) : Int) < 3) := by decide
      obtain ⟨n0, hn0, D0⟩ := HT.out.1.dk 0 (by decide)
      have hca := sync_K (Lib.hid D0) (by rw [HST.out.1]; have := HT.out.2 0 (by decide); have := HB0.out.len; unfold maxLen; omega) (by rw [HST.out.1]; have := HB0.out.wt; omega)
      clear HK hst hs0 hs2 D0
      go_wp2_with (fail)
      refine hca.mono ?_
      rintro e w5 ⟨rfl, H5⟩
      have HT5 : Hid (TD W w5 g 3 cpK p (putN S 0 (grow (S 0) wr w5)) (putN st 0 (held s0.1 s0.2, [])) (putN N 0 3720) 3) := Lib.hid (by
        have h1 := H5.out.1
        rw [HST.out.1] at h1
        have h2 : DK W w5 (p 0) (grow (S 0) wr w5) (cpK 0) 3720 (held s0.1 s0.2) [] := ⟨h1.bel, h1.m.wide (fun _ h => h) h1.m.own (by have := HT.out.2 0 (by decide); have := HB0.out.len; omega)⟩
        exact HT.out.1.step (by decide) h2 H5.out.2)
      clear H5 hca e0 hn0
      obtain ⟨H, hH⟩ : ∃ H, H = held s0.1 s0.2 := ⟨_, rfl⟩
      rw [← hH] at HT5
      have HHB : Hid (SrtF H ∧ NmF H ∧ totF H ≤ 1000 ∧ H.length ≤ 60) := Lib.hid (by
        have h1 := len_held s0.1 s0.2
        have h2 := HB0.out.len
        rw [hH]
        exact ⟨srt_held HB0.out.srt _, nm_held HB0.out.nm _ HB0.out.ok, HB0.out.cap, by omega⟩)
      have HH := Lib.hid hH
      clear hH
      have e1 := HT5.out.cell 1 (by decide)
      go_upto_region 23 with (fail)
      have HD6 : Hid (TD W w5.drew g 3 cpK p (putN S 0 (grow (S 0) wr w5)) (putN st 0 (H, [])) (putN N 0 3720) 3) := Lib.hid (HT5.out.below (Below.refl _ w5).drew)
      go_cut [] (fun wx => ∃ (S : Nat → Nat → Prop) (N : Nat → Nat), Hid (TD W wx g 3 cpK p S (fun j => if j = 2 then s2 else (H, [])) N 3 ∧ ∀ j, j < 3 → N j ≤ 3721))
      case first =>
        obtain ⟨n1, hn1, D1⟩ := HD6.out.dk 1 (by decide)
        have hn1' : n1 ≤ 3660 := by rw [putN_other _ _ (by decide)] at hn1; exact Nat.le_trans hn1 (HT.out.2 1 (by decide))
        have HD1 : Hid (DK W w5.drew (p 1) (S 1) 1000 3660 s0.1 s0.2) := Lib.hid (by
          have h := D1
          rw [putN_other _ _ (by decide), putN_other _ _ (by decide), HST.out.2.1] at h
          exact DK.more h hn1')
        have hpe := pending_K HD1
        have hcr := crash_K (s0.2.length : Int) tear HD1 (by have := HB0.out.len; unfold maxLen; omega) (by have := HB0.out.len; omega) (by have := HB0.out.wt; omega)
        rw [crash_all, ← HH.out] at hcr
        obtain ⟨q0, hq0⟩ : ∃ q0, q0 = s0.2.length := ⟨_, rfl⟩
        have HQ0 : Hid (q0 ≤ 60) := Lib.hid (by have := HB0.out.len; omega)
        rw [← hq0] at hpe hcr
        clear D1 hn1 hq0
        go_region_with (first
          | (go_at_call 16; refine hpe.mono ?_; rintro e w6 ⟨rfl, rfl⟩)
          | (go_at_call 15; refine hcr.mono ?_; rintro e w6 ⟨rfl, H6⟩))
        all_goals
          have HF : Hid (TD W w6 g 3 cpK p (putN (putN S 0 (grow (S 0) wr w5)) 1 (grow (S 1) w5.drew w6)) (fun j => if j = 2 then s2 else (H, [])) (putN (putN N 0 3720) 1 (3660 + q0 + 1)) 3 ∧ ∀ j, j < 3 → putN (putN N 0 3720) 1 (3660 + q0 + 1) j ≤ 3721) := Lib.hid (by
            have h2 := HD6.out.step (i := 1) (w' := w6) (n' := 3660 + q0 + 1) (L' := H) (cs' := []) (by decide) (by rw [putN_other _ _ (by decide)]; exact H6.out.1) (by rw [putN_other _ _ (by decide)]; exact H6.out.2)
            rw [putN_other _ _ (show ¬ (1 : Nat) = 0 by decide)] at h2
            refine ⟨h2.congr fun j hj => ?_, fun j hj => ?_⟩
            · match j, hj with
              | 0, _ => rfl
              | 1, _ => rfl
              | 2, _ => exact HST.out.2.2
            · have := HQ0.out
              have := HT.out.2
              match j, hj with
              | 0, _ => show 3720 ≤ 3721; decide
              | 1, _ => show 3660 + q0 + 1 ≤ 3721; omega
              | 2, h2 => show N 2 ≤ 3721; exact Nat.le_trans (this 2 h2) (by decide))
          clear H6
          first
            | (go_meet; exact ⟨_, _, HF⟩)
            | (go_wp2; go_meet; exact ⟨_, _, HF⟩)
      case rest =>
        obtain ⟨S6, N6, H6⟩ := hcut
        clear HD6 HT5 HT e1
        have e2 := H6.out.1.cell 2 (by decide)
        obtain ⟨n2, hn2, D2⟩ := H6.out.1.dk 2 (by decide)
        have HD2 : Hid (DK W wc (p 2) (S6 2) 1000 3721 s2.1 s2.2) := Lib.hid (DK.more D2 (Nat.le_trans hn2 (H6.out.2 2 (by decide))))
        have hcr := crash_K 0 0 HD2 (by have := HB2.out.1.len; unfold maxLen; omega) (by have := HB2.out.1.len; omega) (by have := HB2.out.1.wt; omega)
        rw [crash_none, HB2.out.2] at hcr
        clear D2 hn2 HD2
        go_wp2_with (fail)
        refine hcr.mono ?_
        rintro e w7 ⟨rfl, H7⟩
        have HT7 : Hid (TD W w7 g 3 cpK p (putN S6 2 (grow (S6 2) wc w7)) (fun j => if j = 2 then ([], []) else (H, [])) (fun _ => 3800) 3) := Lib.hid (by
          have h2 := H6.out.1.step (i := 2) (w' := w7) (L' := []) (cs' := []) (by decide) H7.out.1 H7.out.2
          have h3 := h2.congr (st' := fun j => if j = 2 then ([], []) else (H, [])) (fun j hj => by
            match j, hj with
            | 0, _ => rfl
            | 1, _ => rfl
            | 2, _ => rfl)
          refine ⟨h3.bel, h3.lo, h3.lt, h3.cell, h3.emp, h3.fr, fun j hj => ?_, h3.dis, h3.off⟩
          obtain ⟨n, q1, q2⟩ := h3.dk j hj
          refine ⟨n, Nat.le_trans q1 ?_, q2⟩
          have := H6.out.2
          have := HB2.out.1.len
          match j, hj with
          | 0, h => show N6 0 ≤ 3800; have := H6.out.2 0 h; omega
          | 1, h => show N6 1 ≤ 3800; have := H6.out.2 1 h; omega
          | 2, _ => show 3721 + s2.2.length + 1 ≤ 3800; omega)
        clear H7 H6 hcr e2
        go_upto_region 25 with (fail)
        obtain ⟨wz, hwz⟩ : ∃ wz, wz = w7.drew := ⟨_, rfl⟩
        have HT8 : Hid (TD W wz g 3 cpK p (putN S6 2 (grow (S6 2) wc w7)) (fun j => if j = 2 then ([], []) else (H, [])) (fun _ => 3800) 3) := Lib.hid (by rw [hwz]; exact HT7.out.below (Below.refl _ w7).drew)
        have HLS : Hid (∀ j, j < 2 → ∀ w', Below w7.heap.size w7.drew w' → Calls Try.prog 17 #[.pointer (some ⟨p j, 0, none⟩)] w' fun e w'' => ∃ v, e = .returned v ∧ Hid (LsC w'' v (namesF H) ∧ Below w'.heap.size w' w'')) := Lib.hid (fun j hj w' hb => by
          have hb' : Below w7.heap.size w7 w' := ⟨hb.os, hb.tape, hb.output, hb.size, hb.block⟩
          obtain ⟨n, hn, d⟩ := (HT7.out.below hb').dk j (by omega)
          have hl := list_K (Lib.hid d) (by omega) (by
            have := HHB.out.2.2.2
            match j, hj with
            | 0, _ => exact Nat.le_trans this (by decide)
            | 1, _ => exact Nat.le_trans this (by decide))
          refine hl.mono ?_
          rintro e w'' ⟨v, he, hx⟩
          refine ⟨v, he, Lib.hid ⟨?_, hx.out.2⟩⟩
          match j, hj, hx with
          | 0, _, hx => exact lsc_of hx.out.1
          | 1, _, hx => exact lsc_of hx.out.1)
        have e0 := HT7.out.cell 0 (by decide)
        have e1 := HT7.out.cell 1 (by decide)
        go_cut [9, 10] (fun x y wx => Hid (LsC wx x (namesF H) ∧ LsC wx y (namesF H) ∧ TD W wx g 3 cpK p (putN S6 2 (grow (S6 2) wc w7)) (fun j => if j = 2 then ([], []) else (H, [])) (fun _ => 3800) 3))
        case first =>
          have HCE : Hid (∀ w', Below w7.heap.size w7.drew w' → w'.cell? ⟨g, 0, none⟩ = some (.pointer (some ⟨p 0, 0, none⟩)) ∧ w'.cell? ⟨g, 1, none⟩ = some (.pointer (some ⟨p 1, 0, none⟩))) := Lib.hid (fun w' hb => ⟨(hb.cell (p := ⟨g, 0, none⟩) HT7.out.lt).trans e0, (hb.cell (p := ⟨g, 1, none⟩) HT7.out.lt).trans e1⟩)
          have HL0 : Hid (∀ w', Bel1 w7.drew w' → Calls Try.prog 17 #[.pointer (some ⟨p 0, 0, none⟩)] w' fun e w'' => ∃ v, e = .returned v ∧ (w''.cell? ⟨g, 0, none⟩ = some (.pointer (some ⟨p 0, 0, none⟩)) ∧ w''.cell? ⟨g, 1, none⟩ = some (.pointer (some ⟨p 1, 0, none⟩)) ∧ Bel1 w7.drew w'') ∧ Hid (LsC w'' v (namesF H) ∧ Below w'.heap.size w' w'')) := Lib.hid (fun w' hb => (HLS.out 0 (by decide) w' hb.b).mono fun e w'' ⟨v, he, hx⟩ => by
            have hb2 := hb.b.trans (hx.out.2.mono hb.b.size)
            exact ⟨v, he, ⟨(HCE.out w'' hb2).1, (HCE.out w'' hb2).2, ⟨hb2⟩⟩, hx⟩)
          have HL1 : Hid (∀ w', Bel1 w7.drew w' → Calls Try.prog 17 #[.pointer (some ⟨p 1, 0, none⟩)] w' fun e w'' => ∃ v, e = .returned v ∧ (w''.cell? ⟨g, 0, none⟩ = some (.pointer (some ⟨p 0, 0, none⟩)) ∧ w''.cell? ⟨g, 1, none⟩ = some (.pointer (some ⟨p 1, 0, none⟩)) ∧ Bel1 w7.drew w'') ∧ Hid (LsC w'' v (namesF H) ∧ Below w'.heap.size w' w'')) := Lib.hid (fun w' hb => (HLS.out 1 (by decide) w' hb.b).mono fun e w'' ⟨v, he, hx⟩ => by
            have hb2 := hb.b.trans (hx.out.2.mono hb.b.size)
            exact ⟨v, he, ⟨(HCE.out w'' hb2).1, (HCE.out w'' hb2).2, ⟨hb2⟩⟩, hx⟩)
          have hb0 : Bel1 w7.drew w7.drew := ⟨Below.refl _ _⟩
          go_region_with (first
            | (go_at_call 17; with_reducible refine (HL0.out _ (by assumption)).mono ?_; rintro e w8 ⟨v8, rfl, ⟨a0, a1, hb8⟩, H8⟩)
            | (go_at_call 17; with_reducible refine (HL1.out _ (by assumption)).mono ?_; rintro e w9 ⟨v9, rfl, ⟨a0, a1, hb9⟩, H9⟩))
          all_goals
            have HF : Hid (LsC w9 v8 (namesF H) ∧ LsC w9 v9 (namesF H) ∧ TD W w9 g 3 cpK p (putN S6 2 (grow (S6 2) wc w7)) (fun j => if j = 2 then ([], []) else (H, [])) (fun _ => 3800) 3) := Lib.hid ⟨H8.out.1.below H9.out.2, H9.out.1, HT7.out.below (show Below w7.heap.size w7 w9 from ⟨hb9.b.os, hb9.b.tape, hb9.b.output, hb9.b.size, hb9.b.block⟩)⟩
            clear H8 H9 hb8 hb9
            first
              | (go_meet; exact HF)
              | (go_wp2; go_meet; exact HF)
        case rest =>
          clear HT7 HT8 HLS e0 e1 hwz
          obtain ⟨⟨ax, cx, rfl, hcx⟩, ⟨ay, cy, rfl, hcy⟩, hT⟩ := hcut.out
          obtain ⟨T, HT9⟩ : ∃ T, Hid (TD W wc g 3 cpK p T (fun j => if j = 2 then ([], []) else (H, [])) (fun _ => 3800) 3) := ⟨_, Lib.hid hT⟩
          have HCX := Lib.hid (And.intro hcx hcy)
          have HQL : Hid ((namesF H).length ≤ 60) := Lib.hid (by unfold namesF; rw [List.length_map]; exact HHB.out.2.2.2)
          obtain ⟨q, hq⟩ : ∃ q, q = (namesF H).length := ⟨_, rfl⟩
          obtain ⟨tt, htt⟩ : ∃ tt, tt = totF H := ⟨_, rfl⟩
          have HTT := Lib.hid (And.intro hq htt)
          have HU : Hid (∀ j, j < 2 → ∀ w', Below wc.heap.size wc w' → Calls Try.prog 18 #[.pointer (some ⟨p j, 0, none⟩)] w' fun e w'' => e = .returned (.int .i64 tt) ∧ w' = w'') := Lib.hid (fun j hj w' hb => by
            obtain ⟨n, hn, d⟩ := (HT9.out.below hb).dk j (by omega)
            have h := used_K (Lib.hid d)
            rw [htt]
            match j, hj with
            | 0, _ => exact h
            | 1, _ => exact h)
          have HL2 : Hid (∀ w', Below wc.heap.size wc w' → Calls Try.prog 17 #[.pointer (some ⟨p 2, 0, none⟩)] w' fun e w'' => (∃ a c, e = .returned (.slice a 0 c)) ∧ Hid (Below wc.heap.size wc w'')) := Lib.hid (fun w' hb => by
            obtain ⟨n, hn, d⟩ := (HT9.out.below hb).dk 2 (by omega)
            refine (list_K (Lib.hid d) (by omega) (Nat.zero_le _)).mono ?_
            rintro e w'' ⟨v, he, hx⟩
            obtain ⟨a, c, e1, _⟩ := hx.out.1.sl
            exact ⟨⟨a, c, by rw [he, e1]; rfl⟩, Lib.hid (hb.trans (hx.out.2.mono hb.size))⟩)
          have HU2 : Hid (∀ w', Below wc.heap.size wc w' → Calls Try.prog 18 #[.pointer (some ⟨p 2, 0, none⟩)] w' fun e w'' => e = .returned (.int .i64 0) ∧ w' = w'') := Lib.hid (fun w' hb => by
            obtain ⟨n, hn, d⟩ := (HT9.out.below hb).dk 2 (by omega)
            exact used_K (Lib.hid d))
          have HCE : Hid (∀ w', Below wc.heap.size wc w' → w'.cell? ⟨g, 2, none⟩ = some (.pointer (some ⟨p 2, 0, none⟩))) := Lib.hid (fun w' hb => (hb.cell (p := ⟨g, 2, none⟩) HT9.out.lt).trans (HT9.out.cell 2 (by decide)))
          have HBD : Hid (Below wc.heap.size wc wc.drew) := Lib.hid (Below.refl _ wc).drew
          rw [← hq]
          clear hcut hcx hcy hT hq htt
          go_upto_region 26 with (fail)
          go_cut [123] (fun c wx => c = .bool false ∧ Bel1 wc wx)
          case first =>
            have e0 := HT9.out.cell 0 (by decide)
            have e1 := HT9.out.cell 1 (by decide)
            have e2 := HT9.out.cell 2 (by decide)
            have HC0 := Lib.hid (HU.out 0 (by decide) _ HBD.out)
            have HC1 := Lib.hid (HU.out 1 (by decide) _ HBD.out)
            have HC2 := Lib.hid (HL2.out _ HBD.out)
            clear HS HL hl' HM HB0 HB2 HST HH HHB HTT HQL HT9 HCX HU HL2 HBD hki hk hk3 hM60
            go_region_with (first
              | (go_at_call 18; with_reducible refine HC0.out.mono ?_; rintro e w8 ⟨rfl, rfl⟩)
              | (go_at_call 18; with_reducible refine HC1.out.mono ?_; rintro e w8 ⟨rfl, rfl⟩)
              | (go_at_call 17; with_reducible refine HC2.out.mono ?_; rintro e w8 ⟨⟨a8, c8, rfl⟩, H8⟩; have e3 := HCE.out w8 H8.out; clear e0 e1 e2)
              | (go_at_call 18; with_reducible refine (HU2.out _ H8.out).mono ?_; rintro e w9 ⟨rfl, rfl⟩))
            all_goals
              have HF : Bel1 wc w8 := ⟨H8.out⟩
              clear H8
              first
                | (go_meet; exact ⟨rfl, HF⟩)
                | (go_wp2; go_meet; exact ⟨rfl, HF⟩)
          case rest =>
            obtain ⟨rfl, hbw⟩ := hcut
            have HW : Hid (TD W wc g 3 cpK p T (fun j => if j = 2 then ([], []) else (H, [])) (fun _ => 3800) 3 ∧ LsC wc (.slice ax q cx) (namesF H) ∧ LsC wc (.slice ay q cy) (namesF H)) := Lib.hid (by
              have hq := HTT.out.1
              refine ⟨HT9.out.below hbw.b, LsC.below ⟨ax, cx, by rw [hq], HCX.out.1⟩ hbw.b, LsC.below ⟨ay, cy, by rw [hq], HCX.out.2⟩ hbw.b⟩)
            have hqi : (q : Int) ≤ 9223372036854775807 := by have := HQL.out; have := HTT.out.1; omega
            clear HCE HU HU2 HL2 HT9 hbw HCX HBD
            go_wp2
            go_loopw [11] (fun i wy => ∃ j : Nat, j ≤ q ∧ i = .int .i64 j ∧ Hid (Below wc.heap.size wc wy)) (fun i _ => q - (intOf i).toNat)
            case atStart => exact ⟨0, Nat.zero_le _, rfl, Lib.hid (Below.refl _ _)⟩
            case round =>
              obtain ⟨j, hj, rfl, HB⟩ := hrel
              by_cases hjq : j < q
              · have hjq' : (j : Int) < q := by omega
                obtain ⟨s, hs⟩ : ∃ s, (namesF H)[j]? = some s := ⟨_, List.getElem?_eq_getElem (by have := HTT.out.1; omega)⟩
                have HY : Hid (TD W wr g 3 cpK p T (fun j => if j = 2 then ([], []) else (H, [])) (fun _ => 3800) 3 ∧ LsC wr (.slice ax q cx) (namesF H) ∧ LsC wr (.slice ay q cy) (namesF H)) := Lib.hid ⟨HW.out.1.below HB.out, HW.out.2.1.below HB.out, HW.out.2.2.below HB.out⟩
                have hss : s.size ≤ 64 := by
                  obtain ⟨x, hx, rfl⟩ := List.mem_map.1 (List.mem_of_getElem? hs)
                  exact HHB.out.2.1 x hx
                obtain ⟨b0, hb0, hx0⟩ : ∃ b, ax = some ⟨b, 0, none⟩ ∧ wr.cell? ⟨b, j, none⟩ = some (.string s) := by
                  obtain ⟨a, c, e, h⟩ := HY.out.2.1
                  injection e with e _ _
                  rw [e]
                  exact h j s hs
                obtain ⟨b1, hb1, hx1⟩ : ∃ b, ay = some ⟨b, 0, none⟩ ∧ wr.cell? ⟨b, j, none⟩ = some (.string s) := by
                  obtain ⟨a, c, e, h⟩ := HY.out.2.2
                  injection e with e _ _
                  rw [e]
                  exact h j s hs
                subst hb0
                subst hb1
                have hr0 : ∀ w', Below wr.heap.size wr w' → Calls Try.prog 19 #[.pointer (some ⟨p 0, 0, none⟩), .string s] w' fun e w'' => e = .returned (.tuple #[.string (rdS H s), .int .i64 (rdE H s)]) ∧ w' = w'' := fun w' hb => by
                  obtain ⟨m, _, d⟩ := (HY.out.1.below hb).dk 0 (by decide)
                  exact read_K s (Lib.hid d) (by unfold maxLen; omega)
                have hr1 : ∀ w', Below wr.heap.size wr w' → Calls Try.prog 19 #[.pointer (some ⟨p 1, 0, none⟩), .string s] w' fun e w'' => e = .returned (.tuple #[.string (rdS H s), .int .i64 (rdE H s)]) ∧ w' = w'' := fun w' hb => by
                  obtain ⟨m, _, d⟩ := (HY.out.1.below hb).dk 1 (by decide)
                  exact read_K s (Lib.hid d) (by unfold maxLen; omega)
                obtain ⟨r, hrr⟩ : ∃ r, r = rdS H s := ⟨_, rfl⟩
                obtain ⟨re, hre⟩ : ∃ re, re = rdE H s := ⟨_, rfl⟩
                rw [← hrr, ← hre] at hr0 hr1
                have e0 := HY.out.1.cell 0 (by decide)
                have e1 := HY.out.1.cell 1 (by decide)
                have HSJ := Lib.hid hs
                have HR0 := Lib.hid hr0
                have HR1 := Lib.hid hr1
                clear hs hss hrr hre hr0 hr1
                go_upto_region 31 with (fail)
                have HB0 : Hid (Below wr.heap.size wr wr.drew) := Lib.hid (Below.refl _ wr).drew
                go_cut [12] (fun s wx => s = .string r ∧ Hid (Below wr.heap.size wr wx))
                case first =>
                  go_region_with (go_at_call 19; refine (HR0.out _ HB0.out).mono ?_; rintro e w' ⟨rfl, rfl⟩)
                  all_goals
                    first
                      | (go_meet; exact ⟨rfl, HB0⟩)
                      | (go_wp2; go_meet; exact ⟨rfl, HB0⟩)
                case rest =>
                  obtain ⟨rfl, HB1⟩ := hcut
                  have e1 := (HB1.out.cell (p := ⟨g, 1, none⟩) HY.out.1.lt).trans (HY.out.1.cell 1 (by decide))
                  have hx1 : wc.cell? ⟨b1, j, none⟩ = some (.string s) := by
                    obtain ⟨a, c, e, h⟩ := HY.out.2.2.below HB1.out
                    injection e with e _ _
                    obtain ⟨b, h1, h2⟩ := h j s HSJ.out
                    rw [← e] at h1
                    injection h1 with h1
                    injection h1 with h1 _
                    rw [h1]
                    exact h2
                  have HB2 : Hid (Below wr.heap.size wr wc.drew) := Lib.hid HB1.out.drew
                  go_upto_region 32 with (fail)
                  go_cut [14] (fun s wx => s = .string r ∧ Hid (Below wr.heap.size wr wx))
                  case first =>
                    go_region_with (go_at_call 19; refine (HR1.out _ HB2.out).mono ?_; rintro e w' ⟨rfl, rfl⟩)
                    all_goals
                      first
                        | (go_meet; exact ⟨rfl, HB2⟩)
                        | (go_wp2; go_meet; exact ⟨rfl, HB2⟩)
                  case rest =>
                    obtain ⟨rfl, HB3⟩ := hcut
                    have hx0 : wc.cell? ⟨b0, j, none⟩ = some (.string s) := by
                      obtain ⟨a, c, e, h⟩ := HY.out.2.1.below HB3.out
                      injection e with e _ _
                      obtain ⟨b, h1, h2⟩ := h j s HSJ.out
                      rw [← e] at h1
                      injection h1 with h1
                      injection h1 with h1 _
                      rw [h1]
                      exact h2
                    have hx1 : wc.cell? ⟨b1, j, none⟩ = some (.string s) := by
                      obtain ⟨a, c, e, h⟩ := HY.out.2.2.below HB3.out
                      injection e with e _ _
                      obtain ⟨b, h1, h2⟩ := h j s HSJ.out
                      rw [← e] at h1
                      injection h1 with h1
                      injection h1 with h1 _
                      rw [h1]
                      exact h2
                    have q1 : (s.toList == s.toList) = true := by simp
                    have q2 : (r.toList == r.toList) = true := by simp
                    have HF := Lib.hid (HB.out.trans (HB3.out.mono HB.out.size))
                    clear HB1 HB2 HB3 HB0 HR0 HR1 HY
                    go_upto_region 33 with (fail)
                    go_quiet (fail)
                    go_wp2
                    go_roundw
                    case rel => exact ⟨j + 1, by omega, by simp, Lib.hid (HF.out.trans ((below_dn _ _).mono HF.out.size))⟩
                    case measure => simp [intOf]; omega
              · obtain rfl : j = q := by omega
                have HF := Lib.hid (HW.out.1.bel.trans (HB.out.mono HW.out.1.bel.size))
                go_wp2
                go_ret
                exact ⟨rfl, HF.out⟩

set_option maxRecDepth 100000 in
theorem contract (H : Type) (enc : TypeId × Value → H) (W : World) (base : Nat) (args : Array Value) (ds gs : List (DataW H)) (before : List MemPlace)
    (hval : ∀ (j : Nat) t v, Try.f4.params[j]? = some t → args[j]? = some v → Value.okWide Try.prog W .any base t v)
    (hW : DataW.Whole enc Try.prog Try.f4.params.toList Rows.diskKeepsSpec.vars false W args.toList ds gs before)
    (hz : (DataW.weightsEach Try.prog (Try.f4.params.toList ++ []) (ds ++ gs)).all (· ≤ reachBytes) = true) :
    Calls Try.prog 4 args W fun e W' => ∃ v, e = .returned v ∧ Rows.diskKeepsSpec.post enc Try.prog Try.f4 false true false false W args v W' := by
  have hW' := hW
  obtain ⟨p, q, hA0, hV, rfl, hfz, hnd⟩ := hW
  have hA : DataW.TrodAll enc Try.prog W 0 (fun _ => true) true Try.f4.params.toList args.toList ds p := hA0
  rw [Try.params4] at hA hval hz
  obtain ⟨v0, vs0, d0, ds0, p0, q0, hargs, rfl, rfl, h0, r0⟩ := trodAll_cons hA
  obtain ⟨v1, vs1, d1, ds1, p1, q1, rfl, rfl, rfl, h1, r1⟩ := trodAll_cons r0
  obtain ⟨rfl, rfl, rfl⟩ := trodAll_nil r1
  obtain rfl : args = #[v0, v1] := by cases args; simp_all
  obtain ⟨rfl, rfl⟩ := trodVars_none hV
  have hw0 : ∀ m ∈ d0.weights Try.prog 23, m ≤ reachBytes := fun m hm => by
    have hall := List.all_eq_true.1 hz m (DataW.weights_mem_each (j := 0) (t := 23) rfl rfl m hm)
    simpa using hall
  obtain ⟨A, len, cap, it, rfl, hl, hS⟩ := open_acts (hval 0 23 v0 rfl rfl) h0 hw0
  obtain ⟨x1, rfl, rfl, rfl, w1⟩ := open_int Try.underlying3 (hval 1 3 v1 rfl rfl) h1
  have b1 := i64_of_wf w1
  clear hA0
  refine (walk A len cap it x1 W hl hS).mono fun e W' ⟨he, hb⟩ => ?_
  subst he
  exact ⟨_, rfl, law_end hW' rfl rfl hb laidOut (by kernel_rfl) (by kernel_rfl) Try.underlying4⟩

theorem reads (os : Os) {H : Type} (enc : TypeId × Value → H) : ∃ places, DataW.whole enc Try.prog ((World.holding Try.prog os ⟨#[], #[], []⟩).forCall (fun _ _ => 0) ⟨#[], #[.slice none 0 0, .int .i64 0], []⟩).memory Try.f4.params.toList Rows.diskKeepsSpec.vars false [Value.slice none 0 0, Value.int .i64 0] 8 = some ([.nil, .lit (.int .i64 0)], [], places) :=
  ⟨[], by kernel_rfl⟩

set_option maxRecDepth 100000 in
theorem lifted (os : Os) (started : os.Started) (H : Type) (enc : TypeId × Value → H) (F : Stop.Interp) :
    ReturnsInHanded {} Try.checked os 4 .any ((OpenSpec.ofChange Rows.diskKeepsSpec).preRow enc Try.prog Try.f4 Rows.diskKeepsRow.domain false Rows.diskKeepsRow.laid) (((OpenSpec.ofChange Rows.diskKeepsSpec).at F).post enc Try.prog Try.f4 false true false false) := by
  obtain ⟨places, hx⟩ := reads os enc
  have laid_met : laidMet Try.prog Rows.diskKeepsRow.laid ((World.holding Try.prog os ⟨#[], #[], []⟩).forCall (fun _ _ => 0) ⟨#[], #[.slice none 0 0, .int .i64 0], []⟩).memory := ⟨[], rfl, List.nodup_nil, fun _ _ h => by cases h⟩
  refine returnsInHanded_of_row (C := Try.checked) (s := OpenSpec.ofChange Rows.diskKeepsSpec) own started (by kernel_rfl) Try.func4
    (witness_row_at (enc := enc) (C := Try.checked) false (World.holding Try.prog os ⟨#[], #[], []⟩) #[.slice none 0 0, .int .i64 0] rfl (by kernel_rfl) (by kernel_rfl) (by kernel_rfl)
      (OpenSpec.preRow_of_cond 8 hx (by kernel_rfl) (fun k hk => by cases hk) (by kernel_rfl) laid_met)) ?_
  intro W base args ds gs before hval hW _ _ hz _ _ _
  exact contract H enc W base args ds gs before hval hW hz

theorem said : Rows.DiskKeepsSaid :=
  OpenClaim.holds_of_cond 4 Try.f4 rfl rfl rfl rfl rfl rfl rfl ⟨rfl, rfl, rfl, rfl, rfl⟩ rfl rfl rfl rfl rfl (by kernel_rfl) Try.func4 (by kernel_rfl)
    (of_decide_eq_true (by kernel_rfl)) (by unfold Func.isWrapper; first | (rw [if_pos (by decide +kernel)]; kernel_rfl) | (rw [if_neg (by decide +kernel)]; exact ⟨rfl, rfl⟩))
    (fun os started H enc _ F => by rw [OpenClaim.pre_eq_preRow]; exact lifted os started H enc F)

end Go.Proofs.Ytidfaldgcojfiaa.fnDiskKeeps
