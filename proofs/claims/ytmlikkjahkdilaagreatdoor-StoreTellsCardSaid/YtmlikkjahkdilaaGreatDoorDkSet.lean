/- Package disk: the first changes are settled, whatever they are. -/
import Derived.Test.YtmlikkjahkdilaaGreatDoorDkRep
namespace Go.Proofs.YtmlikkjahkdilaaGreatDoor
open Go.RowKit Go.Maps

/-- behind the first k changes, done to map m -/
def Apl (B : Nat) (w wr : World) (m n : Nat) (G : Hv) (L : Fs) (cs : List Chg) (k : Nat) : Prop :=
  ∃ G', FsR B wr m (n + k) G' (held L (cs.take k)) ∧ Tch w wr (fun b => b = m ∨ Rows G b) ∧ ∀ b, Rows G' b → Rows G b ∨ w.heap.size ≤ b
theorem apl_zero {B : Nat} {w : World} {m n : Nat} {G : Hv} {L : Fs} (cs : List Chg) (h : FsR B w m n G L) : Apl B w w m n G L cs 0 :=
  ⟨G, h, Tch.refl _ _, fun _ hb => .inl hb⟩
theorem held_take {L : Fs} {cs : List Chg} {k : Nat} {c : Chg} (h : cs[k]? = some c) : held L (cs.take (k + 1)) = doC (held L (cs.take k)) c := by
  rw [List.take_add_one, h]
  exact held_one _ _ _
theorem apl_next {B : Nat} {w wr w' : World} {m n k : Nat} {G G1 : Hv} {L : Fs} {cs : List Chg} {c : Chg} (hc : cs[k]? = some c) (ht : Tch w wr (fun b => b = m ∨ Rows G b)) (hg : ∀ b, Rows G1 b → Rows G b ∨ w.heap.size ≤ b)
    (h : DoPost B wr w' m (n + k) G1 (held L (cs.take k)) c) : Apl B w w' m n G L cs (k + 1) := by
  obtain ⟨G2, h1, h2, h3⟩ := h
  refine ⟨G2, by rw [held_take hc]; exact h1, ht.then h2 (fun i hi hs => ?_), fun b hb => ?_⟩
  · rcases hs with hs | hs
    · exact .inl hs
    · rcases hg i hs with k | k
      · exact .inr k
      · omega
  · rcases h3 b hb with k | k
    · exact hg b k
    · exact .inr (Nat.le_trans ht.size k)
theorem tch_drew {w w' : World} {S : Nat → Prop} (h : Tch w.drew w' S) : Tch w w' S := ⟨h.os, h.tape, h.output, h.size, h.block⟩
theorem FsR.drew {B : Nat} {w : World} {m n : Nat} {G : Hv} {L : Fs} (h : FsR B w m n G L) : FsR B w.drew m n G L := h.tch (S := fun _ => False) (tch_below _ (Below.refl _ _).drew) (fun e => e) (fun _ _ e => e)
/-- the changes' row -/
abbrev Cr (w : World) (B : Nat) (chg : Value) (cs : List Chg) : Prop := w.ownsRow B 71 1 chg cs.length (cs.map cV)
theorem Cr.form {w : World} {B : Nat} {chg : Value} {cs : List Chg} (h : Cr w B chg cs) : (chg = .slice none 0 0 ∧ cs = []) ∨ ∃ g c, chg = .slice (some ⟨g, 0, none⟩) cs.length c ∧ cs.length ≤ c ∧ c ≤ maxLen := by
  rcases h.2 with ⟨h1, h0⟩ | ⟨g, cap, cur, h1, _, _, h2, h3, _⟩
  · exact .inl ⟨h1, List.eq_nil_of_length_eq_zero h0⟩
  · exact .inr ⟨g, cap, h1, h2, h3⟩
theorem Cr.cell {w : World} {B g c : Nat} {cs : List Chg} (h : Cr w B (.slice (some ⟨g, 0, none⟩) cs.length c) cs) {k : Nat} {d : Chg} (hk : cs[k]? = some d) : w.cell? ⟨g, k, none⟩ = some (cV d) := by
  have hl := (List.getElem?_eq_some_iff.1 hk).1
  rw [World.ownsRow.cellAt h k (by omega)]
  simp [hk]
theorem rows_chg {w : World} {B m n b : Nat} {G : Hv} {L : Fs} {chg : Value} {cs : List Chg} (h : FsR B w m n G L) (hc : Cr w B chg cs) (hb : chg.ownBlock = some b) : ¬ (b = m ∨ Rows G b) := fun e => e.elim (h.gf.apart (row_at hc hb)) (fun e => cells_apart (row_at hc hb) (h.rows_at e).2.2 (by decide) rfl)
theorem rows_p {w : World} {B m n p : Nat} {G : Hv} {L : Fs} {cp u : Int} {l c hh : Value} (h : FsR B w m n G L) (hk : DiskAt w p cp l c hh u) : ¬ (p = m ∨ Rows G p) := fun e => e.elim (h.gf.apart hk.ty) (fun e => cells_apart hk.ty (h.rows_at e).2.2 (by decide) rfl)
theorem FsR.setp {w : World} {B m n p : Nat} {G : Hv} {L : Fs} {cp u : Int} {l c hh : Value} (h : FsR B w m n G L) (hk : DiskAt w p cp l c hh u) (i : Nat) (X : Value) : FsR B (w.setCell ⟨p, i, none⟩ X) m n G L :=
  h.tch (tch_set w ⟨p, i, none⟩ X) (fun e => rows_p h hk (.inl e.symm)) (fun b hb e => by
    have e : b = p := e
    subst e
    exact rows_p h hk (.inr hb))
/-- behind the settling of k changes -/
def SetP (B : Nat) (w w' : World) (p l n k : Nat) (cp used : Int) (held0 : Value) (G : Hv) (L : Fs) (cs : List Chg) : Prop :=
  ∃ G' chg', DiskAt w' p cp (.map (some l)) chg' held0 used ∧ FsR B w' l (n + k) G' (held L (cs.take k)) ∧ Tch w w' (fun b => b = p ∨ b = l ∨ Rows G b) ∧ (∀ b, Rows G' b → Rows G b ∨ w.heap.size ≤ b) ∧
    ∃ a' c', chg' = .slice a' (cs.length - k) c' ∧ ∀ d, cs[k]? = some d → ∃ g o, a' = some ⟨g, o, none⟩ ∧ w'.cell? ⟨g, o, none⟩ = some (cV d)
set_option maxRecDepth 100000 in
set_option maxHeartbeats 4000000 in
theorem settle_some {B : Nat} {w : World} {p l n : Nat} {cp used : Int} {held0 : Value} {G : Hv} {L : Fs} {cs : List Chg} (k g c : Nat) (hk : DiskAt w p cp (.map (some l)) (.slice (some ⟨g, 0, none⟩) cs.length c) held0 used) (ho : FsR B w l n G L)
    (hcs : Cr w B (.slice (some ⟨g, 0, none⟩) cs.length c) cs) (hkn : k ≤ cs.length) (hc : cs.length ≤ c) (hc2 : c ≤ maxLen) (hok : ∀ c ∈ cs, okC c) (hB : B ≤ w.heap.size) (hn : n + cs.length < maxLen) (hsz : totF L + wts cs ≤ 140737488355328) :
    Calls Tryz.prog 34 #[.pointer (some ⟨p, 0, none⟩), .int .i64 k] w fun e w' => e = .returned (.tuple #[]) ∧ SetP B w w' p l n k cp used held0 G L cs := by
  have a1 := rows_p ho hk
  have HA := Lib.hid (And.intro a1 (And.intro (rows_chg ho hcs rfl) (cells_apart (row_at hcs rfl) hk.ty (by decide) : ¬ g = p)))
  have HK := Lib.hid hk
  have HO := Lib.hid ho
  have HC := Lib.hid hcs
  have HSZ := Lib.hid (And.intro hB (And.intro hn (And.intro hsz hok)))
  obtain ⟨c0, c1, c2, c3, c4, fr, ty⟩ := hk
  obtain ⟨q, hq⟩ : ∃ q, q = cs.length := ⟨_, rfl⟩
  have HQ := Lib.hid hq
  rw [← hq] at c2 hkn hc HK HC
  clear ty a1 ho hcs hq hB hsz hn hok
  have hn1 : (k : Int) ≤ (c : Int) := by omega
  have hn2 : (k : Int) ≤ (q : Int) := by omega
  have hn3 : k ≤ c := by omega
  have hci : (c : Int) ≤ 9223372036854775807 := by unfold maxLen at hc2; omega
  have hqc : (q : Int) ≤ (c : Int) := by omega
  go_enter Tryz.func34, Tryz.ntmps34
  go_wp2
  go_loopw [13] (fun i wr => ∃ (j : Nat), j ≤ k ∧ i = .int .i64 j ∧ Hid (Apl B w wr l n G L cs j)) (fun i _ => k - (intOf i).toNat)
  case atStart => exact ⟨0, by omega, rfl, Lib.hid (apl_zero cs HO.out)⟩
  case round =>
    obtain ⟨j, hjk, rfl, HR⟩ := hrel
    obtain ⟨G1, hf1, ht1, hg1⟩ := HR.out
    have D1 := HK.out.tch ht1 HA.out.1
    have C1 : Cr wr B (.slice (some ⟨g, 0, none⟩) cs.length c) cs := row_tch (by rw [← HQ.out]; exact (by have := HC.out; rwa [HQ.out] at this ⊢)) ht1 (fun b hb => by
      simp [Value.ownBlock] at hb
      subst hb
      exact HA.out.2.1)
    have HD1 := Lib.hid D1
    clear c0 c1 c2 c3 c4 fr
    by_cases hlt : j < k
    · obtain ⟨d, hd⟩ : ∃ d, cs[j]? = some d := ⟨_, List.getElem?_eq_getElem (by have := HQ.out; omega)⟩
      have hx := C1.cell hd
      have d1 := D1.c1
      have hki : (j : Int) < (k : Int) := by omega
      have hki2 : (j : Int) < (q : Int) := by omega
      obtain ⟨t, a, f, hfn, hcv, hna, hme, hdo⟩ := chg_do d
      have hmem : d ∈ cs := List.mem_of_getElem? hd
      have htot : totF (held L (cs.take j)) + wtC d ≤ 140737488355328 := by
        have h1 := tot_held HO.out.srt (cs.take (j + 1)) (fun x hx => HSZ.out.2.2.2 x (List.mem_of_mem_take hx))
        have h2 := tot_held HO.out.srt (cs.take j) (fun x hx => HSZ.out.2.2.2 x (List.mem_of_mem_take hx))
        have h3 : wts (cs.take (j + 1)) = wts (cs.take j) + wtC d := by rw [List.take_add_one, hd, wts_app]; simp [wts]
        have h4 : wts (cs.take (j + 1)) + wts (cs.drop (j + 1)) = wts cs := by rw [← wts_app, List.take_append_drop]
        have := HSZ.out.2.2.1
        omega
      have hdo := hdo B wr.drew l (n + j) G1 (held L (cs.take j)) hf1.drew (HSZ.out.2.2.2 d hmem) (by have := HSZ.out.2.1; have := HQ.out; omega) (Nat.le_trans HSZ.out.1 ht1.size) htot
      rw [hcv] at hx
      have HD := Lib.hid hd
      have HT1 := Lib.hid (And.intro ht1 hg1)
      have hw2 : IntKind.i64.wrap ((j : Int) + 1) = (j : Int) + 1 := IntWalk.i64_in _ (by omega)
      clear D1 C1 hd htot hmem hcv ht1 hg1 hf1
      go_upto_region 3 with (fail)
      rcases hfn with rfl | rfl | rfl
      all_goals
        go_region_with (first
          | (go_at_call 36; refine hdo.mono ?_; rintro e w1 ⟨rfl, h1⟩)
          | (go_at_call 162; refine hdo.mono ?_; rintro e w1 ⟨rfl, h1⟩)
          | (go_at_call 161; refine hdo.mono ?_; rintro e w1 ⟨rfl, h1⟩))
        all_goals
          have H1 : Hid (Apl B w w1 l n G L cs (j + 1)) := Lib.hid (apl_next HD.out HT1.out.1 HT1.out.2 (by
            obtain ⟨G2, q1, q2, q3⟩ := h1
            exact ⟨G2, q1, tch_drew q2, q3⟩))
          clear h1 hdo
          go_wp2
          go_round
          case rel => exact ⟨j + 1, by omega, by simp, H1⟩
          case measure => simp [intOf]; omega
    · obtain rfl : j = k := by omega
      have d2 := D1.c2
      have f2 := D1.fr 2
      have hfin : ∀ (X' : Value) (a' : Option Addr) (c' : Nat), X' = .slice a' (q - j) c' → (∀ d, cs[j]? = some d → ∃ g o, a' = some ⟨g, o, none⟩ ∧ wr.cell? ⟨g, o, none⟩ = some (cV d) ∧ ¬ g = p) → SetP B w (wr.setCell ⟨p, 2, none⟩ X') p l n j cp used held0 G L cs := by
        intro X' a' c' hX hcell
        have ts := tch_set wr ⟨p, 2, none⟩ X'
        refine ⟨G1, X', HD1.out.chg X', hf1.setp HD1.out 2 X', ((Tch.refl w _).then ht1 (fun i _ h => .inr h)).then ts (fun i _ h => .inl h), hg1, a', c', by rw [hX, HQ.out], fun d hd => ?_⟩
        obtain ⟨g', o, e1, e2, e3⟩ := hcell d hd
        exact ⟨g', o, e1, (World.cell?_setCell_other _ _ _ _ (by intro e; injection e with e _ _; exact e3 e.symm)).trans e2⟩
      have HF := Lib.hid hfin
      have HC1 := Lib.hid (And.intro C1 HA.out.2.2)
      have hnn : ¬ (j : Int) < (j : Int) := by omega
      clear hfin D1 C1 hlt ht1 hg1 hf1
      by_cases hcn : c = j
      · have hcn2 : (c = j) = True := by simp [hcn]
        have HCN := Lib.hid hcn
        clear hcn
        go_wp2
        go_end0
        refine ⟨rfl, HF.out _ _ _ rfl fun d hd => ?_⟩
        have := (List.getElem?_eq_some_iff.1 hd).1
        have := HQ.out
        have := HCN.out
        omega
      · have HCN := Lib.hid hcn
        go_wp2
        go_end0
        refine ⟨rfl, HF.out _ _ _ rfl fun d hd => ?_⟩
        exact ⟨g, j, rfl, HC1.out.1.cell hd, HC1.out.2⟩
theorem settle_F {B : Nat} {w : World} {p l n : Nat} {cp used : Int} {chg held0 : Value} {G : Hv} {L : Fs} {cs : List Chg} (k : Nat) (hk : DiskAt w p cp (.map (some l)) chg held0 used) (ho : FsR B w l n G L)
    (hcs : Cr w B chg cs) (hkn : k ≤ cs.length) (hok : ∀ c ∈ cs, okC c) (hB : B ≤ w.heap.size) (hn : n + cs.length < maxLen) (hsz : totF L + wts cs ≤ 140737488355328) :
    Calls Tryz.prog 34 #[.pointer (some ⟨p, 0, none⟩), .int .i64 k] w fun e w' => e = .returned (.tuple #[]) ∧ SetP B w w' p l n k cp used held0 G L cs := by
  rcases hcs.form with ⟨rfl, rfl⟩ | ⟨g, c, rfl, hc, hc2⟩
  · obtain rfl : k = 0 := by simpa using hkn
    refine (settle_none_any p cp used _ held0 w hk).mono ?_
    rintro e w' ⟨he, rfl⟩
    have ts := tch_set w ⟨p, 2, none⟩ nilS
    exact ⟨he, G, nilS, hk.chg _, ho.setp hk 2 nilS, (Tch.refl w _).then ts (fun _ _ e => .inl e), fun _ hb => .inl hb, none, 0, rfl, fun d hd => by simp at hd⟩
  · exact settle_some k g c hk ho hcs hkn hc hc2 hok hB hn hsz
end Go.Proofs.YtmlikkjahkdilaaGreatDoor
