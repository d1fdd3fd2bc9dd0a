/- TopScheduled is true for all places, numbers of reduces and failures: workers that are given the nearest task that is ready come to the end as soon as they stop failing. Its condition: what it reads is of bulk at most 1048576. -/
import Derived.Test.YtilobnplmkmmpaaAtmEJ
import Derived.Test.YtilobnplmkmmpaaPlnIn
import Derived.Test.YtilobnplmkmmpaaPlnMath
import Derived.Test.YtilobnplmkmmpaaSlices
import Derived.Laws.OwnMore
import Derived.Deep.RegionHeld3
import Derived.Deep.RegionLaw
import Derived.Deep.AppendLies
import Derived.Deep.CutBlock
import Derived.Deep.DeepCutAuto
import Derived.IntWalk

import Derived.Test.YtilobnplmkmmpaaLawEnd

import Derived.Test.YtilobnplmkmmpaaPlainKit

namespace Go.Proofs.Ytilobnplmkmmpaa.fnTopScheduled
open Go.ChangeShapes Go.WideShapes Go.ChangeAt Go.RowKit Go.WideMaps Go.WideElems
open Go.ChangeMaps (open_string)

theorem infoIntS : (Try.prog.info? 3).map (fun i => (i.zero, i.size, i.bytes)) = some (some (.int .i64 0), 1, 8) := by kernel_rfl
theorem make64 (n : Nat) (hn : n ≤ 1048576) : ∀ w : World, (Instr.makeSlice 23 (.int .i64 (n : Int)) (.int .i64 (n : Int))).run Try.prog w =
    .ok (.slice (some ⟨w.heap.size, 0, none⟩) n n) (w.alloc (.cells (madeCells #[.int .i64 0] n) 3)) := by
  intro w
  obtain ⟨i, hi, hz0, hz1, hz2⟩ := info_parts infoIntS
  have := run_make (P := Try.prog) w 23 3 i (.int .i64 0) Try.underlying23 hi hz0 .i64 .i64 n n (by omega) (by omega) (by rw [hz2]; omega) (by omega)
  simpa [hz1, Value.cells] using this
theorem ei_new3 (m r : Nat) (hm : m ≤ 50) (hr : r ≤ 50) : EI (newB (m : Int) (r : Int) 1 3) m (m + r) 0 0 ∧ (newB (m : Int) (r : Int) 1 3).om = m ∧ (newB (m : Int) (r : Int) 1 3).orr = r := by
  have e1 : cnt (m : Int) = m := by unfold cnt; omega
  have e2 : cnt (r : Int) = r := by unfold cnt; omega
  have eb : newB (m : Int) (r : Int) 1 3 = ⟨m, m + r, fun _ => ⟨[], 0, 0⟩, 1, 3, false⟩ := by unfold newB; rw [e1, e2]; rfl
  rw [eb]
  have o1 : opn (fun _ => ⟨[], 0, 0⟩) 0 m = m := opn_new _ _
  have o2 : opn (fun _ => ⟨[], 0, 0⟩) m (m + r - m) = r := by rw [opn_new]; omega
  refine ⟨⟨rfl, rfl, rfl, fun _ => rfl, ⟨fun _ h => absurd rfl h, fun _ => Nat.le_refl _, fun _ => Nat.le_refl _⟩, ?_⟩, o1, o2⟩
  show 0 + opn _ 0 m + opn _ m (m + r - m) = m + r
  rw [o1, o2]
  omega
def begL (b : Bd) (n : Nat) : List Value := (List.range n).map fun j => .int .i64 ((b.T j).A.length : Int)
theorem begL_at (b : Bd) (n i : Nat) (h : i < n) : (begL b n)[i]? = some (.int .i64 ((b.T i).A.length : Int)) := by unfold begL; rw [List.getElem?_map, List.getElem?_range h]; rfl
theorem begL_new (m r : Int) (n : Nat) : begL (newB m r 1 3) n = List.replicate n (.int .i64 0) := by
  refine List.ext_getElem? fun i => ?_
  by_cases h : i < n
  · rw [begL_at _ n i h, List.getElem?_replicate, if_pos h]; rfl
  · rw [List.getElem?_eq_none (by simp [begL]; omega), List.getElem?_eq_none (by simp; omega)]
theorem begL_set (b b' : Bd) (n r : Nat) (hr : (b'.T r).A.length = (b.T r).A.length + 1) (ho : ∀ j, j ≠ r → (b'.T j).A.length = (b.T j).A.length) : (begL b n).set r (.int .i64 (((b.T r).A.length : Int) + 1)) = begL b' n := by
  refine List.ext_getElem? fun i => ?_
  by_cases hi : i < n
  · rw [begL_at b' n i hi, List.getElem?_set]
    by_cases e : r = i
    · subst e
      rw [if_pos rfl, if_pos (by simpa [begL] using hi), hr]
      congr 2
    · rw [if_neg e, begL_at b n i hi, ho i fun e' => e e'.symm]
  · rw [List.getElem?_eq_none (by simp [begL]; omega), List.getElem?_eq_none (by simp [begL]; omega)]
theorem begL_same {b b' : Bd} {n : Nat} (h : ∀ j, (b'.T j).A.length = (b.T j).A.length) : begL b' n = begL b n := by
  unfold begL
  exact List.map_congr_left fun j _ => by rw [h j]
/-- the law's memory between two rounds -/
structure TS (W w : World) (p : Nat) (b : Bd) (m n gb won i : Nat) : Prop where
  ab : AB W w p b
  ei : EI b m n won i
  beg : w.ownsRow W.heap.size 3 1 (.slice (some ⟨gb, 0, none⟩) n n) n (begL b n)
theorem TS.below {W w w' : World} {p : Nat} {b : Bd} {m n gb won i : Nat} (h : TS W w p b m n gb won i) (hb : Below w.heap.size w w') : TS W w' p b m n gb won i := ⟨h.ab.below hb, h.ei, own_below h.beg hb⟩
def hcx (t : Tsk) : List Value := (List.range t.h).map fun k => .complex .f64 (t.x k) (t.y k)
/-- the tasks that are ready, as the law lays them out -/
structure TKs (B : Nat) (w : World) (v : Value) (j : Nat) (L : List Nat) (T : Nat → Tsk) : Prop where
  row : w.ownsRow B 31 2 v j (tkL T j)
  id : ∀ i, i < j → (T i).id = (L.getD i 0 : Int)
  hd : ∀ i, i < j → (T i).h ≤ 1 ∧ w.ownsRow B 32 1 (.slice (T i).a (T i).h (T i).c) (T i).h (hcx (T i))
theorem own_hcx {w : World} {B B' : Nat} {t : Tsk} (h : w.ownsRow B 32 1 (.slice t.a t.h t.c) t.h (hcx t)) (hB : w.heap.size ≤ B') : SlOf w B' t.a t.h fun i => .complex .f64 (t.x i) (t.y i) := fun i hi => by
  obtain ⟨g, c', e, _, _⟩ := h.form (by omega)
  injection e with e _ _
  rw [e] at h
  have k := h.cellAt i (by omega)
  unfold hcx at k
  rw [List.getElem?_map, List.getElem?_range hi] at k
  exact ⟨g, 0, e, by have := lt_of_cell' k; omega, by rw [Nat.zero_add]; exact k⟩
theorem TKs.below {B j : Nat} {w w' : World} {v : Value} {L : List Nat} {T : Nat → Tsk} (h : TKs B w v j L T) (hb : Below w.heap.size w w') : TKs B w' v j L T := ⟨own_below h.row hb, h.id, fun i hi => ⟨(h.hd i hi).1, own_below (h.hd i hi).2 hb⟩⟩
theorem TKs.tks {B j cap : Nat} {w : World} {A : Option Addr} {L : List Nat} {T : Nat → Tsk} (h : TKs B w (.slice A j cap) j L T) : Tks w w.heap.size A j T := fun i hi => by
  obtain ⟨g, c', e, _, _⟩ := h.row.form (by omega)
  injection e with e _ _
  subst e
  have k := fun q (hq : q < 2) => (h.row.cellAt (i * 2 + q) (show i * 2 + q < j * 2 by omega)).trans (tkL_at T j i hi q hq)
  have k0 := k 0 (by omega)
  have k1 := k 1 (by omega)
  exact ⟨⟨by have := (h.hd i hi).1; omega, own_hcx (h.hd i hi).2 (Nat.le_refl _)⟩, g, 0, rfl, lt_of_cell' k0, by rw [Nat.zero_add]; exact k0, by rw [Nat.zero_add]; exact k1⟩
theorem TKs.push {B j : Nat} {w w1 w' : World} {v v' : Value} {L : List Nat} {T : Nat → Tsk} (h : TKs B w v j L T) (t : Tsk) (hb : Below w.heap.size w w1) (ht : t.id = (L.getD j 0 : Int)) (h1 : t.h ≤ 1) (hr : w1.ownsRow B 32 1 (.slice t.a t.h t.c) t.h (hcx t))
    (hg : w1.grownBy w' v.ownBlock) (ho : w'.ownsRow B 31 2 v' (j + 1) (tkL T j ++ [.int .i64 t.id, .slice t.a t.h t.c])) : ∃ T', TKs B w' v' (j + 1) L T' := by
  have h2 := h.below hb
  have hrr := h2.row
  have hT : ∀ i, i < j → (fun i => if i = j then t else T i) i = T i := fun i hi => by simp [show ¬ i = j by omega]
  refine ⟨fun i => if i = j then t else T i, ?_, fun i hi => ?_, fun i hi => ?_⟩
  · rw [tkL_succ, tkL_congr hT]
    simpa [tkC] using ho
  · by_cases e : i = j
    · subst e; simpa using ht
    · simpa [e] using h.id i (by omega)
  · by_cases e : i = j
    · subst e
      simp only [if_true]
      exact ⟨h1, hr.kept hg (rows_apart5 hrr hr (by decide))⟩
    · simp only [if_neg e]
      have hj' := h2.hd i (by omega)
      exact ⟨hj'.1, hj'.2.kept hg (rows_apart5 hrr hj'.2 (by decide))⟩
theorem infoTaskS : (Try.prog.info? 31).map (fun i => (i.zero, i.size, i.bytes)) = some (some (.agg #[.int .i64 0, .slice none 0 0]), 2, 32) := by kernel_rfl
theorem TS.begun {W w w6 : World} {p : Nat} {b b1 : Bd} {m n gb won i r : Nat} (h : TS W w p b m n gb won i) (ha : AB W w6 p b1) (hf : AF w w6) (hr : r < n) (h1 : (b1.T r).A.length = (b.T r).A.length + 1) (h2 : ∀ j, j ≠ r → (b1.T j).A.length = (b.T j).A.length) :
    w6.cell? ⟨gb, r, none⟩ = some (.int .i64 ((b.T r).A.length : Int)) ∧ w6.frozen? ⟨gb, r, none⟩ = false ∧ AB W (w6.setCell ⟨gb, r, none⟩ (.int .i64 (((b.T r).A.length : Int) + 1))) p b1 ∧
    (w6.setCell ⟨gb, r, none⟩ (.int .i64 (((b.T r).A.length : Int) + 1))).ownsRow W.heap.size 3 1 (.slice (some ⟨gb, 0, none⟩) n n) n (begL b1 n) := by
  have hb : Bears w gb 3 := own_bears h.beg rfl
  have e6 := hf gb _ hb (by decide) (by decide) (by decide)
  have ho : w6.ownsRow W.heap.size 3 1 (.slice (some ⟨gb, 0, none⟩) n n) n (begL b n) := own_same h.beg fun g hg => by
    obtain rfl : gb = g := by simpa [Value.ownBlock] using hg
    exact e6
  have hb6 : Bears w6 gb 3 := own_bears ho rfl
  have hlo : W.heap.size ≤ gb := (World.ownsRow.lt ho gb rfl).1
  refine ⟨(ho.cellAt r (by omega)).trans (begL_at b n r hr), ho.frozenAt r, ⟨ha.bel.setCell (p := ⟨gb, r, none⟩) hlo _, ?_, ha.mn, ha.nn, ha.lim, ha.pat⟩, ?_⟩
  · obtain ⟨tb, hh, hraw⟩ := ha.raw
    exact ⟨tb, hh, hraw.same fun c e hc he => set_block _ _ _ (bears_apart hc hb6 (by rcases he with rfl | rfl | rfl <;> decide))⟩
  · have := (ho.stored r (.int .i64 (((b.T r).A.length : Int) + 1))).1
    rwa [begL_set b b1 n r h1 h2] at this
theorem TS.after {W w7 w8 : World} {p : Nat} {b1 b2 : Bd} {m n gb won i : Nat} (ho : w7.ownsRow W.heap.size 3 1 (.slice (some ⟨gb, 0, none⟩) n n) n (begL b1 n)) (ha : AB W w8 p b2) (hf : AF w7 w8) (he : EI b2 m n won i) (hl : ∀ j, (b2.T j).A.length = (b1.T j).A.length) : TS W w8 p b2 m n gb won i :=
  ⟨ha, he, by
    rw [begL_same hl]
    exact own_same ho fun g hg => hf g _ (own_bears ho hg) (by decide) (by decide) (by decide)⟩
theorem EI.next {b : Bd} {m n won i : Nat} (h : EI b m n won i) : EI b m n won (i + 1) := ⟨h.hm, h.hn, h.dead, h.idle, h.bi.more (Nat.le_succ _), h.cnt⟩
theorem beg_lens (b : Bd) (r : Nat) (nd now : Int) : ((setTk b r (begT (b.T r) nd now)).T r).A.length = (b.T r).A.length + 1 ∧ ∀ j, j ≠ r → ((setTk b r (begT (b.T r) nd now)).T j).A.length = (b.T j).A.length :=
  ⟨by rw [setTk_at, beg_len], fun j e => by rw [setTk_off _ _ e]⟩
set_option maxRecDepth 100000 in
set_option maxHeartbeats 16000000 in
theorem walk0 (i0 : TypeInfo) (HI0 : Hid (Try.prog.info? 31 = some i0 ∧ i0.zero = some (.agg #[.int .i64 0, .slice none 0 0]) ∧ i0.size = 2 ∧ i0.bytes = 32)) (a0 : Option Addr) (qn qc : Nat) (it : Nat → Pr) (x1 : Int) (A : Option Addr) (len cap : Nat) (zs : List Int) (W : World) (hq : Prs W W.heap.size a0 qn it) (hqn : qn ≤ 1048576) (hqc : qn ≤ qc) (hx1 : -9223372036854775808 ≤ x1 ∧ x1 ≤ 9223372036854775807) (hlen : len ≤ 1048576) (hS : SlOf W W.heap.size A len (fun i => .int .i64 (zs.getD i 0))) :
    Calls Try.prog 3 #[.slice a0 qn qc, .int .i64 x1, .slice A len cap] W fun e w' => e = .returned (.bool true) ∧ Below W.heap.size W w' := by
  have HS := Lib.hid hS
  have HQ := Lib.hid hq
  clear hS hq
  go_enter Try.func3, Try.ntmps3
  go_upto_region 1 with (fail)
  go_cut [28] from 23 to 28 (fun s wx => (∃ t : Bool, s = .bool t ∧ (t = false → 0 ≤ x1 ∧ x1 ≤ 9)) ∧ W = wx)
  case first =>
    by_cases h1 : x1 < 0
    · have d1 : decide (x1 < 0) = true := decide_eq_true h1
      clear h1
      go_wp2
      go_meet
      exact ⟨⟨true, rfl, fun h => by cases h⟩, rfl⟩
    · have d1 : decide (x1 < 0) = false := decide_eq_false h1
      have h4 := Lib.hid (show 0 ≤ x1 by omega)
      clear h1
      cases d4 : decide (9 < x1)
      · have h5 := Lib.hid (of_decide_eq_false d4)
        go_wp2
        go_meet
        exact ⟨⟨false, rfl, fun _ => ⟨h4.out, by have := h5.out; omega⟩⟩, rfl⟩
      · go_wp2
        go_meet
        exact ⟨⟨true, rfl, fun h => by cases h⟩, rfl⟩
  case rest =>
    obtain ⟨⟨tt, rfl, htt⟩, rfl⟩ := hcut
    have HT := Lib.hid htt
    clear htt
    go_upto_if 28 with (fail)
    go_cut [1] from 28 to 28 (fun b wx => (∃ r : Nat, r ≤ 9 ∧ b = .int .i64 (r : Int)) ∧ W = wx)
    case first =>
      cases tt
      · have ht := Lib.hid (HT.out rfl)
        clear HT
        go_wp2
        go_meet
        exact ⟨⟨x1.toNat, by have := ht.out; omega, by rw [Int.toNat_of_nonneg ht.out.1]⟩, rfl⟩
      · clear HT
        go_wp2
        go_meet
        exact ⟨⟨2, by omega, rfl⟩, rfl⟩
    case rest =>
      obtain ⟨⟨r, hr, rfl⟩, rfl⟩ := hcut
      go_upto_region 3 with (fail)
      go_cut [0] from 29 to 33 (fun a wx => (∃ m : Nat, m ≤ 20 ∧ m ≤ qn ∧ a = .slice a0 m qc) ∧ W = wx)
      case first =>
        by_cases h2 : qn ≤ 20
        · have hmin : min (qn : Int) 20 = (qn : Int) := by omega
          have hc1 : (qn : Int) ≤ (qc : Int) := by omega
          go_wp2
          all_goals
            go_meet
            first
              | exact ⟨⟨qn, h2, Nat.le_refl _, rfl⟩, rfl⟩
              | (exfalso; omega)
        · have hmin : min (qn : Int) 20 = 20 := by omega
          have hc1 : (20 : Int) ≤ (qc : Int) := by omega
          have hc2 : 20 ≤ qc := by omega
          go_wp2
          all_goals
            go_meet
            first
              | exact ⟨⟨20, Nat.le_refl _, by omega, rfl⟩, rfl⟩
              | (exfalso; omega)
      case rest =>
        obtain ⟨⟨m, hm, hmq, rfl⟩, rfl⟩ := hcut
        clear HT
        obtain ⟨hei, hom, hor⟩ := ei_new3 m r (by omega) (by omega)
        go_wp2_with (fail)
        refine (new_any (w0 := W) (m : Int) (r : Int) 1 3 (by decide) W (Below.refl _ _)).mono ?_
        rintro e w2 ⟨p, rfl, h2⟩
        obtain ⟨n, hn⟩ : ∃ n, n = m + r := ⟨_, rfl⟩
        have hn1 : n ≤ 29 := by omega
        have hnI : (m : Int) + (r : Int) = (n : Int) := by omega
        have hw1 : wrap64 ((m : Int) + (r : Int)) = (n : Int) := by rw [hnI]; exact IntWalk.wrap64_in _ ⟨by omega, by omega⟩
        have hw2 : IntKind.i64.wrap ((m : Int) + (r : Int)) = (n : Int) := by rw [hnI]; exact IntWalk.i64_in _ (by omega)
        have hfin := finished_any (Lib.hid h2.out.1)
        have hfin2 : Calls Try.prog 5 #[.pointer (some ⟨p, 0, none⟩)] w2 fun e w' => e = .returned (.bool (decide (r = 0))) ∧ w2 = w' := by
          rw [hor] at hfin
          have e : ((r : Int) == 0) = decide (r = 0) := by by_cases e : r = 0 <;> simp [e]
          rw [e] at hfin
          exact hfin
        have HN : Hid (n = m + r) := Lib.hid hn
        have HEI := Lib.hid hei
        rw [← hn] at HEI
        have HOM := Lib.hid hom
        have HFIN := Lib.hid hfin2
        clear hfin hfin2 hnI hei hom hor hn
        go_upto_region 5 with (fail)
        go_cut [53] from 38 to 53 (fun s wx => s = .bool false ∧ w2 = wx)
        case first =>
          by_cases n0 : n = 0
          · have dn : decide ((0 : Int) < (n : Int)) = false := decide_eq_false (by omega)
            have HN0 := Lib.hid n0
            clear n0
            go_wp2
            all_goals first
              | (exfalso; have := HN0.out; omega)
              | (go_meet; exact ⟨rfl, rfl⟩)
          · have dn : decide ((0 : Int) < (n : Int)) = true := decide_eq_true (by omega)
            by_cases r0 : r = 0
            · have HFR : Hid (Calls Try.prog 5 #[.pointer (some ⟨p, 0, none⟩)] w2 fun e w' => e = .returned (.bool true) ∧ w2 = w') := Lib.hid (by have := HFIN.out; rwa [decide_eq_true r0] at this)
              have dr : decide ((0 : Int) < (r : Int)) = false := decide_eq_false (by omega)
              have dr2 := Lib.hid (show decide (0 < r) = false from decide_eq_false (by omega))
              have HN0 := Lib.hid n0
              clear n0 r0
              go_wp2_with (fail)
              rotate_left
              · first
                  | (exfalso; have := HN0.out; omega)
                  | (go_meet; exact ⟨rfl, rfl⟩)
              refine HFR.out.mono ?_
              rintro e w' ⟨rfl, rfl⟩
              go_wp2
              all_goals first
                | (exfalso; have := HN0.out; omega)
                | (go_meet; exact ⟨by first | rfl | (rw [dr2.out]; first | done | rfl), rfl⟩)
            · have HFR : Hid (Calls Try.prog 5 #[.pointer (some ⟨p, 0, none⟩)] w2 fun e w' => e = .returned (.bool false) ∧ w2 = w') := Lib.hid (by have := HFIN.out; rwa [decide_eq_false r0] at this)
              have dr : decide ((0 : Int) < (r : Int)) = true := decide_eq_true (by omega)
              have dr2 := Lib.hid (show decide (0 < r) = true from decide_eq_true (by omega))
              have HN0 := Lib.hid n0
              clear n0 r0
              go_wp2_with (fail)
              rotate_left
              · first
                  | (exfalso; have := HN0.out; omega)
                  | (go_meet; exact ⟨rfl, rfl⟩)
              refine HFR.out.mono ?_
              rintro e w' ⟨rfl, rfl⟩
              go_wp2
              all_goals first
                | (exfalso; have := HN0.out; omega)
                | (go_meet; exact ⟨by first | rfl | (rw [dr2.out]; first | done | rfl), rfl⟩)
        case rest =>
          obtain ⟨rfl, rfl⟩ := hcut
          have hmk := make64 n (by omega)
          have HTS : Hid (TS W (w2.alloc (.cells (madeCells #[.int .i64 0] n) 3)) p (newB (m : Int) (r : Int) 1 3) m n w2.heap.size 0 0) := Lib.hid (by
            have hal := (Below.refl w2.heap.size w2).alloc (Nat.le_refl _) (.cells (madeCells #[.int .i64 0] n) 3)
            have hs : W.heap.size ≤ w2.heap.size := h2.out.2.size
            refine ⟨h2.out.1.below hal, HEI.out, ?_⟩
            have h := World.ownsRow_lit (base := W.heap.size) (e := 3) (size := 1) w2 (madeCells #[Value.int .i64 0] n) n hs (by unfold maxLen; omega) (by rw [size_madeCells]; omega)
            rw [toList_madeCells_one] at h
            rw [begL_new]
            exact h)
          obtain ⟨gb, hgb⟩ : ∃ gb, gb = w2.heap.size := ⟨_, rfl⟩
          rw [← hgb] at HTS
          have HGB := Lib.hid hgb
          have HW := Lib.hid (And.intro hw1 hw2)
          go_wp2_with (fail)
          rw [← hgb]
          clear hmk hgb h2 HFIN HEI
          go_loopw [9, 10] (fun mv iv wr => ∃ (i won f : Nat) (b : Bd) (mc : Nat), i ≤ 40 + 2 * len + 2 * n ∧ iv = .int .i64 (i : Int) ∧ mv = .int .i64 (mc : Int) ∧ Hid (mc + b.om = m ∧ TS W wr p b m n gb won i ∧ (won = n ∨ (i = won + f ∧ f ≤ len)))) (fun _ iv _ => 40 + 2 * len + 2 * n - (intOf iv).toNat)
          case atStart => exact ⟨0, 0, 0, _, 0, Nat.zero_le _, rfl, rfl, Lib.hid ⟨by rw [HOM.out]; omega, HTS.out, .inr ⟨rfl, Nat.zero_le _⟩⟩⟩
          case round =>
            clear HTS HOM hw1 hw2 hr
            obtain ⟨i, won, f, b, mc, hi, rfl, rfl, HR⟩ := hrel
            by_cases hlt : i < 40 + 2 * len + 2 * n
            · obtain ⟨hmc, hts, hwf⟩ := HR.out
              have HWF := Lib.hid hwf
              have HMC := Lib.hid hmc
              have HTS := Lib.hid hts
              have hmcb : mc ≤ 20 := by omega
              obtain ⟨tb, hs, hraw⟩ := hts.ab.raw
              have hlt2 : (i : Int) < 40 + 2 * (len : Int) + 2 * (n : Int) := by omega
              obtain ⟨wk, hwk⟩ : ∃ wk : Int, wk = (i : Int) % 3 := ⟨_, rfl⟩
              have hwk2 : (i : Int) % 3 = wk := hwk.symm
              have HRY := Lib.hid (ready_any (Lib.hid hraw) hts.ab.nn hts.ab.pat wk (i : Int))
              clear hmc hts hwf hraw hwk
              go_wp2_with (fail)
              refine HRY.out.mono ?_
              rintro e w3 ⟨vl, rfl, ho, hb3⟩
              rw [hwk2]
              obtain ⟨Al, cl, rfl⟩ := own_form ho
              have HTS3 := Lib.hid (HTS.out.below hb3)
              have hLl := ready_len b wk (i : Int)
              have HMEM := Lib.hid (show ∀ x, x ∈ readyB b wk (i : Int) → x < n ∧ (b.T x).wi = 0 ∧ (x < m ∨ b.om = 0) from fun x hx => by
                have h := ready_mem hx
                rw [HTS.out.ei.hm, HTS.out.ei.hn] at h
                exact h)
              have HNONE := Lib.hid (show readyB b wk (i : Int) = [] → b.om = 0 ∧ b.orr = 0 from fun h => ready_none HTS.out.ei.dead HTS.out.ei.idle HTS.out.ab.mn h)
              rw [HTS.out.ei.hn] at hLl
              obtain ⟨L, hL⟩ : ∃ L, L = readyB b wk (i : Int) := ⟨_, rfl⟩
              rw [← hL] at ho hLl HMEM HNONE ⊢
              have HO := Lib.hid ho
              have hmn2 : (m : Int) ≤ 20 := by omega
              clear hL ho hb3 HRY hwk2 hlt2 HTS
              obtain ⟨K, hK⟩ : ∃ K, K = L.length := ⟨_, rfl⟩
              have HK := Lib.hid hK
              have hK1 : K ≤ 29 := by omega
              rw [← hK] at HO ⊢
              clear hLl hK
              go_wp2_with (fail)
              go_loopw [12, 14] (fun tv jv wr => ∃ j : Nat, j ≤ K ∧ jv = .int .i64 (j : Int) ∧ Hid ((∃ T, TKs w3.heap.size wr tv j L T) ∧ Below w3.heap.size w3 wr)) (fun _ jv _ => K - (intOf jv).toNat)
              case atStart => exact ⟨0, Nat.zero_le _, rfl, Lib.hid ⟨⟨fun _ => ⟨0, none, 0, 0, fun _ => 0, fun _ => 0⟩, World.ownsRow_nil _ _ _ _, fun j hj => absurd hj (by omega), fun j hj => absurd hj (by omega)⟩, Below.refl _ _⟩⟩
              case round =>
                obtain ⟨j, hj, rfl, HJ⟩ := hrel
                by_cases hjl : j < K
                · obtain ⟨⟨T, hT⟩, hbel⟩ := HJ.out
                  have HTT := Lib.hid hT
                  have HBL := Lib.hid hbel
                  obtain ⟨gl, cl', hv9, _, hgl⟩ := HO.out.form (by omega)
                  injection hv9 with e1 _ e3
                  subst e1 e3
                  obtain ⟨x, hx⟩ : ∃ x, x = L.getD j 0 := ⟨_, rfl⟩
                  have HX := Lib.hid hx
                  have hxm : x ∈ L := by rw [hx, List.getD_eq_getElem?_getD, List.getElem?_eq_getElem (by rw [← HK.out]; exact hjl)]; exact List.getElem_mem _
                  obtain ⟨hxn, _, hxo⟩ := HMEM.out x hxm
                  have d0 : w3.cell? ⟨gl, j, none⟩ = some (.int .i64 (x : Int)) := (HO.out.cellAt j (by omega)).trans (by
                    unfold intL
                    rw [List.getElem?_map, hx, List.getD_eq_getElem?_getD, List.getElem?_eq_getElem (by rw [← HK.out]; exact hjl)]
                    rfl)
                  have d1 : wr.cell? ⟨gl, j, none⟩ = some (.int .i64 (x : Int)) := (hbel.cell (p := ⟨gl, j, none⟩) hgl).trans d0
                  have hBr : w3.heap.size ≤ wr.heap.size := hbel.size
                  clear hT hbel d0 hx hxm HJ
                  by_cases hxlt : x < m
                  · have hxi : (x : Int) < (m : Int) := by omega
                    obtain ⟨gq, oq, rfl, hgq, p1, p2⟩ := HQ.out x (by omega)
                    have hWr : Below W.heap.size W wr := HTS3.out.ab.bel.trans (HBL.out.mono HTS3.out.ab.bel.size)
                    have p3 : wr.cell? ⟨gq, oq + x * 2, none⟩ = some (.int .i64 (it x).1) := (hWr.cell (p := ⟨gq, _, none⟩) hgq).trans p1
                    have p4 : wr.cell? ⟨gq, oq + x * 2 + 1, none⟩ = some (.int .i64 (it x).2) := (hWr.cell (p := ⟨gq, _, none⟩) hgq).trans p2
                    have d1a := (cell_al d1).1
                    have p3a := (cell_al p3).1
                    have p4a := (cell_al p4).1
                    clear p1 p2 hWr
                    go_wp2_with (fail)
                    obtain ⟨W1, hW1⟩ : ∃ W1, W1 = wr.alloc (.cells #[.int .i64 (x : Int), .slice none 0 0] 31) := ⟨_, rfl⟩
                    have HW1 := Lib.hid hW1
                    have e0 : W1.cell? ⟨wr.heap.size, 0, none⟩ = some (.int .i64 (x : Int)) := by rw [hW1]; simp [go_sem]
                    have e1 : W1.cell? ⟨wr.heap.size, 1, none⟩ = some (.slice none 0 0) := by rw [hW1]; simp [go_sem]
                    have ef1 : W1.frozen? ⟨wr.heap.size, 1, none⟩ = false := by rw [hW1]; simp [go_sem]
                    have eS : W1.heap.size = wr.heap.size + 1 := by rw [hW1]; simp
                    have q1 := d1a (.cells #[.int .i64 (x : Int), .slice none 0 0] 31)
                    have q3 := p3a (.cells #[.int .i64 (x : Int), .slice none 0 0] 31)
                    have q4 := p4a (.cells #[.int .i64 (x : Int), .slice none 0 0] 31)
                    rw [← hW1] at q1 q3 q4 ⊢
                    obtain ⟨g0, hg0⟩ : ∃ g0, g0 = wr.heap.size := ⟨_, rfl⟩
                    rw [← hg0] at e0 e1 ef1 eS ⊢
                    have HG0 := Lib.hid hg0
                    have hbr : Below wr.heap.size wr W1 := by rw [hW1]; exact (Below.refl _ _).alloc (Nat.le_refl _) _
                    have HBR := Lib.hid hbr
                    have al1 := cell_al q1
                    have al3 := cell_al q3
                    have al4 := cell_al q4
                    have al0 := cell_al e1
                    obtain ⟨al1a, al1b⟩ := al1
                    obtain ⟨al3a, al3b⟩ := al3
                    obtain ⟨al4a, al4b⟩ := al4
                    obtain ⟨al0a, al0b⟩ := al0
                    clear d1 d1a p3 p3a p4 p4a hW1 hg0 hbr
                    obtain ⟨X, hX⟩ : ∃ X, X = floatOfInt .f64 (it x).1 := ⟨_, rfl⟩
                    obtain ⟨Y, hY⟩ : ∃ Y, Y = floatOfInt .f64 (it x).2 := ⟨_, rfl⟩
                    go_cut [] (fun wx => Hid (wx = ((W1.setCell ⟨g0, 1, none⟩ (.slice (some ⟨g0 + 1, 0, none⟩) 1 1)).alloc (.cells #[.complex .f64 (floatOfInt .f64 (it x).1) (floatOfInt .f64 (it x).2)] 32)).drew))
                    case first =>
                      go_region_with (fail)
                      all_goals first
                        | (go_meet; exact Lib.hid rfl)
                        | (go_wp2; go_meet; exact Lib.hid rfl)
                    case rest =>
                      clear al1a al1b al3a al3b al4a al4b al0a al0b q1 q3 q4
                      have hst := hcut.out
                      rw [← hX, ← hY] at hst
                      obtain ⟨W2, hW2⟩ : ∃ W2, W2 = W1.setCell ⟨g0, 1, none⟩ (.slice (some ⟨g0 + 1, 0, none⟩) 1 1) := ⟨_, rfl⟩
                      rw [← hW2] at hst
                      have hs2 : W2.heap.size = g0 + 1 := by rw [hW2]; simp [World.setCell]; exact eS
                      have n0 : W2.cell? ⟨g0, 0, none⟩ = some (.int .i64 (x : Int)) := by
                        rw [hW2, World.cell?_setCell_other _ _ _ _ (by intro e; injection e with _ e; omega)]
                        exact e0
                      have n1 : W2.cell? ⟨g0, 1, none⟩ = some (.slice (some ⟨g0 + 1, 0, none⟩) 1 1) := by
                        rw [hW2]
                        exact World.cell?_setCell_same _ _ _ e1
                      have hb2 : Below wr.heap.size wr W2 := by
                        rw [hW2]
                        exact HBR.out.setCell (by show wr.heap.size ≤ g0; rw [HG0.out]; exact Nat.le_refl _) _
                      have m0 : wc.cell? ⟨g0, 0, none⟩ = some (.int .i64 (x : Int)) := by rw [hst]; exact (cell_al n0).1 _
                      have m1 : wc.cell? ⟨g0, 1, none⟩ = some (.slice (some ⟨g0 + 1, 0, none⟩) 1 1) := by rw [hst]; exact (cell_al n1).1 _
                      have hb9 : Below wr.heap.size wr wc := by rw [hst]; exact (hb2.alloc (by rw [hs2, HG0.out]; omega) _).drew
                      have hrow : wc.ownsRow w3.heap.size 32 1 (.slice (some ⟨g0 + 1, 0, none⟩) 1 1) 1 [.complex .f64 X Y] := by
                        rw [hst]
                        have h := World.ownsRow_lit (base := w3.heap.size) (e := 32) (size := 1) W2 #[.complex .f64 X Y] 1 (by rw [hs2]; have := HG0.out; omega) (by decide) rfl
                        rw [hs2] at h
                        exact h
                      have HRW := Lib.hid hrow
                      have HB9 := Lib.hid hb9
                      clear hst hW2 n0 n1 e0 e1 ef1 eS hX hY hcut hb2 hs2 hrow hb9
                      have hTB := HTT.out.below HB9.out
                      have hown := hTB.row
                      have hBc : w3.heap.size ≤ wc.heap.size := Nat.le_trans hBr HB9.out.size
                      have k3 : j + 1 ≤ maxLen := by unfold maxLen; omega
                      have k4 : (j + 1) * 32 ≤ 140737488355328 := by omega
                      obtain ⟨hi0, hz0, hz1, hz2⟩ := HI0.out
                      go_wp2_with (at_builtin; refine wpList_append_own _ rfl _ _ 27 rfl w3.heap.size 31 i0 _ 2 32 Try.underlying27 hi0 hz0 hz1 hz2 rfl (by decide) _ _ _ rfl (hown.alloc _) ⟨wc.heap.size, 0, none⟩ 1 1 [.int .i64 (x : Int), .slice (some ⟨g0 + 1, 0, none⟩) 1 1] rfl rfl (cell_two_new _ _ _ _) (by simp [Value.oneCell']) k3 k4 (by simp; omega) ?_)
                      clear hi0 hz0 hz1 hz2
                      intro v' w6 hown' hg6 _
                      have HF : Hid ((∃ T, TKs w3.heap.size w6 v' (j + 1) L T) ∧ Below w3.heap.size w3 w6) := Lib.hid ⟨HTT.out.push ⟨(x : Int), some ⟨g0 + 1, 0, none⟩, 1, 1, fun _ => X, fun _ => Y⟩ (HB9.out.alloc HB9.out.size _) (by show (x : Int) = _; rw [HX.out]) (by show 1 ≤ 1; omega) (HRW.out.alloc _) hg6 hown', own_grown (hown.alloc (.cells #[.int .i64 (x : Int), .slice (some ⟨g0 + 1, 0, none⟩) 1 1] 31)) ((HBL.out.trans (HB9.out.mono hBr)).alloc hBc _) hg6 (by simp; omega)⟩
                      clear hTB hown hown' hg6
                      go_wp2
                      go_roundw
                      case rel => exact ⟨j + 1, by omega, by first | rfl | go_num, HF⟩
                      case measure => simp [intOf]; omega
                  · have hmm : mc = m := by
                      have := HMC.out
                      rcases hxo with h | h
                      · exact absurd h hxlt
                      · omega
                    have hxi : ¬ (x : Int) < (m : Int) := by omega
                    have hmi : ¬ (mc : Int) < (m : Int) := by omega
                    have d1a := (cell_al d1).1
                    obtain ⟨W1, hW1⟩ : ∃ W1, W1 = wr.alloc (.cells #[.int .i64 (x : Int), .slice none 0 0] 31) := ⟨_, rfl⟩
                    have HB9 := Lib.hid (show Below wr.heap.size wr W1 by rw [hW1]; exact (Below.refl _ _).alloc (Nat.le_refl _) _)
                    clear hmm
                    go_upto_region 23 with (fail)
                    rw [← hW1]
                    have e0 : W1.cell? ⟨wr.heap.size, 0, none⟩ = some (.int .i64 (x : Int)) := by rw [hW1]; simp [go_sem]
                    have e1 : W1.cell? ⟨wr.heap.size, 1, none⟩ = some (.slice none 0 0) := by rw [hW1]; simp [go_sem]
                    clear d1 d1a hW1
                    have hTB := HTT.out.below HB9.out
                    have hown := hTB.row
                    have hBc : w3.heap.size ≤ W1.heap.size := Nat.le_trans hBr HB9.out.size
                    have k3 : j + 1 ≤ maxLen := by unfold maxLen; omega
                    have k4 : (j + 1) * 32 ≤ 140737488355328 := by omega
                    obtain ⟨hi0, hz0, hz1, hz2⟩ := HI0.out
                    go_wp2_with (at_builtin; refine wpList_append_own _ rfl _ _ 27 rfl w3.heap.size 31 i0 _ 2 32 Try.underlying27 hi0 hz0 hz1 hz2 rfl (by decide) _ _ _ rfl (hown.alloc _) ⟨W1.heap.size, 0, none⟩ 1 1 [.int .i64 (x : Int), .slice none 0 0] rfl rfl (cell_two_new _ _ _ _) (by simp [Value.oneCell']) k3 k4 (by simp; omega) ?_)
                    clear hi0 hz0 hz1 hz2
                    intro v' w6 hown' hg6 _
                    have HF : Hid ((∃ T, TKs w3.heap.size w6 v' (j + 1) L T) ∧ Below w3.heap.size w3 w6) := Lib.hid ⟨HTT.out.push ⟨(x : Int), none, 0, 0, fun _ => 0, fun _ => 0⟩ (HB9.out.alloc HB9.out.size _) (by show (x : Int) = _; rw [HX.out]) (by show 0 ≤ 1; omega) (World.ownsRow_nil _ _ _ _) hg6 hown', own_grown (hown.alloc (.cells #[.int .i64 (x : Int), .slice none 0 0] 31)) ((HBL.out.trans (HB9.out.mono hBr)).alloc hBc _) hg6 (by simp; omega)⟩
                    clear hTB hown hown' hg6
                    go_wp2
                    go_roundw
                    case rel => exact ⟨j + 1, by omega, by first | rfl | go_num, HF⟩
                    case measure => simp [intOf]; omega
                · obtain rfl : j = K := by omega
                  obtain ⟨⟨T, hT⟩, hbel⟩ := HJ.out
                  obtain ⟨A6, c6, rfl⟩ := own_form hT.row
                  have hpk := pick_any A6 j c6 T (floatOfInt .f64 wk) 0 wr (by omega) _ rfl hT.tks
                  have HTT := Lib.hid hT
                  have HBL := Lib.hid hbel
                  have HTS5 := fun (w5 : World) (hb : Below wr.heap.size wr w5) => HTS3.out.below (hbel.trans (hb.mono hbel.size))
                  by_cases hj0 : j = 0
                  · subst hj0
                    have hLe : L = [] := List.length_eq_zero_iff.1 HK.out.symm
                    obtain ⟨z1, z2⟩ := HNONE.out hLe
                    have hwn : won = n := by have := HTS3.out.ei.cnt; omega
                    have HPK := Lib.hid (show Calls Try.prog 7 #[.slice A6 0 c6, .complex .f64 (floatOfInt .f64 wk) 0] wr fun e w' => e = .returned (.int .i64 (-1)) ∧ Hid (TS W w' p b m n gb won (i + 1)) from hpk.mono fun _ _ ⟨he, hb⟩ => ⟨he, by
                      have h := HTS5 _ hb
                      exact Lib.hid ⟨h.ab, EI.next h.ei, h.beg⟩⟩)
                    have HWN := Lib.hid hwn
                    clear hpk hT hbel HTS5 hLe z1 z2 hwn HJ
                    go_wp2_with (fail)
                    refine HPK.out.mono ?_
                    rintro e w5 ⟨rfl, HT5⟩
                    clear HPK
                    go_wp2
                    exact ⟨⟨i + 1, won, f, b, mc, by omega, by first | rfl | go_num, rfl, Lib.hid ⟨HMC.out, HT5.out, .inl HWN.out⟩⟩, by simp [intOf]; omega⟩
                  · obtain ⟨kx, hkx, hpe⟩ := pckN_pos (fun i => (T i).far (floatOfInt .f64 wk) 0) j (by omega)
                    rw [hpe] at hpk
                    obtain ⟨x, hx⟩ : ∃ x, x = L.getD kx 0 := ⟨_, rfl⟩
                    have hxm : x ∈ L := by rw [hx, List.getD_eq_getElem?_getD, List.getElem?_eq_getElem (by rw [← HK.out]; exact hkx)]; exact List.getElem_mem _
                    obtain ⟨hxn, hxw, hxo⟩ := HMEM.out x hxm
                    have HXO := Lib.hid hxo
                    have HXW := Lib.hid hxw
                    obtain ⟨g6, c6', e6, _, _⟩ := hT.row.form (by omega)
                    injection e6 with e6 _ e6b
                    subst e6 e6b
                    have HPK := Lib.hid (show Calls Try.prog 7 #[.slice (some ⟨g6, 0, none⟩) j c6, .complex .f64 (floatOfInt .f64 wk) 0] wr fun e w' => e = .returned (.int .i64 (kx : Int)) ∧ Hid (TS W w' p b m n gb won i) ∧ w'.cell? ⟨g6, kx * 2, none⟩ = some (.int .i64 (x : Int)) from hpk.mono fun _ w' ⟨he, hb⟩ => ⟨he, Lib.hid (HTS5 _ hb), by
                      have hT' := (hT.below hb)
                      have k := (hT'.row.cellAt (kx * 2) (by omega)).trans (tkL_at T j kx hkx 0 (by decide))
                      rw [hx, ← hT.id kx hkx]
                      exact k⟩)
                    have hj1 : 0 < j := by omega
                    have hkj : (kx : Int) < (j : Int) := by omega
                    have hz1 : ((j : Int) == 0) = false := by simp; omega
                    have hz2 : decide ((kx : Int) < 0) = false := decide_eq_false (by omega)
                    clear hpk hT hbel HTS5 hpe hx hxm hxw hxo HJ
                    go_wp2_with (fail)
                    refine HPK.out.mono ?_
                    rintro e w5 ⟨rfl, HT5, k6⟩
                    clear HPK
                    have hlen5 : ∀ j, j < b.n → (b.T j).A.length < 4398046511104 := fun j _ => Nat.lt_of_le_of_lt (HT5.out.ei.bi.len j) (by omega)
                    obtain ⟨ea, eb⟩ := EI.startN (r := x) HT5.out.ei ⟨by rw [HT5.out.ei.hn]; exact hxn, HXW.out, by rw [HT5.out.ei.hm]; exact HXO.out⟩ wk (i : Int)
                    have hst := start_any (Lib.hid HT5.out.ab) hlen5 (x : Int) wk (i : Int)
                    rw [ea, eb] at hst
                    have hbn : x < b.n := by rw [HT5.out.ei.hn]; exact hxn
                    have HE1 := Lib.hid (EI.failN0 HT5.out.ei hbn wk (mom (i : Int)))
                    have HE3 := Lib.hid (EI.goodN HT5.out.ei HT5.out.ab.mn hbn HXW.out wk (mom (i : Int)))
                    have HE4 := Lib.hid (EI.goodM HT5.out.ei hbn HXW.out wk (mom (i : Int)))
                    have HBL2 := Lib.hid (beg_lens b x wk (mom (i : Int)))
                    have hbi1 : BI (setTk b x (begT (b.T x) wk (mom (i : Int)))) (i + 1) := by rw [← eb]; exact bi_start HT5.out.ei.bi _ _ _
                    have HB1O := Lib.hid (beg_opn b x wk (mom (i : Int))).1
                    have hkl := HT5.out.ei.bi.len x
                    obtain ⟨b1, hb1⟩ : ∃ b1, b1 = setTk b x (begT (b.T x) wk (mom (i : Int))) := ⟨_, rfl⟩
                    rw [← hb1] at hst HE1 HE3 HE4 HBL2 hbi1 HB1O
                    obtain ⟨kk, hkk⟩ : ∃ kk, kk = (b.T x).A.length := ⟨_, rfl⟩
                    have HKK := Lib.hid hkk
                    rw [← hkk] at hst HE1 HE3 HE4 hkl
                    rw [show ((kk + 1 : Nat) : Int) = (kk : Int) + 1 by omega] at hst
                    have HST := Lib.hid hst
                    have HBI := Lib.hid hbi1
                    clear hst ea eb hb1 hkk hbi1 hlen5 hbn
                    go_wp2_with (fail)
                    refine HST.out.mono ?_
                    rintro e w6 ⟨rfl, H6⟩
                    obtain ⟨s1, s2, hab7, hrow7⟩ := HT5.out.begun H6.out.1 H6.out.2 hxn HBL2.out.1 HBL2.out.2
                    rw [← HKK.out] at s1 hab7 hrow7
                    have HAB7 := Lib.hid hab7
                    have HROW7 := Lib.hid hrow7
                    have hrep1 := Lib.hid (report_any HAB7 (fun j _ => Nat.lt_of_le_of_lt (HBI.out.len j) (by omega)) (fun j _ => Nat.lt_of_le_of_lt (HBI.out.fu j) (by omega)) (x : Int) ((kk : Int) + 1) 1)
                    have hrep2 := Lib.hid (report_any HAB7 (fun j _ => Nat.lt_of_le_of_lt (HBI.out.len j) (by omega)) (fun j _ => Nat.lt_of_le_of_lt (HBI.out.fu j) (by omega)) (x : Int) ((kk : Int) + 1) 2)
                    rw [HE1.out.1] at hrep2
                    rw [HE3.out.1] at hrep1
                    have hkb : kk ≤ 2097252 := by omega
                    have HWG := Lib.hid (show won + 1 = n ∨ (i + 1 = won + 1 + f ∧ f ≤ len) by
                      have h1 := HE3.out.2.2.2.cnt
                      rcases HWF.out with h | ⟨h, h'⟩
                      · omega
                      · exact .inr ⟨by omega, h'⟩)
                    have hbel5 : Below W.heap.size W (w6.setCell ⟨gb, x, none⟩ (.int .i64 ((kk : Int) + 1))) := HAB7.out.bel
                    clear hab7 hrow7 HST k6
                    by_cases hil : i < len
                    · have HWF2 := Lib.hid (show won = n ∨ (i + 1 = won + (f + 1) ∧ f + 1 ≤ len) by
                        rcases HWF.out with h | ⟨h, h'⟩
                        · exact .inl h
                        · exact .inr ⟨by omega, by omega⟩)
                      obtain ⟨bz, oz, rfl, _, hcz⟩ := HS.out.below hbel5 i hil
                      replace hcz : (w6.setCell ⟨gb, x, none⟩ (.int .i64 ((kk : Int) + 1))).cell? ⟨bz, oz + i, none⟩ = some (.int .i64 (zs.getD i 0)) := hcz
                      obtain ⟨z, hz⟩ : ∃ z, z = zs.getD i 0 := ⟨_, rfl⟩
                      rw [← hz] at hcz
                      clear hz hbel5
                      by_cases hz2 : z.tmod 2 = 0
                      · have e2 : (z.tmod 2 == 0) = true := by simpa using hz2
                        clear hz2
                        go_wp2_with (fail)
                        refine hrep2.out.mono ?_
                        rintro e w8 ⟨rfl, H8⟩
                        have HN : Hid (TS W w8 p (reportB b1 (x : Int) ((kk : Int) + 1) 2) m n gb won (i + 1)) := Lib.hid (TS.after HROW7.out H8.out.1 H8.out.2 HE1.out.2 (fun j => rep_len _ _ _ _ j))
                        have HO4 := Lib.hid (show mc + (reportB b1 (x : Int) ((kk : Int) + 1) 2).om = m by have h := rep2_om b1 (x : Int) ((kk : Int) + 1); have := HMC.out; have := HB1O.out; omega)
                        clear hrep2 H8 s1 s2
                        go_wp2
                        exact ⟨⟨i + 1, won, f + 1, _, mc, by omega, by first | rfl | go_num, rfl, Lib.hid ⟨HO4.out, HN.out, HWF2.out⟩⟩, by simp [intOf]; omega⟩
                      · have e2 : (z.tmod 2 == 0) = false := by simpa using hz2
                        clear hz2
                        go_wp2_with (fail)
                        refine hrep1.out.mono ?_
                        rintro e w8 ⟨rfl, H8⟩
                        have HN : Hid (TS W w8 p (reportB b1 (x : Int) ((kk : Int) + 1) 1) m n gb (won + 1) (i + 1)) := Lib.hid (TS.after HROW7.out H8.out.1 H8.out.2 HE3.out.2.2.2 (fun j => rep_len _ _ _ _ j))
                        clear hrep1 H8 s1 s2
                        by_cases hxm : x < m
                        · have hxi : (x : Int) < (m : Int) := by omega
                          have HO4 := Lib.hid (show mc + 1 + (reportB b1 (x : Int) ((kk : Int) + 1) 1).om = m by have h := HE4.out.1 (by rw [HT5.out.ei.hm]; exact hxm); have := HMC.out; omega)
                          clear hxm
                          go_wp2
                          go_roundw
                          case rel => exact ⟨i + 1, won + 1, f, _, mc + 1, by omega, by first | rfl | go_num, by first | rfl | go_num, Lib.hid ⟨HO4.out, HN.out, HWG.out⟩⟩
                          case measure => simp [intOf]; omega
                        · have hxi : ¬ (x : Int) < (m : Int) := by omega
                          have HO4 := Lib.hid (show mc + (reportB b1 (x : Int) ((kk : Int) + 1) 1).om = m by have h := HE4.out.2 (by rw [HT5.out.ei.hm]; exact hxm); have := HMC.out; omega)
                          clear hxm
                          go_wp2
                          go_roundw
                          case rel => exact ⟨i + 1, won + 1, f, _, mc, by omega, by first | rfl | go_num, by first | rfl | go_num, Lib.hid ⟨HO4.out, HN.out, HWG.out⟩⟩
                          case measure => simp [intOf]; omega
                    · have hild : ¬ (i : Int) < (len : Int) := by omega
                      clear hbel5
                      go_wp2_with (fail)
                      refine hrep1.out.mono ?_
                      rintro e w8 ⟨rfl, H8⟩
                      have HN : Hid (TS W w8 p (reportB b1 (x : Int) ((kk : Int) + 1) 1) m n gb (won + 1) (i + 1)) := Lib.hid (TS.after HROW7.out H8.out.1 H8.out.2 HE3.out.2.2.2 (fun j => rep_len _ _ _ _ j))
                      clear hrep1 H8 s1 s2
                      by_cases hxm : x < m
                      · have hxi : (x : Int) < (m : Int) := by omega
                        have HO4 := Lib.hid (show mc + 1 + (reportB b1 (x : Int) ((kk : Int) + 1) 1).om = m by have h := HE4.out.1 (by rw [HT5.out.ei.hm]; exact hxm); have := HMC.out; omega)
                        clear hxm
                        go_wp2
                        go_roundw
                        case rel => exact ⟨i + 1, won + 1, f, _, mc + 1, by omega, by first | rfl | go_num, by first | rfl | go_num, Lib.hid ⟨HO4.out, HN.out, HWG.out⟩⟩
                        case measure => simp [intOf]; omega
                      · have hxi : ¬ (x : Int) < (m : Int) := by omega
                        have HO4 := Lib.hid (show mc + (reportB b1 (x : Int) ((kk : Int) + 1) 1).om = m by have h := HE4.out.2 (by rw [HT5.out.ei.hm]; exact hxm); have := HMC.out; omega)
                        clear hxm
                        go_wp2
                        go_roundw
                        case rel => exact ⟨i + 1, won + 1, f, _, mc, by omega, by first | rfl | go_num, by first | rfl | go_num, Lib.hid ⟨HO4.out, HN.out, HWG.out⟩⟩
                        case measure => simp [intOf]; omega
            · obtain ⟨hmc, hts, hwf⟩ := HR.out
              have hcn := hts.ei.cnt
              have hwn : won = n := by
                rcases hwf with h | ⟨h, h'⟩
                · exact h
                · omega
              have hom : b.om = 0 := by omega
              have hor : b.orr = 0 := by omega
              have hmc2 : mc = m := by omega
              have hall : ∀ j, j < n → (b.T j).wi ≠ 0 := fun j hj => by
                by_cases hjm : j < b.m
                · have := opn_none b.T 0 b.m hom j hjm
                  rwa [Nat.zero_add] at this
                · have := opn_none b.T b.m (b.n - b.m) hor (j - b.m) (by rw [hts.ei.hn]; omega)
                  rwa [show b.m + (j - b.m) = j by omega] at this
              have HALL := Lib.hid hall
              have HOR := Lib.hid hor
              have HTS := Lib.hid hts
              have hibd : i ≤ 2097252 := by omega
              clear hmc hts hwf hcn hwn hom hor hall HR
              subst hmc2
              go_wp2_with (fail)
              go_loopw [19] (fun jv wy => ∃ j : Nat, j ≤ n ∧ jv = .int .i64 (j : Int) ∧ Hid (TS W wy p b mc n gb won i)) (fun jv _ => n - (intOf jv).toNat)
              case atStart => exact ⟨0, Nat.zero_le _, rfl, HTS⟩
              case round =>
                obtain ⟨j, hjn, rfl, HJ⟩ := hrel
                by_cases hjl : j < n
                · have hwi := HALL.out j hjl
                  obtain ⟨htk, _⟩ := HJ.out.ei.bi.win j hwi
                  have hin : inB b (j : Int) = true := inB_of (by rw [HJ.out.ei.hn]; exact hjl)
                  obtain ⟨nd, hwa⟩ := winA_yes hin hwi
                  have hcw := winner_any (Lib.hid HJ.out.ab) (fun j _ => Nat.lt_of_le_of_lt (HJ.out.ei.bi.len j) (by omega)) HJ.out.ei.bi.win (j : Int)
                  rw [hwa] at hcw
                  dsimp only at hcw
                  have HCW := Lib.hid hcw
                  obtain ⟨wi, hwie⟩ : ∃ wi, wi = (b.T j).wi := ⟨_, rfl⟩
                  obtain ⟨kk, hkk⟩ : ∃ kk, kk = (b.T j).A.length := ⟨_, rfl⟩
                  have z1 := (HJ.out.beg.cellAt j (by omega)).trans (begL_at b n j hjl)
                  rw [← hwie] at HCW hwi htk
                  rw [← hkk] at htk z1
                  have hwk : 1 ≤ wi ∧ wi ≤ kk := by omega
                  have dd1 : decide ((wi : Int) < 1) = false := decide_eq_false (by omega)
                  have dd2 : decide ((kk : Int) < (wi : Int)) = false := decide_eq_false (by omega)
                  have HJ0 : Hid (∀ q, TS W (wr.drewN q) p b mc n gb won i) := Lib.hid fun q => HJ.out.below (below_drewN (Below.refl _ _) q)
                  clear hwa hcw hin hwie hkk hwi htk
                  go_wp2_with (fail)
                  refine HCW.out.mono ?_
                  rintro e w8 ⟨rfl, m8, rfl⟩
                  have z2 : (wr.drewN m8).cell? ⟨gb, j, none⟩ = some (.int .i64 (kk : Int)) := z1
                  go_wp2
                  all_goals first
                    | exact ⟨⟨j + 1, by omega, by first | rfl | go_num, Lib.hid (HJ0.out _)⟩, by simp [intOf]; omega⟩
                    | (exfalso; omega)
                · obtain rfl : j = n := by omega
                  have hcf := finished_any (Lib.hid HJ.out.ab)
                  have hcd := dead_any (Lib.hid HJ.out.ab)
                  rw [HOR.out, show (((0 : Nat) : Int) == 0) = true from rfl] at hcf
                  rw [HJ.out.ei.dead] at hcd
                  have HCF := Lib.hid hcf
                  have HCD := Lib.hid hcd
                  clear hcf hcd
                  go_wp2_with (fail)
                  refine HCF.out.mono ?_
                  rintro e w8 ⟨rfl, rfl⟩
                  go_wp2_with (fail)
                  refine HCD.out.mono ?_
                  rintro e w8 ⟨rfl, rfl⟩
                  go_wp2
                  go_ret
                  exact ⟨rfl, HJ.out.ab.bel⟩
theorem walk (a0 : Option Addr) (qn qc : Nat) (it : Nat → Pr) (x1 : Int) (A : Option Addr) (len cap : Nat) (zs : List Int) (W : World) (hq : Prs W W.heap.size a0 qn it) (hqn : qn ≤ 1048576) (hqc : qn ≤ qc) (hx1 : -9223372036854775808 ≤ x1 ∧ x1 ≤ 9223372036854775807) (hlen : len ≤ 1048576) (hS : SlOf W W.heap.size A len (fun i => .int .i64 (zs.getD i 0))) :
    Calls Try.prog 3 #[.slice a0 qn qc, .int .i64 x1, .slice A len cap] W fun e w' => e = .returned (.bool true) ∧ Below W.heap.size W w' := by
  obtain ⟨i0, hi, hz0, hz1, hz2⟩ := info_parts infoTaskS
  exact walk0 i0 (Lib.hid ⟨hi, hz0, hz1, hz2⟩) a0 qn qc it x1 A len cap zs W hq hqn hqc hx1 hlen hS

set_option maxRecDepth 100000 in
theorem contractUpto (H : Type) (enc : TypeId × Value → H) (W : World) (base : Nat) (args : Array Value) (ds gs : List (DataW H)) (before : List MemPlace)
    (hval : ∀ (j : Nat) t v, Try.f3.params[j]? = some t → args[j]? = some v → Value.okWide Try.prog W .any base t v)
    (hW : DataW.Whole enc Try.prog Try.f3.params.toList Rows.topScheduledSpec.vars false W args.toList ds gs before)
    (hz : (DataW.weightsEach Try.prog (Try.f3.params.toList ++ []) (ds ++ gs)).all (· ≤ reachBytes) = true) (hk : Rows.uptoSmall H (ds ++ gs) = true) :
    Calls Try.prog 3 args W fun e W' => ∃ v, e = .returned v ∧ Rows.topScheduledSpec.post enc Try.prog Try.f3 false true false false W args v W' := by
  have hW' := hW
  obtain ⟨p, q, hA0, hV, rfl, hfz, hnd⟩ := hW
  have hA : DataW.TrodAll enc Try.prog W 0 (fun _ => true) true Try.f3.params.toList args.toList ds p := hA0
  rw [Try.params3] at hA hval hz
  obtain ⟨v0, vs0, d0, ds0, p0, q0, hargs, rfl, rfl, h0, r0⟩ := trodAll_cons hA
  obtain ⟨v1, vs1, d1, ds1, p1, q1, rfl, rfl, rfl, h1, r1⟩ := trodAll_cons r0
  obtain ⟨v2, vs2, d2, ds2, p2, q2, rfl, rfl, rfl, h2, r2⟩ := trodAll_cons r1
  obtain ⟨rfl, rfl, rfl⟩ := trodAll_nil r2
  obtain rfl : args = #[v0, v1, v2] := by cases args; simp_all
  obtain ⟨rfl, rfl⟩ := trodVars_none hV
  have hk0 : Rows.uptoBulk d0 ≤ 1048576 := by have h := of_decide_eq_true hk; simp only [List.append_nil, List.cons_append, List.nil_append, Rows.uptoBulkAll] at h; omega
  obtain ⟨q, hq, hqn⟩ := open_row_arg (hval 0 22 v0 rfl rfl) h0 hk0
  obtain rfl := hq.val
  obtain ⟨x1, rfl, rfl, rfl, w1⟩ := open_int Try.underlying3 (hval 1 3 v1 rfl rfl) h1
  have b1 := i64_of_wf w1
  obtain ⟨A, len, cap, zs, rfl, hl9, hzl, hS, _, hd9⟩ := open_int_arg Try.underlying23 Try.underlying3 (by kernel_rfl) (hval 2 23 v2 rfl rfl) h2
  have hlen : len ≤ 1048576 := by
    rcases hd9 with ⟨_, h9, _⟩ | h9
    · omega
    · have h := of_decide_eq_true hk
      rw [h9] at h
      have hb := bulk_len (H := H) (lits .i64 (zs.take len))
      have hbl : (lits (H := H) .i64 (zs.take len)).length = len := by simp [lits]; omega
      simp only [List.append_nil, List.cons_append, List.nil_append, Rows.uptoBulkAll, Rows.uptoBulk] at h
      omega
  clear hA0
  refine (walk q.a q.n q.c q.it x1 A len cap zs W hq.at' hqn hq.le b1 hlen hS).mono fun e W' ⟨he, hb⟩ => ?_
  subst he
  exact ⟨_, rfl, law_end hW' rfl rfl hb laidOut (by kernel_rfl) (by kernel_rfl) Try.underlying4⟩

theorem reads (os : Os) {H : Type} (enc : TypeId × Value → H) : ∃ places, DataW.whole enc Try.prog ((World.holding Try.prog os ⟨#[], #[], []⟩).forCall (fun _ _ => 0) ⟨#[], #[.slice none 0 0, .int .i64 0, .slice none 0 0], []⟩).memory Try.f3.params.toList Rows.topScheduledSpec.vars false [Value.slice none 0 0, Value.int .i64 0, Value.slice none 0 0] 8 = some ([.nil, .lit (.int .i64 0), .nil], [], places) :=
  ⟨[], by kernel_rfl⟩

set_option maxRecDepth 100000 in
theorem lifted (os : Os) (started : os.Started) (H : Type) (enc : TypeId × Value → H) (F : Stop.Interp) :
    ReturnsInHanded {} Try.checked os 3 .any ((Rows.OpenSpec.upto Rows.topScheduledSpec).preRow enc Try.prog Try.f3 Rows.topScheduledUptoRow.domain false Rows.topScheduledUptoRow.laid) (((Rows.OpenSpec.upto Rows.topScheduledSpec).at F).post enc Try.prog Try.f3 false true false false) := by
  obtain ⟨places, hx⟩ := reads os enc
  have laid_met : laidMet Try.prog Rows.topScheduledUptoRow.laid ((World.holding Try.prog os ⟨#[], #[], []⟩).forCall (fun _ _ => 0) ⟨#[], #[.slice none 0 0, .int .i64 0, .slice none 0 0], []⟩).memory := ⟨[], rfl, List.nodup_nil, fun _ _ h => by cases h⟩
  refine returnsInHanded_of_row (C := Try.checked) (s := Rows.OpenSpec.upto Rows.topScheduledSpec) own started (by kernel_rfl) Try.func3
    (witness_row_at (enc := enc) (C := Try.checked) false (World.holding Try.prog os ⟨#[], #[], []⟩) #[.slice none 0 0, .int .i64 0, .slice none 0 0] rfl (by kernel_rfl) (by kernel_rfl) (by kernel_rfl)
      (OpenSpec.preRow_of_cond 8 hx (by kernel_rfl) (fun k hk => by cases hk; kernel_rfl) (by kernel_rfl) laid_met)) ?_
  intro W base args ds gs before hval hW _ hcond hz _ _ _
  exact contractUpto H enc W base args ds gs before hval hW hz (hcond _ rfl)

theorem said : Rows.TopScheduledUptoSaid :=
  OpenClaim.holds_of_cond 3 Try.f3 rfl rfl rfl rfl rfl rfl rfl ⟨rfl, rfl, rfl, rfl, rfl⟩ rfl rfl rfl rfl rfl (by kernel_rfl) Try.func3 (by kernel_rfl)
    (of_decide_eq_true (by kernel_rfl)) (by unfold Func.isWrapper; first | (rw [if_pos (by decide +kernel)]; kernel_rfl) | (rw [if_neg (by decide +kernel)]; exact ⟨rfl, rfl⟩))
    (fun os started H enc _ F => by rw [OpenClaim.pre_eq_preRow]; exact lifted os started H enc F)

end Go.Proofs.Ytilobnplmkmmpaa.fnTopScheduled
