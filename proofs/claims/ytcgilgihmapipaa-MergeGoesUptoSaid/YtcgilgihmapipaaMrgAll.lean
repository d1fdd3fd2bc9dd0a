/- Merging: merge.All, up to the iterator that it hands back. -/
import Derived.Test.YtcgilgihmapipaaMrgCps
import Derived.Test.YtcgilgihmapipaaMrgCopied
import Derived.Deep.RegionHeld3
import Derived.Deep.CutRange
namespace Go.Proofs.Ytcgilgihmapipaa
open Go.RowKit

theorem makeH (n : Nat) (hn : n ≤ 1048576) : ∀ w : World, (Instr.makeSlice 22 (.int .i64 (n : Int)) (.int .i64 (n : Int))).run Try.prog w =
    .ok (.slice (some ⟨w.heap.size, 0, none⟩) n n) (w.alloc (.cells (madeCells #[.slice none 0 0] n) 32)) := by
  intro w
  obtain ⟨i, hi, hz0, hz1, hz2⟩ := info_parts infoSlA
  have := run_make (P := Try.prog) w 22 32 i (.slice none 0 0) Try.underlying22 hi hz0 .i64 .i64 n n (by omega) (by omega) (by rw [hz2]; omega) (by omega)
  simpa [hz1, Value.cells] using this
theorem made_hdr (n : Nat) : (madeCells #[.slice none 0 0] n).toList = (List.range n).map fun _ => Value.slice none 0 0 := by
  apply List.ext_getElem?
  intro i
  by_cases h : i < n
  · simp [madeCells, h, Nat.mod_one]
  · simp [madeCells, h]
theorem bel_drew1 (w : World) : Below w.heap.size w w.drew := ⟨rfl, rfl, rfl, Nat.le_refl _, fun _ _ => rfl⟩
/-- so many runs are copied -/
structure AllG (R : Rn) (w wr : World) (B rb g N k : Nat) (ha : Nat → Value) : Prop where
  box : Boxed wr rb 22 (.slice (some ⟨g, 0, none⟩) N N)
  row : wr.ownsRow B 32 1 (.slice (some ⟨g, 0, none⟩) N N) N ((List.range N).map fun i => if i < k then ha i else .slice none 0 0)
  pa : ∀ i, i < k → wr.ownsRow B 34 2 (ha i) (R.ln i) (prN (R.K i) (R.V i) (R.ln i))
  bel : Below B w wr
theorem AllG.below {R : Rn} {w wr w' : World} {B rb g N k : Nat} {ha : Nat → Value} (h : AllG R w wr B rb g N k ha) (hB : B ≤ wr.heap.size) (q : Below wr.heap.size wr w') : AllG R w w' B rb g N k ha :=
  ⟨(q.block rb h.box.lt).trans h.box, own_below2 q h.row, fun i hi => own_below2 q (h.pa i hi), h.bel.trans (q.mono hB)⟩
theorem map_set (f : Nat → Value) (N k : Nat) (hk : k < N) (v : Value) (ha : Nat → Value) : ((List.range N).map fun i => if i < k then ha i else .slice none 0 0).set k v = (List.range N).map fun i => if i < k + 1 then (if i = k then v else ha i) else .slice none 0 0 := by
  apply List.ext_getElem?
  intro i
  rw [List.getElem?_set]
  by_cases h : k = i
  · subst h
    simp [hk]
  · by_cases hi : i < N
    · by_cases h2 : i < k
      · simp [h, hi, h2, Ne.symm h, show i < k + 1 by omega]
      · simp [h, hi, h2, show ¬ i < k + 1 by omega]
    · simp [h, hi]
theorem AllG.put {R : Rn} {w wr : World} {B rb g N k : Nat} {ha : Nat → Value} {v : Value} (h : AllG R w wr B rb g N k ha) (hk : k < N) (hv : wr.ownsRow B 34 2 v (R.ln k) (prN (R.K k) (R.V k) (R.ln k))) :
    AllG R w (wr.setCell ⟨g, k, none⟩ v) B rb g N (k + 1) (fun i => if i = k then v else ha i) := by
  obtain ⟨s1, s2⟩ := h.row.stored k v
  have hob : (Value.slice (some ⟨g, 0, none⟩) N N).ownBlock = some g := rfl
  refine ⟨?_, ?_, fun i hi => ?_, h.bel.grown s2 (Nat.le_trans (h.row.lt g hob).1 (Nat.le_of_lt (h.row.lt g hob).2)) (fun j e => (h.row.lt j e).1)⟩
  · refine h.box.kept s2 (fun e => ?_)
    cases e
    obtain ⟨g', c', cur, e1, _, hg, _⟩ := h.row.2.resolve_left (fun q => by cases q.1)
    injection e1 with e1
    injection e1 with e1
    injection e1 with e1
    subst e1
    have h9 : wr.heap[rb]? = _ := h.box
    rw [hg] at h9
    have h8 : (32 : TypeId) = 22 := by injection h9 with h9; injection h9
    exact absurd h8 (by decide)
  · rw [map_set (fun _ => v) N k hk v ha] at s1
    exact s1
  · by_cases e : i = k
    · subst e
      simp only [if_true]
      exact hv.kept s2 (rows_apart2 h.row hv (by decide))
    · simp only [if_neg e]
      have hp := h.pa i (by omega)
      exact hp.kept s2 (rows_apart2 h.row hp (by decide))
theorem AllG.cells {R : Rn} {w wr : World} {B rb g N k : Nat} {ha : Nat → Value} (h : Hid (AllG R w wr B rb g N k ha)) (hk : k < N) : wr.cell? ⟨rb, 0, none⟩ = some (.slice (some ⟨g, 0, none⟩) N N) ∧ wr.cell? ⟨g, k, none⟩ = some (.slice none 0 0) ∧ wr.frozen? ⟨g, k, none⟩ = false := by
  refine ⟨h.out.box.cell, ?_, h.out.row.frozenAt k⟩
  rw [h.out.row.cellAt k (by omega)]
  simp [hk]
theorem ag_copies {R : Rn} {w wr : World} {B rb g N k : Nat} {ha : Nat → Value} {A a : Option Addr} (HA : Hid (ArgAt R B A w)) (hk : k < R.n) (hae : 0 < R.ln k → a = some ⟨R.bk k, R.of k, none⟩) (hln : R.ln k ≤ 1048576) (HSZ : Hid (∀ i p, (R.K i p).size ≤ 1048576 ∧ (R.V i p).size ≤ 1048576)) (hBw : B = w.heap.size) (H : Hid (AllG R w wr B rb g N k ha)) :
    Calls Try.prog 16 #[.slice a (R.ln k) (R.cp k)] wr fun e w' => ∃ f, e = .returned (.slice (some ⟨f, 0, none⟩) (R.ln k) (R.ln k)) ∧ Hid (AllG R w w' B rb g N k ha ∧ w'.ownsRow B 34 2 (.slice (some ⟨f, 0, none⟩) (R.ln k) (R.ln k)) (R.ln k) (prN (R.K k) (R.V k) (R.ln k))) := by
  have hBr : B ≤ wr.heap.size := by have := H.out.bel.size; omega
  have hp : PrAt wr wr.heap.size a (R.ln k) (R.K k) (R.V k) := fun j hj => by
    obtain ⟨h1, h2, h3⟩ := HA.out.2 k hk j hj
    exact ⟨R.bk k, R.of k, hae (by omega), by omega, (H.out.bel.cell (p := ⟨R.bk k, _, none⟩) h1).trans h2, (H.out.bel.cell (p := ⟨R.bk k, _, none⟩) h1).trans h3⟩
  refine (copies_any a (R.ln k) (R.cp k) (R.K k) (R.V k) wr (by omega) (fun j => ⟨by have := (HSZ.out k j).1; omega, by have := (HSZ.out k j).2; omega⟩) hp).mono ?_
  rintro e w' ⟨rfl, ho, hb⟩
  exact ⟨_, rfl, Lib.hid ⟨H.out.below hBr hb, ho.mono hBr⟩⟩
set_option maxRecDepth 100000 in
set_option maxHeartbeats 8000000 in
theorem all_any (R : Rn) (A : Option Addr) (cap : Nat) (w : World) (hrn : R.n ≤ 1048576) (hln : ∀ i, i < R.n → R.ln i ≤ 1048576) (hsz : ∀ i p, (R.K i p).size ≤ 1048576 ∧ (R.V i p).size ≤ 1048576) (hA : ArgAt R w.heap.size A w) :
    Calls Try.prog 8 #[.slice A R.n cap] w fun e w' => ∃ rb g ha, e = .returned (.func (.func 17) #[] #[.pointer (some ⟨rb, 0, none⟩)]) ∧ Hid (AllG R w w' w.heap.size rb g R.n R.n ha) := by
  obtain ⟨B, hB⟩ : ∃ B, B = w.heap.size := ⟨_, rfl⟩
  obtain ⟨N, hN⟩ : ∃ N, N = R.n := ⟨_, rfl⟩
  rw [← hB] at hA ⊢
  rw [← hN] at hrn ⊢
  have hmk := makeH N hrn
  have HA := Lib.hid hA
  have HB := Lib.hid hB
  have HN := Lib.hid hN
  have HLN := Lib.hid hln
  have HSZ := Lib.hid hsz
  have H0 : Hid (AllG R w ((w.alloc (.cells (madeCells #[.slice none 0 0] N) 32)).alloc (.cells #[.slice (some ⟨w.heap.size, 0, none⟩) N N] 22)) B (w.heap.size + 1) w.heap.size N 0 (fun _ => .bool true)) := by
    have hr := World.ownsRow_lit (base := B) (e := 32) (size := 1) w (madeCells #[.slice none 0 0] N) N (by omega) (by unfold maxLen; omega) (by simp [madeCells])
    rw [made_hdr] at hr
    have bS := Boxed.new (w.alloc (.cells (madeCells #[.slice none 0 0] N) 32)) 22 (.slice (some ⟨w.heap.size, 0, none⟩) N N)
    rw [World.size_alloc] at bS
    refine Lib.hid ⟨bS, ?_, fun i hi => absurd hi (Nat.not_lt_zero _), ?_⟩
    · have e : ((List.range N).map fun i => if i < 0 then Value.bool true else Value.slice none 0 0) = (List.range N).map fun _ => Value.slice none 0 0 := List.map_congr_left fun i _ => by simp
      rw [e]
      exact hr.alloc _
    · rw [hB]
      exact ((Below.refl _ w).alloc (Nat.le_refl _) _).alloc (by simp) _
  clear hA hB hN hln hsz
  go_enter Try.func8, Try.ntmps8
  go_wp2
  go_loopw [11] (fun iv wr => ∃ (k rb g : Nat) (ha : Nat → Value), k ≤ N ∧ iv = .int .i64 (k : Int) ∧ rb = w.heap.size + 1 ∧ g = w.heap.size ∧ Hid (AllG R w wr B rb g N k ha)) (fun iv _ => N - (intOf iv).toNat)
  case atStart => exact ⟨0, _, _, _, Nat.zero_le _, rfl, rfl, rfl, H0⟩
  case round =>
    obtain ⟨k, rb, g, ha, hk, rfl, hrb, hg, HI⟩ := hrel
    rw [← hrb, ← hg]
    have HRG := Lib.hid (And.intro hrb hg)
    clear H0 hmk hrb hg
    by_cases hlt : k < N
    · obtain ⟨b, off, a, rfl, hbb, hc, hae, hcp⟩ := HA.out.1 k (by have := HN.out; omega)
      have hkR : k < R.n := by have := HN.out; omega
      have hlk := HLN.out k hkR
      have hc0 : wr.cell? ⟨b, off + k, none⟩ = some (.slice a (R.ln k) (R.cp k)) := (HI.out.bel.cell (p := ⟨b, off + k, none⟩) hbb).trans hc
      have hBr : B ≤ wr.heap.size := by have := HI.out.bel.size; have := HB.out; omega
      have HD : Hid (AllG R w wr.drew B rb g N k ha) := Lib.hid (HI.out.below hBr (bel_drew1 wr))
      go_upto_region 5 with (fail)
      obtain ⟨z0, z1, z2⟩ := AllG.cells HD hlt
      clear hc hc0 hcp HI
      go_region_with (go_at_call 16; refine (ag_copies (B := B) (rb := rb) (g := g) (N := N) (ha := ha) HA hkR hae hlk HSZ HB.out HD).mono ?_; rintro e w6 ⟨f6, rfl, H6⟩; obtain ⟨y0, y1, y2⟩ := AllG.cells (Lib.hid H6.out.1) hlt)
      all_goals
        have HQ := Lib.hid (H6.out.1.put hlt H6.out.2)
        clear H6 HD z0 z1 z2 y0 y1 y2
        go_wp2
        go_roundw
        case rel => exact ⟨k + 1, rb, g, _, by omega, by first | rfl | go_num, rfl, rfl, HQ⟩
        case measure => first | exact meas_up2 hlt | (simp [intOf]; omega)
    · obtain rfl : k = N := by omega
      go_wp2
      go_ret
      exact ⟨rb, g, ha, rfl, HI⟩
end Go.Proofs.Ytcgilgihmapipaa
