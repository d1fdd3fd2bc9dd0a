/- NetOnce: what is neither lost nor doubled arrives once, as it was sent, whatever the input. -/
import Derived.Test.YtgpkjedbmaihbaaNetLaw

import Derived.Test.YtgpkjedbmaihbaaLawEnd

import Derived.Test.YtgpkjedbmaihbaaPlainKit

namespace Go.Proofs.Ytgpkjedbmaihbaa.fnNetOnce
open Go.ChangeShapes Go.WideShapes Go.ChangeAt Go.RowKit Go.WideMaps Go.WideElems
open Go.ChangeMaps (open_string)

/-- the i-th letter that is sent -/
def letr (ss : Nat → ByteArray) (i : Nat) : Letr := ⟨(i : Int) + 1, (i : Int) % 3, ((i : Int) + 1) % 3, ss i⟩
def letrs (ss : Nat → ByteArray) (R : List Nat) : List Letr := R.map (letr ss)
theorem node_mod (i : Int) : nodeB 3 (i % 3) = true := by
  simp only [nodeB, Bool.and_eq_true, decide_eq_true_eq]
  omega
/-- which letters have arrived -/
def Seen (w : World) (q n : Nat) (R : List Nat) : Prop := Bears w q 4 ∧ ∀ j, j < n → w.cell? ⟨q, j, none⟩ = some (.bool (decide (j ∉ R)))
theorem Seen.frm {w w' : World} {q n : Nat} {R : List Nat} (h : Seen w q n R) (f : w'.heap[q]? = w.heap[q]?) : Seen w' q n R := by
  obtain ⟨⟨cs, h0⟩, h1⟩ := h
  exact ⟨⟨cs, f.trans h0⟩, fun j hj => (cell_eq f j).trans (h1 j hj)⟩
theorem Seen.fr {w : World} {q n : Nat} {R : List Nat} (h : Seen w q n R) (i : Nat) : w.frozen? ⟨q, i, none⟩ = false := by
  obtain ⟨⟨cs, h0⟩, _⟩ := h
  simp [World.frozen?, h0]
theorem Seen.turn {w : World} {q n j : Nat} {R R' : List Nat} (h : Seen w q n R) (hj : j < n) (hR : ∀ i, i ∈ R' ↔ i ∈ R ∧ i ≠ j) : Seen (w.setCell ⟨q, j, none⟩ (.bool true)) q n R' := by
  refine ⟨bears_set _ h.1, fun i hi => ?_⟩
  by_cases e : i = j
  · subst e
    rw [World.cell?_setCell_same _ _ _ (h.2 i hi)]
    simp [hR]
  · rw [World.cell?_setCell_other _ _ _ _ (by intro h; injection h with _ h _; exact e h.symm), h.2 i hi]
    simp [hR, e]
theorem made_seen (n : Nat) (hn : n ≤ 65536) : ∀ w : World, (Instr.makeSlice 59 (.int .i64 (n : Int)) (.int .i64 (n : Int))).run Try.prog w =
    .ok (.slice (some ⟨w.heap.size, 0, none⟩) n n) (w.alloc (.cells (madeCells #[.bool false] n) 4)) := by
  intro w
  obtain ⟨i, hi, hz0, hz1, hz2⟩ := info_parts (show (Try.prog.info? 4).map (fun i => (i.zero, i.size, i.bytes)) = some (some (.bool false), 1, 1) by kernel_rfl)
  have := run_make (P := Try.prog) w 59 4 i (.bool false) Try.underlying59 hi hz0 .i64 .i64 n n (by omega) (by omega) (by rw [hz2]; omega) (by omega)
  simpa [hz1, Value.cells] using this
theorem seen_start (w : World) (n : Nat) (R : List Nat) (hR : ∀ j, j < n → j ∈ R) : Seen (w.alloc (.cells (madeCells #[.bool false] n) 4)) w.heap.size n R := by
  refine ⟨⟨_, heap_alloc_new w _⟩, fun j hj => ?_⟩
  rw [World.cell?_alloc_new]
  have hs : (madeCells #[Value.bool false] n).size = n := by rw [size_madeCells]
  rw [Array.getElem?_eq_getElem (by rw [hs]; exact hj)]
  simp [madeCells, hR j hj, Nat.mod_one]
theorem letrs_get {ss : Nat → ByteArray} {R : List Nat} {c j : Nat} (h : R[c]? = some j) : (letrs ss R)[c]? = some (letr ss j) := by simp [letrs, h]
theorem letrs_erase (ss : Nat → ByteArray) (R : List Nat) (c : Nat) : (letrs ss R).eraseIdx c = letrs ss (R.eraseIdx c) := by simp [letrs, List.eraseIdx_eq_take_drop_succ, List.map_take, List.map_drop]
theorem mem_erase {R : List Nat} {c j : Nat} (hn : R.Nodup) (h : R[c]? = some j) (i : Nat) : i ∈ R.eraseIdx c ↔ i ∈ R ∧ i ≠ j := by
  obtain ⟨hc, rfl⟩ := List.getElem?_eq_some_iff.1 h
  have e : R.eraseIdx c = R.erase R[c] := by
    rw [List.erase_eq_eraseIdx_of_idxOf]
    exact (List.Nodup.idxOf_getElem hn c hc)
  rw [e, hn.mem_erase_iff]
  exact And.comm
theorem letrs_length (ss : Nat → ByteArray) (R : List Nat) : (letrs ss R).length = R.length := by simp [letrs]
theorem letrs_snoc (ss : Nat → ByteArray) (k : Nat) : letrs ss (List.range (k + 1)) = letrs ss (List.range k) ++ [letr ss k] := by
  simp [letrs, List.range_succ]
set_option maxRecDepth 100000 in
set_option maxHeartbeats 4000000 in
theorem walk (A : Option Addr) (len cap : Nat) (ss : Nat → ByteArray) (A1 : Option Addr) (len1 cap1 : Nat) (ks : List Int) (W : World) (hl : len ≤ maxLen) (hS : SlOf W W.heap.size A len (fun i => .string (ss i)))
    (hl1 : len1 ≤ maxLen) (hn1 : len1 ≤ ks.length) (hI : SlOf W W.heap.size A1 len1 (fun i => .int .i64 (ks.getD i 0))) (hK : ∀ n ∈ ks, (Lit.int .i64 n).wf = true) :
    Calls Try.prog 4 #[.slice A len cap, .slice A1 len1 cap1] W fun e w' => e = .returned (.bool true) ∧ Below W.heap.size W w' := by
  have HS := Lib.hid hS
  have HI := Lib.hid hI
  have HK := Lib.hid hK
  have HN1 := Lib.hid hn1
  have hl' : (len : Int) ≤ 9223372036854775807 := by unfold maxLen at hl; omega
  have hl1' : (len1 : Int) ≤ 9223372036854775807 := by unfold maxLen at hl1; omega
  clear hS hI hK hl hl1 hn1
  go_enter Try.func4, Try.ntmps4
  go_wp2_with (fail)
  refine (speaks_any _).mono ?_
  rintro e w1 ⟨rfl, hb1⟩
  have HB1 := Lib.hid hb1
  clear hb1
  go_wp2_with (fail)
  refine (nst_new (w0 := W) 3 3 (by decide) w1 HB1.out).mono ?_
  rintro e w2 ⟨rfl, h2, _⟩
  have H2 := Lib.hid h2
  clear h2
  obtain ⟨p, hp⟩ : ∃ p, p = w1.heap.size := ⟨_, rfl⟩
  rw [← hp] at H2 ⊢
  clear hp HB1
  go_wp2
  go_loopw [6] (fun i wr => ∃ k : Nat, k ≤ len ∧ k ≤ 65536 ∧ i = .int .i64 k ∧ Hid (NSt W wr p 3 k (.map none) (letrs ss (List.range k))) ∧ Hid (∀ j, j < k → (ss j).size ≤ 1048576)) (fun i _ => len - (intOf i).toNat)
  case atStart => exact ⟨0, by omega, by omega, rfl, H2, Lib.hid (fun j hj => by omega)⟩
  case round =>
    obtain ⟨k, hk, hk6, rfl, HR, HT⟩ := hrel
    clear H2
    by_cases hkn : k < len
    · have hkn' : (k : Int) < len := by omega
      obtain ⟨b, off, rfl, hB, hc⟩ := HS.out k hkn
      have hc1 := (HR.out.1.cell (p := ⟨b, off + k, none⟩) hB).trans hc
      have HSB := Lib.hid (And.intro hB hc)
      clear hc hB
      by_cases hlong : (ss k).size ≤ 1048576
      · have hlong2 : ¬ (1048576 : Int) < ((ss k).size : Int) := by omega
        have hlong3 : decide ((1048576 : Int) < ((ss k).size : Int)) = false := by simpa using hlong2
        have HLO := Lib.hid hlong
        clear hlong
        by_cases hfull : k < 65536
        · have hf2 : ¬ (65536 : Int) ≤ (k : Int) := by omega
          have hf3 : decide ((65536 : Int) ≤ (k : Int)) = false := by simpa using hf2
          go_wp2_with (fail)
          refine (nst_send ((k : Int) % 3) (((k : Int) + 1) % 3) (ss k) wr HLO.out (by rw [letrs_length, List.length_range]; exact hfull) ⟨by omega, by omega⟩ (node_mod _) (node_mod _) HR).mono ?_
          rintro e w3 ⟨rfl, H3⟩
          have hc3 := (H3.out.1.1.cell (p := ⟨b, off + k, none⟩) HSB.out.1).trans HSB.out.2
          have HT2 : Hid (∀ j, j < k + 1 → (ss j).size ≤ 1048576) := Lib.hid (fun j hj => by
            by_cases e : j = k
            · rw [e]; exact HLO.out
            · exact HT.out j (by omega))
          clear hc1
          go_wp2
          go_round
          case rel =>
            refine ⟨k + 1, by omega, by omega, by simp, Lib.hid ?_, HT2⟩
            rw [letrs_snoc]
            exact H3.out.1
          case measure => simp [intOf]; omega
        · have hf2 : (65536 : Int) ≤ (k : Int) := by omega
          go_wp2_with (fail)
          refine (nst_send_full ((k : Int) % 3) (((k : Int) + 1) % 3) (ss k) wr HLO.out (by rw [letrs_length, List.length_range]; omega) (node_mod _) (node_mod _) HR).mono ?_
          rintro e w3 ⟨rfl, H3⟩
          have hc3 := (H3.out.1.1.cell (p := ⟨b, off + k, none⟩) HSB.out.1).trans HSB.out.2
          clear hc1
          go_wp2
          go_ret
          exact ⟨rfl, H3.out.1.1⟩
      · have hlong2 : (1048576 : Int) < ((ss k).size : Int) := by omega
        go_wp2_with (fail)
        refine (nst_send_long ((k : Int) % 3) (((k : Int) + 1) % 3) (ss k) wr hlong (node_mod _) (node_mod _) HR).mono ?_
        rintro e w3 ⟨rfl, H3⟩
        have hc3 := (H3.out.1.1.cell (p := ⟨b, off + k, none⟩) HSB.out.1).trans HSB.out.2
        clear hc1
        go_wp2
        go_ret
        exact ⟨rfl, H3.out.1.1⟩
    · have hkl := Lib.hid (show k = len by omega)
      have hkn2 : ¬ (k : Int) < (len : Int) := by omega
      have hl6 : (len : Int) ≤ 65536 := by omega
      have hmk := made_seen len (by omega)
      rw [hkl.out] at HR HT
      have hqw : Hid (W.heap.size ≤ wr.heap.size) := Lib.hid HR.out.1.size
      have hal : Below wr.heap.size wr (wr.alloc (.cells (madeCells #[.bool false] len) 4)) := (Below.refl _ wr).alloc (Nat.le_refl _) _
      have HR2 := Lib.hid (HR.out.below hal)
      have HSE : Hid (Seen (wr.alloc (.cells (madeCells #[.bool false] len) 4)) wr.heap.size len (List.range len)) := Lib.hid (seen_start wr len _ (fun j hj => by simpa using hj))
      obtain ⟨q, hq⟩ : ∃ q, q = wr.heap.size := ⟨_, rfl⟩
      rw [← hq] at HSE hqw
      clear hal
      go_wp2
      rw [← hq]
      clear hq
      go_loopw [10] (fun i wr => ∃ (k : Nat) (R : List Nat), i = .int .i64 k ∧ R.length + k = len ∧ Hid (R.Nodup ∧ (∀ j, j ∈ R → j < len) ∧ NSt W wr p 3 len (.map none) (letrs ss R) ∧ Seen wr q len R)) (fun i _ => len - (intOf i).toNat)
      case atStart => exact ⟨0, List.range len, rfl, by simp, Lib.hid ⟨List.nodup_range, fun j hj => by simpa using hj, HR2.out, HSE.out⟩⟩
      case round =>
        obtain ⟨k2, R, rfl, hRl, HRR⟩ := hrel
        clear HR2 HSE hmk HR
        by_cases hkn : k2 < len
        · have hkn3 : (k2 : Int) < (len : Int) := by omega
          have hs1 : wrap64 ((len : Int) - (k2 : Int)) = (len : Int) - (k2 : Int) := IntWalk.wrap64_in _ ⟨by omega, by omega⟩
          have hs2 : ¬ (len : Int) - (k2 : Int) = 0 := by omega
          go_upto_region 17 with (fail)
          go_cut [76] (fun s76 wx => (∃ v : Bool, s76 = .bool v ∧ Hid (v = true → k2 < len1 ∧ 0 < ks.getD k2 0)) ∧ Hid (wx = wr))
          case first =>
            by_cases ho : k2 < len1
            · have ho2 : (k2 : Int) < (len1 : Int) := by omega
              obtain ⟨b, off, rfl, hB, hc⟩ := HI.out k2 ho
              have hc1 := (HRR.out.2.2.1.1.cell (p := ⟨b, off + k2, none⟩) hB).trans hc
              simp only at hc1
              obtain ⟨x, hx⟩ : ∃ x, x = ks.getD k2 0 := ⟨_, rfl⟩
              rw [← hx] at hc1
              have HXE := Lib.hid hx
              have HO := Lib.hid ho
              clear hc hB hx ho
              by_cases hx0 : 0 < x
              · have hx1 : decide (0 < x) = true := by simpa using hx0
                have HX := Lib.hid hx0
                go_wp2
                go_meet
                exact ⟨⟨true, rfl, Lib.hid (fun _ => ⟨HO.out, by rw [← HXE.out]; exact HX.out⟩)⟩, Lib.hid rfl⟩
              · have hx1 : decide (0 < x) = false := by simpa using hx0
                go_wp2
                go_meet
                exact ⟨⟨false, rfl, Lib.hid (fun h => by cases h)⟩, Lib.hid rfl⟩
            · have ho2 : ¬ (k2 : Int) < (len1 : Int) := by omega
              go_wp2
              go_meet
              exact ⟨⟨false, rfl, Lib.hid (fun h => by cases h)⟩, Lib.hid rfl⟩
          case rest =>
          obtain ⟨⟨v, rfl, HV⟩, hwx⟩ := hcut
          rw [hwx.out]
          clear hwx
          go_upto_if 76 with (fail)
          go_cut [11] (fun s11 wx => (∃ c : Nat, s11 = .int .i64 c ∧ Hid (c < R.length)) ∧ Hid (wx = wr))
          case first =>
            cases v
            · go_wp2
              go_meet
              exact ⟨⟨0, rfl, Lib.hid (by omega)⟩, Lib.hid rfl⟩
            · have HV2 := Lib.hid (HV.out rfl)
              have ho2 : (k2 : Int) < (len1 : Int) := by have := HV2.out.1; omega
              obtain ⟨b, off, rfl, hB, hc⟩ := HI.out k2 HV2.out.1
              have hc1 := (HRR.out.2.2.1.1.cell (p := ⟨b, off + k2, none⟩) hB).trans hc
              simp only at hc1
              have HX := Lib.hid HV2.out.2
              have HXW := Lib.hid (i64_of_wf (HK.out (ks.getD k2 0) (by rw [List.getD_eq_getElem?_getD, List.getElem?_eq_getElem (by have := HN1.out; have := HV2.out.1; omega)]; exact List.getElem_mem _)))
              obtain ⟨x, hx⟩ : ∃ x, x = ks.getD k2 0 := ⟨_, rfl⟩
              rw [← hx] at hc1 HX HXW
              have hx0 := HX.out
              have HM : Hid (x % ((len : Int) - (k2 : Int)) = (((x % ((len : Int) - (k2 : Int))).toNat : Nat) : Int) ∧ (x % ((len : Int) - (k2 : Int))).toNat < R.length) := Lib.hid (by
                have h1 := Int.emod_nonneg x (b := (len : Int) - (k2 : Int)) (by omega)
                have h2 := Int.emod_lt_of_pos x (b := (len : Int) - (k2 : Int)) (by omega)
                omega)
              clear hc hB hx HV HV2
              go_wp2
              go_meet
              exact ⟨⟨(x % ((len : Int) - (k2 : Int))).toNat, by rw [← HM.out.1], Lib.hid HM.out.2⟩, Lib.hid rfl⟩
          case rest =>
            obtain ⟨⟨c, rfl, HC⟩, hwx⟩ := hcut
            rw [hwx.out]
            clear hwx
            obtain ⟨j, hj⟩ : ∃ j, R[c]? = some j := ⟨_, List.getElem?_eq_getElem HC.out⟩
            have HJ := Lib.hid hj
            have hjl := HRR.out.2.1 j (List.mem_of_getElem? hj)
            have HJS := Lib.hid (HT.out j hjl)
            clear hj
            go_wp2_with (fail)
            refine (nst_deliver_none c (letr ss j) wr HJS.out (letrs_get HJ.out) (by rw [letrs_length]; omega) (Lib.hid HRR.out.2.2.1)).mono ?_
            rintro e w3 ⟨rfl, H3⟩
            have HSE3 := Lib.hid (HRR.out.2.2.2.frm (H3.out.2 q _ HRR.out.2.2.2.1 (by decide) (by decide)))
            have HBW : Hid (Below w3.heap.size w3 (w3.alloc (.cells #[.int .i64 ((j : Int) + 1), .int .i64 ((j : Int) % 3), .int .i64 (((j : Int) + 1) % 3), .string (ss j)] 36))) := Lib.hid ((Below.refl _ w3).alloc (Nat.le_refl _) _)
            obtain ⟨w4, hw4⟩ : ∃ w4, w4 = w3.alloc (.cells #[.int .i64 ((j : Int) + 1), .int .i64 ((j : Int) % 3), .int .i64 (((j : Int) + 1) % 3), .string (ss j)] 36) := ⟨_, rfl⟩
            have m0 : w4.cell? ⟨w3.heap.size, 0, none⟩ = some (.int .i64 ((j : Int) + 1)) := by rw [hw4]; simp
            have m1 : w4.cell? ⟨w3.heap.size, 1, none⟩ = some (.int .i64 ((j : Int) % 3)) := by rw [hw4]; simp
            have m2 : w4.cell? ⟨w3.heap.size, 2, none⟩ = some (.int .i64 (((j : Int) + 1) % 3)) := by rw [hw4]; simp
            have m3 : w4.cell? ⟨w3.heap.size, 3, none⟩ = some (.string (ss j)) := by rw [hw4]; simp
            rw [← hw4] at HBW
            have HSE4 := Lib.hid (HSE3.out.frm (HBW.out.block q HSE3.out.1.lt))
            have HN4 := Lib.hid (H3.out.1.below HBW.out)
            obtain ⟨l, hl⟩ : ∃ l, l = w3.heap.size := ⟨_, rfl⟩
            obtain ⟨b, off, rfl, hB, hc⟩ := HS.out j hjl
            have m4 := (HN4.out.1.cell (p := ⟨b, off + j, none⟩) hB).trans hc
            have m5 : w4.cell? ⟨q, j, none⟩ = some (.bool false) := by
              rw [HSE4.out.2 j hjl]
              simp [List.mem_of_getElem? HJ.out]
            have m6 := HSE4.out.fr j
            have hlq : ¬ l = q := by have := HSE3.out.1.lt; omega
            rw [← hl] at m0 m1 m2 m3
            have hjl2 : (j : Int) < (len : Int) := by omega
            have hj1 : wrap64 ((j : Int) + 1 - 1) = (j : Int) := by rw [show (j : Int) + 1 - 1 = j by omega]; exact IntWalk.wrap64_in _ ⟨by omega, by omega⟩
            have dd1 : decide ((j : Int) + 1 < 1) = false := by simp; omega
            have dd2 : decide ((j : Int) < 0) = false := by simp
            have dd3 : decide ((len : Int) < (j : Int) + 1) = false := by simp; omega
            have dd4 : ¬ (j : Int) < 0 := by omega
            have dd5 : ¬ (len : Int) < (j : Int) + 1 := by omega
            have HFW := Lib.hid (And.intro hw4 hl)
            clear hB hc hw4 hl HSE3 HBW H3
            go_upto_region 20 with (fail)
            rw [← HFW.out.2]
            simp only [letr]
            rw [← HFW.out.1]
            go_quiet (fail)
            have H5 : Hid (NSt W (w4.drewN nq) p 3 len (.map none) (letrs ss (R.eraseIdx c)) ∧ Seen (w4.drewN nq) q len R) := Lib.hid ⟨by
              have := HN4.out
              rw [letrs_erase] at this
              exact this.below (below_drewN (Below.refl _ w4) nq), HSE4.out.frm rfl⟩
            have hEl : (R.eraseIdx c).length + (k2 + 1) = len := by
              rw [List.length_eraseIdx]
              have := HC.out
              simp [this]
              omega
            have HEL := Lib.hid hEl
            have hk1 : (k2 : Int) + 1 = ((k2 + 1 : Nat) : Int) := by omega
            have HK1 := Lib.hid hk1
            have hw2 : IntKind.i64.wrap ((k2 : Int) + 1) = (k2 : Int) + 1 := IntWalk.i64_in _ (by omega)
            clear hk1 hEl
            go_wp2
            go_round
            case rel =>
              refine ⟨k2 + 1, R.eraseIdx c, by rw [← HK1.out], HEL.out, Lib.hid ⟨HRR.out.1.eraseIdx c, fun i hi => HRR.out.2.1 i ((mem_erase HRR.out.1 HJ.out i).1 hi).1, ?_, ?_⟩⟩
              · obtain ⟨h1, h2, v, h3⟩ := H5.out.1
                have hsz : q < (w4.drewN nq).heap.size := H5.out.2.1.lt
                have ts := tch_set (w4.drewN nq) ⟨q, j, none⟩ (.bool true)
                exact ⟨ts.from h1 (fun i hi => by rw [hi]; exact hqw.out), h2, v, h3.tch ts (bears_apart h3.ty H5.out.2.1 (by decide)) (fun b hb => bears_apart (h3.fly.ty b hb) H5.out.2.1 (by decide))⟩
              · exact H5.out.2.turn hjl (mem_erase HRR.out.1 HJ.out)
            case measure => simp [intOf]; omega
        · have hkn3 : ¬ (k2 : Int) < (len : Int) := by omega
          obtain rfl : R = [] := List.eq_nil_of_length_eq_zero (by omega)
          go_wp2_with (fail)
          refine (nst_deliver_arg 0 wr (by simp [letrs]) (Lib.hid HRR.out.2.2.1)).mono ?_
          rintro e w3 ⟨rfl, H3⟩
          have H4 : Hid (NSt W (w3.alloc (.cells #[.int .i64 0, .int .i64 0, .int .i64 0, .string ⟨#[]⟩] 36)) p 3 len (.map none) (letrs ss [])) := Lib.hid (H3.out.1.below ((Below.refl _ _).alloc (Nat.le_refl _) _))
          go_wp2_with (fail)
          refine (nst_fly _ (by simp [letrs]) (fun l hl => by simp [letrs] at hl) H4).mono ?_
          rintro e w5 ⟨rfl, H5⟩
          have hll : (letrs ss []).length = 0 := rfl
          go_wp2
          go_ret
          exact ⟨rfl, H5.out.1.1⟩

theorem contract (H : Type) (enc : TypeId × Value → H) (W : World) (base : Nat) (args : Array Value) (ds gs : List (DataW H)) (before : List MemPlace)
    (hval : ∀ (j : Nat) t v, Try.f4.params[j]? = some t → args[j]? = some v → Value.okWide Try.prog W .any base t v)
    (hW : DataW.Whole enc Try.prog Try.f4.params.toList Rows.netOnceSpec.vars false W args.toList ds gs before)
    (hz : (DataW.weightsEach Try.prog (Try.f4.params.toList ++ []) (ds ++ gs)).all (· ≤ reachBytes) = true) :
    Calls Try.prog 4 args W fun e W' => ∃ v, e = .returned v ∧ Rows.netOnceSpec.post enc Try.prog Try.f4 false true false false W args v W' := by
  have hW' := hW
  obtain ⟨p, q, hA0, hV, rfl, hfz, hnd⟩ := hW
  have hA : DataW.TrodAll enc Try.prog W 0 (fun _ => true) true Try.f4.params.toList args.toList ds p := hA0
  rw [Try.params4] at hA hval hz
  obtain ⟨v0, vs0, d0, ds0, p0, q0, hargs, rfl, rfl, h0, r0⟩ := trodAll_cons hA
  obtain ⟨v1, vs1, d1, ds1, p1, q1, rfl, rfl, rfl, h1, r1⟩ := trodAll_cons r0
  obtain ⟨rfl, rfl, rfl⟩ := trodAll_nil r1
  obtain rfl : args = #[v0, v1] := by cases args; simp_all
  obtain ⟨rfl, rfl⟩ := trodVars_none hV
  obtain ⟨A, len, cap, ss, rfl, hl, hS⟩ := open_texts (hval 0 57 v0 rfl rfl) h0
  obtain ⟨A1, len1, cap1, ks, rfl, hl1, hn1, hI, hK, _⟩ := open_int_arg Try.underlying58 Try.underlying3 (by kernel_rfl) (hval 1 58 v1 rfl rfl) h1
  clear hA0
  refine (walk A len cap ss A1 len1 cap1 ks W hl hS hl1 hn1 hI hK).mono fun e W' ⟨he, hb⟩ => ?_
  subst he
  exact ⟨_, rfl, law_end hW' rfl rfl hb laidOut (by kernel_rfl) (by kernel_rfl) Try.underlying4⟩

theorem reads (os : Os) {H : Type} (enc : TypeId × Value → H) : ∃ places, DataW.whole enc Try.prog ((World.holding Try.prog os ⟨#[], #[], []⟩).forCall (fun _ _ => 0) ⟨#[], #[.slice none 0 0, .slice none 0 0], []⟩).memory Try.f4.params.toList Rows.netOnceSpec.vars false [Value.slice none 0 0, Value.slice none 0 0] 8 = some ([.nil, .nil], [], places) :=
  ⟨[], by kernel_rfl⟩

set_option maxRecDepth 100000 in
theorem lifted (os : Os) (started : os.Started) (H : Type) (enc : TypeId × Value → H) (F : Stop.Interp) :
    ReturnsInHanded {} Try.checked os 4 .any ((OpenSpec.ofChange Rows.netOnceSpec).preRow enc Try.prog Try.f4 Rows.netOnceRow.domain false Rows.netOnceRow.laid) (((OpenSpec.ofChange Rows.netOnceSpec).at F).post enc Try.prog Try.f4 false true false false) := by
  obtain ⟨places, hx⟩ := reads os enc
  have laid_met : laidMet Try.prog Rows.netOnceRow.laid ((World.holding Try.prog os ⟨#[], #[], []⟩).forCall (fun _ _ => 0) ⟨#[], #[.slice none 0 0, .slice none 0 0], []⟩).memory := ⟨[], rfl, List.nodup_nil, fun _ _ h => by cases h⟩
  refine returnsInHanded_of_row (C := Try.checked) (s := OpenSpec.ofChange Rows.netOnceSpec) own started (by kernel_rfl) Try.func4
    (witness_row_at (enc := enc) (C := Try.checked) false (World.holding Try.prog os ⟨#[], #[], []⟩) #[.slice none 0 0, .slice none 0 0] rfl (by kernel_rfl) (by kernel_rfl) (by kernel_rfl)
      (OpenSpec.preRow_of_cond 8 hx (by kernel_rfl) (fun k hk => by cases hk) (by kernel_rfl) laid_met)) ?_
  intro W base args ds gs before hval hW _ _ hz _ _ _
  exact contract H enc W base args ds gs before hval hW hz

theorem said : Rows.NetOnceSaid :=
  OpenClaim.holds_of_cond 4 Try.f4 rfl rfl rfl rfl rfl rfl rfl ⟨rfl, rfl, rfl, rfl, rfl⟩ rfl rfl rfl rfl rfl (by kernel_rfl) Try.func4 (by kernel_rfl)
    (of_decide_eq_true (by kernel_rfl)) (by unfold Func.isWrapper; first | (rw [if_pos (by decide +kernel)]; kernel_rfl) | (rw [if_neg (by decide +kernel)]; exact ⟨rfl, rfl⟩))
    (fun os started H enc _ F => by rw [OpenClaim.pre_eq_preRow]; exact lifted os started H enc F)

end Go.Proofs.Ytgpkjedbmaihbaa.fnNetOnce
