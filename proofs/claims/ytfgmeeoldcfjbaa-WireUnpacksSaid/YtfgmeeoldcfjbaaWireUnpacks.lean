/- WireUnpacks is true for every text and every list of kinds. No conditions. -/
import Derived.Test.YtfgmeeoldcfjbaaRefTakeB
import Derived.Test.YtfgmeeoldcfjbaaSlices
import Derived.Test.YtfgmeeoldcfjbaaWireSpeaks
import Derived.Test.YtfgmeeoldcfjbaaKindOf
import Derived.Deep.RegionHeld3

import Derived.Test.YtfgmeeoldcfjbaaLawEnd

import Derived.Test.YtfgmeeoldcfjbaaPlainKit

namespace Go.Proofs.Ytfgmeeoldcfjbaa.fnWireUnpacks
open Go.ChangeShapes Go.WideShapes Go.ChangeAt Go.RowKit Go.WideMaps Go.WideElems
open Go.ChangeMaps (open_string)

/-- both states follow the same text -/
def Both (W : World) (u p : Nat) (s : ByteArray) (l : List UInt8) (er : Int) (w : World) : Prop := UnIs w u s l er ∧ RefIs w p l er ∧ Below W.heap.size W w
theorem Both.c0 {W w : World} {u p : Nat} {s : ByteArray} {l : List UInt8} {er : Int} (h : Both W u p s l er w) : w.cell? ⟨p, 0, none⟩ = some (.string (S l)) := h.2.1.2.2.1
theorem Both.c1 {W w : World} {u p : Nat} {s : ByteArray} {l : List UInt8} {er : Int} (h : Both W u p s l er w) : w.cell? ⟨p, 1, none⟩ = some (.int .i64 er) := h.2.1.2.2.2.1
theorem Both.drewN {W w : World} {u p : Nat} {s : ByteArray} {l : List UInt8} {er : Int} (h : Both W u p s l er w) (n : Nat) : Both W u p s l er (w.drewN n) :=
  ⟨h.1.drewN n, h.2.1.below (below_drewN (Below.refl w.heap.size w) n) (Nat.le_refl _), below_drewN h.2.2 n⟩
theorem both_S_drew {W w : World} {u p : Nat} {s : ByteArray} {l : List UInt8} {er : Int} (h : Hid (Both W u p s l er w)) : Hid (Both W u p s l er w.drew) ∧ w.drew.cell? ⟨p, 0, none⟩ = some (.string (S l)) ∧ w.drew.cell? ⟨p, 1, none⟩ = some (.int .i64 er) := by
  have hb : Both W u p s l er w.drew := h.out.drewN 1
  exact ⟨Lib.hid hb, hb.c0, hb.c1⟩
theorem uend_both {W w : World} {u p : Nat} {s : ByteArray} {l : List UInt8} {er E : Int} (hB : Hid (Both W u p s l er w) ∧ w.cell? ⟨p, 0, none⟩ = some (.string (S l)) ∧ w.cell? ⟨p, 1, none⟩ = some (.int .i64 er)) (hs : s.size ≤ 140737488351232) (hE : Hid (Wire.tEnd l er = E)) :
    Calls Try.prog 22 #[.pointer (some ⟨u, 0, none⟩)] w fun e w' => e = .returned (.int .i64 E) ∧ Hid (Both W u p s l er w') ∧ w'.cell? ⟨p, 0, none⟩ = some (.string (S l)) ∧ w'.cell? ⟨p, 1, none⟩ = some (.int .i64 er) := by
  refine (uend_any u s l er w hs hB.1.out.1).mono ?_
  rintro e w' ⟨rfl, n, rfl⟩
  have hb := hB.1.out.drewN n
  exact ⟨by rw [hE.out], Lib.hid hb, hb.c0, hb.c1⟩
theorem rend_both {W w : World} {u p : Nat} {s : ByteArray} {l : List UInt8} {er E : Int} (hB : Hid (Both W u p s l er w) ∧ w.cell? ⟨p, 0, none⟩ = some (.string (S l)) ∧ w.cell? ⟨p, 1, none⟩ = some (.int .i64 er)) (hE : Hid (Wire.tEnd l er = E)) :
    Calls Try.prog 23 #[.agg #[.string (S l), .int .i64 er]] w fun e w' => e = .returned (.int .i64 E) ∧ Hid (Both W u p s l er w') ∧ w'.cell? ⟨p, 0, none⟩ = some (.string (S l)) ∧ w'.cell? ⟨p, 1, none⟩ = some (.int .i64 er) := by
  refine (rend_any l er w).mono ?_
  rintro e w' ⟨rfl, hb⟩
  have hb' : Both W u p s l er w' := ⟨hB.1.out.1.below hb (Nat.le_refl _), hB.1.out.2.1.below hb (Nat.le_refl _), hB.1.out.2.2.trans (hb.mono hB.1.out.2.2.size)⟩
  exact ⟨by rw [hE.out], Lib.hid hb', hb'.c0, hb'.c1⟩
theorem both_end {W w : World} {u p : Nat} {s : ByteArray} {l : List UInt8} {er : Int} (h : Hid (Both W u p s l er w) ∧ w.cell? ⟨p, 0, none⟩ = some (.string (S l)) ∧ w.cell? ⟨p, 1, none⟩ = some (.int .i64 er)) : Below W.heap.size W w := h.1.out.2.2
theorem both_is {W w : World} {u p : Nat} {s : ByteArray} {l : List UInt8} {er : Int} (h : Hid (Both W u p s l er w) ∧ w.cell? ⟨p, 0, none⟩ = some (.string (S l)) ∧ w.cell? ⟨p, 1, none⟩ = some (.int .i64 er)) : Hid (Both W u p s l er w) := h.1
theorem both_grown {W w w1 w2 : World} {u p : Nat} {s : ByteArray} {l l1 : List UInt8} {er e1 : Int} (h : Both W u p s l er w) (hne : u ≠ p) (hu : W.heap.size ≤ u) (hp : W.heap.size ≤ p)
    (h1 : UnIs w1 u s l1 e1) (g1 : w.grownBy w1 (some u)) (h2 : RefIs w2 p l1 e1) (g2 : w1.grownBy w2 (some p)) : Both W u p s l1 e1 w2 :=
  ⟨h1.grown g2 hne, h2, below_grown (below_grown h.2.2 g1 hu h.2.2.size) g2 hp (below_grown h.2.2 g1 hu h.2.2.size).size⟩
theorem ref_keep {w w1 : World} {u p : Nat} {l : List UInt8} {er : Int} (h : RefIs w p l er) (hne : u ≠ p) (g : w.grownBy w1 (some u)) : RefIs w1 p l er := h.grown g (fun e => hne e.symm)
theorem ref_new (w : World) (l : List UInt8) (t : TypeId) (hl : l.length ≤ 140737488351232) : RefIs (w.alloc (.cells #[.string (S l), .int .i64 0] t)) w.heap.size l 0 := by
  refine ⟨by simp, hl, ?_, ?_, ?_, ?_⟩
  · rw [World.cell?_alloc_at _ _ _ _ rfl]; rfl
  · rw [World.cell?_alloc_at _ _ _ _ rfl]; rfl
  · simp [World.frozen?_alloc_at]
  · simp [World.frozen?_alloc_at]

set_option maxRecDepth 100000 in
set_option maxHeartbeats 8000000 in
theorem walk (s : ByteArray) (A : Option Addr) (len cap : Nat) (ks : List Int) (w : World) (hs : s.size ≤ 140737488351232) (hl : len ≤ maxLen) (hI : SlOf w w.heap.size A len (fun i => .int .i64 (ks.getD i 0))) (hK : ∀ n ∈ ks, (Lit.int .i64 n).wf = true) (hn : len ≤ ks.length) :
    Calls Try.prog 4 #[.string s, .slice A len cap] w fun e w' => e = .returned (.bool true) ∧ Below w.heap.size w w' := by
  have HI := Lib.hid hI
  have HKS : Hid (∀ i, i < len → -9223372036854775808 ≤ ks.getD i 0 ∧ ks.getD i 0 ≤ 9223372036854775807) := fun i hi => by
    have hil : i < ks.length := by omega
    have : ks.getD i 0 = ks[i] := by simp [List.getD, hil]
    rw [this]
    exact i64_of_wf (hK _ (List.getElem_mem hil))
  unfold maxLen at hl
  clear hI hK hn
  go_enter Try.func4, Try.ntmps4
  go_wp2_with (fail)
  refine (speaks2_any _).mono ?_
  rintro e w1 ⟨rfl, hb1⟩
  have B1 := Lib.hid hb1
  clear hb1
  go_wp2_with (fail)
  refine (open_any s _).mono ?_
  rintro e w2 ⟨u, rfl, hu, hU, hb⟩
  have HU := Lib.hid hU
  have B2 := Lib.hid (B1.out.trans (hb.mono B1.out.size))
  have huw : w.heap.size ≤ u := by rw [hu]; exact B1.out.size
  clear hU hb hu B1
  obtain ⟨p, hp⟩ : ∃ p, p = w2.heap.size := ⟨_, rfl⟩
  have hne : u ≠ p := by have := HU.out.1; omega
  have hpw : w.heap.size ≤ p := by rw [hp]; exact B2.out.size
  have hss : s = S s.data.toList := rfl
  obtain ⟨L, hL⟩ : ∃ L, L = s.data.toList := ⟨_, rfl⟩
  have hSL : S L = s := by rw [hL]; rfl
  have hLs : L.length ≤ 140737488351232 := by rw [← S_size, hSL]; exact hs
  have hal : ∀ b, Below w2.heap.size w2 (w2.alloc b) := fun b => (Below.refl _ _).alloc (Nat.le_refl _) b
  have R0 := ref_new w2 L 43 hLs
  rw [hSL, ← hp] at R0
  rw [← hL] at HU
  have BB0 : Hid (Both w u p s L 0 (w2.alloc (.cells #[.string s, .int .i64 0] 43))) := Lib.hid ⟨HU.out.below (hal _) (Nat.le_refl _), R0, B2.out.trans ((hal _).mono B2.out.size)⟩
  have HP := Lib.hid hp
  clear hal hp HU B2 R0 hss hSL hLs hL
  go_wp2_with (fail)
  rw [← HP.out]
  go_loopg [7] len (fun k s7 wr => ∃ (i : Nat) (l : List UInt8) (er : Int), i ≤ len ∧ Hid (k = len - i) ∧ s7 = .int .i64 (i : Int) ∧ Hid (Both w u p s l er wr))
  case atStart => exact ⟨0, L, 0, by omega, rfl, rfl, BB0⟩
  case round =>
    obtain ⟨i, l, er, hi, HK, rfl, BB⟩ := hrel
    clear BB0
    by_cases hlt : i < len
    · obtain ⟨b, off, rfl, hb, hcell'⟩ := (HI.out.below BB.out.2.2) i hlt
      have hcell : wr.cell? ⟨b, off + i, none⟩ = some (.int .i64 (ks.getD i 0)) := hcell'
      clear hcell'
      have hkb := Lib.hid (HKS.out i hlt)
      obtain ⟨kk, hkk⟩ : ∃ kk, kk = ks.getD i 0 := ⟨_, rfl⟩
      rw [← hkk] at hcell hkb
      clear hkk
      go_wp2_with (fail)
      rcases kd_cases kk with hc | hc | hc
      · refine (kind_is kk 0 _ hkb.out hc).mono ?_
        rintro e w3 ⟨rfl, rfl⟩
        clear hc
        obtain ⟨x, l1, e1, ht⟩ : ∃ x l1 e1, Wire.tInt l er = (x, l1, e1) := ⟨_, _, _, rfl⟩
        go_wp2_with (fail)
        refine (uint_any u s l er _ hs BB.out.1).mono ?_
        rw [ht]
        rintro e w3 ⟨rfl, hU', hg⟩
        have U2 := Lib.hid hU'
        have G2 := Lib.hid hg
        clear hU' hg
        go_wp2_with (fail)
        refine (rtake_int p l er _ (ref_keep BB.out.2.1 hne G2.out)).mono ?_
        rw [ht]
        rintro e w4 ⟨rfl, hR', hg⟩
        have BB4 := Lib.hid (both_grown BB.out hne huw hpw U2.out G2.out hR' hg)
        clear hR' hg U2 G2 BB ht
        obtain ⟨E, hE⟩ : ∃ E, Wire.tEnd l1 e1 = E := ⟨_, rfl⟩
        have HE := Lib.hid hE
        clear hE
        have c0 := BB4.out.c0
        have c1 := BB4.out.c1
        go_wp2_with (fail)
        go_region_held3 (fun w' => Hid (Both w u p s l1 e1 w') ∧ w'.cell? ⟨p, 0, none⟩ = some (.string (S l1)) ∧ w'.cell? ⟨p, 1, none⟩ = some (.int .i64 e1)) (first | assumption | exact both_S_drew (by assumption))
          (first | (go_at_call 22; refine (uend_both (by assumption) hs HE).mono ?_; rintro e w' ⟨rfl, hS⟩) | (go_at_call 23; refine (rend_both (by assumption) HE).mono ?_; rintro e w' ⟨rfl, hS⟩))
        go_wp2
        go_roundg (len - (i + 1))
        case measure => have := HK.out; omega
        case rel => exact ⟨i + 1, l1, e1, by omega, rfl, by go_num, both_is (by assumption)⟩
      · refine (kind_is kk 1 _ hkb.out hc).mono ?_
        rintro e w3 ⟨rfl, rfl⟩
        clear hc
        obtain ⟨x, l1, e1, ht⟩ : ∃ x l1 e1, Wire.tText l er = (x, l1, e1) := ⟨_, _, _, rfl⟩
        go_wp2_with (fail)
        refine (utext_any u s l er _ hs BB.out.1).mono ?_
        rw [ht]
        rintro e w3 ⟨rfl, hU', hg⟩
        have U2 := Lib.hid hU'
        have G2 := Lib.hid hg
        clear hU' hg
        go_wp2_with (fail)
        refine (rtake_text p l er _ (ref_keep BB.out.2.1 hne G2.out)).mono ?_
        rw [ht]
        rintro e w4 ⟨rfl, hR', hg⟩
        have BB4 := Lib.hid (both_grown BB.out hne huw hpw U2.out G2.out hR' hg)
        clear hR' hg U2 G2 BB ht
        obtain ⟨E, hE⟩ : ∃ E, Wire.tEnd l1 e1 = E := ⟨_, rfl⟩
        have HE := Lib.hid hE
        clear hE
        have c0 := BB4.out.c0
        have c1 := BB4.out.c1
        go_wp2_with (fail)
        go_region_held3 (fun w' => Hid (Both w u p s l1 e1 w') ∧ w'.cell? ⟨p, 0, none⟩ = some (.string (S l1)) ∧ w'.cell? ⟨p, 1, none⟩ = some (.int .i64 e1)) (first | assumption | exact both_S_drew (by assumption))
          (first | (go_at_call 22; refine (uend_both (by assumption) hs HE).mono ?_; rintro e w' ⟨rfl, hS⟩) | (go_at_call 23; refine (rend_both (by assumption) HE).mono ?_; rintro e w' ⟨rfl, hS⟩))
        go_wp2
        go_roundg (len - (i + 1))
        case measure => have := HK.out; omega
        case rel => exact ⟨i + 1, l1, e1, by omega, rfl, by go_num, both_is (by assumption)⟩
      · refine (kind_is kk 2 _ hkb.out hc).mono ?_
        rintro e w3 ⟨rfl, rfl⟩
        clear hc
        obtain ⟨x, l1, e1, ht⟩ : ∃ x l1 e1, Wire.tBool l er = (x, l1, e1) := ⟨_, _, _, rfl⟩
        go_wp2_with (fail)
        refine (ubool_any u s l er _ hs BB.out.1).mono ?_
        rw [ht]
        rintro e w3 ⟨rfl, hU', hg⟩
        have U2 := Lib.hid hU'
        have G2 := Lib.hid hg
        clear hU' hg
        go_wp2_with (fail)
        refine (rtake_bool p l er _ (ref_keep BB.out.2.1 hne G2.out)).mono ?_
        rw [ht]
        rintro e w4 ⟨rfl, hR', hg⟩
        have BB4 := Lib.hid (both_grown BB.out hne huw hpw U2.out G2.out hR' hg)
        clear hR' hg U2 G2 BB ht
        obtain ⟨E, hE⟩ : ∃ E, Wire.tEnd l1 e1 = E := ⟨_, rfl⟩
        have HE := Lib.hid hE
        clear hE
        have c0 := BB4.out.c0
        have c1 := BB4.out.c1
        go_wp2_with (fail)
        go_region_held3 (fun w' => Hid (Both w u p s l1 e1 w') ∧ w'.cell? ⟨p, 0, none⟩ = some (.string (S l1)) ∧ w'.cell? ⟨p, 1, none⟩ = some (.int .i64 e1)) (first | assumption | exact both_S_drew (by assumption))
          (first | (go_at_call 22; refine (uend_both (by assumption) hs HE).mono ?_; rintro e w' ⟨rfl, hS⟩) | (go_at_call 23; refine (rend_both (by assumption) HE).mono ?_; rintro e w' ⟨rfl, hS⟩))
        go_wp2
        go_roundg (len - (i + 1))
        case measure => have := HK.out; omega
        case rel => exact ⟨i + 1, l1, e1, by omega, rfl, by go_num, both_is (by assumption)⟩
    · have t0 : (len : Int) ≤ (i : Int) := by omega
      obtain ⟨E, hE⟩ : ∃ E, Wire.tEnd l er = E := ⟨_, rfl⟩
      have HE := Lib.hid hE
      clear hE hlt
      have c0 := BB.out.c0
      have c1 := BB.out.c1
      go_wp2_with (fail)
      go_region_held3 (fun w' => Hid (Both w u p s l er w') ∧ w'.cell? ⟨p, 0, none⟩ = some (.string (S l)) ∧ w'.cell? ⟨p, 1, none⟩ = some (.int .i64 er)) (first | assumption | exact both_S_drew (by assumption))
        (first | (go_at_call 23; refine (rend_both (by assumption) HE).mono ?_; rintro e w' ⟨rfl, hS⟩) | (go_at_call_of 22 (Value.pointer none); refine (uend_nil _).mono ?_; rintro e w' ⟨rfl, rfl⟩) | (go_at_call 22; refine (uend_both (by assumption) hs HE).mono ?_; rintro e w' ⟨rfl, hS⟩) | (go_at_call 16; refine (uint_nil _).mono ?_; rintro e w' ⟨rfl, rfl⟩) | (go_at_call 18; refine (utext_nil _).mono ?_; rintro e w' ⟨rfl, rfl⟩) | (go_at_call 20; refine (ubool_nil _).mono ?_; rintro e w' ⟨rfl, rfl⟩))
      go_wp2
      go_ret
      exact ⟨rfl, both_end (u := u) (p := p) (s := s) (l := l) (er := er) (by assumption)⟩

theorem contract (H : Type) (enc : TypeId × Value → H) (W : World) (base : Nat) (args : Array Value) (ds gs : List (DataW H)) (before : List MemPlace)
    (hval : ∀ (j : Nat) t v, Try.f4.params[j]? = some t → args[j]? = some v → Value.okWide Try.prog W .any base t v)
    (hW : DataW.Whole enc Try.prog Try.f4.params.toList Rows.wireUnpacksSpec.vars false W args.toList ds gs before)
    (hz : (DataW.weightsEach Try.prog (Try.f4.params.toList ++ []) (ds ++ gs)).all (· ≤ reachBytes) = true) :
    Calls Try.prog 4 args W fun e W' => ∃ v, e = .returned v ∧ Rows.wireUnpacksSpec.post enc Try.prog Try.f4 false true false false W args v W' := by
  have hW' := hW
  obtain ⟨p, q, hA0, hV, rfl, hfz, hnd⟩ := hW
  have hA : DataW.TrodAll enc Try.prog W 0 (fun _ => true) true Try.f4.params.toList args.toList ds p := hA0
  rw [Try.params4] at hA hval hz
  obtain ⟨v0, vs0, d0, ds0, p0, q0, hargs, rfl, rfl, h0, r0⟩ := trodAll_cons hA
  obtain ⟨v1, vs1, d1, ds1, p1, q1, rfl, rfl, rfl, h1, r1⟩ := trodAll_cons r0
  obtain ⟨rfl, rfl, rfl⟩ := trodAll_nil r1
  obtain rfl : args = #[v0, v1] := by cases args; simp_all
  obtain ⟨rfl, rfl⟩ := trodVars_none hV
  obtain ⟨x0, rfl, rfl, rfl, w0⟩ := open_string Try.underlying9 (hval 0 9 v0 rfl rfl) h0
  have b0 : x0.size ≤ 140737488351232 := by have := sized_string hz (j := 0) (t := 9) rfl rfl; simpa [reachBytes] using this
  obtain ⟨A, len, cap, ks, rfl, hl, hn, hI, hK, _⟩ := open_int_arg Try.underlying39 Try.underlying3 (by kernel_rfl) (hval 1 39 v1 rfl rfl) h1
  clear hA0
  refine (walk x0 A len cap ks W b0 hl hI hK hn).mono fun e W' ⟨he, hb⟩ => ?_
  subst he
  exact ⟨_, rfl, law_end hW' rfl rfl hb laidOut (by kernel_rfl) (by kernel_rfl) Try.underlying4⟩

theorem reads (os : Os) {H : Type} (enc : TypeId × Value → H) : ∃ places, DataW.whole enc Try.prog ((World.holding Try.prog os ⟨#[], #[], []⟩).forCall (fun _ _ => 0) ⟨#[], #[.string ⟨#[]⟩, .slice none 0 0], []⟩).memory Try.f4.params.toList Rows.wireUnpacksSpec.vars false [Value.string ⟨#[]⟩, Value.slice none 0 0] 8 = some ([.lit (.string []), .nil], [], places) :=
  ⟨[], by kernel_rfl⟩

set_option maxRecDepth 100000 in
theorem lifted (os : Os) (started : os.Started) (H : Type) (enc : TypeId × Value → H) (F : Stop.Interp) :
    ReturnsInHanded {} Try.checked os 4 .any ((OpenSpec.ofChange Rows.wireUnpacksSpec).preRow enc Try.prog Try.f4 Rows.wireUnpacksRow.domain false Rows.wireUnpacksRow.laid) (((OpenSpec.ofChange Rows.wireUnpacksSpec).at F).post enc Try.prog Try.f4 false true false false) := by
  obtain ⟨places, hx⟩ := reads os enc
  have laid_met : laidMet Try.prog Rows.wireUnpacksRow.laid ((World.holding Try.prog os ⟨#[], #[], []⟩).forCall (fun _ _ => 0) ⟨#[], #[.string ⟨#[]⟩, .slice none 0 0], []⟩).memory := ⟨[], rfl, List.nodup_nil, fun _ _ h => by cases h⟩
  refine returnsInHanded_of_row (C := Try.checked) (s := OpenSpec.ofChange Rows.wireUnpacksSpec) own started (by kernel_rfl) Try.func4
    (witness_row_at (enc := enc) (C := Try.checked) false (World.holding Try.prog os ⟨#[], #[], []⟩) #[.string ⟨#[]⟩, .slice none 0 0] rfl (by kernel_rfl) (by kernel_rfl) (by kernel_rfl)
      (OpenSpec.preRow_of_cond 8 hx (by kernel_rfl) (fun k hk => by cases hk) (by kernel_rfl) laid_met)) ?_
  intro W base args ds gs before hval hW _ _ hz _ _ _
  exact contract H enc W base args ds gs before hval hW hz

theorem said : Rows.WireUnpacksSaid :=
  OpenClaim.holds_of_cond 4 Try.f4 rfl rfl rfl rfl rfl rfl rfl ⟨rfl, rfl, rfl, rfl, rfl⟩ rfl rfl rfl rfl rfl (by kernel_rfl) Try.func4 (by kernel_rfl)
    (of_decide_eq_true (by kernel_rfl)) (by unfold Func.isWrapper; first | (rw [if_pos (by decide +kernel)]; kernel_rfl) | (rw [if_neg (by decide +kernel)]; exact ⟨rfl, rfl⟩))
    (fun os started H enc _ F => by rw [OpenClaim.pre_eq_preRow]; exact lifted os started H enc F)

end Go.Proofs.Ytfgmeeoldcfjbaa.fnWireUnpacks
