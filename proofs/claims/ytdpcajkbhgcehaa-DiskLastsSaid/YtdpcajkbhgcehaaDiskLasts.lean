/- DiskLasts: what was synced outlasts every crash, whatever the input. -/
import Derived.Test.YtdpcajkbhgcehaaDiskOps
import Derived.Test.YtdpcajkbhgcehaaSlices
import Derived.SliceStrings
import Derived.SizedLaws

import Derived.Test.YtdpcajkbhgcehaaLawEnd

import Derived.Test.YtdpcajkbhgcehaaPlainKit

namespace Go.Proofs.Ytdpcajkbhgcehaa.fnDiskLasts
open Go.ChangeShapes Go.WideShapes Go.ChangeAt Go.RowKit Go.WideMaps Go.WideElems
open Go.ChangeMaps (open_string)

open Go.Maps
theorem strs_length {H : Type} (ss : List ByteArray) : (strs ss : List (DataW H)).length = ss.length := by simp [strs]
set_option maxRecDepth 100000 in
theorem open_pair {H : Type} {enc : TypeId × Value → H} {W : World} {base : Nat} {v : Value} {d : DataW H} {p : List MemPlace}
    (hv : Value.okWide Try.prog W .any base 22 v) (h : DataW.Trod enc Try.prog W 0 (fun _ => true) true 22 v d p) :
    ∃ x : Int × Int, v = .agg #[.int .i64 x.1, .int .i64 x.2] ∧ (-9223372036854775808 ≤ x.1 ∧ x.1 ≤ 9223372036854775807) := by
  have hu : Try.prog.underlying 22 = some (.array 2 3) := Try.underlying22
  simp only [Value.okWide, hu] at hv
  obtain ⟨cs, rfl, hsz, _⟩ := hv
  obtain ⟨fuel, hf⟩ := h
  obtain ⟨ys, m, _, _, hlen, hyl, hg⟩ := DataW.trod_array hu hf
  have c3 : Try.prog.cellsOf 3 = 1 := by kernel_rfl
  have c32 : Try.prog.cellsOf 22 = 2 := by kernel_rfl
  rw [c32] at hlen hsz
  have hlen' : cs.toList.length = 2 := by simpa [Value.cells] using hlen
  obtain ⟨v0, v1, hcs⟩ : ∃ v0 v1, cs = #[v0, v1] := by
    match hc : cs.toList, hlen' with
    | [v0, v1], _ => exact ⟨v0, v1, by apply Array.ext'; exact hc⟩
  subst hcs
  match ys, hyl with
  | [y0, y1], _ =>
    have g0 : DataW.trod enc Try.prog W 0 (fun _ => true) true m 3 [v0] = some y0 := by have := hg 0 (by omega); simpa [c3, Value.cells] using this
    have g1 : DataW.trod enc Try.prog W 0 (fun _ => true) true m 3 [v1] = some y1 := by have := hg 1 (by omega); simpa [c3, Value.cells] using this
    obtain ⟨k, e0, _, wk⟩ := DataW.trod_int Try.underlying3 g0
    obtain ⟨i, e1, _, wi⟩ := DataW.trod_int Try.underlying3 g1
    simp only [List.cons.injEq, and_true] at e0 e1
    subst e0 e1
    exact ⟨(k, i), rfl, i64_of_wf wk⟩
set_option maxRecDepth 100000 in
/-- a list of texts as it came in -/
theorem open_texts {H : Type} {enc : TypeId × Value → H} {W : World} {base : Nat} {v : Value} {d : DataW H} {p : List MemPlace}
    (hv : Value.okWide Try.prog W .any base 44 v) (h : DataW.Trod enc Try.prog W 0 (fun _ => true) true 44 v d p) (hw : ∀ el sp, d = .slice el sp → (el.length + sp.length) * 16 ≤ 140737488351232) :
    ∃ (A : Option Addr) (len cap : Nat) (ss : Nat → ByteArray), v = .slice A len cap ∧ len ≤ 8796093021952 ∧ SlOf W W.heap.size A len (fun i => .string (ss i)) := by
  obtain ⟨A, len, cap, rfl⟩ := okWide_slice Try.underlying44 hv
  obtain ⟨fuel, hf⟩ := h
  have hc1 : Try.prog.cellsOf 9 = 1 := by kernel_rfl
  rcases open_strings Try.underlying44 Try.underlying9 hc1 hf with ⟨hcs, _⟩ | ⟨a, len', cap', ss, hcs, _, hl, hm, hss, hx, hcell, _⟩
  · simp only [Value.cells, List.cons.injEq, and_true] at hcs
    injection hcs with e1 e2 e3
    subst e1 e2 e3
    exact ⟨none, 0, 0, fun _ => ⟨#[]⟩, rfl, by omega, fun i hi => absurd hi (by omega)⟩
  · simp only [Value.cells, List.cons.injEq, and_true] at hcs
    injection hcs with e1 e2 e3
    subst e1 e2 e3
    simp only [if_true] at hss
    simp only [Prod.mk.injEq] at hx
    have hwl := hw _ _ hx.1
    simp only [strs_length, List.length_take, List.length_drop] at hwl
    exact ⟨some a, len, cap, fun i => ss.getD i ByteArray.empty, rfl, by omega, sl_of_cells (fun i hi => hcell i (by omega))⟩

def sF : ByteArray := ⟨#[102]⟩
theorem dnew_big (w : World) : Calls Try.prog 10 #[.int .i64 1099511627776] w fun e w' => e = .returned (.pointer (some ⟨w.heap.size, 0, none⟩)) ∧ DiskAt w' w.heap.size 1099511627776 (.map none) (.slice none 0 0) (.map none) 0 ∧ Below w.heap.size w w' := by
  go_enter Try.func10, Try.ntmps10
  go_wp2
  go_ret
  refine ⟨rfl, ⟨?_, ?_, ?_, ?_, ?_, ?_, ?_⟩, (Below.refl _ w).alloc (Nat.le_refl _) _⟩
  · simp
  · simp
  · simp
  · simp
  · simp
  · intro i; simp
  · exact ⟨_, heap_alloc_new w _⟩
/-- the first k texts of a list -/
def firstK (ss : Nat → ByteArray) (k : Nat) : List ByteArray := (List.range k).map ss
theorem firstK_succ (ss : Nat → ByteArray) (k : Nat) : firstK ss (k + 1) = firstK ss k ++ [ss k] := by simp [firstK, List.range_succ]
theorem firstK_length (ss : Nat → ByteArray) (k : Nat) : (firstK ss k).length = k := by simp [firstK]
def bs (X : List UInt8) : ByteArray := ⟨X.toArray⟩
theorem bs_size (X : List UInt8) : (bs X).size = X.length := by simp [bs, ByteArray.size]
theorem bs_front (X Z : List UInt8) : (bs (X ++ Z)).extract 0 X.length = bs X := by
  apply ByteArray.ext
  apply Array.ext'
  simp [bs]
theorem bs_back (X Z : List UInt8) : (bs (X ++ Z)).extract X.length (X ++ Z).length = bs Z := by
  apply ByteArray.ext
  apply Array.ext'
  simp [bs, List.extract_eq_take_drop]
theorem bs_add (X : List UInt8) (d : ByteArray) : bs X ++ d = bs (X ++ d.data.toList) := by
  apply ByteArray.ext
  apply Array.ext'
  simp [bs]
set_option maxRecDepth 100000 in
set_option maxHeartbeats 4000000 in
theorem walk (syn : ByteArray) (A : Option Addr) (len cap : Nat) (ss : Nat → ByteArray) (x : Int × Int) (W : World) (hsy : syn.size ≤ 140737488351232) (hl : len ≤ 8796093021952) (hS : SlOf W W.heap.size A len (fun i => .string (ss i))) :
    Calls Try.prog 5 #[.string syn, .slice A len cap, .agg #[.int .i64 x.1, .int .i64 x.2]] W fun e w' => e = .returned (.bool true) ∧ Below W.heap.size W w' := by
  obtain ⟨xa, xb⟩ := x
  simp only
  have HS := Lib.hid hS
  have hl' : (len : Int) ≤ 8796093021952 := by omega
  have hb0 : Below W.heap.size W (W.alloc (.cells #[.int .i64 xa, .int .i64 xb] 22)) := (Below.refl _ W).alloc (Nat.le_refl _) _
  clear hS
  obtain ⟨W1, hW1⟩ : ∃ W1, W1 = W.alloc (.cells #[.int .i64 xa, .int .i64 xb] 22) := ⟨_, rfl⟩
  have HBX : Hid (W.heap.size < W1.heap.size ∧ W1.cell? ⟨W.heap.size, 0, none⟩ = some (.int .i64 xa) ∧ W1.cell? ⟨W.heap.size, 1, none⟩ = some (.int .i64 xb)) := Lib.hid (by rw [hW1]; refine ⟨by simp, ?_, ?_⟩ <;> simp)
  rw [← hW1] at hb0
  have HW := Lib.hid (And.intro hb0 hW1)
  have hkW : ∀ w', Below W1.heap.size W1 w' → Below W.heap.size W w' := fun w' h => hb0.trans (h.mono hb0.size)
  have HKW := Lib.hid hkW
  clear hb0 hW1 hkW
  go_enter Try.func5, Try.ntmps5
  go_wp2_with (fail)
  rw [← HW.out.2]
  obtain ⟨bx, hbx⟩ : ∃ bx, bx = W.heap.size := ⟨_, rfl⟩
  rw [← hbx] at HBX ⊢
  clear hbx
  refine (dspeaks W1).mono ?_
  rintro e w1 ⟨rfl, hb1⟩
  have HB1 := Lib.hid hb1
  clear hb1
  go_wp2_with (fail)
  refine (dnew_big w1).mono ?_
  rintro e w2 ⟨rfl, hk2, hb2⟩
  have HB2 : Hid (Below W1.heap.size W1 w2 ∧ W1.heap.size ≤ w1.heap.size) := Lib.hid ⟨HB1.out.trans (hb2.mono HB1.out.size), HB1.out.size⟩
  have HK2 := Lib.hid hk2
  clear hk2 hb2
  obtain ⟨p, hp⟩ : ∃ p, p = w1.heap.size := ⟨_, rfl⟩
  rw [← hp] at HK2 HB2 ⊢
  clear hp HB1
  by_cases hfit : (syn.size : Int) ≤ 1099511627776
  · go_wp2_with (fail)
    refine (append_D1 W1 p 1099511627776 sF syn w2 HB2.out.1 HB2.out.2 HK2.out (by decide) (by decide) hfit (by decide)).mono ?_
    rintro e w3 ⟨rfl, hD3⟩
    have H3 := Lib.hid (sync_D W1 p 1099511627776 sF [] [syn] false w3 hD3 (.inr (by simp)) (by decide) (by simp [bytesOf]; omega))
    clear hD3 HK2 HB2
    go_wp2_with (fail)
    refine H3.out.mono ?_
    rintro e w4 ⟨rfl, hD4⟩
    have eX : [] ++ bytesOf [syn] = syn.data.toList := by simp [bytesOf]
    rw [eX] at hD4
    obtain ⟨X, hX⟩ : ∃ X, X = syn.data.toList := ⟨_, rfl⟩
    rw [← hX] at hD4
    have HX : Hid (syn = bs X ∧ X.length = syn.size) := Lib.hid ⟨by apply ByteArray.ext; apply Array.ext'; simp [hX, bs], by rw [hX]; simp⟩
    have H4 := Lib.hid hD4
    have hsn : (0 : Int) ≤ (syn.size : Int) := by omega
    clear hD4 H3 eX hX
    go_wp2
    go_loopw [8, 9] (fun a i wr => ∃ k : Nat, k ≤ len ∧ i = .int .i64 k ∧ a = .string (bs (bytesOf (firstK ss k))) ∧ Hid (OneD W1 wr p sF 1099511627776 X (firstK ss k) true ∧ (X ++ bytesOf (firstK ss k)).length ≤ 1099511627776)) (fun _ i _ => len - (intOf i).toNat)
    case atStart => exact ⟨0, by omega, rfl, rfl, Lib.hid ⟨H4.out, by simp [firstK, bytesOf]; have := HX.out.2; omega⟩⟩
    case round =>
      obtain ⟨k, hk, rfl, rfl, HR⟩ := hrel
      clear H4
      by_cases hkn : k < len
      · have hkn' : (k : Int) < len := by omega
        obtain ⟨b, off, rfl, hB, hc⟩ := HS.out k hkn
        have hbW : Below W.heap.size W wr := HKW.out wr HR.out.1.bel
        have hc1 := (hbW.cell (p := ⟨b, off + k, none⟩) hB).trans hc
        simp only at hc1
        have HSB := Lib.hid (And.intro hB hc)
        clear hc hB hbW
        obtain ⟨d, hd⟩ : ∃ d, d = ss k := ⟨_, rfl⟩
        have HDD := Lib.hid hd
        rw [← hd] at hc1
        clear hd
        obtain ⟨T, hT⟩ : ∃ T : Nat, T = (X ++ bytesOf (firstK ss k)).length := ⟨_, rfl⟩
        have HT := Lib.hid hT
        clear hT
        have HTle : Hid (T ≤ 1099511627776) := Lib.hid (by rw [HT.out]; exact HR.out.2)
        by_cases hfd : (d.size : Int) ≤ 1099511627776 - (T : Int)
        · have hap := append_D W1 p 1099511627776 sF d X (firstK ss k) true wr HR.out.1 (by decide) (by decide) (by rw [firstK_length]; omega) (by rw [← HT.out]; exact hfd) (by decide)
          have HFD := Lib.hid hfd
          have hcat : ((bs (bytesOf (firstK ss k))).size : Int) + (d.size : Int) ≤ 1099511627776 := by
            rw [bs_size]
            have := HT.out
            rw [List.length_append] at this
            omega
          have hw2 : IntKind.i64.wrap ((k : Int) + 1) = (k : Int) + 1 := IntWalk.i64_in _ (by omega)
          obtain ⟨a0, ha0⟩ : ∃ a0, a0 = bs (bytesOf (firstK ss k)) := ⟨_, rfl⟩
          rw [← ha0] at hcat ⊢
          have HA0 := Lib.hid ha0
          clear hfd ha0
          go_wp2_with (fail)
          refine hap.mono ?_
          rintro e w5 ⟨rfl, hD5⟩
          have H5 := Lib.hid hD5
          have hc5 := ((HKW.out w5 hD5.bel).cell (p := ⟨b, off + k, none⟩) HSB.out.1).trans HSB.out.2
          try simp only at hc5
          rw [← HDD.out] at hc5
          clear hD5 hap hc1
          go_wp2
          go_round
          case rel =>
            refine ⟨k + 1, by omega, by simp, ?_, Lib.hid ⟨?_, ?_⟩⟩
            · rw [HA0.out, HDD.out, firstK_succ, bytesOf_snoc, bs_add]
            · rw [firstK_succ, ← HDD.out]
              exact H5.out
            · rw [firstK_succ, bytesOf_snoc, ← List.append_assoc, ← len_more, ← HDD.out, ← HT.out]
              have := HFD.out
              omega
          case measure => simp [intOf]; omega
        · have hap : Calls Try.prog 17 #[.pointer (some ⟨p, 0, none⟩), .string sF, .string d] wr fun e w' => e = .returned (.int .i64 40) ∧ Below wr.heap.size wr w' := by
            obtain ⟨_, _, L, m, chg, v, v2, hk, _⟩ := HR.out.1
            exact append_no p 1099511627776 _ _ _ _ sF d wr hk (by decide) (by decide) ⟨by omega, by have := HTle.out; have := HT.out; omega⟩ (by rw [← HT.out]; exact hfd) (by decide)
          clear hfd
          go_wp2_with (fail)
          refine hap.mono ?_
          rintro e w5 ⟨rfl, hb5⟩
          have HB5 := Lib.hid (HKW.out w5 (HR.out.1.bel.trans (hb5.mono HR.out.1.bel.size)))
          clear hap hc1 hb5
          go_wp2
          go_ret
          exact ⟨rfl, HB5.out⟩
      · have hkl : k = len := by omega
        have hbW := HR.out.1.bel
        have hx0 := (hbW.cell (p := ⟨bx, 0, none⟩) HBX.out.1).trans HBX.out.2.1
        have hx1 := (hbW.cell (p := ⟨bx, 1, none⟩) HBX.out.1).trans HBX.out.2.2
        have hcr := crash_D W1 p 1099511627776 xa xb sF X (firstK ss k) wr HR.out.1 (by decide) HR.out.2
        obtain ⟨a0, ha0⟩ : ∃ a0, a0 = bs (bytesOf (firstK ss k)) := ⟨_, rfl⟩
        rw [← ha0]
        have HA0 := Lib.hid ha0
        have HKW0 := HKW
        clear hbW ha0 HKW HW HS
        go_wp2_with (fail)
        refine hcr.mono ?_
        rintro e w5 ⟨rfl, Y, hD5, hcut⟩
        have H5 := Lib.hid (And.intro hD5 hcut)
        have hrd := read_D W1 p _ sF Y [] true w5 hD5 (by decide)
        obtain ⟨S, hS⟩ : ∃ S : ByteArray, S = ⟨(Y ++ bytesOf []).toArray⟩ := ⟨_, rfl⟩
        rw [← hS] at hrd
        have HSS := Lib.hid hS
        clear hS hcr hx0 hx1 hD5 hcut
        go_wp2_with (fail)
        refine hrd.mono ?_
        rintro e w6 ⟨rfl, rfl⟩
        clear hrd
        obtain ⟨Z, hZ, hpre⟩ := H5.out.2
        obtain ⟨Q, hQ⟩ := hpre
        have eS : S = bs (X ++ Z) := by rw [HSS.out, hZ]; simp [bs, bytesOf]
        have eA : a0 = bs (Z ++ Q) := by rw [HA0.out, hQ]
        have HY : Hid (Y.length ≤ 1099511627776 ∧ Y.length = S.size) := by
          have h1 := HR.out.2
          rw [← hQ, List.length_append, List.length_append] at h1
          exact Lib.hid ⟨by rw [hZ, List.length_append]; omega, by rw [eS, hZ, bs_size]⟩
        have hYs := HY.out
        have hzs : S.size = syn.size + Z.length := by rw [eS, bs_size, List.length_append, HX.out.2]
        have he0 : S.extract 0 syn.size = syn := by
          rw [eS, ← HX.out.2, bs_front]
          exact HX.out.1.symm
        have he1 : S.extract syn.size S.size = bs Z := by
          rw [eS, ← HX.out.2, bs_size, bs_back]
        have he2 : a0.extract 0 (bs Z).size = bs Z := by rw [eA, bs_size, bs_front]
        have hzb : (bs Z).size = Z.length := bs_size Z
        have ha0 : a0.size = Z.length + Q.length := by rw [eA, bs_size, List.length_append]
        obtain ⟨R, hR⟩ : ∃ R, R = bs Z := ⟨_, rfl⟩
        rw [← hR] at he1 he2 hzb
        have hlt : (syn.size : Int) ≤ (S.size : Int) := by omega
        have hlt2 : (R.size : Int) ≤ (a0.size : Int) := by omega
        have hlt3 : syn.size ≤ S.size := by omega
        have hlt4 : R.size ≤ a0.size := by omega
        have hpen := pending_D W1 p _ sF Y [] true w5 H5.out.1
        have HC2 := Lib.hid (crash_D W1 p 1099511627776 0 5 sF Y [] w5 H5.out.1 (by decide) (by simp [bytesOf]; omega))
        have HSM := Lib.hid (And.intro (show S.size ≤ 1099511627776 by omega) (show a0.size ≤ 1099511627776 from by
          have := HR.out.2
          rw [List.length_append, ← bs_size (bytesOf (firstK ss k)), ← HA0.out] at this
          omega))
        clear eS eA hYs hzs hzb ha0 hR hZ hQ
        go_wp2_with (fail)
        refine hpen.mono ?_
        rintro e w7 ⟨rfl, rfl⟩
        clear hpen
        go_wp2_with (fail)
        refine HC2.out.mono ?_
        rintro e w8 ⟨rfl, Y2, hD8, hcut⟩
        obtain rfl : Y2 = Y := by
          obtain ⟨Z2, e1, e2⟩ := hcut
          have : Z2 = [] := by simpa [bytesOf] using e2
          rw [e1, this, List.append_nil]
        have hrd := read_D W1 p _ sF Y2 [] true w8 hD8 (by decide)
        rw [← HSS.out] at hrd
        have hus := used_D W1 p _ sF Y2 [] true w8 hD8
        have eL : (Y2 ++ bytesOf []).length = S.size := by rw [← HY.out.2]; simp [bytesOf]
        rw [eL] at hus
        have HB8 := Lib.hid (HKW0.out w8 hD8.bel)
        clear hD8 hcut eL
        go_wp2_with (fail)
        refine hrd.mono ?_
        rintro e w9 ⟨rfl, rfl⟩
        clear hrd
        go_wp2_with (fail)
        refine hus.mono ?_
        rintro e w9 ⟨rfl, rfl⟩
        clear hus
        go_wp2
        go_ret
        exact ⟨rfl, HB8.out⟩
  · have hno := append_no p 1099511627776 0 _ _ _ sF syn w2 HK2.out (by decide) (by decide) (by decide) (by omega) (by decide)
    have hbig : (1073741824 : Int) < (syn.size : Int) := by omega
    clear hfit HK2
    go_wp2_with (fail)
    refine hno.mono ?_
    rintro e w3 ⟨rfl, hb3⟩
    have HB3 := Lib.hid (HKW.out w3 (HB2.out.1.trans (hb3.mono HB2.out.1.size)))
    clear hb3 hno HB2
    go_wp2
    go_ret
    exact ⟨rfl, HB3.out⟩

set_option maxRecDepth 100000 in
theorem contract (H : Type) (enc : TypeId × Value → H) (W : World) (base : Nat) (args : Array Value) (ds gs : List (DataW H)) (before : List MemPlace)
    (hval : ∀ (j : Nat) t v, Try.f5.params[j]? = some t → args[j]? = some v → Value.okWide Try.prog W .any base t v)
    (hW : DataW.Whole enc Try.prog Try.f5.params.toList Rows.diskLastsSpec.vars false W args.toList ds gs before)
    (hz : (DataW.weightsEach Try.prog (Try.f5.params.toList ++ []) (ds ++ gs)).all (· ≤ reachBytes) = true) :
    Calls Try.prog 5 args W fun e W' => ∃ v, e = .returned v ∧ Rows.diskLastsSpec.post enc Try.prog Try.f5 false true false false W args v W' := by
  have hW' := hW
  obtain ⟨p, q, hA0, hV, rfl, hfz, hnd⟩ := hW
  have hA : DataW.TrodAll enc Try.prog W 0 (fun _ => true) true Try.f5.params.toList args.toList ds p := hA0
  rw [Try.params5] at hA hval hz
  obtain ⟨v0, vs0, d0, ds0, p0, q0, hargs, rfl, rfl, h0, r0⟩ := trodAll_cons hA
  obtain ⟨v1, vs1, d1, ds1, p1, q1, rfl, rfl, rfl, h1, r1⟩ := trodAll_cons r0
  obtain ⟨v2, vs2, d2, ds2, p2, q2, rfl, rfl, rfl, h2, r2⟩ := trodAll_cons r1
  obtain ⟨rfl, rfl, rfl⟩ := trodAll_nil r2
  obtain rfl : args = #[v0, v1, v2] := by cases args; simp_all
  obtain ⟨rfl, rfl⟩ := trodVars_none hV
  obtain ⟨x0, rfl, rfl, rfl, w0⟩ := open_string Try.underlying9 (hval 0 9 v0 rfl rfl) h0
  have b0 : x0.size ≤ 140737488351232 := by have := sized_string hz (j := 0) (t := 9) rfl rfl; simpa [reachBytes] using this
  obtain ⟨A, len, cap, ss, rfl, hl, hS⟩ := open_texts (hval 1 44 v1 rfl rfl) h1 (fun el sp hd => by
    subst hd
    have h16 : Try.prog.bytesOf 9 = 16 := by kernel_rfl
    have := sized_slice hz (j := 1) (t := 44) rfl rfl Try.underlying44
    rw [h16] at this
    simpa [reachBytes] using this)
  obtain ⟨x2, rfl, b2⟩ := open_pair (hval 2 22 v2 rfl rfl) h2
  clear hA0
  refine (walk x0 A len cap ss x2 W b0 hl hS).mono fun e W' ⟨he, hb⟩ => ?_
  subst he
  exact ⟨_, rfl, law_end hW' rfl rfl hb laidOut (by kernel_rfl) (by kernel_rfl) Try.underlying4⟩

theorem reads (os : Os) {H : Type} (enc : TypeId × Value → H) : ∃ places, DataW.whole enc Try.prog ((World.holding Try.prog os ⟨#[], #[], []⟩).forCall (fun _ _ => 0) ⟨#[], #[.string ⟨#[]⟩, .slice none 0 0, .agg #[.int .i64 0, .int .i64 0]], []⟩).memory Try.f5.params.toList Rows.diskLastsSpec.vars false [Value.string ⟨#[]⟩, Value.slice none 0 0, Value.agg #[.int .i64 0, .int .i64 0]] 8 = some ([.lit (.string []), .nil, .agg [.lit (.int .i64 0), .lit (.int .i64 0)]], [], places) :=
  ⟨[], by kernel_rfl⟩

set_option maxRecDepth 100000 in
theorem lifted (os : Os) (started : os.Started) (H : Type) (enc : TypeId × Value → H) (F : Stop.Interp) :
    ReturnsInHanded {} Try.checked os 5 .any ((OpenSpec.ofChange Rows.diskLastsSpec).preRow enc Try.prog Try.f5 Rows.diskLastsRow.domain false Rows.diskLastsRow.laid) (((OpenSpec.ofChange Rows.diskLastsSpec).at F).post enc Try.prog Try.f5 false true false false) := by
  obtain ⟨places, hx⟩ := reads os enc
  have laid_met : laidMet Try.prog Rows.diskLastsRow.laid ((World.holding Try.prog os ⟨#[], #[], []⟩).forCall (fun _ _ => 0) ⟨#[], #[.string ⟨#[]⟩, .slice none 0 0, .agg #[.int .i64 0, .int .i64 0]], []⟩).memory := ⟨[], rfl, List.nodup_nil, fun _ _ h => by cases h⟩
  refine returnsInHanded_of_row (C := Try.checked) (s := OpenSpec.ofChange Rows.diskLastsSpec) own started (by kernel_rfl) Try.func5
    (witness_row_at (enc := enc) (C := Try.checked) false (World.holding Try.prog os ⟨#[], #[], []⟩) #[.string ⟨#[]⟩, .slice none 0 0, .agg #[.int .i64 0, .int .i64 0]] rfl (by kernel_rfl) (by kernel_rfl) (by kernel_rfl)
      (OpenSpec.preRow_of_cond 8 hx (by kernel_rfl) (fun k hk => by cases hk) (by kernel_rfl) laid_met)) ?_
  intro W base args ds gs before hval hW _ _ hz _ _ _
  exact contract H enc W base args ds gs before hval hW hz

theorem said : Rows.DiskLastsSaid :=
  OpenClaim.holds_of_cond 5 Try.f5 rfl rfl rfl rfl rfl rfl rfl ⟨rfl, rfl, rfl, rfl, rfl⟩ rfl rfl rfl rfl rfl (by kernel_rfl) Try.func5 (by kernel_rfl)
    (of_decide_eq_true (by kernel_rfl)) (by unfold Func.isWrapper; first | (rw [if_pos (by decide +kernel)]; kernel_rfl) | (rw [if_neg (by decide +kernel)]; exact ⟨rfl, rfl⟩))
    (fun os started H enc _ F => by rw [OpenClaim.pre_eq_preRow]; exact lifted os started H enc F)

end Go.Proofs.Ytdpcajkbhgcehaa.fnDiskLasts
