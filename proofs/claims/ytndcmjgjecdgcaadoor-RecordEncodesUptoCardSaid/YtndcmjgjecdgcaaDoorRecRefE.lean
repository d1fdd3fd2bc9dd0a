/- The contract of the reference's Encode. -/
import Derived.Test.YtndcmjgjecdgcaaDoorRefValid
import Derived.Test.YtndcmjgjecdgcaaDoorRefNum
import Derived.Test.YtndcmjgjecdgcaaDoorRecOf
import Derived.Deep.RegionHeld3
import Derived.Deep.DeepCutAuto
namespace Go.Proofs.YtndcmjgjecdgcaaDoor
open Go.RowKit
/-- the box of a message, in any world behind w0 -/
abbrev RB (w0 : World) (q : Nat) (k c i : Int) (A : Option Addr) (n cn : Nat) (C : Option Addr) (t ct : Nat) (w : World) : Prop :=
  Hid (Below w0.heap.size w0 w) ∧ w.cell? ⟨q, 0, none⟩ = some (.int .i64 k) ∧ w.cell? ⟨q, 1, none⟩ = some (.int .i64 c) ∧ w.cell? ⟨q, 2, none⟩ = some (.int .i64 i) ∧ w.cell? ⟨q, 3, none⟩ = some (.slice A n cn) ∧ w.cell? ⟨q, 4, none⟩ = some (.slice C t ct)
section
variable {w0 w w' : World} {q : Nat} {k c i : Int} {A : Option Addr} {n cn : Nat} {C : Option Addr} {t ct : Nat}
theorem rb_below (h : RB w0 q k c i A n cn C t ct w) (hb : Below w.heap.size w w') : RB w0 q k c i A n cn C t ct w' := by
  obtain ⟨h0, h1, h2, h3, h4, h5⟩ := h
  exact ⟨Lib.hid (h0.out.trans (hb.mono h0.out.size)), below_cell h1 hb, below_cell h2 hb, below_cell h3 hb, below_cell h4 hb, below_cell h5 hb⟩
theorem rb_drew (h : RB w0 q k c i A n cn C t ct w) : RB w0 q k c i A n cn C t ct w.drew := rb_below h ⟨rfl, rfl, rfl, Nat.le_refl _, fun _ _ => rfl⟩
theorem rint_S (x : Int) (hx : Hid (i64 x)) (h : RB w0 q k c i A n cn C t ct w) : Calls Tryd.prog 24 #[.int .i64 x] w fun e w' => e = .returned (.string (numS x)) ∧ RB w0 q k c i A n cn C t ct w' := by
  refine (rint_any x w hx.out).mono ?_
  rintro e w' ⟨rfl, hb⟩
  exact ⟨rfl, rb_below h hb⟩
end
theorem numsL_take (ns : List Int) (j : Nat) : (numsL (ns.take j)).length ≤ (numsL ns).length := by
  have e : numsL ns = numsL (ns.take j) ++ numsL (ns.drop j) := by
    unfold numsL
    rw [← List.flatMap_append, List.take_append_drop]
  rw [e, List.length_append]; omega
theorem textsL_take (ts : List ByteArray) (j : Nat) : (textsL (ts.take j)).length ≤ (textsL ts).length := by
  have e : textsL ts = textsL (ts.take j) ++ textsL (ts.drop j) := by
    unfold textsL
    rw [← List.flatMap_append, List.take_append_drop]
  rw [e, List.length_append]; omega
theorem app_data (X Y : ByteArray) : (X ++ Y).data.toList = X.data.toList ++ Y.data.toList := by rw [ByteArray.data_append, Array.toList_append]
set_option maxRecDepth 100000 in
set_option maxHeartbeats 4000000 in
theorem rencode_any (k c i : Int) (A C : Option Addr) (cn ct : Nat) (ns : List Int) (ts : List ByteArray) (w : World) (hM : MsgAt w w.heap.size A C ns ts) (hk : i64 k) (hc : i64 c) (hi : i64 i) (hz : (encL k c i ns ts).length ≤ 1099511627776) :
    Calls Tryd.prog 12 #[.agg #[.int .i64 k, .int .i64 c, .int .i64 i, .slice A ns.length cn, .slice C ts.length ct]] w fun e w' => e = .returned (.string (encR k c i ns ts)) ∧ Below w.heap.size w w' := by
  have HM := Lib.hid hM
  have HK := Lib.hid (And.intro hk (And.intro hc hi))
  have HZ := Lib.hid hz
  obtain ⟨N, hN⟩ : ∃ N, N = ns.length := ⟨_, rfl⟩
  obtain ⟨T, hT⟩ : ∃ T, T = ts.length := ⟨_, rfl⟩
  obtain ⟨V, hV⟩ : ∃ V, validB k N T = V := ⟨_, rfl⟩
  have HV := Lib.hid hV
  have HN := Lib.hid hN
  have HT := Lib.hid hT
  have hn : N ≤ 140737488351232 := by have := hM.nl; omega
  have ht : T ≤ 140737488351232 := by have := hM.tl; omega
  rw [← hN, ← hT]
  clear hM hk hc hi hz hN hT hV
  go_enter Tryd.func12, Tryd.ntmps12
  go_wp2_with (fail)
  refine (rvalid_any k N T _ (by omega) (by omega)).mono ?_
  rw [Int.toNat_natCast, Int.toNat_natCast, HV.out]
  rintro e w1 ⟨rfl, rfl⟩
  cases V with
  | false =>
    have HE := Lib.hid (encR_no (k := k) (c := c) (i := i) (ns := ns) (ts := ts) (by rw [← HN.out, ← HT.out]; exact HV.out))
    go_wp2
    go_ret
    exact ⟨by rw [HE.out]; rfl, below_alloc _ _⟩
  | true =>
    have M1 := Lib.hid (M5.new w k c i A N cn C T ct 33)
    have hbn : ∀ x : Int, (numS x).size ≤ 10 := fun x => (numS_size x).2
    have h1 := hbn k
    have h2 := hbn c
    have h3 := hbn i
    have h4 := hbn (N : Int)
    have h5 := hbn (T : Int)
    have s1 : ¬ (9223372036854775807 < (numS k).size + (numS c).size) := by omega
    have s2 : ¬ (9223372036854775807 < (numS k).size + (numS c).size + (numS i).size) := by omega
    have s3 : ¬ (9223372036854775807 < (numS k).size + (numS c).size + (numS i).size + (numS (N : Int)).size) := by omega
    have s4 : ¬ (9223372036854775807 < (numS k ++ numS c).size + (numS i).size) := by rw [ByteArray.size_append]; omega
    have s5 : ¬ (9223372036854775807 < (numS k ++ numS c ++ numS i).size + (numS (N : Int)).size) := by rw [ByteArray.size_append, ByteArray.size_append]; omega
    obtain ⟨q, hq⟩ : ∃ q, q = w.heap.size := ⟨_, rfl⟩
    obtain ⟨w1, hw1⟩ : ∃ w1, w1 = w.alloc (.cells #[.int .i64 k, .int .i64 c, .int .i64 i, .slice A N cn, .slice C T ct] 33) := ⟨_, rfl⟩
    have B1 : Hid (Below w.heap.size w w1) := Lib.hid (by rw [hw1]; exact below_alloc _ _)
    rw [← hw1, ← hq] at M1
    have SS : RB w1 q k c i A N cn C T ct w1 := ⟨Lib.hid (Below.refl _ _), M1.out.c0, M1.out.c1, M1.out.c2, M1.out.c3, M1.out.c4⟩
    have HKK := Lib.hid HK.out.1
    have HKC := Lib.hid HK.out.2.1
    have HKI := Lib.hid HK.out.2.2
    have HKN : Hid (i64 (N : Int)) := Lib.hid (by unfold i64; omega)
    have HKT : Hid (i64 (T : Int)) := Lib.hid (by unfold i64; omega)
    go_upto_region 3 with (fail)
    rw [← hw1, ← hq]
    clear hw1 hq hbn
    go_cut [3] (fun s3 wx => s3 = .string (numS k ++ numS c ++ numS i ++ numS (N : Int)) ∧ RB w1 q k c i A N cn C T ct wx)
    case first =>
      go_region_held3 (fun w' => RB w1 q k c i A N cn C T ct w') (first | with_reducible assumption | with_reducible exact rb_drew (by with_reducible assumption))
        (first
          | (go_at_call 24; first
              | (with_reducible refine (rint_S k HKK (by with_reducible assumption)).mono ?_; rintro e wa ⟨rfl, hSa⟩)
              | (with_reducible refine (rint_S c HKC (by with_reducible assumption)).mono ?_; rintro e wb ⟨rfl, hSb⟩)
              | (with_reducible refine (rint_S i HKI (by with_reducible assumption)).mono ?_; rintro e wc ⟨rfl, hSc⟩)
              | (with_reducible refine (rint_S (N : Int) HKN (by with_reducible assumption)).mono ?_; rintro e wd ⟨rfl, hSd⟩)))
      all_goals
        go_wp2_with (fail)
        go_meet
        exact ⟨rfl, hSd⟩
    case rest =>
      obtain ⟨rfl, hS2⟩ := hcut
      obtain ⟨X, hX⟩ : ∃ X, X = numS k ++ numS c ++ numS i ++ numS (N : Int) := ⟨_, rfl⟩
      have HX : Hid (X.data.toList = headL k c i N ++ numsL (ns.take 0)) := Lib.hid (by
        rw [hX]; simp only [app_data]; simp [headL, numsL])
      have B2 := Lib.hid (B1.out.trans (hS2.1.out.mono B1.out.size))
      have M2 := Lib.hid (M1.out.below hS2.1.out M1.out.lt)
      have HLN := Lib.hid (numsL_take ns)
      have HLT := Lib.hid (textsL_take ts)
      have HEN : Hid (∀ j, (headL k c i N ++ numsL (ns.take j)).length ≤ 1099511627776) := Lib.hid (fun j => by
        have h := HZ.out
        have h2 := HLN.out j
        unfold encL at h
        rw [← HN.out] at h
        simp only [List.length_append] at h ⊢
        omega)
      have HET : Hid (∀ j, (headL k c i N ++ numsL ns ++ (numS T).data.toList ++ textsL (ts.take j)).length ≤ 1099511627776) := Lib.hid (fun j => by
        have h := HZ.out
        have h2 := HLT.out j
        unfold encL at h
        rw [← HN.out, ← HT.out] at h
        simp only [List.length_append] at h ⊢
        omega)
      rw [← hX]
      clear hX hS2 SS M1 B1 h1 h2 h3 h4 HLN HLT s1 s2 s3 s4 s5
      go_wp2_with (fail)
      go_loopg [3, 4] N (fun m s3 s4 wr => ∃ (j : Nat) (X : ByteArray), j ≤ N ∧ Hid (m = N - j) ∧ s4 = .int .i64 (j : Int) ∧ s3 = .string X ∧ Hid (X.data.toList = headL k c i N ++ numsL (ns.take j)) ∧ Hid (M5 wr q k c i A N cn C T ct) ∧ Hid (Below w.heap.size w wr))
      case atStart => exact ⟨0, X, by omega, rfl, rfl, rfl, HX, M2, B2⟩
      case round =>
        obtain ⟨j, Y, hj, HJ, rfl, rfl, HY, M3, B3⟩ := hrel
        clear HX M2 B2
        have c3 := M3.out.c3
        have hYs : Y.size ≤ 1099511627776 := by have h := HEN.out j; rw [← HY.out] at h; have e : Y.data.toList.length = Y.size := rfl; omega
        by_cases hlt : j < N
        · have hjn : j < ns.length := by rw [← HN.out]; exact hlt
          obtain ⟨b, off, rfl, hb, hcell'⟩ := (HM.out.n.below B3.out) j hjn
          obtain ⟨x, hx⟩ : ∃ x, x = ns.getD j 0 := ⟨_, rfl⟩
          have hcell := hcell'
          change _ = some (Value.int .i64 (ns.getD j 0)) at hcell
          rw [← hx] at hcell
          have hxb : i64 x := by
            have e : x = ns[j] := by rw [hx]; simp [List.getD, hjn]
            rw [e]; exact HM.out.nb _ (List.getElem_mem hjn)
          have HXX := Lib.hid hxb
          have hxs := (numS_size x).2
          have hsum : (Y.size : Int) + ((numS x).size : Int) ≤ 9223372036854775807 := by omega
          have HY2 : Hid ((Y ++ numS x).data.toList = headL k c i N ++ numsL (ns.take (j + 1))) := Lib.hid (by
            rw [app_data, HY.out, take_snoc ns 0 j hjn, nums_snoc, List.append_assoc, ← hx])
          clear hcell' hx hjn hxb
          go_wp2_with (fail)
          refine (rint_any x wr HXX.out).mono ?_
          rintro e w4 ⟨rfl, hb4⟩
          have M4 := Lib.hid (M3.out.below hb4 M3.out.lt)
          have B4 := Lib.hid (B3.out.trans (hb4.mono B3.out.size))
          clear hb4 M3 B3 c3 hcell hb
          go_wp2
          go_roundg (N - (j + 1))
          case measure => have := HJ.out; omega
          case rel => exact ⟨j + 1, _, by omega, rfl, by go_num, rfl, HY2, M4, B4⟩
        · obtain rfl : j = N := by omega
          have c4 := M3.out.c4
          go_wp2_with (fail)
          refine (rint_any (T : Int) wr HKT.out).mono ?_
          rintro e w4 ⟨rfl, hb4⟩
          have M4 := Lib.hid (M3.out.below hb4 M3.out.lt)
          have B4 := Lib.hid (B3.out.trans (hb4.mono B3.out.size))
          obtain ⟨Z, hZ⟩ : ∃ Z, Z = Y ++ numS (T : Int) := ⟨_, rfl⟩
          have HZ2 : Hid (Z.data.toList = headL k c i j ++ numsL ns ++ (numS T).data.toList ++ textsL (ts.take 0)) := Lib.hid (by
            have h := HY.out
            rw [HN.out, List.take_length] at h
            rw [hZ, app_data, h, ← HN.out]
            simp [textsL])
          have HZ0 := Lib.hid hZ
          clear hb4 M3 B3 c3 c4 hZ
          go_wp2_with (fail)
          rw [← HZ0.out]
          clear hYs HY
          go_loopg [3, 5] T (fun m s3 s5 wr => ∃ (l : Nat) (X : ByteArray), l ≤ T ∧ Hid (m = T - l) ∧ s5 = .int .i64 (l : Int) ∧ s3 = .string X ∧ Hid (X.data.toList = headL k c i j ++ numsL ns ++ (numS T).data.toList ++ textsL (ts.take l)) ∧ Hid (M5 wr q k c i A j cn C T ct) ∧ Hid (Below w.heap.size w wr))
          case atStart => exact ⟨0, Z, by omega, rfl, rfl, rfl, HZ2, M4, B4⟩
          case round =>
            obtain ⟨l, V, hl, HL, rfl, rfl, HV2, M5', B5⟩ := hrel
            clear HZ2 M4 B4 HZ0
            have c4 := M5'.out.c4
            have hVs : V.size ≤ 1099511627776 := by have h := HET.out l; rw [← HV2.out] at h; have e : V.data.toList.length = V.size := rfl; omega
            by_cases hlt : l < T
            · have hln : l < ts.length := by rw [← HT.out]; exact hlt
              obtain ⟨b, off, rfl, hb, hcell'⟩ := (HM.out.t.below B5.out) l hln
              obtain ⟨x, hx⟩ : ∃ x, x = ts.getD l ⟨#[]⟩ := ⟨_, rfl⟩
              have hcell := hcell'
              change _ = some (Value.string (ts.getD l ⟨#[]⟩)) at hcell
              rw [← hx] at hcell
              have hxs : x.size ≤ 140737488351232 := by
                have e : x = ts[l] := by rw [hx]; simp [List.getD, hln]
                rw [e]; exact HM.out.tb _ (List.getElem_mem hln)
              have hns := (numS_size x.size).2
              have hsum : (V.size : Int) + (((numS x.size).size : Int) + (x.size : Int)) ≤ 9223372036854775807 := by omega
              have hsum2 : (V.size : Int) + ((numS x.size ++ x).size : Int) ≤ 9223372036854775807 := by rw [ByteArray.size_append]; omega
              have HV3 : Hid ((V ++ (numS x.size ++ x)).data.toList = headL k c i j ++ numsL ns ++ (numS T).data.toList ++ textsL (ts.take (l + 1))) := Lib.hid (by
                rw [app_data, HV2.out, take_snoc ts ⟨#[]⟩ l hln, texts_snoc, app_data, ← hx]
                simp [textL])
              clear hcell' hx hln
              go_wp2_with (fail)
              refine (rtext_any x wr hxs).mono ?_
              rintro e w6 ⟨rfl, hb6⟩
              have M6 := Lib.hid (M5'.out.below hb6 M5'.out.lt)
              have B6 := Lib.hid (B5.out.trans (hb6.mono B5.out.size))
              clear hb6 M5' B5 c4 hcell hb
              go_wp2
              go_roundg (T - (l + 1))
              case measure => have := HL.out; omega
              case rel => exact ⟨l + 1, _, by omega, rfl, by go_num, rfl, HV3, M6, B6⟩
            · obtain rfl : l = T := by omega
              have hE : V = encR k c i ns ts := by
                rw [encR_yes (by rw [← HN.out, ← HT.out]; exact HV.out)]
                have h := HV2.out
                have e : V = S V.data.toList := S_of rfl
                rw [e, h]
                unfold encS encL S
                rw [HT.out, List.take_length, ← HN.out]
              have HE := Lib.hid hE
              have BF := Lib.hid B5.out
              clear hE
              go_wp2
              go_ret
              exact ⟨by rw [← HE.out]; rfl, BF.out⟩
end Go.Proofs.YtndcmjgjecdgcaaDoor
