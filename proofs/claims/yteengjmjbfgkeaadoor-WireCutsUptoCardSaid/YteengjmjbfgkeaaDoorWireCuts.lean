/- WireCuts is true for every list of texts whose values and letters are together at most 1048576, every place and every change: frames one behind the other are read back; cut short anywhere, the whole ones are read and the rest is torn; with one byte changed, none that is told is other than what was framed. No conditions beyond the card's own and that bound. -/
import Derived.Test.YteengjmjbfgkeaaDoorSealKit
import Derived.Test.YteengjmjbfgkeaaDoorWireSpeaks
import Derived.Deep.DeepCutAuto

import Derived.Test.YteengjmjbfgkeaaDoorLawEnd

import Derived.Test.YteengjmjbfgkeaaDoorCrcLaid

namespace Go.Proofs.YteengjmjbfgkeaaDoor.fnWireCuts
open Go.ChangeShapes Go.WideShapes Go.ChangeAt Go.RowKit Go.WideMaps Go.WideElems
open Go.ChangeMaps (open_string)

def endsRow (bs : List (List UInt8)) (k : Nat) : List Value := (List.range k).map fun j => Value.int .i64 (endAt bs (j + 1) : Nat)
theorem endsRow_succ (bs : List (List UInt8)) (k : Nat) : endsRow bs (k + 1) = endsRow bs k ++ [Value.int .i64 (endAt bs (k + 1) : Nat)] := by
  unfold endsRow
  rw [List.range_succ, List.map_append]
  rfl
theorem acc_end {bs : List (List UInt8)} {k : Nat} {S : ByteArray} (h : Acc bs k S) : S.size = endAt bs k := by
  have h1 : S.data.toList.length = S.size := by simp
  rw [← h1, h]
  rfl
theorem infoInt : (Tryd.prog.info? 3).map (fun i => (i.zero, i.size, i.bytes)) = some (some (.int .i64 0), 1, 8) := by kernel_rfl
theorem ends_at {w : World} {B k : Nat} {bs : List (List UInt8)} {v : Value} (h : w.ownsRow B 3 1 v k (endsRow bs k)) : ∃ eo ec, v = .slice eo k ec ∧ ∀ i, i < k → ∃ g, eo = some ⟨g, 0, none⟩ ∧ B ≤ g ∧ w.cell? ⟨g, i, none⟩ = some (.int .i64 (endAt bs (i + 1) : Nat)) := by
  obtain ⟨hl, h⟩ := h
  rcases h with ⟨rfl, h0⟩ | ⟨g, cap, cur, rfl, h2, h3, h4, h5, h6, h7⟩
  · subst h0
    exact ⟨none, 0, rfl, fun i hi => absurd hi (by omega)⟩
  · refine ⟨_, _, rfl, fun i hi => ⟨g, rfl, h2, ?_⟩⟩
    have e1 : cur.toList[i]? = some (.int .i64 (endAt bs (i + 1) : Nat)) := by
      have : (cur.toList.take (k * 1))[i]? = some (.int .i64 (endAt bs (i + 1) : Nat)) := by
        rw [h7]
        unfold endsRow
        rw [List.getElem?_map, List.getElem?_range hi]
        rfl
      rw [List.getElem?_take] at this
      split at this
      · exact this
      · cases this
    simp only [World.cell?, h3]
    simpa using e1
theorem ends_keep {w w' : World} {B k : Nat} {bs : List (List UInt8)} {eo : Option Addr} (h : ∀ i, i < k → ∃ g, eo = some ⟨g, 0, none⟩ ∧ B ≤ g ∧ w.cell? ⟨g, i, none⟩ = some (.int .i64 (endAt bs (i + 1) : Nat)))
    (hb : Below w.heap.size w w') : ∀ i, i < k → ∃ g, eo = some ⟨g, 0, none⟩ ∧ w'.cell? ⟨g, i, none⟩ = some (.int .i64 (endAt bs (i + 1) : Nat)) := fun i hi => by
  obtain ⟨g, e, _, hc⟩ := h i hi
  have hg : g < w.heap.size := by
    rcases Nat.lt_or_ge g w.heap.size with hl | hl
    · exact hl
    · simp [World.cell?, Array.getElem?_eq_none hl] at hc
  exact ⟨g, e, (hb.cell (p := ⟨g, _, none⟩) hg).trans hc⟩
theorem grown_step {w w1 w2 : World} {B : Nat} {o : Obj} {e : TypeId} {v : Value} {n : Nat} {xs : List Value} (h1 : Hid (Below w.heap.size w w1)) (hB : B = w.heap.size) (hown : w1.ownsRow B e 1 v n xs) (hg : (w1.alloc o).grownBy w2 v.ownBlock) : Below w.heap.size w w2 := by
  subst hB
  have h3 : Below w.heap.size w1 (w1.alloc o) := (Below.refl _ _).alloc h1.out.size _
  exact (h1.out.trans h3).grown hg (by have := h1.out.size; simp; omega) (ownsRow_block hown)
theorem below_drew {w w1 w2 : World} (h : Below w.heap.size w w1) (hd : ∃ n, w2 = w1.drewN n) : Below w.heap.size w w2 := by
  obtain ⟨n, rfl⟩ := hd
  exact below_drewN h n
set_option maxRecDepth 100000 in
set_option maxHeartbeats 4000000 in
theorem walk (A : Option Addr) (len cap : Nat) (bs : List (List UInt8)) (n : Int) (c : UInt8) (w : World) (hh : Half w) (hbl : bs.length = len) (hlc : len ≤ cap) (hT : Texts w w.heap.size A bs) (ht : totL bs ≤ 1048576)
    (hn : -9223372036854775808 ≤ n ∧ n ≤ 9223372036854775807) :
    Calls Tryd.prog 7 #[.slice A len cap, .int .i64 n, .int .u8 (c.toNat : Int)] w fun e w' => e = .returned (.bool true) ∧ Below w.heap.size w w' := by
  have hlen : len ≤ 1048576 := by have := len_le_tot bs; omega
  obtain ⟨i0, hi, hz0, hz1, hz2⟩ := info_parts infoInt
  have HH := Lib.hid hh
  have HT := Lib.hid hT
  have HL := Lib.hid hbl
  have TT := Lib.hid ht
  clear hh hT hbl ht
  go_enter Tryd.func7, Tryd.ntmps7
  go_wp2_with (fail)
  refine (speaks2_any _).mono ?_
  rintro e w0 ⟨rfl, hb0⟩
  have B0 := Lib.hid hb0
  clear hb0
  obtain ⟨B, hB⟩ : ∃ B, B = w.heap.size := ⟨_, rfl⟩
  have HB0 := Lib.hid hB
  clear hB
  go_wp2
  go_loopw [7, 8, 9] (fun sv ev i wr => ∃ (k : Nat) (S : ByteArray), k ≤ len ∧ i = .int .i64 k ∧ sv = .string S ∧ Hid (Acc bs k S) ∧ Hid (wr.ownsRow B 3 1 ev k (endsRow bs k)) ∧ Hid (Below w.heap.size w wr)) (fun _ _ i _ => len - (intOf i).toNat)
  case atStart => exact ⟨0, _, Nat.zero_le _, rfl, rfl, rfl, Lib.hid ⟨rfl, .inl ⟨rfl, rfl⟩⟩, B0⟩
  case round =>
    obtain ⟨k, S, hk, rfl, rfl, HS, HE, HB⟩ := hrel
    clear B0
    have hSz := acc_size HS.out TT.out
    by_cases hlt : k < len
    · have hkb : k < bs.length := by rw [HL.out]; exact hlt
      obtain ⟨b, off, rfl, hB, hc⟩ := (HT.out.below HB.out) k hkb
      obtain ⟨q, hq⟩ : ∃ q : ByteArray, q = ⟨bs[k].toArray⟩ := ⟨_, rfl⟩
      have hql : q.data.toList = bs[k] := by rw [hq]
      rw [strV_q, ← hq] at hc
      have hqz : q.size ≤ 1048576 := by
        have h1 : q.data.toList.length = q.size := by simp
        rw [hql] at h1
        have := mem_le_tot (List.getElem_mem hkb)
        have := TT.out
        omega
      have HQ := Lib.hid hql
      have HKB := Lib.hid hkb
      clear hq hql
      by_cases hbig : (65536 : Int) < (q.size : Int)
      · go_wp2
        go_ret
        exact ⟨rfl, HB.out⟩
      · have hHw := Lib.hid (HH.out.below HB.out HH.out.lt)
        have hF := Lib.hid (frame_any q wr hHw.out hqz)
        go_wp2_with (fail)
        refine hF.out.mono ?_
        rintro e w1 ⟨rfl, hb⟩
        have HB1 := Lib.hid (HB.out.trans (hb.mono HB.out.size))
        have hown := ownsRow_below HE.out hb
        obtain ⟨F, hF'⟩ : ∃ F : ByteArray, F = ⟨(frameL q.data.toList).toArray⟩ := ⟨_, rfl⟩
        rw [← hF']
        have hst := acc_step HS.out HKB.out HQ.out
        rw [← hF'] at hst
        have HST := Lib.hid hst
        have hy1 : (S ++ F).size ≤ 12582912 := acc_size hst TT.out
        have hy2 : S.size + F.size ≤ 12582912 := by rw [← ByteArray.size_append]; exact hy1
        have hBz : B ≤ w1.heap.size := by have := HB1.out.size; rw [HB0.out]; omega
        clear hb hF' hst hF
        go_wp2_with (at_builtin; refine wpList_append_own _ rfl _ _ 48 rfl B 3 i0 (.int .i64 0) 1 8 Tryd.underlying48 hi hz0 hz1 hz2 rfl (by decide) _ _ _ rfl (hown.alloc _) ⟨w1.heap.size, 0, none⟩ 1 1 [.int .i64 ((S.size : Int) + (F.size : Int))] rfl rfl ?c1 ?c2 ?c3 ?c4 ?c5 ?_)
        case c1 =>
          intro j u hj
          match j, hj with
          | 0, hj => simp at hj; subst hj; simp [Addr.add]
        case c2 => first | rfl | (intro u hu; simp at hu; subst hu; rfl)
        case c3 => unfold maxLen; omega
        case c4 => omega
        case c5 => simp; omega
        intro v' w2 hown' hgrow' _
        have HG := Lib.hid (grown_step HB1 HB0.out hown hgrow')
        have hown2 : w2.ownsRow B 3 1 v' (k + 1) (endsRow bs (k + 1)) := by
          rw [endsRow_succ, ← acc_end HST.out, ByteArray.size_append]
          push_cast
          exact hown'
        have HO := Lib.hid hown2
        clear hown hown' hgrow' hown2
        go_wp2
        go_roundw
        case rel => exact ⟨k + 1, S ++ F, by omega, by go_num, rfl, HST, HO, HG⟩
        case measure => simp [intOf]; omega
    · obtain rfl : k = len := by omega
      have hSs : S.data.toList = stream bs := by have := HS.out; rw [← HL.out] at this; exact acc_done this
      have hlS : (stream bs).length = S.size := by rw [← hSs]; simp
      have hal := all_whole bs (small_of TT.out)
      rw [hlS] at hal
      have hEnd : endAt bs k = S.size := by rw [← HL.out, endAt_all, hlS]
      have hHw := HH.out.below HB.out HH.out.lt
      have hA := all_any S wr (by omega) hHw
      rw [hSs] at hA
      have HA := Lib.hid hA
      have HAL := Lib.hid hal
      have HSS := Lib.hid hSs
      have HLS := Lib.hid hlS
      have HEND := Lib.hid hEnd
      clear hSs hlS hal hHw hA hlt hk hEnd
      obtain ⟨eo, ec, rfl, hec⟩ := ends_at HE.out
      have HEC := Lib.hid hec
      clear hec HE
      go_wp2_with (fail)
      refine HA.out.mono ?_
      rintro e w1 hp
      obtain ⟨ao, cp, rfl, hrow, hb⟩ := all_post HAL.out HL.out hp
      have HB1 := Lib.hid (HB.out.trans (hb.mono HB.out.size))
      have HEC1 : Hid (∀ i, i < k → ∃ g, eo = some ⟨g, 0, none⟩ ∧ w1.cell? ⟨g, i, none⟩ = some (.int .i64 (endAt bs (i + 1) : Nat))) := Lib.hid (ends_keep HEC.out hb)
      have HR1 := Lib.hid hrow.at_
      have HT1 := Lib.hid (HT.out.below HB1.out).at_
      clear hp hrow hb HA HB HEC
      have ts : ((S.size : Int) != (S.size : Int)) = false := by simp
      go_wp2_with (fail)
      refine (texts_same ao A k cp cap bs w1 HL.out (by omega) HR1.out HT1.out).mono ?_
      rintro e w2 ⟨rfl, hd⟩
      have HD2 := Lib.hid hd
      have HB2 := Lib.hid (below_drew HB1.out hd)
      have HEC2 : Hid (∀ i, i < k → ∃ g, eo = some ⟨g, 0, none⟩ ∧ w2.cell? ⟨g, i, none⟩ = some (.int .i64 (endAt bs (i + 1) : Nat))) := Lib.hid (by
        obtain ⟨m, e⟩ := hd
        rw [e]
        exact HEC1.out)
      clear hd HR1 HT1 HEC1 HB1 HD2
      by_cases h0 : n < 0
      · go_wp2
        go_ret
        exact ⟨rfl, HB2.out⟩
      by_cases h1 : (S.size : Int) ≤ n
      · go_wp2
        go_ret
        exact ⟨rfl, HB2.out⟩
      obtain ⟨a, rfl⟩ : ∃ a : Nat, n = a := ⟨n.toNat, by omega⟩
      have ha : a < S.size := by omega
      clear h0 h1 hn
      go_wp2
      go_loop [13, 14] (fun nv lv => ∃ j : Nat, j ≤ k ∧ nv = .int .i64 j ∧ lv = .int .i64 (endAt bs j : Nat) ∧ endAt bs j ≤ a) (fun nv _ => k - (intOf nv).toNat)
      case atStart => exact ⟨0, Nat.zero_le _, rfl, rfl, Nat.zero_le _⟩
      case round =>
        obtain ⟨j, hj, rfl, rfl, hja⟩ := hrel
        have hjk : j < k := by
          rcases Nat.lt_or_ge j k with h | h
          · exact h
          · have e1 : j = k := by omega
            have := HEND.out
            rw [e1] at hja
            omega
        obtain ⟨g, rfl, hc⟩ := HEC2.out j hjk
        by_cases hnx : endAt bs (j + 1) ≤ a
        · have hnx' : (endAt bs (j + 1) : Int) ≤ (a : Int) := by omega
          go_wp2
          go_round
          case rel => exact ⟨j + 1, by omega, by go_num, rfl, hnx⟩
          case measure => simp [intOf]; omega
        · have hnx' : ¬ (endAt bs (j + 1) : Int) ≤ (a : Int) := by omega
          have hjb : j < bs.length := by rw [HL.out]; exact hjk
          obtain ⟨b, off, rfl, _, hcell0⟩ := HT.out j hjb
          clear hcell0
          have hcr := cut_read (small_of TT.out) hjb hja (by omega)
          have hex : (S.extract 0 a).data.toList = (stream bs).take a := by rw [Lib.extract_data, HSS.out]; simp
          have hmt : (bs.take j).length = j := by rw [List.length_take, HL.out]; omega
          have hHw := HH.out.below HB2.out HH.out.lt
          have hA := all_any (S.extract 0 a) w2 (by rw [ByteArray.size_extract]; omega) hHw
          rw [hex] at hA
          have hax : (a : Int) ≤ (S.size : Int) := by omega
          have HA2 := Lib.hid hA
          have HMT := Lib.hid hmt
          have HJB := Lib.hid hjb
          have tl : ((endAt bs j : Int) != (endAt bs j : Int)) = false := by simp
          have te : ((endAt bs j : Int) == (endAt bs j : Int)) = true := by simp
          have HNX := Lib.hid hnx
          obtain ⟨er, her, hcs⟩ : ∃ er, allL ((stream bs).take a) = (bs.take j, endAt bs j, er) ∧ ((er = 0 ∧ ((endAt bs j : Int) == (a : Int)) = true ∧ ((endAt bs j : Int) != (a : Int)) = false) ∨ (er = 23 ∧ ((endAt bs j : Int) == (a : Int)) = false ∧ ((endAt bs j : Int) != (a : Int)) = true)) := by
            refine ⟨_, hcr, ?_⟩
            by_cases hc : endAt bs j = a
            · left
              rw [if_pos hc, hc]
              simp
            · right
              rw [if_neg hc]
              have : ¬ (endAt bs j : Int) = (a : Int) := by omega
              refine ⟨rfl, by simpa using this, by simpa using this⟩
          have HCR := Lib.hid her
          clear hcr hex hmt hHw hA hnx her
          rcases hcs with ⟨rfl, c1, c2⟩ | ⟨rfl, c1, c2⟩
          all_goals
            go_wp2_with (fail)
            refine HA2.out.mono ?_
            rintro e w3 hp
            obtain ⟨ao2, cp2, rfl, hrow2, hb⟩ := all_post HCR.out HMT.out hp
            have HB3 := Lib.hid (HB2.out.trans (hb.mono HB2.out.size))
            have HR3 := Lib.hid hrow2.at_
            have HT3 := Lib.hid ((HT.out.below HB3.out).at_.take j)
            clear hp hrow2 hb HA2 HB2
            go_wp2_with (fail)
            refine (texts_same ao2 (some ⟨b, off, none⟩) j cp2 cap (bs.take j) w3 HMT.out (by omega) HR3.out HT3.out).mono ?_
            rintro e w4 ⟨rfl, hd⟩
            have HB4 := Lib.hid (below_drew HB3.out hd)
            clear hd HR3 HT3 HB3
            by_cases hc0 : c = 0
            · have t0 : ((c.toNat : Int) == 0) = true := by rw [hc0]; rfl
              clear hc0
              go_wp2
              go_ret
              exact ⟨rfl, HB4.out⟩
            · have t0 : ((c.toNat : Int) == 0) = false := by
                have : ¬ (c.toNat : Int) = 0 := fun h => hc0 (UInt8.toNat_inj.1 (by simpa using h))
                simpa using this
              have HC0 := Lib.hid hc0
              clear hc0
              have hcv := fun (w : World) => run_bytes_of_string (P := Tryd.prog) w 9 33 5 S Tryd.underlying9 Tryd.underlying33 Tryd.underlying5
              have hR0 := (Row8.of_string w4 S 5 (grownCap w4 S.size 0 5)).drew
              have R0 := Lib.hid hR0
              have B0 : Hid (Below w4.heap.size w4 (w4.alloc (.cells (bytesRow S (grownCap w4 S.size 0 5)) 5 ((bytesRow S (grownCap w4 S.size 0 5)).size, (bytesRow S (grownCap w4 S.size 0 5)).size + 1))).drew) := Lib.hid ((Below.refl _ _).alloc (Nat.le_refl _) _).drew
              clear hR0
              obtain ⟨G, hG⟩ : ∃ G, G = w4.heap.size := ⟨_, rfl⟩
              have HGz := Lib.hid hG
              clear hG
              go_upto_region 26 with (fail)
              go_cut [15] (fun s15 wx => (∃ cp, s15 = .slice (some ⟨G, 0, none⟩) S.size cp) ∧ Hid (Row8 wx G S.data.toList) ∧ Hid (Below w4.heap.size w4 wx))
              case first =>
                go_wp2
                go_meet
                exact ⟨⟨_, by rw [HGz.out]⟩, by rw [HGz.out]; exact R0, B0⟩
              case rest =>
                obtain ⟨⟨cp3, rfl⟩, HR5, HB5⟩ := hcut
                clear R0 B0 hcv
                rw [HSS.out] at HR5
                have hlz : (stream bs).length = S.size := HLS.out
                have htr := turn_read (small_of TT.out) HJB.out hja (by have := HNX.out; omega) HC0.out (x := c) (cut := a) (by omega)
                obtain ⟨l, hl⟩ : ∃ l, l = stream bs := ⟨_, rfl⟩
                have hal : a < l.length := by rw [hl]; omega
                have htr' : allL (l.set a (l[a] ^^^ c)) = (bs.take j, endAt bs j, 24) := by subst hl; exact htr
                rw [← hl] at HR5 hlz
                clear htr
                have hc1 := HR5.out.cell hal
                have hf1 := HR5.out.frozen hal
                have hxo := u8_xor_of l[a] c
                have HR6 := Lib.hid (HR5.out.set a (l[a] ^^^ c))
                have HB6 := Lib.hid ((HB4.out.trans (HB5.out.mono HB4.out.size)).setCell (p := ⟨G, a, none⟩) (by rw [HGz.out]; exact HB4.out.size) (.int .u8 ((l[a] ^^^ c).toNat : Int)))
                obtain ⟨l2, hl2⟩ : ∃ l2, l2 = l.set a (l[a] ^^^ c) := ⟨_, rfl⟩
                have hl2z : l2.length = S.size := by rw [hl2, List.length_set]; exact hlz
                rw [← hl2] at HR6 htr'
                have hbk := HR6.out.back (P := Tryd.prog) 33 9 5 cp3 Tryd.underlying33 Tryd.underlying5 Tryd.underlying9
                rw [hl2z] at hbk
                obtain ⟨t, htt⟩ : ∃ t : ByteArray, t = ⟨l2.toArray⟩ := ⟨_, rfl⟩
                have htl : t.data.toList = l2 := by rw [htt]
                have htz : t.size = S.size := by rw [htt]; show l2.toArray.size = _; simp [hl2z]
                rw [← htt] at hbk
                obtain ⟨v8, hv8⟩ : ∃ v8 : UInt8, v8 = l[a] ^^^ c := ⟨_, rfl⟩
                rw [← hv8] at hbk hxo HR6 HB6
                obtain ⟨o8, ho8⟩ : ∃ o8 : UInt8, o8 = l[a] := ⟨_, rfl⟩
                rw [← ho8] at hc1 hxo
                have hHw6 := HH.out.below HB6.out HH.out.lt
                have hA6 := all_any t _ (by omega) hHw6
                rw [htl] at hA6
                have HA6 := Lib.hid hA6
                have HTR := Lib.hid htr'
                clear hA6 hHw6 htr' hl hl2 hl2z htt htl htz hv8 ho8 hlz
                go_wp2_with (fail)
                refine HA6.out.mono ?_
                rintro e w7 hp
                obtain ⟨ao7, cp7, rfl, hrow7, hb⟩ := all_post HTR.out HMT.out hp
                have HB7 := Lib.hid (HB6.out.trans (hb.mono HB6.out.size))
                have HR7 := Lib.hid hrow7.at_
                have HT7 := Lib.hid ((HT.out.below HB7.out).at_.take j)
                clear hp hrow7 hb HA6
                go_wp2_with (fail)
                refine (texts_same ao7 (some ⟨b, off, none⟩) j cp7 cap (bs.take j) w7 HMT.out (by omega) HR7.out HT7.out).mono ?_
                rintro e w8 ⟨rfl, hd⟩
                have HB8 := Lib.hid (below_drew HB7.out hd)
                clear hd HR7 HT7 HB7
                go_wp2
                go_ret
                exact ⟨rfl, HB8.out⟩

theorem contractUpto (H : Type) (enc : TypeId × Value → H) (W : World) (base : Nat) (args : Array Value) (ds gs : List (DataW H)) (before : List MemPlace)
    (hval : ∀ (j : Nat) t v, Tryd.f7.params[j]? = some t → args[j]? = some v → Value.okWide Tryd.prog W .any base t v)
    (hW : DataW.Whole enc Tryd.prog Tryd.f7.params.toList Rows.wireCutsSpec.vars false W args.toList ds gs before) (hL : laidMetH Tryd.prog Rows.wireCutsRow.laid W)
    (hz : (DataW.weightsEach Tryd.prog (Tryd.f7.params.toList ++ []) (ds ++ gs)).all (· ≤ reachBytes) = true) (hk : Rows.uptoSmall H (ds ++ gs) = true) :
    Calls Tryd.prog 7 args W fun e W' => ∃ v, e = .returned v ∧ Rows.wireCutsSpec.post enc Tryd.prog Tryd.f7 false true false false W args v W' := by
  have hW' := hW
  obtain ⟨p, q, hA0, hV, rfl, hfz, hnd⟩ := hW
  have hA : DataW.TrodAll enc Tryd.prog W 0 (fun _ => true) true Tryd.f7.params.toList args.toList ds p := hA0
  rw [Tryd.params7] at hA hval hz
  obtain ⟨v0, vs0, d0, ds0, p0, q0, hargs, rfl, rfl, h0, r0⟩ := trodAll_cons hA
  obtain ⟨v1, vs1, d1, ds1, p1, q1, rfl, rfl, rfl, h1, r1⟩ := trodAll_cons r0
  obtain ⟨v2, vs2, d2, ds2, p2, q2, rfl, rfl, rfl, h2, r2⟩ := trodAll_cons r1
  obtain ⟨rfl, rfl, rfl⟩ := trodAll_nil r2
  obtain rfl : args = #[v0, v1, v2] := by cases args; simp_all
  obtain ⟨rfl, rfl⟩ := trodVars_none hV
  have hk0 : Rows.uptoBulk d0 ≤ 1048576 := by have h := of_decide_eq_true hk; simp only [List.append_nil, List.cons_append, List.nil_append, Rows.uptoBulkAll] at h; omega
  obtain ⟨A, len, cap, bs, rfl, hbl, hlc, hT, htot⟩ := open_texts (hval 0 41 v0 rfl rfl) h0 hk0
  obtain ⟨x1, rfl, rfl, rfl, w1⟩ := open_int Tryd.underlying3 (hval 1 3 v1 rfl rfl) h1
  have b1 := i64_of_wf w1
  obtain ⟨y2, rfl, rfl, rfl, w2⟩ := open_int Tryd.underlying5 (hval 2 5 v2 rfl rfl) h2
  obtain ⟨x2, rfl⟩ := U8_of_wf w2
  clear hA0
  refine (walk A len cap bs x1 x2 W (half_of hL) hbl hlc hT htot b1).mono fun e W' ⟨he, hb⟩ => ?_
  subst he
  exact ⟨_, rfl, law_end hW' rfl rfl hb laidOut (by kernel_rfl) (by kernel_rfl) Tryd.underlying4⟩

theorem reads (os : Os) {H : Type} (enc : TypeId × Value → H) : ∃ places, DataW.whole enc Tryd.prog ((laidWorld os).forCall (fun _ _ => 0) ⟨#[], #[.slice none 0 0, .int .i64 0, .int .u8 0], []⟩).memory Tryd.f7.params.toList Rows.wireCutsSpec.vars false [Value.slice none 0 0, Value.int .i64 0, Value.int .u8 0] 8 = some ([.nil, .lit (.int .i64 0), .lit (.int .u8 0)], [], places) :=
  ⟨[], by kernel_rfl⟩

set_option maxRecDepth 100000 in
theorem lifted (os : Os) (started : os.Started) (H : Type) (enc : TypeId × Value → H) (F : Stop.Interp) :
    ReturnsInHanded {} Tryd.checked os 7 .any ((Rows.OpenSpec.upto Rows.wireCutsSpec).preRow enc Tryd.prog Tryd.f7 Rows.wireCutsUptoRow.domain false Rows.wireCutsUptoRow.laid) (((Rows.OpenSpec.upto Rows.wireCutsSpec).at F).post enc Tryd.prog Tryd.f7 false true false false) := by
  obtain ⟨places, hx⟩ := reads os enc
  have laid_met : laidMet Tryd.prog Rows.wireCutsUptoRow.laid ((laidWorld os).forCall (fun _ _ => 0) ⟨#[], #[.slice none 0 0, .int .i64 0, .int .u8 0], []⟩).memory := (laidMet_of_run' 8 (by kernel_rfl) (by kernel_rfl))
  refine returnsInHanded_of_row (C := Tryd.checked) (s := Rows.OpenSpec.upto Rows.wireCutsSpec) own started (by kernel_rfl) Tryd.func7
    (witness_row_at (enc := enc) (C := Tryd.checked) false (laidWorld os) #[.slice none 0 0, .int .i64 0, .int .u8 0] rfl (by kernel_rfl) (by kernel_rfl) (by kernel_rfl)
      (OpenSpec.preRow_of_cond 8 hx (by kernel_rfl) (fun k hk => by cases hk; kernel_rfl) (by kernel_rfl) laid_met)) ?_
  intro W base args ds gs before hval hW _ hcond hz hL _ _
  exact contractUpto H enc W base args ds gs before hval hW hL hz (hcond _ rfl)

theorem said : Rows.WireCutsUptoSaid :=
  OpenClaim.holds_of_cond 7 Tryd.f7 rfl rfl rfl rfl rfl rfl rfl ⟨rfl, rfl, rfl, rfl, rfl⟩ rfl rfl rfl rfl rfl (by kernel_rfl) Tryd.func7 (by kernel_rfl)
    (of_decide_eq_true (by kernel_rfl)) (by unfold Func.isWrapper; first | (rw [if_pos (by decide +kernel)]; kernel_rfl) | (rw [if_neg (by decide +kernel)]; exact ⟨rfl, rfl⟩))
    (fun os started H enc _ F => by rw [OpenClaim.pre_eq_preRow]; exact lifted os started H enc F)

theorem plain (f : FuncId) (fn : Func) (hf : Tryd.pinned.checked.prog.funcNamed "mahout/mahoutlaw02.WireCuts" = some f) (hfn : Tryd.pinned.checked.prog.funcs[f]? = some fn) :
    ∀ (j : Nat) t, fn.params[j]? = some t → Tryd.pinned.checked.prog.wantsStandIn t = false := by
  obtain rfl : f = 7 := Option.some.inj ((show Tryd.prog.funcNamed "mahout/mahoutlaw02.WireCuts" = some 7 by kernel_rfl).symm.trans hf) |>.symm
  obtain rfl : fn = Tryd.f7 := (Option.some.inj (Tryd.func7.symm.trans hfn)).symm
  exact fun j t ht => by
    rw [Tryd.params7] at ht
    have hm : t ∈ [41, 3, 5] := by simpa using Array.mem_of_getElem? ht
    have hall : ([41, 3, 5].all fun u => !Tryd.prog.wantsStandIn u) = true := by kernel_rfl
    exact (show Tryd.prog.wantsStandIn t = false by simpa using List.all_eq_true.1 hall t hm)
/-- THE CARD -/
theorem card : Rows.WireCutsUptoCardSaid :=
  Claim7.holds_tied_plain_at .later [] _ _ _ _ said (fun _ h => by cases h) (by kernel_rfl) (fun _ h => by cases h) wireCutsUpto_row_tie rfl ⟨rfl, rfl⟩ (by kernel_rfl) rfl (fun f fn hf hfn => ⟨by kernel_rfl, plain f fn hf hfn⟩) (by kernel_rfl)

end Go.Proofs.YteengjmjbfgkeaaDoor.fnWireCuts
