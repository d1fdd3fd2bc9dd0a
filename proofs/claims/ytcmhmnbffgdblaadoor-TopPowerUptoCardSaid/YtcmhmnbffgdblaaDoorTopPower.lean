/- TopPower: a log of frames on a disk that loses its power, for every list of texts whose values and letters are together at most 1048576, every number of syncs and every crash. -/
import Derived.Test.YtcmhmnbffgdblaaDoorDiskOps
import Derived.Test.YtcmhmnbffgdblaaDoorSealKit

import Derived.Test.YtcmhmnbffgdblaaDoorLawEnd

import Derived.Test.YtcmhmnbffgdblaaDoorCrcLaid

namespace Go.Proofs.YtcmhmnbffgdblaaDoor.fnTopPower
open Go.ChangeShapes Go.WideShapes Go.ChangeAt Go.RowKit Go.WideMaps Go.WideElems
open Go.ChangeMaps (open_string)

open Go.Maps
set_option maxRecDepth 100000 in
theorem open_pair {H : Type} {enc : TypeId × Value → H} {W : World} {base : Nat} {v : Value} {d : DataW H} {p : List MemPlace}
    (hv : Value.okWide Tryd.prog W .any base 23 v) (h : DataW.Trod enc Tryd.prog W 0 (fun _ => true) true 23 v d p) :
    ∃ x : Int × Int, v = .agg #[.int .i64 x.1, .int .i64 x.2] ∧ (-9223372036854775808 ≤ x.1 ∧ x.1 ≤ 9223372036854775807) := by
  have hu : Tryd.prog.underlying 23 = some (.array 2 3) := Tryd.underlying23
  simp only [Value.okWide, hu] at hv
  obtain ⟨cs, rfl, hsz, _⟩ := hv
  obtain ⟨fuel, hf⟩ := h
  obtain ⟨ys, m, _, _, hlen, hyl, hg⟩ := DataW.trod_array hu hf
  have c3 : Tryd.prog.cellsOf 3 = 1 := by kernel_rfl
  have c32 : Tryd.prog.cellsOf 23 = 2 := by kernel_rfl
  rw [c32] at hlen hsz
  have hlen' : cs.toList.length = 2 := by simpa [Value.cells] using hlen
  obtain ⟨v0, v1, hcs⟩ : ∃ v0 v1, cs = #[v0, v1] := by
    match hc : cs.toList, hlen' with
    | [v0, v1], _ => exact ⟨v0, v1, by apply Array.ext'; exact hc⟩
  subst hcs
  match ys, hyl with
  | [y0, y1], _ =>
    have g0 : DataW.trod enc Tryd.prog W 0 (fun _ => true) true m 3 [v0] = some y0 := by have := hg 0 (by omega); simpa [c3, Value.cells] using this
    have g1 : DataW.trod enc Tryd.prog W 0 (fun _ => true) true m 3 [v1] = some y1 := by have := hg 1 (by omega); simpa [c3, Value.cells] using this
    obtain ⟨k, e0, _, wk⟩ := DataW.trod_int Tryd.underlying3 g0
    obtain ⟨i, e1, _, wi⟩ := DataW.trod_int Tryd.underlying3 g1
    simp only [List.cons.injEq, and_true] at e0 e1
    subst e0 e1
    exact ⟨(k, i), rfl, i64_of_wf wk⟩
theorem dnew_big (w : World) : Calls Tryd.prog 4 #[.int .i64 1099511627776] w fun e w' => e = .returned (.pointer (some ⟨w.heap.size, 0, none⟩)) ∧ DiskAt w' w.heap.size 1099511627776 (.map none) (.slice none 0 0) (.map none) 0 ∧ Below w.heap.size w w' := by
  go_enter Tryd.func4, Tryd.ntmps4
  go_wp2
  go_ret
  refine ⟨rfl, ⟨?_, ?_, ?_, ?_, ?_, ?_, ?_⟩, (Below.refl _ w).alloc (Nat.le_refl _) _⟩
  · simp
  · simp
  · simp
  · simp
  · simp
  · intro i; simp
  · exact ⟨_, heap_alloc_new w _⟩
def sL : ByteArray := ⟨#[108, 111, 103]⟩
def fS (l : List UInt8) : ByteArray := ⟨(frameL l).toArray⟩
theorem fS_size (l : List UInt8) : (fS l).size = l.length + 12 := by
  have : (fS l).data.toList.length = (fS l).size := by simp
  rw [← this]
  simp [fS, frameL_length]
def frs (bs : List (List UInt8)) (m k : Nat) : List ByteArray := ((bs.take k).drop m).map fS
theorem bytesOf_fS (l : List (List UInt8)) : bytesOf (l.map fS) = stream l := by
  induction l with
  | nil => rfl
  | cons b l ih => simp only [List.map_cons, bytesOf, stream, ih, fS]
theorem frs_self (bs : List (List UInt8)) (m : Nat) : frs bs m m = [] := by
  unfold frs
  rw [List.drop_eq_nil_of_le (by rw [List.length_take]; omega)]
  rfl
theorem frs_succ (bs : List (List UInt8)) (m k : Nat) (h : m ≤ k) (hk : k < bs.length) : frs bs m (k + 1) = frs bs m k ++ [fS bs[k]] := by
  unfold frs
  rw [List.take_succ_eq_append_getElem hk, List.drop_append_of_le_length (by rw [List.length_take]; omega), List.map_append]
  rfl
theorem frs_length (bs : List (List UInt8)) (m k : Nat) : (frs bs m k).length ≤ k := by
  unfold frs
  rw [List.length_map, List.length_drop, List.length_take]
  omega
def st (bs : List (List UInt8)) (k : Nat) : List UInt8 := stream ([] :: bs.take k)
theorem st_frs (bs : List (List UInt8)) (m k : Nat) (h : m ≤ k) : st bs m ++ bytesOf (frs bs m k) = st bs k := by
  unfold st frs
  rw [bytesOf_fS, ← stream_append, List.cons_append]
  congr 2
  have := List.take_append_drop m (bs.take k)
  rw [List.take_take, Nat.min_eq_left h] at this
  exact this
theorem st_len {bs : List (List UInt8)} (h : totL bs ≤ 1048576) (k : Nat) : (st bs k).length ≤ 12582924 := by
  have h1 := stream_len ([] :: bs.take k)
  have h2 := tot_take bs k
  unfold st
  simp only [totL, List.length_nil] at h1
  omega
theorem small_log {bs : List (List UInt8)} (h : totL bs ≤ 1048576) : Small ([] :: bs) := fun b hb => by
  rcases List.mem_cons.1 hb with rfl | hb
  · simp
  · exact small_of h b hb
theorem find_cut {fs : List (List UInt8)} (hb : Small fs) : ∀ (d m cut : Nat), fs.length - m = d → m ≤ fs.length → endAt fs m ≤ cut → cut ≤ (stream fs).length →
    ∃ n, m ≤ n ∧ n ≤ fs.length ∧ allL ((stream fs).take cut) = (fs.take n, endAt fs n, if endAt fs n = cut then 0 else 23) := by
  intro d
  induction d with
  | zero =>
    intro m cut h1 h2 h3 h4
    obtain rfl : m = fs.length := by omega
    rw [endAt_all] at h3
    have hc : cut = (stream fs).length := by omega
    refine ⟨fs.length, Nat.le_refl _, Nat.le_refl _, ?_⟩
    rw [hc, List.take_length, all_whole fs hb, endAt_all, if_pos rfl, List.take_length]
  | succ d ih =>
    intro m cut h1 h2 h3 h4
    by_cases hc : cut < endAt fs (m + 1)
    · exact ⟨m, Nat.le_refl _, h2, cut_read hb (by omega) h3 hc⟩
    · obtain ⟨n, q1, q2, q3⟩ := ih (m + 1) cut (by omega) (by omega) (by omega) h4
      exact ⟨n, by omega, q2, q3⟩
/-- what is read of a log behind a crash -/
theorem read_log {bs : List (List UInt8)} (h : totL bs ≤ 1048576) {m : Nat} (hm : m ≤ bs.length) {Y : List UInt8} (hc : IsCut (st bs m) (frs bs m bs.length) Y) :
    ∃ n, m + 1 ≤ n ∧ n ≤ bs.length + 1 ∧ Y.length ≤ 12582924 ∧ allL Y = (([] :: bs).take n, endAt ([] :: bs) n, if endAt ([] :: bs) n = Y.length then 0 else 23) := by
  obtain ⟨Z, rfl, Q, hQ⟩ := hc
  have e1 : st bs m ++ Z ++ Q = stream ([] :: bs) := by
    rw [List.append_assoc, hQ, st_frs bs m _ hm]
    unfold st
    rw [List.take_length]
  have e2 : (stream ([] :: bs)).take (st bs m ++ Z).length = st bs m ++ Z := by rw [← e1, List.take_left']; rfl
  have hl : (st bs m ++ Z).length ≤ (stream ([] :: bs)).length := by
    have := congrArg List.length e1
    rw [List.length_append] at this
    omega
  have h3 : endAt ([] :: bs) (m + 1) ≤ (st bs m ++ Z).length := by
    rw [List.length_append]
    show (stream (([] :: bs).take (m + 1))).length ≤ _
    rw [List.take_succ_cons]
    exact Nat.le_add_right _ _
  obtain ⟨n, q1, q2, q3⟩ := find_cut (small_log h) _ (m + 1) _ rfl (by simpa using hm) h3 hl
  rw [e2] at q3
  have h5 := st_len h bs.length
  unfold st at h5
  rw [List.take_length] at h5
  exact ⟨n, q1, by simpa using q2, by omega, q3⟩
theorem od_below {w0 w w' : World} {p : Nat} {name : ByteArray} {cp : Int} {X : List UInt8} {cs : List ByteArray} {hl : Bool} (hD : OneD w0 w p name cp X cs hl) (hb : Below w.heap.size w w') : OneD w0 w' p name cp X cs hl := by
  obtain ⟨hb0, hp0, L, m, chg, v, v2, hk, hL, hm, hLm, o2, o1, hcs, hv⟩ := hD
  have t := tch_below (fun _ => False) hb
  exact ⟨hb0.trans (hb.mono hb0.size), hp0, L, m, chg, v, v2, hk.tch t (fun e => e), hL, hm, hLm, o2.tch t (fun e => e) (fun _ _ e => e), o1.tch t (fun e => e) (fun _ _ e => e), row_tch hcs t (fun _ _ e => e), hv⟩
set_option maxRecDepth 100000 in
set_option maxHeartbeats 4000000 in
theorem walk (A : Option Addr) (len cap : Nat) (bs : List (List UInt8)) (sy : Int) (x : Int × Int) (W : World) (hh : Half W) (hbl : bs.length = len) (hlc : len ≤ cap) (hT : Texts W W.heap.size A bs) (ht : totL bs ≤ 1048576) (hsy : -9223372036854775808 ≤ sy ∧ sy ≤ 9223372036854775807) :
    Calls Tryd.prog 3 #[.slice A len cap, .int .i64 sy, .agg #[.int .i64 x.1, .int .i64 x.2]] W fun e w' => e = .returned (.bool true) ∧ Below W.heap.size W w' := by
  obtain ⟨xa, xb⟩ := x
  simp only
  have hlen : len ≤ 1048576 := by have := len_le_tot bs; omega
  have HH := Lib.hid hh
  have HT := Lib.hid hT
  have HL := Lib.hid hbl
  have TT := Lib.hid ht
  have hb0 : Below W.heap.size W (W.alloc (.cells #[.int .i64 xa, .int .i64 xb] 23)) := (Below.refl _ W).alloc (Nat.le_refl _) _
  clear hh hT hbl ht
  obtain ⟨W1, hW1⟩ : ∃ W1, W1 = W.alloc (.cells #[.int .i64 xa, .int .i64 xb] 23) := ⟨_, rfl⟩
  have HBX : Hid (W.heap.size < W1.heap.size ∧ W1.cell? ⟨W.heap.size, 0, none⟩ = some (.int .i64 xa) ∧ W1.cell? ⟨W.heap.size, 1, none⟩ = some (.int .i64 xb)) := Lib.hid (by rw [hW1]; refine ⟨by simp, ?_, ?_⟩ <;> simp)
  rw [← hW1] at hb0
  have HW := Lib.hid (And.intro hb0 hW1)
  have hkW : ∀ w', Below W1.heap.size W1 w' → Below W.heap.size W w' := fun w' h => hb0.trans (h.mono hb0.size)
  have HKW := Lib.hid hkW
  have HKH : Hid (∀ w', Below W1.heap.size W1 w' → Half w') := Lib.hid (fun w' h => HH.out.below (hkW w' h) HH.out.lt)
  clear hb0 hW1 hkW
  go_enter Tryd.func3, Tryd.ntmps3
  go_wp2_with (fail)
  rw [← HW.out.2]
  obtain ⟨bx, hbx⟩ : ∃ bx, bx = W.heap.size := ⟨_, rfl⟩
  rw [← hbx] at HBX ⊢
  clear hbx
  refine (dnew_big W1).mono ?_
  rintro e w2 ⟨rfl, hk2, hb2⟩
  have hF := frame_any ⟨#[]⟩ w2 (HKH.out w2 hb2) (by decide)
  have hF0 : (⟨(frameL (⟨#[]⟩ : ByteArray).data.toList).toArray⟩ : ByteArray) = fS [] := rfl
  rw [hF0] at hF
  have HB2 := Lib.hid hb2
  have HK2 := Lib.hid hk2
  clear hk2 hb2 hF0
  obtain ⟨p, hp⟩ : ∃ p, p = W1.heap.size := ⟨_, rfl⟩
  have HP := Lib.hid hp
  rw [← hp] at HK2 ⊢
  clear hp
  go_wp2_with (fail)
  refine hF.mono ?_
  rintro e w3 ⟨rfl, hb3⟩
  have hap := append_D1 W1 p 1099511627776 sL (fS []) w3 (HB2.out.trans (hb3.mono HB2.out.size)) (by rw [HP.out]; exact Nat.le_refl _) (HK2.out.tch (tch_below (fun _ => False) hb3) (fun e => e)) (by decide) (by decide) (by rw [fS_size]; decide) (by decide)
  obtain ⟨F, hFe⟩ : ∃ F, F = fS [] := ⟨_, rfl⟩
  rw [← hFe] at hap ⊢
  have HFE := Lib.hid hFe
  clear hF HK2 HB2 hb3 hFe
  go_wp2_with (fail)
  refine hap.mono ?_
  rintro e w4 ⟨rfl, hD4⟩
  have hsn := sync_D W1 p 1099511627776 sL [] [F] false w4 hD4 (.inr (by simp)) (by decide) (by rw [HFE.out]; simp [bytesOf, fS, frameL_length])
  clear hap hD4
  go_wp2_with (fail)
  refine hsn.mono ?_
  rintro e w5 ⟨rfl, hD5⟩
  have H5 : Hid (OneD W1 w5 p sL 1099511627776 (st bs 0) (frs bs 0 0) true) := Lib.hid (by
    have e : [] ++ bytesOf [F] = st bs 0 := by rw [HFE.out]; simp [bytesOf, fS, st, stream]
    rw [e] at hD5
    rw [frs_self]
    exact hD5)
  clear hsn hD5
  have hlen' : (len : Int) ≤ 1048576 := by omega
  go_wp2
  go_loopw [8, 9] (fun nv iv wr => ∃ k m : Nat, k ≤ len ∧ m ≤ k ∧ nv = .int .i64 m ∧ iv = .int .i64 k ∧ Hid (OneD W1 wr p sL 1099511627776 (st bs m) (frs bs m k) true)) (fun _ i _ => len - (intOf i).toNat)
  case atStart => exact ⟨0, 0, Nat.zero_le _, Nat.le_refl _, rfl, rfl, H5⟩
  case round =>
    obtain ⟨k, m, hk, hmk, rfl, rfl, HR⟩ := hrel
    clear H5
    have hw2 : IntKind.i64.wrap ((k : Int) + 1) = (k : Int) + 1 := IntWalk.i64_in _ (by omega)
    by_cases hkn : k < len
    · have hkb : k < bs.length := by rw [HL.out]; exact hkn
      obtain ⟨b, off, rfl, hB, hc⟩ := HT.out.below (HKW.out wr HR.out.bel) k hkb
      obtain ⟨q, hq⟩ : ∃ q : ByteArray, q = ⟨bs[k].toArray⟩ := ⟨_, rfl⟩
      have hql : q.data.toList = bs[k] := by rw [hq]
      rw [strV_q, ← hq] at hc
      have hqz : q.size ≤ 1048576 := by
        have h1 : q.data.toList.length = q.size := by simp
        rw [hql] at h1
        have := mem_le_tot (List.getElem_mem hkb)
        have := TT.out
        omega
      have hF := frame_any q wr (HKH.out wr HR.out.bel) hqz
      rw [hql] at hF
      obtain ⟨F, hFe⟩ : ∃ F, F = fS bs[k] := ⟨_, rfl⟩
      have hF2 : (⟨(frameL bs[k]).toArray⟩ : ByteArray) = F := by rw [hFe]; rfl
      rw [hF2] at hF
      have HFE := Lib.hid hFe
      have hFz : F.size ≤ 1048588 := by
        have h1 : q.data.toList.length = q.size := by simp
        rw [hFe, fS_size, ← hql]
        omega
      have hqn : ¬ (1048576 : Int) < (q.size : Int) := by omega
      clear hq hql hF2 hFe
      go_wp2_with (fail)
      refine hF.mono ?_
      rintro e w6 ⟨rfl, hb6⟩
      have hap := append_D W1 p 1099511627776 sL F (st bs m) (frs bs m k) true w6 (od_below HR.out hb6) (by decide) (by decide) (by have := frs_length bs m k; omega) (by rw [st_frs bs m k hmk]; have := st_len TT.out k; omega) (by decide)
      clear hF hb6 hc
      go_wp2_with (fail)
      refine hap.mono ?_
      rintro e w7 ⟨rfl, hD7⟩
      have H7 : Hid (OneD W1 w7 p sL 1099511627776 (st bs m) (frs bs m (k + 1)) true) := Lib.hid (by rw [frs_succ bs m k hmk hkb, ← HFE.out]; exact hD7)
      clear hap hD7
      by_cases hs : (k : Int) < sy
      · have hsn := sync_D W1 p 1099511627776 sL (st bs m) (frs bs m (k + 1)) true w7 H7.out (.inl rfl) (by decide) (by rw [st_frs bs m _ (by omega)]; have := st_len TT.out (k + 1); omega)
        go_wp2_with (fail)
        refine hsn.mono ?_
        rintro e w8 ⟨rfl, hD8⟩
        have H8 : Hid (OneD W1 w8 p sL 1099511627776 (st bs (k + 1)) (frs bs (k + 1) (k + 1)) true) := Lib.hid (by rw [frs_self, ← st_frs bs m (k + 1) (by omega)]; exact hD8)
        clear hsn hD8 H7
        go_wp2
        go_round
        case rel => exact ⟨k + 1, k + 1, by omega, Nat.le_refl _, by simp, by simp, H8⟩
        case measure => simp [intOf]; omega
      · go_wp2
        go_round
        case rel => exact ⟨k + 1, m, by omega, by omega, rfl, by simp, H7⟩
        case measure => simp [intOf]; omega
    · obtain rfl : k = len := by omega
      have hw3 : IntKind.i64.wrap ((m : Int) + 1) = (m : Int) + 1 := IntWalk.i64_in _ (by omega)
      have hbW := HR.out.bel
      have hx0 := (hbW.cell (p := ⟨bx, 0, none⟩) HBX.out.1).trans HBX.out.2.1
      have hx1 := (hbW.cell (p := ⟨bx, 1, none⟩) HBX.out.1).trans HBX.out.2.2
      have hcr := crash_D W1 p 1099511627776 xa xb sL (st bs m) (frs bs m k) wr HR.out (by decide) (by rw [st_frs bs m k hmk]; have := st_len TT.out k; omega)
      clear hbW
      go_wp2_with (fail)
      refine hcr.mono ?_
      rintro e w9 ⟨rfl, Y, hD9, hcut⟩
      rw [← HL.out] at hcut
      obtain ⟨n, n1, n2, hYl, hal⟩ := read_log TT.out (by rw [HL.out]; exact hmk) hcut
      rw [HL.out] at n2
      have hrd := read_D W1 p 1099511627776 sL Y [] true w9 hD9 (by decide)
      have eY : (⟨(Y ++ bytesOf []).toArray⟩ : ByteArray) = ⟨Y.toArray⟩ := by simp [bytesOf]
      rw [eY] at hrd
      obtain ⟨S, hS⟩ : ∃ S : ByteArray, S = ⟨Y.toArray⟩ := ⟨_, rfl⟩
      rw [← hS] at hrd
      have hSY : S.data.toList = Y := by rw [hS]
      have hSz : Y.length = S.size := by rw [← hSY]; simp
      have hA := all_any S w9 (by omega) (HKH.out w9 hD9.bel)
      rw [hSY] at hA
      rw [hSz] at hal hYl
      obtain ⟨E, hE⟩ : ∃ E, E = endAt ([] :: bs) n := ⟨_, rfl⟩
      rw [← hE] at hal
      have hnl : (([] :: bs).take n).length = n := by rw [List.length_take, List.length_cons, HL.out]; omega
      have HB9 := Lib.hid hD9.bel
      have HA := Lib.hid hA
      have HAL := Lib.hid (And.intro hal hnl)
      clear hA hal hE hSY hS hSz hx0 hx1 hcr hD9 hcut eY hnl hlc hk
      go_wp2_with (fail)
      refine hrd.mono ?_
      rintro e w10 ⟨rfl, rfl⟩
      clear hrd
      go_wp2_with (fail)
      refine HA.out.mono ?_
      rintro e w11 hp11
      obtain ⟨ao, cp2, rfl, hrow, hb11⟩ := all_post HAL.out.1 HAL.out.2 hp11
      have HBF := Lib.hid (HKW.out w11 (HB9.out.trans (hb11.mono HB9.out.size)))
      have HRW := Lib.hid hrow
      clear hp11 hrow hb11 HA HB9
      have hc1 : ¬ (n : Int) < (m : Int) + 1 := by omega
      have hc2 : ¬ (k : Int) + 1 < (n : Int) := by omega
      have her : ∃ er : Int, (if E = S.size then (0 : Int) else 23) = er ∧ ((E = S.size ∧ er = 0) ∨ (((E : Int) == (S.size : Int)) = false ∧ er = 23)) := by
        by_cases h : E = S.size
        · exact ⟨0, if_pos h, .inl ⟨h, rfl⟩⟩
        · exact ⟨23, if_neg h, .inr ⟨by rw [beq_eq_false_iff_ne]; intro h'; exact h (by omega), rfl⟩⟩
      obtain ⟨er, he1, he2⟩ := her
      rw [he1]
      clear he1
      have hn1 : (1 : Int) ≤ (n : Int) := by omega
      rcases he2 with ⟨rfl, rfl⟩ | ⟨hne, rfl⟩
      all_goals
        go_wp2
        go_loopw [15] (fun iv wq => ∃ j : Nat, j + 1 ≤ n ∧ iv = .int .i64 ((j : Int) + 1) ∧ Hid (Below W.heap.size W wq ∧ TextRow wq w9.heap.size ao (([] :: bs).take n))) (fun i _ => n - (intOf i).toNat)
        case atStart => exact ⟨0, by omega, rfl, Lib.hid ⟨HBF.out, HRW.out⟩⟩
        case round =>
          obtain ⟨j, hj, rfl, HI⟩ := hrel
          obtain ⟨g0, rfl, _, _, g1⟩ := HI.out.2 0 (by rw [HAL.out.2]; omega)
          rw [List.getElem_take, strV_q] at g1
          have g1' : wr.cell? ⟨g0, 0, none⟩ = some (.string ⟨#[]⟩) := g1
          clear g1
          by_cases hlt3 : j + 1 < n
          · have hjb : j < bs.length := by rw [HL.out]; omega
            obtain ⟨g1, hg, _, _, g2⟩ := HI.out.2 (j + 1) (by rw [HAL.out.2]; exact hlt3)
            obtain rfl : g0 = g1 := by simpa using hg
            rw [List.getElem_take, List.getElem_cons_succ, strV_q] at g2
            obtain ⟨b, off, rfl, _, g3⟩ := (HT.out.below HI.out.1) j hjb
            rw [strV_q] at g3
            obtain ⟨q, hq⟩ : ∃ q : ByteArray, q = ⟨bs[j].toArray⟩ := ⟨_, rfl⟩
            rw [← hq] at g2 g3
            clear hq hg g1'
            have hwj : IntKind.i64.wrap ((j : Int) + 1 + 1) = (j : Int) + 1 + 1 := IntWalk.i64_in _ (by omega)
            have hjk : j < k := by omega
            go_wp2_with (fail)
            go_quiet (fail)
            go_wp2
            go_roundw
            case rel => exact ⟨j + 1, by omega, by go_num, Lib.hid ⟨below_drewN HI.out.1 _, text_drewN HI.out.2 _⟩⟩
            case measure => simp [intOf]; omega
          · obtain rfl : n = j + 1 := by omega
            go_wp2
            go_ret
            exact ⟨rfl, HI.out.1⟩

set_option maxRecDepth 100000 in
theorem contractUpto (H : Type) (enc : TypeId × Value → H) (W : World) (base : Nat) (args : Array Value) (ds gs : List (DataW H)) (before : List MemPlace)
    (hval : ∀ (j : Nat) t v, Tryd.f3.params[j]? = some t → args[j]? = some v → Value.okWide Tryd.prog W .any base t v)
    (hW : DataW.Whole enc Tryd.prog Tryd.f3.params.toList Rows.topPowerSpec.vars false W args.toList ds gs before) (hL : laidMetH Tryd.prog Rows.topPowerRow.laid W)
    (hz : (DataW.weightsEach Tryd.prog (Tryd.f3.params.toList ++ []) (ds ++ gs)).all (· ≤ reachBytes) = true) (hk : Rows.uptoSmall H (ds ++ gs) = true) :
    Calls Tryd.prog 3 args W fun e W' => ∃ v, e = .returned v ∧ Rows.topPowerSpec.post enc Tryd.prog Tryd.f3 false true false false W args v W' := by
  have hW' := hW
  obtain ⟨p, q, hA0, hV, rfl, hfz, hnd⟩ := hW
  have hA : DataW.TrodAll enc Tryd.prog W 0 (fun _ => true) true Tryd.f3.params.toList args.toList ds p := hA0
  rw [Tryd.params3] at hA hval hz
  obtain ⟨v0, vs0, d0, ds0, p0, q0, hargs, rfl, rfl, h0, r0⟩ := trodAll_cons hA
  obtain ⟨v1, vs1, d1, ds1, p1, q1, rfl, rfl, rfl, h1, r1⟩ := trodAll_cons r0
  obtain ⟨v2, vs2, d2, ds2, p2, q2, rfl, rfl, rfl, h2, r2⟩ := trodAll_cons r1
  obtain ⟨rfl, rfl, rfl⟩ := trodAll_nil r2
  obtain rfl : args = #[v0, v1, v2] := by cases args; simp_all
  obtain ⟨rfl, rfl⟩ := trodVars_none hV
  have hk0 : Rows.uptoBulk d0 ≤ 1048576 := by have h := of_decide_eq_true hk; simp only [List.append_nil, List.cons_append, List.nil_append, Rows.uptoBulkAll] at h; omega
  obtain ⟨A, len, cap, bs, rfl, hbl, hlc, hT, htot⟩ := open_texts (hval 0 22 v0 rfl rfl) h0 hk0
  obtain ⟨x1, rfl, rfl, rfl, w1⟩ := open_int Tryd.underlying3 (hval 1 3 v1 rfl rfl) h1
  have b1 := i64_of_wf w1
  obtain ⟨x2, rfl, b2⟩ := open_pair (hval 2 23 v2 rfl rfl) h2
  clear hA0
  refine (walk A len cap bs x1 x2 W (half_of hL) hbl hlc hT htot b1).mono fun e W' ⟨he, hb⟩ => ?_
  subst he
  exact ⟨_, rfl, law_end hW' rfl rfl hb laidOut (by kernel_rfl) (by kernel_rfl) Tryd.underlying4⟩

theorem reads (os : Os) {H : Type} (enc : TypeId × Value → H) : ∃ places, DataW.whole enc Tryd.prog ((laidWorld os).forCall (fun _ _ => 0) ⟨#[], #[.slice none 0 0, .int .i64 0, .agg #[.int .i64 0, .int .i64 0]], []⟩).memory Tryd.f3.params.toList Rows.topPowerSpec.vars false [Value.slice none 0 0, Value.int .i64 0, Value.agg #[.int .i64 0, .int .i64 0]] 8 = some ([.nil, .lit (.int .i64 0), .agg [.lit (.int .i64 0), .lit (.int .i64 0)]], [], places) :=
  ⟨[], by kernel_rfl⟩

set_option maxRecDepth 100000 in
theorem lifted (os : Os) (started : os.Started) (H : Type) (enc : TypeId × Value → H) (F : Stop.Interp) :
    ReturnsInHanded {} Tryd.checked os 3 .any ((Rows.OpenSpec.upto Rows.topPowerSpec).preRow enc Tryd.prog Tryd.f3 Rows.topPowerUptoRow.domain false Rows.topPowerUptoRow.laid) (((Rows.OpenSpec.upto Rows.topPowerSpec).at F).post enc Tryd.prog Tryd.f3 false true false false) := by
  obtain ⟨places, hx⟩ := reads os enc
  have laid_met : laidMet Tryd.prog Rows.topPowerUptoRow.laid ((laidWorld os).forCall (fun _ _ => 0) ⟨#[], #[.slice none 0 0, .int .i64 0, .agg #[.int .i64 0, .int .i64 0]], []⟩).memory := (laidMet_of_run' 8 (by kernel_rfl) (by kernel_rfl))
  refine returnsInHanded_of_row (C := Tryd.checked) (s := Rows.OpenSpec.upto Rows.topPowerSpec) own started (by kernel_rfl) Tryd.func3
    (witness_row_at (enc := enc) (C := Tryd.checked) false (laidWorld os) #[.slice none 0 0, .int .i64 0, .agg #[.int .i64 0, .int .i64 0]] rfl (by kernel_rfl) (by kernel_rfl) (by kernel_rfl)
      (OpenSpec.preRow_of_cond 8 hx (by kernel_rfl) (fun k hk => by cases hk; kernel_rfl) (by kernel_rfl) laid_met)) ?_
  intro W base args ds gs before hval hW _ hcond hz hL _ _
  exact contractUpto H enc W base args ds gs before hval hW hL hz (hcond _ rfl)

theorem said : Rows.TopPowerUptoSaid :=
  OpenClaim.holds_of_cond 3 Tryd.f3 rfl rfl rfl rfl rfl rfl rfl ⟨rfl, rfl, rfl, rfl, rfl⟩ rfl rfl rfl rfl rfl (by kernel_rfl) Tryd.func3 (by kernel_rfl)
    (of_decide_eq_true (by kernel_rfl)) (by unfold Func.isWrapper; first | (rw [if_pos (by decide +kernel)]; kernel_rfl) | (rw [if_neg (by decide +kernel)]; exact ⟨rfl, rfl⟩))
    (fun os started H enc _ F => by rw [OpenClaim.pre_eq_preRow]; exact lifted os started H enc F)

theorem plain (f : FuncId) (fn : Func) (hf : Tryd.pinned.checked.prog.funcNamed "mahout/mahouttop.TopPower" = some f) (hfn : Tryd.pinned.checked.prog.funcs[f]? = some fn) :
    ∀ (j : Nat) t, fn.params[j]? = some t → Tryd.pinned.checked.prog.wantsStandIn t = false := by
  obtain rfl : f = 3 := Option.some.inj ((show Tryd.prog.funcNamed "mahout/mahouttop.TopPower" = some 3 by kernel_rfl).symm.trans hf) |>.symm
  obtain rfl : fn = Tryd.f3 := (Option.some.inj (Tryd.func3.symm.trans hfn)).symm
  exact fun j t ht => by
    rw [Tryd.params3] at ht
    have hm : t ∈ [22, 3, 23] := by simpa using Array.mem_of_getElem? ht
    have hall : ([22, 3, 23].all fun u => !Tryd.prog.wantsStandIn u) = true := by kernel_rfl
    exact (show Tryd.prog.wantsStandIn t = false by simpa using List.all_eq_true.1 hall t hm)
/-- THE CARD -/
theorem card : Rows.TopPowerUptoCardSaid :=
  Claim7.holds_tied_plain_at .later [] _ _ _ _ said (fun _ h => by cases h) (by kernel_rfl) (fun _ h => by cases h) topPowerUpto_row_tie rfl ⟨rfl, rfl⟩ (by kernel_rfl) rfl (fun f fn hf hfn => ⟨by kernel_rfl, plain f fn hf hfn⟩) (by kernel_rfl)

end Go.Proofs.YtcmhmnbffgdblaaDoor.fnTopPower
