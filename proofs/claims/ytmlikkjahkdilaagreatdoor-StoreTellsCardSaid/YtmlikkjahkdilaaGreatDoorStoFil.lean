/- Package store: the bytes of a block's file. -/
import Derived.Test.YtmlikkjahkdilaaGreatDoorStkA
import Derived.Test.YtmlikkjahkdilaaGreatDoorStkW
import Derived.Test.YtmlikkjahkdilaaGreatDoorStkC
import Derived.Test.YtmlikkjahkdilaaGreatDoorStkF
namespace Go.Proofs.YtmlikkjahkdilaaGreatDoor
open Go.RowKit
/-- the sums of a text's chunks, as the forms of numbers -/
def smP (xs : List Txt) : List ByteArray := (xs.map fun t => numS (U (Crc.sum t.1.data.toList))).reverse
/-- what stands in a file's head, the last form first -/
def hdP (x : Blk) (d : Txt) (xs : List Txt) : List ByteArray := smP xs ++ [numS (d.1.size : Int), numS (x.c : Int), numS (x.b : Int), numS (x.a : Int)]
theorem smP_add (xs : List Txt) (k : Nat) (hk : k < xs.length) : smP (xs.take (k + 1)) = numS (U (Crc.sum xs[k].1.data.toList)) :: smP (xs.take k) := by
  unfold smP
  rw [List.take_succ_eq_append_getElem hk, List.map_append, List.reverse_append]
  rfl
def frT (s : ByteArray) : ByteArray := ⟨(frameL s.data.toList).toArray⟩
/-- the bytes of a block's file -/
def fileF (x : Blk) (d : Txt) : ByteArray := frT ⟨(cat (hdP x d (chA 64 d))).toArray⟩ ++ frT d.1
theorem tot_smP (xs : List Txt) : tot (smP xs) ≤ 10 * xs.length := by
  induction xs with
  | nil => simp [smP, tot]
  | cons t xs ih =>
    unfold smP at *
    rw [List.map_cons, List.reverse_cons, tot_snoc, List.length_cons]
    have := (numS_size (U (Crc.sum t.1.data.toList))).2
    omega
theorem tot_hdP (x : Blk) (d : Txt) (xs : List Txt) : tot (hdP x d xs) ≤ 10 * xs.length + 40 := by
  unfold hdP
  rw [tot_append]
  have h1 := tot_smP xs
  have h2 := (numS_size (d.1.size : Int)).2
  have h3 := (numS_size (x.a : Int)).2
  have h4 := (numS_size (x.b : Int)).2
  have h5 := (numS_size (x.c : Int)).2
  simp only [tot]
  omega
/-- the sums as they lie in memory -/
def SmAt (w : World) (L : Nat) (A : Option Addr) (xs : List Txt) : Prop := ∀ k (h : k < xs.length), ∃ g, A = some ⟨g, 0, none⟩ ∧ L ≤ g ∧ g < w.heap.size ∧ w.cell? ⟨g, k, none⟩ = some (sumV xs[k])
theorem SmAt.grown {w w' : World} {L p : Nat} {A : Option Addr} {xs : List Txt} (h : SmAt w L A xs) (hg : w.grownBy w' (some p)) (hp : p < L) : SmAt w' L A xs := fun k hk => by
  obtain ⟨g, h1, h2, h3, h4⟩ := h k hk
  exact ⟨g, h1, h2, Nat.lt_of_lt_of_le h3 hg.size, (World.cell?_of_block (a := ⟨g, k, none⟩) (hg.block g h3 (by intro e; injection e with e; omega))).trans h4⟩
theorem sm_of {w W' : World} {xs : List Txt} {v : Value} (h : W'.ownsRow w.heap.size 93 1 v xs.length (xs.map sumV)) : ∃ A cap, v = .slice A xs.length cap ∧ SmAt W' w.heap.size A xs := by
  rcases h.2 with ⟨h1, h0⟩ | ⟨g, cap, cur, h1, hb, h3, _⟩
  · exact ⟨none, 0, by rw [h1, h0], fun k hk => absurd hk (by omega)⟩
  · refine ⟨_, _, h1, fun k hk => ⟨g, rfl, hb, (Array.getElem?_eq_some_iff.1 h3).1, ?_⟩⟩
    subst h1
    rw [h.cellAt k (by omega)]
    simp [List.getElem?_map, List.getElem?_eq_getElem hk]
/-- a Pack with its box beside it -/
structure PB (w0 w : World) (q p L : Nat) (x : Blk) (parts : List ByteArray) : Prop where
  pk : PackIs w p L parts
  bel : Below w0.heap.size w0 w
  c0 : w.cell? ⟨q, 0, none⟩ = some (.int .i64 x.a)
  c1 : w.cell? ⟨q, 1, none⟩ = some (.int .i64 x.b)
  c2 : w.cell? ⟨q, 2, none⟩ = some (.int .i64 x.c)
  qp : q < p
  q0 : w0.heap.size ≤ q
theorem PB.int {w0 w w' : World} {q p L : Nat} {x : Blk} {parts parts' : List ByteArray} (h : PB w0 w q p L x parts) (hp : PackIs w' p L parts') (hg : w.grownBy w' (some p)) : PB w0 w' q p L x parts' := by
  have hl : q < w.heap.size := by have := h.pk.1; have := h.pk.2.1; have := h.qp; omega
  have e : w'.heap[q]? = w.heap[q]? := hg.block q hl (by intro e; injection e with e; have := h.qp; omega)
  exact ⟨hp, below_grown h.bel hg (by have := h.qp; have := h.q0; omega) h.bel.size, (World.cell?_of_block (a := ⟨q, 0, none⟩) e).trans h.c0, (World.cell?_of_block (a := ⟨q, 1, none⟩) e).trans h.c1, (World.cell?_of_block (a := ⟨q, 2, none⟩) e).trans h.c2, h.qp, h.q0⟩
theorem PB.below {w0 w w' : World} {q p L : Nat} {x : Blk} {parts : List ByteArray} (h : PB w0 w q p L x parts) (hb : Below w.heap.size w w') : PB w0 w' q p L x parts := by
  have hl : q < w.heap.size := by have := h.pk.1; have := h.pk.2.1; have := h.qp; omega
  have e : w'.heap[q]? = w.heap[q]? := hb.block q hl
  exact ⟨h.pk.below hb (Nat.le_refl _), h.bel.trans (hb.mono h.bel.size), (World.cell?_of_block (a := ⟨q, 0, none⟩) e).trans h.c0, (World.cell?_of_block (a := ⟨q, 1, none⟩) e).trans h.c1, (World.cell?_of_block (a := ⟨q, 2, none⟩) e).trans h.c2, h.qp, h.q0⟩
theorem pb_int {w0 w : World} {q p L : Nat} {x : Blk} {parts : List ByteArray} (h : Hid (PB w0 w q p L x parts)) (n : Int) (hn : -9223372036854775808 ≤ n ∧ n ≤ 9223372036854775807) :
    Calls Tryz.prog 49 #[.pointer (some ⟨p, 0, none⟩), .int .i64 n] w fun e w' => e = .returned (.tuple #[]) ∧ Hid (PB w0 w' q p L x (numS n :: parts) ∧ w.grownBy w' (some p)) :=
  (int_pack p L n w parts h.out.pk hn).mono fun _ _ ⟨he, hp, hg⟩ => ⟨he, Lib.hid ⟨h.out.int hp hg, hg⟩⟩
set_option maxRecDepth 100000 in
set_option maxHeartbeats 4000000 in
theorem file_of (x : Blk) (hx : okB x) (d : Txt) (hd : d.1.size ≤ 4096) (w : World) (hh : ∀ w', Below w.heap.size w w' → Half w') :
    Calls Tryz.prog 29 #[x.v, .string d.1] w fun e w' => e = .returned (.string (fileF x d)) ∧ Below w.heap.size w w' := by
  show Calls Tryz.prog 29 #[.agg #[.int .i64 x.a, .int .i64 x.b, .int .i64 x.c], .string d.1] w fun e w' => e = .returned (.string (fileF x d)) ∧ Below w.heap.size w w'
  obtain ⟨xs, hxs⟩ : ∃ xs, xs = chA 64 d := ⟨_, rfl⟩
  have hxl : xs.length ≤ 4096 := by have := chA_len 64 d.1.size d (Nat.le_refl _); rw [← hxs] at this; omega
  have HX := Lib.hid (And.intro hx (And.intro hxs (And.intro hxl hd)))
  have HH := Lib.hid hh
  obtain ⟨s, hs⟩ : ∃ s, s = d.1 := ⟨_, rfl⟩
  rw [← hs] at hd ⊢
  have HS := Lib.hid hs
  obtain ⟨wa, hwa⟩ : ∃ wa, wa = w.alloc (.cells #[.int .i64 x.a, .int .i64 x.b, .int .i64 x.c] 23) := ⟨_, rfl⟩
  obtain ⟨q, hq⟩ : ∃ q, q = w.heap.size := ⟨_, rfl⟩
  have hq0 : wa.heap[q]? = some (.cells #[.int .i64 x.a, .int .i64 x.b, .int .i64 x.c] 23 (0, 0)) := by rw [hwa, hq]; exact heap_alloc_new w _
  have hsa : wa.heap.size = q + 1 := by rw [hwa, hq]; simp
  obtain ⟨wb, hwb⟩ : ∃ wb, wb = wa.alloc (.cells #[.pointer none] 90) := ⟨_, rfl⟩
  have hqb : wb.heap[q]? = some (.cells #[.int .i64 x.a, .int .i64 x.b, .int .i64 x.c] 23 (0, 0)) := by
    rw [hwb]; exact ((Below.refl wa.heap.size wa).alloc (Nat.le_refl _) _).block q (by omega) |>.trans hq0
  have hP : PB w wb q (q + 1) (q + 2) x [] := ⟨by
      have := PackIs.new wa 90
      rw [← hwb, hsa] at this
      exact this, by
      rw [hwb, hwa]
      exact ((Below.refl _ _).alloc (Nat.le_refl _) _).alloc (by simp) _, by simp [World.cell?, hqb], by simp [World.cell?, hqb], by simp [World.cell?, hqb], by omega, by omega⟩
  have HP := Lib.hid hP
  obtain ⟨p, hp⟩ : ∃ p, p = q + 1 := ⟨_, rfl⟩
  have e1 : (w.alloc (.cells #[.int .i64 x.a, .int .i64 x.b, .int .i64 x.c] 23)).heap.size = p := by rw [← hwa, hsa, hp]
  have HP : Hid (PB w wb q p (q + 2) x []) := Lib.hid (by rw [hp]; exact hP)
  have HPQ := Lib.hid hp
  clear hqb hq0 hsa hP hxs hxl hx hh hs hp
  go_enter Tryz.func29, Tryz.ntmps29
  go_wp2_with (fail)
  rw [← hwa, ← hwb, ← hq]
  clear e1 hwa hwb hq
  have hB := HX.out.1
  refine (pb_int HP x.a ⟨by omega, by have := hB.1; omega⟩).mono ?_
  rintro e w1 ⟨rfl, H1⟩
  have HP1 := Lib.hid H1.out.1
  have y1 := HP1.out.c1
  clear H1 HP hB
  go_wp2_with (fail)
  have hB := HX.out.1
  refine (pb_int HP1 x.b ⟨by omega, by have := hB.2.1; omega⟩).mono ?_
  rintro e w2 ⟨rfl, H2⟩
  have HP2 := Lib.hid H2.out.1
  have y2 := HP2.out.c2
  clear H2 HP1 hB y1
  go_wp2_with (fail)
  have hB := HX.out.1
  refine (pb_int HP2 x.c ⟨by omega, by have := hB.2.2; omega⟩).mono ?_
  rintro e w3 ⟨rfl, H3⟩
  have HP3 := Lib.hid H3.out.1
  clear H3 HP2 hB y2
  go_wp2_with (fail)
  refine (pb_int HP3 s.size ⟨by omega, by omega⟩).mono ?_
  rintro e w4 ⟨rfl, H4⟩
  have HP4 : Hid (PB w w4 q p (q + 2) x (hdP x d [])) := Lib.hid (by have := H4.out.1; rw [HS.out] at this; exact this)
  clear H4 HP3
  go_wp2_with (fail)
  have hch := chunks_any d 64 64 rfl (by decide) (by have := HX.out.2.2.2; omega) w4 (HH.out w4 HP4.out.bel)
  rw [← HS.out, ← HX.out.2.1] at hch
  refine hch.mono ?_
  rintro e w5 ⟨v, rfl, hrow, hb5⟩
  obtain ⟨A, cap, rfl, hsm⟩ := sm_of hrow
  have H5 := Lib.hid (And.intro (HP4.out.below hb5) (And.intro hsm (show p < w4.heap.size by have h1 := HP4.out.pk.1; have h2 := HP4.out.pk.2.1; omega)))
  obtain ⟨n, hn⟩ : ∃ n, n = xs.length := ⟨_, rfl⟩
  rw [← hn]
  have hn1 : n ≤ 4096 := by have := HX.out.2.2.1; omega
  have HN := Lib.hid hn
  clear hch hrow hb5 hsm HP4 hn
  go_wp2_with (fail)
  go_loopw [23] (fun i wr => ∃ k : Nat, k ≤ n ∧ i = .int .i64 (k : Int) ∧ Hid (PB w wr q p (q + 2) x (hdP x d (xs.take k)) ∧ SmAt wr w4.heap.size A xs)) (fun i _ => n - (intOf i).toNat)
  case atStart => exact ⟨0, Nat.zero_le _, rfl, Lib.hid ⟨H5.out.1, H5.out.2.1⟩⟩
  case round =>
    obtain ⟨k, hk, rfl, HM⟩ := hrel
    by_cases hlt : k < n
    · have hkl : k < xs.length := by have := HN.out; omega
      obtain ⟨g, rfl, hg1, hg2, hc⟩ := HM.out.2 k hkl
      obtain ⟨u, hu⟩ : ∃ u, u = U (Crc.sum xs[k].1.data.toList) := ⟨_, rfl⟩
      have hc2 : wr.cell? ⟨g, k, none⟩ = some (.int .u32 u) := by rw [hu]; exact hc
      have hub : 0 ≤ u ∧ u < 4294967296 := by rw [hu]; exact ⟨U_lo _, U_hi _⟩
      have hlt' : (k : Int) < (n : Int) := by omega
      have hk0 : (0 : Int) ≤ (k : Int) := by omega
      have hwu : IntKind.i64.wrap u = u := IntWalk.i64_in _ (by omega)
      have hpi := pb_int (Lib.hid HM.out.1) u ⟨by omega, by omega⟩
      have HU := Lib.hid (And.intro hu hkl)
      clear hc hg1 hg2 hu hub
      go_wp2_with (fail)
      refine hpi.mono ?_
      rintro e w6 ⟨rfl, H6⟩
      have HE : Hid (PB w w6 q p (q + 2) x (hdP x d (xs.take (k + 1))) ∧ SmAt w6 w4.heap.size (some ⟨g, 0, none⟩) xs) := Lib.hid ⟨by
        have h1 := H6.out.1
        unfold hdP
        rw [smP_add xs k HU.out.2, ← HU.out.1]
        exact h1, HM.out.2.grown H6.out.2 H5.out.2.2⟩
      clear hpi H6 hc2 hwu
      go_wp2_with (fail)
      go_roundw
      case rel => exact ⟨k + 1, by omega, by first | rfl | go_num, HE⟩
      case measure => simp [intOf]; omega
    · obtain rfl : k = n := by omega
      rw [HN.out, List.take_length] at HM
      obtain ⟨hpl, hL, hf, hd0, hpc, hch2⟩ := HM.out.1.pk
      have htot := tot_hdP x d xs
      have hbr := bytes_raw p (q + 2) hd0 wr (hdP x d xs) hpc hch2 (by omega) (by have := HX.out.2.2.1; omega)
      obtain ⟨hd1, hhd⟩ : ∃ hd1 : ByteArray, hd1 = ⟨(cat (hdP x d xs)).toArray⟩ := ⟨_, rfl⟩
      rw [← hhd] at hbr
      have hs1 : hd1.size ≤ 1048576 := by
        rw [hhd]
        show (cat (hdP x d xs)).toArray.size ≤ _
        rw [List.size_toArray, cat_length]
        have := HX.out.2.2.1
        omega
      have HHD := Lib.hid hhd
      have HBR := Lib.hid hbr
      have HWR := Lib.hid HM.out.1.bel
      clear hpl hL hf hpc hch2 htot hbr hhd HM
      go_wp2_with (fail)
      refine HBR.out.mono ?_
      rintro e w6 ⟨rfl, hb6⟩
      have HB6 := Lib.hid (HWR.out.trans (hb6.mono HWR.out.size))
      clear HBR hb6
      go_wp2_with (fail)
      refine (frame_any hd1 w6 (HH.out _ HB6.out) hs1).mono ?_
      rintro e w7 ⟨rfl, hb7⟩
      have HB7 := Lib.hid (HB6.out.trans (hb7.mono HB6.out.size))
      obtain ⟨F1, hF1⟩ : ∃ F1, F1 = frT hd1 := ⟨_, rfl⟩
      have hF1s : F1.size ≤ 1048588 := by
        rw [hF1]
        show (frameL hd1.data.toList).toArray.size ≤ _
        rw [List.size_toArray, frameL_length]
        have : hd1.data.toList.length = hd1.size := by simp
        omega
      have HF1 := Lib.hid hF1
      rw [show (⟨(frameL hd1.data.toList).toArray⟩ : ByteArray) = F1 from hF1.symm]
      clear hb7 hF1 hs1
      go_wp2_with (fail)
      refine (frame_any s w7 (HH.out _ HB7.out) (by omega)).mono ?_
      rintro e w8 ⟨rfl, hb8⟩
      have HB8 := Lib.hid (HB7.out.trans (hb8.mono HB7.out.size))
      obtain ⟨F2, hF2⟩ : ∃ F2, F2 = frT s := ⟨_, rfl⟩
      have hF2s : F2.size ≤ 4108 := by
        rw [hF2]
        show (frameL s.data.toList).toArray.size ≤ _
        rw [List.size_toArray, frameL_length]
        have : s.data.toList.length = s.size := by simp
        omega
      have HF2 := Lib.hid hF2
      rw [show (⟨(frameL s.data.toList).toArray⟩ : ByteArray) = F2 from hF2.symm]
      have hcat : ¬ 9223372036854775807 < F1.size + F2.size := by omega
      clear hb8 hF2
      go_wp2
      go_ret
      exact ⟨by rw [HF1.out, HF2.out, HHD.out, HX.out.2.1, HS.out]; rfl, HB8.out⟩
end Go.Proofs.YtmlikkjahkdilaaGreatDoor
