/- StoreTells: what is read is what was written under that name, whatever bits turn, or it isn't read at all; and a bad replica is gone at once. -/
import Derived.Test.YtmlikkjahkdilaaGreatDoorStoTel
import Derived.Test.YtmlikkjahkdilaaGreatDoorLawEnd
import Derived.Test.YtmlikkjahkdilaaGreatDoorStkT
namespace Go.Proofs.YtmlikkjahkdilaaGreatDoor.fnStoreTells
open Go.ChangeShapes Go.WideShapes Go.ChangeAt Go.RowKit Go.WideMaps Go.WideElems
open Go.ChangeMaps (open_string)

open Go.Maps
noncomputable def laidWorld (os : Os) : World := laidWorldS os
set_option maxRecDepth 100000 in
set_option maxHeartbeats 8000000 in
theorem walk (a b c : Int) (data : ByteArray) (bit : Int) (w : World) (hh : Half w) (hp : Pw w) (ha : n64 a) (hb : n64 b) (hc : n64 c) (hds : data.size ≤ 140737488351232) (hbit : -9223372036854775808 ≤ bit ∧ bit ≤ 9223372036854775807) :
    Calls Tryz.prog 5 #[.agg #[.int .i64 a, .int .i64 b, .int .i64 c], .string data, .int .i64 bit] w fun e w' => e = .returned (.bool true) ∧ Below w.heap.size w w' := by
  obtain ⟨wa, hwa⟩ : ∃ wa, wa = w.alloc (.cells #[.int .i64 a, .int .i64 b, .int .i64 c] 23) := ⟨_, rfl⟩
  obtain ⟨q, hq⟩ : ∃ q, q = w.heap.size := ⟨_, rfl⟩
  have hB : Below w.heap.size w wa := by rw [hwa]; exact (Below.refl _ _).alloc (Nat.le_refl _) _
  have hq0 : wa.heap[q]? = some (.cells #[.int .i64 a, .int .i64 b, .int .i64 c] 23 (0, 0)) := by rw [hwa, hq]; exact heap_alloc_new w _
  have HA : Hid (Below w.heap.size w wa ∧ BQ wa (fun _ => False) wa.heap.size q a b c) := Lib.hid ⟨hB, by simp [World.cell?, hq0], by simp [World.cell?, hq0], by simp [World.cell?, hq0], (Array.getElem?_eq_some_iff.1 hq0).1, fun e => e, fun e => by have := (Array.getElem?_eq_some_iff.1 hq0).1; omega⟩
  have HT : Hid (TabsS wa) := Lib.hid (tabs_in (hh.below hB hh.lt) (hp.below hB))
  have HBIT := Lib.hid hbit
  have HD := Lib.hid hds
  have hs := speaks14_any wa HT.out abc_small
  clear hB hq0 hh hp hbit hds ha hb hc
  go_enter Tryz.func5, Tryz.ntmps5
  go_wp2_with (fail)
  rw [← hwa, ← hq]
  clear hwa hq
  refine hs.mono ?_
  rintro e w1 ⟨rfl, hb1⟩
  have hnew := new_K (w0 := wa) 1099511627776 hb1
  rw [show (max 1099511627776 0 : Int) = 1099511627776 from rfl] at hnew
  clear hs
  go_wp2_with (fail)
  refine hnew.mono ?_
  rintro e w2 ⟨rfl, h2⟩
  obtain ⟨p, hp⟩ : ∃ p, p = w1.heap.size := ⟨_, rfl⟩
  obtain ⟨S0, hS0⟩ : ∃ S0 : Nat → Prop, S0 = fun b => b = w1.heap.size := ⟨_, rfl⟩
  have HD2 : Hid (DK wa w2 p S0 1099511627776 0 [] []) := Lib.hid (by rw [hp, hS0]; exact h2.out.1)
  rw [← hp]
  clear h2 hnew hp hS0 hb1
  have ho1 := open_none HD2 HT.out (by decide)
  go_wp2_with (fail)
  refine ho1.mono ?_
  rintro ex w3 ⟨s, m, S3, rfl, h3⟩
  have H3 : Hid (SS wa w3 s p m S3 1099511627776 0 [] [] 0 (fun _ => false) ∧ BQ w3 S3 m q a b c) := Lib.hid ⟨h3.out.1, by
    have hlq := HA.out.2.lt
    have hbel := HD2.out.bel
    have hq2 : w2.heap[q]? = wa.heap[q]? := hbel.block q hlq
    have hns : ¬ S0 q := fun e => by have := (HD2.out.m.own _ e).1; omega
    have hqm : ¬ q = m := fun e => by have := h3.out.2.2.2; have := hbel.size; omega
    have h0 : BQ w2 S0 m q a b c := ⟨(cell_eq hq2 0).trans HA.out.2.c0, (cell_eq hq2 1).trans HA.out.2.c1, (cell_eq hq2 2).trans HA.out.2.c2, Nat.lt_of_lt_of_le hlq hbel.size, hns, hqm⟩
    exact h0.frm h3.out.2.1⟩
  have HW := Lib.hid HA.out.1
  clear ho1 h3 HD2 HA
  obtain ⟨d0, d1, d2, _, _, _⟩ := H3.out.2
  by_cases hgood : (nmb a && nmb b && nmb c) = true ∧ okD data
  · obtain ⟨hn, hok⟩ := hgood
    simp only [Bool.and_eq_true, nmb, decide_eq_true_eq] at hn
    obtain ⟨⟨⟨ha0, ha1⟩, hb0, hb1⟩, hc0, hc1⟩ := hn
    obtain ⟨a, rfl⟩ : ∃ n : Nat, a = (n : Int) := ⟨a.toNat, by omega⟩
    obtain ⟨b, rfl⟩ : ∃ n : Nat, b = (n : Int) := ⟨b.toNat, by omega⟩
    obtain ⟨c, rfl⟩ : ∃ n : Nat, c = (n : Int) := ⟨c.toNat, by omega⟩
    obtain ⟨x, hx⟩ : ∃ x : Blk, x = ⟨a, b, c⟩ := ⟨_, rfl⟩
    have hox : okB x := by rw [hx]; exact ⟨by show a ≤ _; omega, by show b ≤ _; omega, by show c ≤ _; omega⟩
    have hfs : (fileB x data).size ≤ 50000 := file_size x data hok.2
    obtain ⟨f, hf⟩ : ∃ f, f = fileB x data := ⟨_, rfl⟩
    have hw := write_S x hox data hok (Lib.hid H3.out.1) HT.out rfl (by decide) (by unfold maxLen; decide) (by show ((0 : Nat) : Int) + _ ≤ _; omega) rfl rfl
    rw [← hf, wr_oneX] at hw
    rw [← hf] at hfs
    have hw2 : Calls Tryz.prog 10 #[.pointer (some ⟨s, 0, none⟩), .agg #[.int .i64 (a : Int), .int .i64 (b : Int), .int .i64 (c : Int)], .string data] w3 fun e w' => e = .returned (.int .i64 0) ∧ ∃ S', Hid (SS wa w' s p m S' 1099511627776 (0 + 5) (oneX x f) [] (0 + 1) (fun y => false || decide (y = x)) ∧ Frm w3 w' S3 S' m) := by
      have e1 : x.a = a := by rw [hx]
      have e2 : x.b = b := by rw [hx]
      have e3 : x.c = c := by rw [hx]
      rw [e1, e2, e3] at hw
      exact hw
    have HX := Lib.hid (And.intro hx (And.intro hox (And.intro hok (And.intro hf hfs))))
    have o1 : (1 : Int) ≤ (data.size : Int) := by have := hok.1; omega
    have o2 : (data.size : Int) ≤ 4096 := by have := hok.2; omega
    clear hx hox hok hf hfs hw
    go_wp2_with (fail)
    refine hw2.mono ?_
    rintro e w4 ⟨rfl, S4, h4⟩
    have H4 : Hid (SS wa w4 s p m S4 1099511627776 5 (oneX x f) [] 1 (fun y => false || decide (y = x)) ∧ BQ w4 S4 m q a b c) := Lib.hid ⟨h4.out.1, H3.out.2.frm h4.out.2⟩
    clear hw2 h4 d0 d1 d2 H3
    obtain ⟨d0, d1, d2, _, _, _⟩ := H4.out.2
    have hxe : Hid (x.a = a ∧ x.b = b ∧ x.c = c) := Lib.hid (by rw [HX.out.1]; exact ⟨rfl, rfl, rfl⟩)
    have htf : totF (oneX x f) ≤ 1099511627776 := by have := HX.out.2.2.2.2; show f.size + 0 ≤ _; omega
    have hlk : lookR (oneX x f) x = (data, true) := by
      have := look_wr [] x data HX.out.2.2.1 rfl
      rw [← HX.out.2.2.2.1, wr_oneX] at this
      exact this
    have hrd : ∀ w', Below w4.heap.size w4 w' → Calls Tryz.prog 9 #[.pointer (some ⟨s, 0, none⟩), .agg #[.int .i64 (a : Int), .int .i64 (b : Int), .int .i64 (c : Int)]] w' fun e w'' => e = .returned (.tuple #[.string data, .int .i64 0]) ∧ Below w'.heap.size w' w'' := fun w' hb => by
      have h9 := read_good x HX.out.2.1 data (Lib.hid (H4.out.1.below hb)) HT.out (by simp) hlk htf
      rw [hxe.out.1, hxe.out.2.1, hxe.out.2.2] at h9
      exact h9
    have hwk : ∀ (e : ByteArray), okD e → ∀ w', Below w4.heap.size w4 w' → Calls Tryz.prog 10 #[.pointer (some ⟨s, 0, none⟩), .agg #[.int .i64 (a : Int), .int .i64 (b : Int), .int .i64 (c : Int)], .string e] w' fun r w'' => r = .returned (.int .i64 (cmpR (oneX x f) x e)) ∧ Below w'.heap.size w' w'' := fun e he w' hb => by
      have h9 := write_known x HX.out.2.1 e he (Lib.hid (H4.out.1.below hb)) HT.out (by simp) htf
      rw [hxe.out.1, hxe.out.2.1, hxe.out.2.2] at h9
      exact h9
    have hli : ∀ w', Below w4.heap.size w4 w' → Calls Tryz.prog 16 #[.pointer (some ⟨p, 0, none⟩)] w' fun e w'' => ∃ g cc, e = .returned (.slice (some ⟨g, 0, none⟩) 1 cc) ∧ Hid (w''.cell? ⟨g, 0, none⟩ = some (.string x.nm) ∧ g < w''.heap.size ∧ w'.heap.size ≤ g ∧ Below w'.heap.size w' w'') := fun w' hb => by
      have h9 := list_K (Lib.hid (H4.out.1.below hb).dk) (by decide) (by rw [held_nil]; show 1 ≤ _; decide)
      rw [held_nil] at h9
      refine h9.mono ?_
      rintro e w'' ⟨v, rfl, hv⟩
      obtain ⟨aa, cc, hvv, hcc⟩ := hv.out.1.sl
      obtain ⟨g, hg1, hg2, hg3⟩ := hcc 0 x.nm rfl
      refine ⟨g, cc, by rw [hvv, hg1]; rfl, Lib.hid ⟨hg3, ?_, hg2, hv.out.2⟩⟩
      rcases Nat.lt_or_ge g w''.heap.size with hl | hl
      · exact hl
      · simp [World.cell?, Array.getElem?_eq_none hl] at hg3
    have hc1 : cmpR (oneX x f) x data = 0 := by unfold cmpR; rw [hlk, if_pos ⟨rfl, rfl⟩]
    have hc2 : ∀ e, e ≠ data → cmpR (oneX x f) x e = 42 := fun e he => by unfold cmpR; rw [hlk, if_neg (fun h => he h.2.symm)]
    have hbq : ∀ w', Below w4.heap.size w4 w' → BQ w' S4 m q a b c := fun w' hb => H4.out.2.frm (Frm.bel S4 m hb)
    have HC := Lib.hid (And.intro hrd (And.intro hwk (And.intro hli (And.intro hc1 (And.intro hc2 (And.intro hbq (And.intro hlk htf)))))))
    have HB4 := Lib.hid (Below.refl w4.heap.size w4)
    clear hrd hwk hli hc1 hc2 hbq hlk htf
    go_wp2_with (fail)
    refine (HC.out.1 _ HB4.out).mono ?_
    rintro e w5 ⟨rfl, hb5⟩
    have HB5 := Lib.hid hb5
    clear hb5 d0 d1 d2
    go_wp2_with (fail)
    refine (HC.out.2.2.1 _ HB5.out).mono ?_
    rintro e w6 ⟨g, cc, rfl, h6⟩
    have HB6 := Lib.hid (HB5.out.trans (h6.out.2.2.2.mono HB5.out.size))
    have HL : Hid (∀ w', Below w6.heap.size w6 w' → w'.cell? ⟨g, 0, none⟩ = some (.string x.nm)) := Lib.hid fun w' hb => (hb.cell (p := ⟨g, 0, none⟩) h6.out.2.1).trans h6.out.1
    have HG : Hid (w4.heap.size ≤ g) := Lib.hid (Nat.le_trans HB5.out.size h6.out.2.2.1)
    have HG2 := Lib.hid h6.out.2.1
    clear h6
    obtain ⟨d0, d1, d2, _, _, _⟩ := HC.out.2.2.2.2.2.1 _ HB6.out
    have hdd : (data.toList == data.toList) = true := by simp
    go_wp2_with (fail)
    have hw6 := HC.out.2.1 data HX.out.2.2.1 _ HB6.out
    rw [HC.out.2.2.2.1] at hw6
    refine hw6.mono ?_
    rintro e w7 ⟨rfl, hb7⟩
    have HB7 := Lib.hid (HB6.out.trans (hb7.mono HB6.out.size))
    have H67 := Lib.hid hb7
    clear hw6 hb7 d0 d1 d2 hdd
    obtain ⟨d0, d1, d2, _, _, _⟩ := HC.out.2.2.2.2.2.1 _ HB7.out
    obtain ⟨e9, he9⟩ : ∃ e9, e9 = data ++ ⟨#[120]⟩ := ⟨_, rfl⟩
    have hw7 : ∃ r : Int, ¬ r = 0 ∧ Calls Tryz.prog 10 #[.pointer (some ⟨s, 0, none⟩), .agg #[.int .i64 (a : Int), .int .i64 (b : Int), .int .i64 (c : Int)], .string e9] w7 fun e w'' => e = .returned (.int .i64 r) ∧ Below w7.heap.size w7 w'' := by
      have hsz : e9.size = data.size + 1 := by rw [he9, ByteArray.size_append]; rfl
      by_cases hk : okD e9
      · have h9 := HC.out.2.1 e9 hk _ HB7.out
        rw [HC.out.2.2.2.2.1 e9 (fun e => by rw [e] at hsz; omega)] at h9
        exact ⟨42, by decide, h9⟩
      · exact ⟨2, by decide, write_bad a b c e9 s w7 (.inr hk)⟩
    obtain ⟨r, hr0, hw7⟩ := hw7
    have hcat : ¬ 9223372036854775807 < data.size + 1 := by omega
    have HW7 := Lib.hid hw7
    clear hw7
    go_wp2_with (fail)
    rw [← he9]
    clear he9
    refine HW7.out.mono ?_
    rintro e w8 ⟨rfl, hb8⟩
    have H68 := Lib.hid (H67.out.trans (hb8.mono H67.out.size))
    have HB8 := Lib.hid (HB7.out.trans (hb8.mono HB7.out.size))
    clear hb8 HW7 d0 d1 d2 hcat
    have l0 := HL.out _ H68.out
    obtain ⟨N, hN⟩ : ∃ N, N = x.nm := ⟨_, rfl⟩
    rw [← hN] at l0
    have hNs : N.size ≤ maxLen := by rw [hN]; exact Nat.le_trans (blk_size HX.out.2.1) (by unfold maxLen; decide)
    have hfl := flip_K N bit HBIT.out (Lib.hid (H4.out.1.below HB8.out).dk) hNs (by unfold maxLen; decide) (by show 1 ≤ 5; decide) (by have := HX.out.2.2.2.2; show f.size + 0 + 0 ≤ _; omega)
    obtain ⟨r2, hr2⟩ : ∃ r2, r2 = flR (oneX x f) N bit := ⟨_, rfl⟩
    obtain ⟨L2, hL2⟩ : ∃ L2, L2 = flL (oneX x f) N bit := ⟨_, rfl⟩
    rw [← hr2, ← hL2] at hfl
    have HR2 := Lib.hid (And.intro hr2 (And.intro hL2 hN))
    clear hr2 hL2 hN hNs
    go_wp2_with (fail)
    refine hfl.mono ?_
    rintro e w9 ⟨rfl, h9⟩
    have H9 : Hid (SS wa w9 s p m (grow S4 w8 w9) 1099511627776 6 L2 [] 1 (fun y => false || decide (y = x)) ∧ BQ w9 (grow S4 w8 w9) m q a b c) := Lib.hid ⟨(H4.out.1.below HB8.out).disk h9.out.1 h9.out.2, (HC.out.2.2.2.2.2.1 _ HB8.out).frm (Frm.disk m h9.out.2)⟩
    clear hfl h9 l0
    by_cases hrz : r2 = 0
    · have hno : ¬ (bit < 0 ∨ (f.size : Int) ≤ bit / 8) := fun h => by
        have h1 := HR2.out.1
        unfold flR at h1
        rw [HR2.out.2.2, get_oneX, if_pos rfl] at h1
        have h2 : (if bit < 0 ∨ (f.size : Int) ≤ bit / 8 then (2 : Int) else 0) = 2 := if_pos h
        rw [show r2 = 2 from h1.trans h2] at hrz
        exact absurd hrz (by decide)
      obtain ⟨bn, hbn⟩ : ∃ bn : Nat, bit = (bn : Int) := ⟨bit.toNat, by omega⟩
      have hbs : bn / 8 < f.size := by omega
      have hL2 : L2 = oneX x (flipD f (bn : Int)) := by
        rw [HR2.out.2.1, HR2.out.2.2]
        unfold flL
        rw [get_oneX, if_pos rfl]
        rw [hbn] at hno
        rw [hbn]
        exact (if_neg hno).trans (put_oneX x f _)
      have hlb : lookR L2 x = (⟨#[]⟩, false) := by
        rw [hL2, HX.out.2.2.2.1]
        exact turned_bad x data HX.out.2.2.1.2 bn (by rw [← HX.out.2.2.2.1]; exact hbs)
      have htf2 : totF L2 ≤ 1099511627776 := by
        rw [hL2]
        show (flipD f (bn : Int)).size + 0 ≤ _
        rw [flipD_size]
        have := HX.out.2.2.2.2
        omega
      have hrb := read_bad x HX.out.2.1 (Lib.hid H9.out.1) HT.out (by simp) (by rw [hlb]) (by unfold maxLen; decide) htf2
      rw [hL2, fg_oneX, hxe.out.1, hxe.out.2.1, hxe.out.2.2] at hrb
      obtain ⟨d0, d1, d2, _, _, _⟩ := H9.out.2
      rw [hrz]
      clear hno hbn hbs hL2 hlb htf2 hrz
      go_wp2_with (fail)
      refine hrb.mono ?_
      rintro e w10 ⟨rfl, S10, n10, hn10, h10⟩
      have H10 : Hid (SS wa w10 s p m S10 1099511627776 n10 [] [] 1 (fun y => (false || decide (y = x)) && !inB [x] y) ∧ BQ w10 S10 m q a b c) := Lib.hid ⟨h10.out.1, H9.out.2.frm h10.out.2⟩
      have HN10 := Lib.hid hn10
      clear hrb h10 hn10 d0 d1 d2 H9
      obtain ⟨d0, d1, d2, _, _, _⟩ := H10.out.2
      have hrn := read_none x HX.out.2.1 (Lib.hid H10.out.1) (by simp [inB])
      rw [hxe.out.1, hxe.out.2.1, hxe.out.2.2] at hrn
      go_wp2_with (fail)
      refine hrn.mono ?_
      rintro e w11 ⟨rfl, hb11⟩
      have H11 : Hid (SS wa w11 s p m S10 1099511627776 n10 [] [] 1 (fun y => (false || decide (y = x)) && !inB [x] y) ∧ BQ w11 S10 m q a b c) := Lib.hid ⟨H10.out.1.below hb11, H10.out.2.frm (Frm.bel S10 m hb11)⟩
      clear hrn hb11 H10 d0 d1 d2
      have hli := list_K (Lib.hid H11.out.1.dk) (by have := HN10.out; omega) (by rw [held_nil]; decide)
      rw [held_nil] at hli
      go_wp2_with (fail)
      refine hli.mono ?_
      rintro e w12 ⟨v, rfl, hv⟩
      obtain ⟨aa, c12, hvv, _⟩ := hv.out.1.sl
      have hvv2 : v = .slice aa 0 c12 := hvv
      rw [hvv2]
      have H12 : Hid (SS wa w12 s p m S10 1099511627776 n10 [] [] 1 (fun y => (false || decide (y = x)) && !inB [x] y) ∧ BQ w12 S10 m q a b c) := Lib.hid ⟨H11.out.1.below hv.out.2, H11.out.2.frm (Frm.bel S10 m hv.out.2)⟩
      clear hli hv hvv hvv2 H11
      obtain ⟨d0, d1, d2, _, _, _⟩ := H12.out.2
      have hwl := write_S x HX.out.2.1 data HX.out.2.2.1 (Lib.hid H12.out.1) HT.out (by simp [inB]) (by decide) ⟨by have := HN10.out; unfold maxLen; omega, by unfold maxLen; decide⟩ (by have := HX.out.2.2.2.2; rw [← HX.out.2.2.2.1]; show ((0 : Nat) : Int) + _ ≤ _; omega) rfl rfl
      rw [hxe.out.1, hxe.out.2.1, hxe.out.2.2] at hwl
      have HWL := Lib.hid hwl
      clear hwl
      go_wp2_with (fail)
      refine HWL.out.mono ?_
      rintro e w13 ⟨rfl, S13, h13⟩
      have HE := Lib.hid h13.out.1.dk.bel
      clear h13 HWL d0 d1 d2
      go_wp2_with (fail)
      go_ret
      exact ⟨rfl, HW.out.trans (HE.out.mono HW.out.size)⟩
    · go_wp2_with (fail)
      go_ret
      exact ⟨rfl, HW.out.trans (H9.out.1.dk.bel.mono HW.out.size)⟩
  · have hbad : (nmb a && nmb b && nmb c) = false ∨ ¬ okD data := by
      by_cases h : (nmb a && nmb b && nmb c) = true
      · exact .inr fun h2 => hgood ⟨h, h2⟩
      · exact .inl (by simpa using h)
    have HBD : Hid (¬ (((0 ≤ a ∧ a ≤ 1099511627776) ∧ (0 ≤ b ∧ b ≤ 1099511627776) ∧ (0 ≤ c ∧ c ≤ 1099511627776)) ∧ (1 : Int) ≤ (data.size : Int) ∧ (data.size : Int) ≤ 4096)) := Lib.hid fun h => hgood ⟨by simp only [nmb, Bool.and_eq_true, decide_eq_true_eq]; exact ⟨⟨h.1.1, h.1.2.1⟩, h.1.2.2⟩, by omega, by omega⟩
    have hw := write_bad a b c data s w3 hbad
    clear hbad hgood
    go_wp2_with (fail)
    refine hw.mono ?_
    rintro e w4 ⟨rfl, hb4⟩
    have H4 : Hid (SS wa w4 s p m S3 1099511627776 0 [] [] 0 (fun _ => false) ∧ BQ w4 S3 m q a b c) := Lib.hid ⟨H3.out.1.below hb4, H3.out.2.frm (Frm.bel S3 m hb4)⟩
    clear hw hb4 H3 d0 d1 d2
    obtain ⟨d0, d1, d2, _, _, _⟩ := H4.out.2
    go_upto_region 6 with (fail)
    go_cut [11] (fun s11 wx => s11 = .bool false ∧ wx = w4)
    case first =>
      go_wp2_with (fail)
      all_goals go_meet
      all_goals first | exact ⟨rfl, rfl⟩ | exact ⟨by have := HBD.out; simp; omega, rfl⟩
    case rest =>
      obtain ⟨rfl, rfl⟩ := hcut
      clear d0 d1 d2
      have hl := list_0 (Lib.hid H4.out.1)
      go_wp2_with (fail)
      refine hl.mono ?_
      rintro e w5 ⟨⟨a5, c5, rfl⟩, hb5⟩
      have H5 := Lib.hid (H4.out.1.below hb5)
      clear hl hb5
      have hli := list_K (Lib.hid H5.out.dk) (by decide) (by rw [held_nil]; decide)
      rw [held_nil] at hli
      go_wp2_with (fail)
      refine hli.mono ?_
      rintro e w6 ⟨v, rfl, hv⟩
      obtain ⟨aa, c12, hvv, _⟩ := hv.out.1.sl
      have hvv2 : v = .slice aa 0 c12 := hvv
      rw [hvv2]
      have HE := Lib.hid (HW.out.trans ((H5.out.dk.bel.trans (hv.out.2.mono H5.out.dk.bel.size)).mono HW.out.size))
      clear hli hv hvv hvv2
      go_wp2_with (fail)
      go_ret
      exact ⟨rfl, HE.out⟩

set_option maxRecDepth 100000 in
theorem contract (H : Type) (enc : TypeId × Value → H) (W : World) (base : Nat) (args : Array Value) (ds gs : List (DataW H)) (before : List MemPlace)
    (hval : ∀ (j : Nat) t v, Tryz.f5.params[j]? = some t → args[j]? = some v → Value.okWide Tryz.prog W .any base t v)
    (hW : DataW.Whole enc Tryz.prog Tryz.f5.params.toList Rows.storeTellsSpec.vars false W args.toList ds gs before) (hL : laidMetH Tryz.prog Rows.storeTellsRow.laid W)
    (hz : (DataW.weightsEach Tryz.prog (Tryz.f5.params.toList ++ []) (ds ++ gs)).all (· ≤ reachBytes) = true) :
    Calls Tryz.prog 5 args W fun e W' => ∃ v, e = .returned v ∧ Rows.storeTellsSpec.post enc Tryz.prog Tryz.f5 false true false false W args v W' := by
  have hW' := hW
  obtain ⟨p, q, hA0, hV, rfl, hfz, hnd⟩ := hW
  have hA : DataW.TrodAll enc Tryz.prog W 0 (fun _ => true) true Tryz.f5.params.toList args.toList ds p := hA0
  rw [Tryz.params5] at hA hval hz
  obtain ⟨v0, vs0, d0, ds0, p0, q0, hargs, rfl, rfl, h0, r0⟩ := trodAll_cons hA
  obtain ⟨v1, vs1, d1, ds1, p1, q1, rfl, rfl, rfl, h1, r1⟩ := trodAll_cons r0
  obtain ⟨v2, vs2, d2, ds2, p2, q2, rfl, rfl, rfl, h2, r2⟩ := trodAll_cons r1
  obtain ⟨rfl, rfl, rfl⟩ := trodAll_nil r2
  obtain rfl : args = #[v0, v1, v2] := by cases args; simp_all
  obtain ⟨rfl, rfl⟩ := trodVars_none hV
  obtain ⟨a0, b0, c0, rfl, ga0, gb0, gc0⟩ := open_block (hval 0 23 v0 rfl rfl) h0
  obtain ⟨x1, rfl, rfl, rfl, w1⟩ := open_string Tryz.underlying9 (hval 1 9 v1 rfl rfl) h1
  have b1 : x1.size ≤ 140737488351232 := by have := sized_string hz (j := 1) (t := 9) rfl rfl; simpa [reachBytes] using this
  obtain ⟨x2, rfl, rfl, rfl, w2⟩ := open_int Tryz.underlying3 (hval 2 3 v2 rfl rfl) h2
  have b2 := i64_of_wf w2
  clear hA0
  refine (walk a0 b0 c0 x1 x2 W (half_in hL) (pow_in hL) ga0 gb0 gc0 b1 b2).mono fun e W' ⟨he, hb⟩ => ?_
  subst he
  exact ⟨_, rfl, law_end hW' rfl rfl hb laidOut (by kernel_rfl) (by kernel_rfl) Tryz.underlying4⟩

theorem reads (os : Os) {H : Type} (enc : TypeId × Value → H) : ∃ places, DataW.whole enc Tryz.prog ((laidWorld os).forCall (fun _ _ => 0) ⟨#[], #[.agg #[.int .i64 0, .int .i64 0, .int .i64 0], .string ⟨#[]⟩, .int .i64 0], []⟩).memory Tryz.f5.params.toList Rows.storeTellsSpec.vars false [Value.agg #[.int .i64 0, .int .i64 0, .int .i64 0], Value.string ⟨#[]⟩, Value.int .i64 0] 8 = some ([.agg [.lit (.int .i64 0), .lit (.int .i64 0), .lit (.int .i64 0)], .lit (.string []), .lit (.int .i64 0)], [], places) :=
  ⟨[], by kernel_rfl⟩

set_option maxRecDepth 100000 in
theorem lifted (os : Os) (started : os.Started) (H : Type) (enc : TypeId × Value → H) (F : Stop.Interp) :
    ReturnsInHanded {} Tryz.checked os 5 .any ((OpenSpec.ofChange Rows.storeTellsSpec).preRow enc Tryz.prog Tryz.f5 Rows.storeTellsRow.domain false Rows.storeTellsRow.laid) (((OpenSpec.ofChange Rows.storeTellsSpec).at F).post enc Tryz.prog Tryz.f5 false true false false) := by
  obtain ⟨places, hx⟩ := reads os enc
  have laid_met : laidMet Tryz.prog Rows.storeTellsRow.laid ((laidWorld os).forCall (fun _ _ => 0) ⟨#[], #[.agg #[.int .i64 0, .int .i64 0, .int .i64 0], .string ⟨#[]⟩, .int .i64 0], []⟩).memory := (laidMet_of_run' 8 (by kernel_rfl) (by kernel_rfl))
  refine returnsInHanded_of_row (C := Tryz.checked) (s := OpenSpec.ofChange Rows.storeTellsSpec) own started (by kernel_rfl) Tryz.func5
    (witness_row_at (enc := enc) (C := Tryz.checked) false (laidWorld os) #[.agg #[.int .i64 0, .int .i64 0, .int .i64 0], .string ⟨#[]⟩, .int .i64 0] rfl (by kernel_rfl) (by kernel_rfl) (by kernel_rfl)
      (OpenSpec.preRow_of_cond 8 hx (by kernel_rfl) (fun k hk => by cases hk) (by kernel_rfl) laid_met)) ?_
  intro W base args ds gs before hval hW _ _ hz hL _ _
  exact contract H enc W base args ds gs before hval hW hL hz

theorem said : Rows.StoreTellsSaid :=
  OpenClaim.holds_of_cond 5 Tryz.f5 rfl rfl rfl rfl rfl rfl rfl ⟨rfl, rfl, rfl, rfl, rfl⟩ rfl rfl rfl rfl rfl (by kernel_rfl) Tryz.func5 (by kernel_rfl)
    (of_decide_eq_true (by kernel_rfl)) (by unfold Func.isWrapper; first | (rw [if_pos (by decide +kernel)]; kernel_rfl) | (rw [if_neg (by decide +kernel)]; exact ⟨rfl, rfl⟩))
    (fun os started H enc _ F => by rw [OpenClaim.pre_eq_preRow]; exact lifted os started H enc F)

theorem plain (f : FuncId) (fn : Func) (hf : Tryz.pinned.checked.prog.funcNamed "mahout/mahoutlaw14.StoreTells" = some f) (hfn : Tryz.pinned.checked.prog.funcs[f]? = some fn) :
    ∀ (j : Nat) t, fn.params[j]? = some t → Tryz.pinned.checked.prog.wantsStandIn t = false := by
  obtain rfl : f = 5 := Option.some.inj ((show Tryz.prog.funcNamed "mahout/mahoutlaw14.StoreTells" = some 5 by kernel_rfl).symm.trans hf) |>.symm
  obtain rfl : fn = Tryz.f5 := (Option.some.inj (Tryz.func5.symm.trans hfn)).symm
  exact fun j t ht => by
    rw [Tryz.params5] at ht
    have hm : t ∈ [23, 9, 3] := by simpa using Array.mem_of_getElem? ht
    have hall : ([23, 9, 3].all fun u => !Tryz.prog.wantsStandIn u) = true := by kernel_rfl
    exact (show Tryz.prog.wantsStandIn t = false by simpa using List.all_eq_true.1 hall t hm)
/-- THE CARD -/
theorem card : Rows.StoreTellsCardSaid :=
  Claim7.holds_tied_plain_at .later [] _ _ _ _ said (fun _ h => by cases h) (by kernel_rfl) (fun _ h => by cases h) storeTells_row_tie rfl ⟨rfl, rfl⟩ (by kernel_rfl) rfl (fun f fn hf hfn => ⟨by kernel_rfl, plain f fn hf hfn⟩) (by kernel_rfl)

end Go.Proofs.YtmlikkjahkdilaaGreatDoor.fnStoreTells
