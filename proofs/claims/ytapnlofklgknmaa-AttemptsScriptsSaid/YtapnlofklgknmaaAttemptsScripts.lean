/- AttemptsScripts is true for all boards of 300 tasks and fewer of a kind and every script: what may begin, who has won, whether it is over are what the document says. No condition. -/
import Derived.Test.YtapnlofklgknmaaAtrRegB
import Derived.Test.YtapnlofklgknmaaAtrRegC
import Derived.Test.YtapnlofklgknmaaAtrSw
import Derived.Test.YtapnlofklgknmaaAtrBig
import Derived.Test.YtapnlofklgknmaaAtrOpen
import Derived.Test.YtapnlofklgknmaaAtmActs
import Derived.Test.YtapnlofklgknmaaAtmSpk
import Derived.Deep.CutBlock
import Derived.Deep.DeepCutAuto

import Derived.Test.YtapnlofklgknmaaLawEnd

import Derived.Test.YtapnlofklgknmaaPlainKit

namespace Go.Proofs.Ytapnlofklgknmaa.fnAttemptsScripts
open Go.ChangeShapes Go.WideShapes Go.ChangeAt Go.RowKit Go.WideMaps Go.WideElems
open Go.ChangeMaps (open_string)

theorem open_pair {H : Type} {enc : TypeId × Value → H} {W : World} {base : Nat} {v : Value} {d : DataW H} {p : List MemPlace}
    (hv : Value.okWide Try.prog W .any base 22 v) (h : DataW.Trod enc Try.prog W 0 (fun _ => true) true 22 v d p) :
    ∃ x : Int × Int, v = .agg #[.int .i64 x.1, .int .i64 x.2] ∧ ((-9223372036854775808 ≤ x.1 ∧ x.1 ≤ 9223372036854775807) ∧ (-9223372036854775808 ≤ x.2 ∧ x.2 ≤ 9223372036854775807)) := by
  obtain ⟨c0, c1, h1, h2, h3⟩ := open_two hv h
  exact ⟨(c0, c1), h1, h2, h3⟩
/-- what both New's have made already, beside the arguments' boxes -/
structure N2 (W w : World) (s0 s1 t0 t1 : Int) (o1 o2 : Option Nat) : Prop where
  bel : Below W.heap.size W w
  lo : W.heap.size + 1 < w.heap.size
  q0 : w.cell? ⟨W.heap.size, 0, none⟩ = some (.int .i64 s0)
  q1 : w.cell? ⟨W.heap.size, 1, none⟩ = some (.int .i64 s1)
  q2 : w.cell? ⟨W.heap.size + 1, 0, none⟩ = some (.int .i64 t0)
  q3 : w.cell? ⟨W.heap.size + 1, 1, none⟩ = some (.int .i64 t1)
  ab : ∀ p, o1 = some p → AB W w p (newB s0 s1 t0 t1)
  rb : ∀ q, o2 = some q → RB W.heap.size w q (cnt s0) (cnt s1) (max t0 1) (min (max t1 1) 1099511627776) [] (.slice none 0 0)
theorem N2.below {W w w' : World} {s0 s1 t0 t1 : Int} {o1 o2 : Option Nat} (h : N2 W w s0 s1 t0 t1 o1 o2) (hb : Below w.heap.size w w') : N2 W w' s0 s1 t0 t1 o1 o2 :=
  have l := h.lo
  have hc : ∀ b k, b ≤ W.heap.size + 1 → w'.cell? ⟨b, k, none⟩ = w.cell? ⟨b, k, none⟩ := fun b k e => hb.cell (p := ⟨b, k, none⟩) (by show b < _; omega)
  ⟨h.bel.trans (hb.mono h.bel.size), Nat.lt_of_lt_of_le l hb.size, (hc _ _ (by omega)).trans h.q0, (hc _ _ (by omega)).trans h.q1, (hc _ _ (by omega)).trans h.q2, (hc _ _ (by omega)).trans h.q3, fun p e => (h.ab p e).below hb, fun q e => (h.rb q e).below hb⟩
theorem N2.cells {W w : World} {s0 s1 t0 t1 : Int} {o1 o2 : Option Nat} (h : Hid (N2 W w s0 s1 t0 t1 o1 o2)) : w.cell? ⟨W.heap.size, 0, none⟩ = some (.int .i64 s0) ∧ w.cell? ⟨W.heap.size, 1, none⟩ = some (.int .i64 s1) ∧ w.cell? ⟨W.heap.size + 1, 0, none⟩ = some (.int .i64 t0) ∧ w.cell? ⟨W.heap.size + 1, 1, none⟩ = some (.int .i64 t1) := ⟨h.out.q0, h.out.q1, h.out.q2, h.out.q3⟩
theorem N2.drew {W w : World} {s0 s1 t0 t1 : Int} {o1 o2 : Option Nat} (h : Hid (N2 W w s0 s1 t0 t1 o1 o2)) : Hid (N2 W w.drew s0 s1 t0 t1 o1 o2) := Lib.hid (h.out.below (bel_drew w 1))
theorem n2_new {W w : World} {s0 s1 t0 t1 : Int} {o1 o2 : Option Nat} (ht : t0 ≤ 9223372036854775807) (h : Hid (N2 W w s0 s1 t0 t1 o1 o2)) :
    Calls Try.prog 7 #[.int .i64 s0, .int .i64 s1, .int .i64 t0, .int .i64 t1] w fun e w' => ∃ p, e = .returned (.pointer (some ⟨p, 0, none⟩)) ∧ Hid (N2 W w' s0 s1 t0 t1 (some p) o2) := by
  refine (new_any (w0 := W) s0 s1 t0 t1 ht w h.out.bel).mono ?_
  rintro e w' ⟨p, rfl, k⟩
  have g := h.out.below k.out.2
  exact ⟨p, rfl, Lib.hid ⟨g.bel, g.lo, g.q0, g.q1, g.q2, g.q3, fun p' e => by injection e with e; subst e; exact k.out.1, g.rb⟩⟩
theorem n2_rnew {W w : World} {s0 s1 t0 t1 : Int} {o1 o2 : Option Nat} (h : Hid (N2 W w s0 s1 t0 t1 o1 o2)) :
    Calls Try.prog 10 #[.int .i64 s0, .int .i64 s1, .int .i64 t0, .int .i64 t1] w fun e w' => ∃ p, e = .returned (.pointer (some ⟨p, 0, none⟩)) ∧ Hid (N2 W w' s0 s1 t0 t1 o1 (some p)) := by
  refine (rnew_any s0 s1 t0 t1 w).mono ?_
  rintro e w' ⟨p, rfl, k, kb⟩
  have g := h.out.below kb
  exact ⟨p, rfl, Lib.hid ⟨g.bel, g.lo, g.q0, g.q1, g.q2, g.q3, g.ab, fun p' e => by injection e with e; subst e; exact ⟨k.box.mono h.out.bel.size, k.row.mono h.out.bel.size⟩⟩⟩
set_option maxRecDepth 100000 in
set_option maxHeartbeats 60000000 in
theorem walk (s0 s1 t0 t1 : Int) (A : Option Addr) (len cap : Nat) (it : Nat → Ac) (W : World) (a0 : -9223372036854775808 ≤ s0 ∧ s0 ≤ 9223372036854775807) (a1 : -9223372036854775808 ≤ s1 ∧ s1 ≤ 9223372036854775807) (a2 : -9223372036854775808 ≤ t0 ∧ t0 ≤ 9223372036854775807) (a3 : -9223372036854775808 ≤ t1 ∧ t1 ≤ 9223372036854775807) (hl : len * 48 ≤ 140737488351232) (hS : Acts W W.heap.size A len it) :
    Calls Try.prog 3 #[.agg #[.int .i64 s0, .int .i64 s1], .agg #[.int .i64 t0, .int .i64 t1], .slice A len cap] W fun e w' => e = .returned (.bool true) ∧ Below W.heap.size W w' := by
  have HS := Lib.hid hS
  have hll : len < 2932031007402 := by omega
  clear hS hl
  go_enter Try.func3, Try.ntmps3
  go_wp2_with (fail)
  refine (speaks22_any _).mono ?_
  rintro e w1 ⟨rfl, hb1⟩
  obtain ⟨w0, hw0⟩ : ∃ w0, w0 = (W.alloc (.cells #[.int .i64 s0, .int .i64 s1] 22)).alloc (.cells #[.int .i64 t0, .int .i64 t1] 22) := ⟨_, rfl⟩
  rw [← hw0] at hb1
  have hbel : Below W.heap.size W w0 := by rw [hw0]; exact ((Below.refl _ _).alloc (Nat.le_refl _) _).alloc (by simp) _
  have hsz : w0.heap.size = W.heap.size + 1 + 1 := by rw [hw0]; simp
  have q0 : w1.cell? ⟨W.heap.size, 0, none⟩ = some (.int .i64 s0) := (hb1.cell (p := ⟨W.heap.size, 0, none⟩) (by show W.heap.size < _; omega)).trans (by rw [hw0]; simp [go_sem])
  have q1 : w1.cell? ⟨W.heap.size, 1, none⟩ = some (.int .i64 s1) := (hb1.cell (p := ⟨W.heap.size, 1, none⟩) (by show W.heap.size < _; omega)).trans (by rw [hw0]; simp [go_sem])
  have q2 : w1.cell? ⟨W.heap.size + 1, 0, none⟩ = some (.int .i64 t0) := (hb1.cell (p := ⟨W.heap.size + 1, 0, none⟩) (by show W.heap.size + 1 < _; omega)).trans (by rw [hw0]; simp [go_sem])
  have q3 : w1.cell? ⟨W.heap.size + 1, 1, none⟩ = some (.int .i64 t1) := (hb1.cell (p := ⟨W.heap.size + 1, 1, none⟩) (by show W.heap.size + 1 < _; omega)).trans (by rw [hw0]; simp [go_sem])
  have HB1 := Lib.hid (show Below W.heap.size W w1 from hbel.trans (hb1.mono (by omega)))
  have hlo : W.heap.size + 1 < w1.heap.size := by have := hb1.size; omega
  clear hb1 hbel hsz hw0
  by_cases hbig : 300 < s0 ∨ 300 < s1
  · -- [[
    have HBG : Hid (∀ p w2, AB W w2 p (newB s0 s1 1 1) → Calls Try.prog 9 #[.pointer (some ⟨p, 0, none⟩), .int .i64 0, .int .i64 0] w2 fun e w' => ∃ A n c, e = .returned (.slice A n c) ∧ n ≤ 4096 ∧ Below W.heap.size W w') := Lib.hid fun p w2 hab => by
      obtain ⟨tb, hs, hr⟩ := hab.raw
      refine (ready_any (Lib.hid hr) hab.nn hab.pat 0 0).mono ?_
      rintro e w' ⟨v, rfl, ho, hb⟩
      obtain ⟨A, c, rfl⟩ := own_slice_int ho
      exact ⟨A, _, c, rfl, ready_new _ _ _ _, hab.bel.trans (hb.mono hab.bel.size)⟩
    by_cases h1 : 300 < s0
    · go_wp2_with (fail)
      refine (new_any (w0 := W) s0 s1 1 1 (by decide) w1 HB1.out).mono ?_
      rintro e w2 ⟨p, rfl, h2⟩
      have HAB := Lib.hid h2.out.1
      clear h2 q0 q1 q2 q3
      go_wp2_with (fail)
      refine (dead_any HAB).mono ?_
      rintro e w3 ⟨rfl, rfl⟩
      rw [show (newB s0 s1 1 1).dead = false from rfl]
      go_wp2_with (fail)
      refine (HBG.out _ _ HAB.out).mono ?_
      rintro e w4 ⟨A4, n4, c4, rfl, hn4, hb4⟩
      have d4 : decide ((n4 : Int) ≤ 4096) = true := decide_eq_true (by omega)
      clear HAB HBG
      go_wp2
      go_ret
      exact ⟨rfl, hb4⟩
    · have h2 : 300 < s1 := by omega
      go_wp2_with (fail)
      refine (new_any (w0 := W) s0 s1 1 1 (by decide) w1 HB1.out).mono ?_
      rintro e w2 ⟨p, rfl, h2⟩
      have HAB := Lib.hid h2.out.1
      clear h2 q0 q1 q2 q3
      go_wp2_with (fail)
      refine (dead_any HAB).mono ?_
      rintro e w3 ⟨rfl, rfl⟩
      rw [show (newB s0 s1 1 1).dead = false from rfl]
      go_wp2_with (fail)
      refine (HBG.out _ _ HAB.out).mono ?_
      rintro e w4 ⟨A4, n4, c4, rfl, hn4, hb4⟩
      have d4 : decide ((n4 : Int) ≤ 4096) = true := decide_eq_true (by omega)
      clear HAB HBG
      go_wp2
      go_ret
      exact ⟨rfl, hb4⟩
    -- ]]
  · have h1 : ¬ 300 < s0 := fun h => hbig (.inl h)
    have h2 : ¬ 300 < s1 := fun h => hbig (.inr h)
    clear hbig
    have HN1 : Hid (N2 W w1 s0 s1 t0 t1 none none) := Lib.hid ⟨HB1.out, hlo, q0, q1, q2, q3, (fun p e => by cases e), (fun p e => by cases e)⟩
    go_upto_region 6 with (fail)
    go_cut [8, 9] (fun vb vw wx => ∃ p q, vb = .pointer (some ⟨p, 0, none⟩) ∧ vw = .pointer (some ⟨q, 0, none⟩) ∧ Hid (SS W wx p q (cnt s0) (cnt s1) (max t0 1) (min (max t1 1) 1099511627776) 0))
    case first =>
      -- [[
      have HD := N2.drew HN1
      have hS0 := N2.cells HD
      clear q0 q1 q2 q3 HN1
      go_region_held3 (fun w' => w'.cell? ⟨W.heap.size, 0, none⟩ = some (.int .i64 s0) ∧ w'.cell? ⟨W.heap.size, 1, none⟩ = some (.int .i64 s1) ∧ w'.cell? ⟨W.heap.size + 1, 0, none⟩ = some (.int .i64 t0) ∧ w'.cell? ⟨W.heap.size + 1, 1, none⟩ = some (.int .i64 t1)) (assumption)
        (first
          | (go_at_call 7; with_reducible refine (n2_new (W := W) a2.2 (by first | assumption)).mono ?_; rintro e w6 ⟨p6, rfl, H6⟩; have hS6 := N2.cells H6)
          | (go_at_call 10; with_reducible refine (n2_rnew (W := W) (by first | assumption)).mono ?_; rintro e w7 ⟨p7, rfl, H7⟩; have hS7 := N2.cells H7))
      all_goals
        go_wp2
        go_meet
        exact ⟨p6, p7, rfl, rfl, by first | exact Lib.hid ⟨_, _, _, ⟨H7.out.ab _ rfl, H7.out.rb _ rfl⟩, NS.new _ _ _ _⟩ | exact Lib.hid ⟨_, _, _, ⟨H6.out.ab _ rfl, H6.out.rb _ rfl⟩, NS.new _ _ _ _⟩⟩
      -- ]]
    case rest =>
      obtain ⟨p, q, rfl, rfl, HS0⟩ := hcut
      obtain ⟨m, hm⟩ : ∃ m, m = cnt s0 := ⟨_, rfl⟩
      obtain ⟨r, hr⟩ : ∃ r, r = cnt s1 := ⟨_, rfl⟩
      obtain ⟨lim, hlim⟩ : ∃ lim, lim = max t0 1 := ⟨_, rfl⟩
      obtain ⟨pat, hpat⟩ : ∃ pat, pat = min (max t1 1) 1099511627776 := ⟨_, rfl⟩
      rw [← hm, ← hr, ← hlim, ← hpat] at HS0
      clear hm hr hlim hpat q0 q1 q2 q3 HN1 HB1
      go_wp2
      go_loopw [10] (fun iv wr => ∃ (k : Nat), k ≤ len ∧ iv = .int .i64 (k : Int) ∧ Hid (SS W wr p q m r lim pat k)) (fun iv _ => len - (intOf iv).toNat)
      case atStart => exact ⟨0, Nat.zero_le _, rfl, HS0⟩
      case round =>
        obtain ⟨k, hk, rfl, HR⟩ := hrel
        clear HS0
        by_cases hkn : k < len
        · obtain ⟨b, L, v, hbo, hns⟩ := HR.out
          obtain ⟨HW, bs, off, rfl, hB, hc⟩ := HS.out k hkn
          obtain ⟨x, hx⟩ : ∃ x, x = it k := ⟨_, rfl⟩
          rw [← hx] at HW hc
          have hin := fun j u (hj : (acCells x)[j]? = some u) => (hbo.ab.bel.cell (p := ⟨bs, off + k * 6 + j, none⟩) hB).trans (hc j u hj)
          have i0 := hin 0 _ rfl
          have i1 := hin 1 _ rfl
          have i2 := hin 2 _ rfl
          have i3 := hin 3 _ rfl
          have i4 := hin 4 _ rfl
          have i5 := hin 5 _ rfl
          rw [Nat.add_zero] at i0
          have hr := r6_is x.k HW.k
          have hrb := r6_b x.k
          have hbx : Below wr.heap.size wr (wr.alloc (.cells #[.int .i64 x.k, .int .i64 x.t, .int .i64 x.n, .int .i64 x.m, .int .i64 x.a, .int .i64 x.h] 32)) := (Below.refl _ _).alloc (Nat.le_refl _) _
          have HBX : Hid (MS W (wr.alloc (.cells #[.int .i64 x.k, .int .i64 x.t, .int .i64 x.n, .int .i64 x.m, .int .i64 x.a, .int .i64 x.h] 32)) p q wr.heap.size b m r lim pat L x) :=
            Lib.hid ⟨⟨v, hbo.below hbx⟩, acb_new wr x⟩
          have HNS := Lib.hid hns
          have hN : k < 2932031007402 := by omega
          clear hin hc hB HW hx HR hbx hbo hns
          go_upto_region 11 with (fail)
          obtain ⟨g, hg⟩ : ∃ g, g = wr.heap.size := ⟨_, rfl⟩
          obtain ⟨wx, hwx⟩ : ∃ wx, wx = wr.alloc (.cells #[.int .i64 x.k, .int .i64 x.t, .int .i64 x.n, .int .i64 x.m, .int .i64 x.a, .int .i64 x.h] 32) := ⟨_, rfl⟩
          rw [← hwx, ← hg] at HBX ⊢
          clear hg hwx i0 i1 i2 i3 i4 i5
          obtain ⟨bt, x0, x1, x2, x3, x4, x5⟩ := HBX.out.box
          clear bt
          go_upto_block 2 with (fail)
          go_cut [12] (fun vo wy => vo = .bool true ∧ Hid (SX W wy p q g m r lim pat x (k + 1)))
          case first =>
            clear x0 x1 x2 x3 x4 x5
            refine blk2_any HBX HNS hN _ _ _ _ _ _ _ _ _ _ _ _ _ _ _ _ _ _ _ _ _ _ _ _ _ _ _ _ _ _ _ _ _ _ _ _ _ _ _ _ _ _ _ _ _ _ _ _ _ _ _ _ _ _ _ _ _ _ _ _ _ _ _ _ _ _ _ _ _ _ _ _ _ _ _ _ _ _ _ _ _ _ _ _ _ _ _ _ _ _ _ _ _ _ _ _ _ _ _ _ _ _ _ _ _ _ _ _ _ _ _ _ _ _ _ _ _ _ _ _ _ _ _ _ _ _ _ _ _ _ _ _ _ _ _ _ _ _ _ _ _ _ _ _ _ _ _ _ _ _ _ _ _ _ _ _ _ _ _ _ _ _ _ _ _ _ _ _ _ _ _ _ _ _ _ _ _ _ _ _ _ _ _ _ _ _ _ _ _ _ _ _ _ _ _ _ _ _ _ _ _ _ _ _ _ _ _ _ _ _ _ _ _ _ _ _ _ _ _ _ ?_
            intro w6 v12
            intros
            rename_i hv HX
            subst hv
            go_wp2
            go_meet
            exact ⟨rfl, HX⟩
          case rest =>
            obtain ⟨rfl, HC⟩ := hcut
            clear HBX HNS x0 x1 x2 x3 x4 x5 hr hrb
            obtain ⟨b, L, hms, hns⟩ := HC.out
            have HMS := Lib.hid hms
            have HNS := Lib.hid hns
            have hN : k + 1 < 2932031007403 := by omega
            clear HC hms hns
            obtain ⟨bt, x0, x1, x2, x3, x4, x5⟩ := HMS.out.box
            clear bt
            go_wp2_with (fail)
            refine (ms_winner (W := W) (p := p) (q := q) (g := g) (x := x) x.t HNS.out.bi (by omega) HMS).mono ?_
            rintro e w5 ⟨rfl, H5⟩
            obtain ⟨bt, y0, y1, y2, y3, y4, y5⟩ := H5.out.box
            clear bt x0 x1 x2 x3 x4 x5 HMS
            go_wp2_with (fail)
            refine (ms_rwin (W := W) (p := p) (q := q) (g := g) (x := x) x.t HNS.out.ll (by omega) H5).mono ?_
            rintro e w6 ⟨rfl, rfl⟩
            have hwi := HNS.out.rel.win x.t
            obtain ⟨wa, hwa⟩ : ∃ wa, wa = winA b x.t := ⟨_, rfl⟩
            obtain ⟨fi, hfi⟩ : ∃ fi, fi = fstI (wonP x.t) L := ⟨_, rfl⟩
            rw [← hwa, ← hfi] at hwi
            rw [← hwa, ← hfi]
            have HWI := Lib.hid hwi
            have hfr := (fst_ge (wonP x.t) L)
            rw [← hfi] at hfr
            clear hwa hfi hwi
            go_upto_region 25 with (fail)
            go_cut [196] from 59 to 224 (fun s wx => s = .bool false ∧ w5 = wx)
            case first =>
              refine reg25_any (k := k) hfr HWI H5 _ _ _ _ _ _ _ _ _ _ _ _ _ _ _ _ _ _ _ _ _ _ _ _ _ _ _ _ _ _ _ _ _ _ _ _ _ _ _ _ _ _ _ _ _ _ _ _ _ _ _ _ _ _ _ _ _ _ _ _ _ _ _ _ _ _ _ _ _ _ _ _ _ _ _ _ _ _ _ _ _ _ _ _ _ _ _ _ _ _ _ _ _ _ _ _ _ _ _ _ _ _ _ _ _ _ _ _ _ _ _ _ _ _ _ _ _ _ _ _ _ _ _ _ _ _ _ _ _ _ _ _ _ _ _ _ _ _ _ _ _ _ _ _ _ _ _ _ _ _ _ _ _ _ _ _ _ _ _ _ _ _ _ _ _ _ _ _ _ _ _ _ _ _ _ _ _ _ _ _ _ _ _ _ _ _ _ _ _ _ _ _ _ _ _ _ _ _ _ _ _ _ _ _ _ _ _ _ _ _ _ _ _ _ _ _ _ _ _ ?_
              intro w6 v196
              intros
              rename_i hv he
              subst hv he
              go_wp2
              go_meet
              exact ⟨rfl, rfl⟩
            case rest =>
              obtain ⟨rfl, rfl⟩ := hcut
              clear HWI hfr
              have HRD := Lib.hid (HNS.out.rel.ready x.n x.m)
              obtain ⟨l, hl⟩ : ∃ l, l = readyB b x.n x.m := ⟨_, rfl⟩
              have hln : l.length ≤ 1099511627776 := by
                have e := ready_len b x.n x.m
                have e2 := HNS.out.rel.hn
                have e3 := HNS.out.hm
                have e4 := HNS.out.hr
                rw [← hl] at e
                omega
              have HL := Lib.hid hl.symm
              have HRL := Lib.hid (HRD.out.trans hl.symm)
              have HFI := Lib.hid HNS.out.rel.finished
              have HDE := Lib.hid HNS.out.rel.dead
              have hN2 : k + 1 < 2932031007402 := by omega
              have H0 : Hid (RS W w5 p q g b m r lim pat L x l none none) := Lib.hid ⟨H5.out, (fun A c e => by cases e), (fun A c e => by cases e)⟩
              go_upto_region 27 with (fail)
              go_cut [224] from 59 to 224 (fun s wx => s = .bool false ∧ Hid (MS W wx p q g b m r lim pat L x))
              case first =>
                clear y0 y1 y2 y3 y4 y5 H5 HRD hl
                refine reg27_any HNS hN2 hln HL HRL HFI HDE H0 _ _ _ _ _ _ _ _ _ _ _ _ _ _ _ _ _ _ _ _ _ _ _ _ _ _ _ _ _ _ _ _ _ _ _ _ _ _ _ _ _ _ _ _ _ _ _ _ _ _ _ _ _ _ _ _ _ _ _ _ _ _ _ _ _ _ _ _ _ _ _ _ _ _ _ _ _ _ _ _ _ _ _ _ _ _ _ _ _ _ _ _ _ _ _ _ _ _ _ _ _ _ _ _ _ _ _ _ _ _ _ _ _ _ _ _ _ _ _ _ _ _ _ _ _ _ _ _ _ _ _ _ _ _ _ _ _ _ _ _ _ _ _ _ _ _ _ _ _ _ _ _ _ _ _ _ _ _ _ _ _ _ _ _ _ _ _ _ _ _ _ _ _ _ _ _ _ _ _ _ _ _ _ _ _ _ _ _ _ _ _ _ _ _ _ _ _ _ _ _ _ _ _ _ _ _ _ _ _ _ _ _ _ _ _ _ _ _ _ _ _ _ ?_
                intro w6 v224
                intros
                rename_i hv HX
                subst hv
                go_wp2
                go_meet
                exact ⟨rfl, HX⟩
              case rest =>
                obtain ⟨rfl, HC⟩ := hcut
                have HE : Hid (SS W wc p q m r lim pat (k + 1)) := by
                  obtain ⟨v, hv⟩ := HC.out.bo
                  exact Lib.hid ⟨b, L, v, hv, HNS.out⟩
                clear HC H5 H0 HRD HL HRL HFI HDE hl y0 y1 y2 y3 y4 y5
                go_wp2
                go_roundw
                case rel => exact ⟨k + 1, hkn, by first | rfl | go_num, HE⟩
                case measure => exact meas_up2 hkn
        · obtain ⟨b, L, v, hbo, hns⟩ := HR.out
          obtain rfl : k = len := by omega
          have hbel := hbo.ab.bel
          clear hbo hns HR
          go_wp2
          go_ret
          exact ⟨rfl, hbel⟩

set_option maxRecDepth 100000 in
theorem contract (H : Type) (enc : TypeId × Value → H) (W : World) (base : Nat) (args : Array Value) (ds gs : List (DataW H)) (before : List MemPlace)
    (hval : ∀ (j : Nat) t v, Try.f3.params[j]? = some t → args[j]? = some v → Value.okWide Try.prog W .any base t v)
    (hW : DataW.Whole enc Try.prog Try.f3.params.toList Rows.attemptsScriptsSpec.vars false W args.toList ds gs before)
    (hz : (DataW.weightsEach Try.prog (Try.f3.params.toList ++ []) (ds ++ gs)).all (· ≤ reachBytes) = true) :
    Calls Try.prog 3 args W fun e W' => ∃ v, e = .returned v ∧ Rows.attemptsScriptsSpec.post enc Try.prog Try.f3 false true false false W args v W' := by
  have hW' := hW
  obtain ⟨p, q, hA0, hV, rfl, hfz, hnd⟩ := hW
  have hA : DataW.TrodAll enc Try.prog W 0 (fun _ => true) true Try.f3.params.toList args.toList ds p := hA0
  rw [Try.params3] at hA hval hz
  obtain ⟨v0, vs0, d0, ds0, p0, q0, hargs, rfl, rfl, h0, r0⟩ := trodAll_cons hA
  obtain ⟨v1, vs1, d1, ds1, p1, q1, rfl, rfl, rfl, h1, r1⟩ := trodAll_cons r0
  obtain ⟨v2, vs2, d2, ds2, p2, q2, rfl, rfl, rfl, h2, r2⟩ := trodAll_cons r1
  obtain ⟨rfl, rfl, rfl⟩ := trodAll_nil r2
  obtain rfl : args = #[v0, v1, v2] := by cases args; simp_all
  obtain ⟨rfl, rfl⟩ := trodVars_none hV
  obtain ⟨x0, rfl, b0⟩ := open_pair (hval 0 22 v0 rfl rfl) h0
  obtain ⟨x1, rfl, b1⟩ := open_pair (hval 1 22 v1 rfl rfl) h1
  have hw2 : ∀ m ∈ d2.weights Try.prog 23, m ≤ reachBytes := fun m hm => by
    have hall := List.all_eq_true.1 hz m (DataW.weights_mem_each (j := 2) (t := 23) rfl rfl m hm)
    simpa using hall
  obtain ⟨A, len, cap, it, rfl, hl, hS⟩ := open_acts (hval 2 23 v2 rfl rfl) h2 hw2
  clear hA0
  refine (walk x0.1 x0.2 x1.1 x1.2 A len cap it W b0.1 b0.2 b1.1 b1.2 hl hS).mono fun e W' ⟨he, hb⟩ => ?_
  subst he
  exact ⟨_, rfl, law_end hW' rfl rfl hb laidOut (by kernel_rfl) (by kernel_rfl) Try.underlying4⟩

theorem reads (os : Os) {H : Type} (enc : TypeId × Value → H) : ∃ places, DataW.whole enc Try.prog ((World.holding Try.prog os ⟨#[], #[], []⟩).forCall (fun _ _ => 0) ⟨#[], #[.agg #[.int .i64 0, .int .i64 0], .agg #[.int .i64 0, .int .i64 0], .slice none 0 0], []⟩).memory Try.f3.params.toList Rows.attemptsScriptsSpec.vars false [Value.agg #[.int .i64 0, .int .i64 0], Value.agg #[.int .i64 0, .int .i64 0], Value.slice none 0 0] 8 = some ([.agg [.lit (.int .i64 0), .lit (.int .i64 0)], .agg [.lit (.int .i64 0), .lit (.int .i64 0)], .nil], [], places) :=
  ⟨[], by kernel_rfl⟩

set_option maxRecDepth 100000 in
theorem lifted (os : Os) (started : os.Started) (H : Type) (enc : TypeId × Value → H) (F : Stop.Interp) :
    ReturnsInHanded {} Try.checked os 3 .any ((OpenSpec.ofChange Rows.attemptsScriptsSpec).preRow enc Try.prog Try.f3 Rows.attemptsScriptsRow.domain false Rows.attemptsScriptsRow.laid) (((OpenSpec.ofChange Rows.attemptsScriptsSpec).at F).post enc Try.prog Try.f3 false true false false) := by
  obtain ⟨places, hx⟩ := reads os enc
  have laid_met : laidMet Try.prog Rows.attemptsScriptsRow.laid ((World.holding Try.prog os ⟨#[], #[], []⟩).forCall (fun _ _ => 0) ⟨#[], #[.agg #[.int .i64 0, .int .i64 0], .agg #[.int .i64 0, .int .i64 0], .slice none 0 0], []⟩).memory := ⟨[], rfl, List.nodup_nil, fun _ _ h => by cases h⟩
  refine returnsInHanded_of_row (C := Try.checked) (s := OpenSpec.ofChange Rows.attemptsScriptsSpec) own started (by kernel_rfl) Try.func3
    (witness_row_at (enc := enc) (C := Try.checked) false (World.holding Try.prog os ⟨#[], #[], []⟩) #[.agg #[.int .i64 0, .int .i64 0], .agg #[.int .i64 0, .int .i64 0], .slice none 0 0] rfl (by kernel_rfl) (by kernel_rfl) (by kernel_rfl)
      (OpenSpec.preRow_of_cond 8 hx (by kernel_rfl) (fun k hk => by cases hk) (by kernel_rfl) laid_met)) ?_
  intro W base args ds gs before hval hW _ _ hz _ _ _
  exact contract H enc W base args ds gs before hval hW hz

theorem said : Rows.AttemptsScriptsSaid :=
  OpenClaim.holds_of_cond 3 Try.f3 rfl rfl rfl rfl rfl rfl rfl ⟨rfl, rfl, rfl, rfl, rfl⟩ rfl rfl rfl rfl rfl (by kernel_rfl) Try.func3 (by kernel_rfl)
    (of_decide_eq_true (by kernel_rfl)) (by unfold Func.isWrapper; first | (rw [if_pos (by decide +kernel)]; kernel_rfl) | (rw [if_neg (by decide +kernel)]; exact ⟨rfl, rfl⟩))
    (fun os started H enc _ F => by rw [OpenClaim.pre_eq_preRow]; exact lifted os started H enc F)

end Go.Proofs.Ytapnlofklgknmaa.fnAttemptsScripts
