/- NetScripts: every call of every script is answered as the document says, and all that is under way behind it is, whatever the input. -/
import Derived.Test.YtcahiogjmclnjaaNetNZ
import Derived.Deep.CutBlock
import Derived.Laws.StructEq

import Derived.Test.YtcahiogjmclnjaaLawEnd

import Derived.Test.YtcahiogjmclnjaaPlainKit

namespace Go.Proofs.Ytcahiogjmclnjaa.fnNetScripts
open Go.ChangeShapes Go.WideShapes Go.ChangeAt Go.RowKit Go.WideMaps Go.WideElems
open Go.ChangeMaps (open_string)

def r5 (k : Int) : Int := k % 5
theorem r5_is (k : Int) (hk : node4 k) : (wrap64 (k.tmod 5 + 5)).tmod 5 = r5 k := by
  obtain ⟨h1, h2⟩ := hk
  unfold r5
  rw [IntWalk.wrap64_in _ ⟨by have := Int.tmod_lt_of_pos k (by decide : (0:Int) < 5); have := Int.lt_tmod_of_pos k (by decide : (0:Int) < 5); omega, by have := Int.tmod_lt_of_pos k (by decide : (0:Int) < 5); omega⟩]
  rcases Int.le_total 0 k with h | h
  · rw [Int.tmod_eq_emod_of_nonneg h, Int.tmod_eq_emod_of_nonneg (by omega)]; omega
  · have : k.tmod 5 = -((-k) % 5) := by
      rw [← Int.tmod_eq_emod_of_nonneg (by omega : 0 ≤ -k), Int.neg_tmod, Int.neg_neg]
    rw [this, Int.tmod_eq_emod_of_nonneg (by omega)]
    omega
theorem r5_cases (k : Int) : r5 k = 0 ∨ r5 k = 1 ∨ r5 k = 2 ∨ r5 k = 3 ∨ r5 k = 4 := by unfold r5; omega
theorem nn_start {w0 w2 w3 : World} {p q : Nat} {N : Int} {S : Int → Int → Bool} (h : NWt w0 w2 p N 0 0 S []) (k : RNt w0 w3 q N 0 [] S) (f : RFr w2 w3) :
    NN w0 (w3.alloc (.cells #[.int .i64 N, .int .i64 0, .slice none 0 0, .map none] 59)) p q w3.heap.size N 0 0 [] S 0 [] S := by
  have keep : ∀ b e, Bears w2 b e → e ≠ 53 → e ≠ 39 → w3.heap[b]? = w2.heap[b]? := fun b e hbe h1 h2 => f b hbe.lt (not_brs hbe h1) (not_brs hbe h2)
  obtain ⟨cut, ⟨h1, h2, v, h3⟩, hc⟩ := h
  have ep := keep p _ h3.ty (by decide) (by decide)
  have hN : NWt w0 w3 p N 0 0 S [] :=
    ⟨cut, ⟨k.bel, h2, v, h3.at'.same ep, by obtain ⟨cs, z⟩ := h3.ty; exact ⟨cs, ep.trans z⟩, h3.fly.same (fun b hv => keep b _ (h3.fly.ty b hv) (by decide) (by decide))⟩, hc.same (fun m hm => f m (hc.lt hm).1 ((hc.lt hm).2.2 _) ((hc.lt hm).2.2 _))⟩
  have hbl : Below w3.heap.size w3 (w3.alloc (.cells #[.int .i64 N, .int .i64 0, .slice none 0 0, .map none] 59)) := (Below.refl _ w3).alloc (Nat.le_refl _) _
  have a1 := hN.below hbl
  have a2 := k.below hbl
  refine ⟨a1, a2, a1.pty, a2.qty, by have := hN.pty.lt; omega, k.bel.size, ⟨⟨?_, ?_, ?_, ?_, ?_, ?_, ?_⟩, ⟨_, heap_alloc_new w3 _⟩, rfl, .inl ⟨rfl, rfl⟩⟩⟩ <;> simp
theorem eq_letter (l : Letr) (w : World) : (binOp .eql 36 (letV l) (.agg #[.int .i64 l.id, .int .i64 l.a, .int .i64 l.b, .string l.s])).run Try.prog w = .ok (.bool true) w := by
  have hS : Try.prog.underlying 36 = some (.struct (Try.prog.fieldsOf 36)) := by kernel_rfl
  have hp : Try.prog.stoodInHeld 36 = false := by kernel_rfl
  have u3 := Try.underlying3
  have u9 := Try.underlying9
  rw [run_eql_struct]
  obtain ⟨d, hd⟩ : ∃ d : Nat, 10000 = d + 1 + 1 := ⟨9998, rfl⟩
  rw [hd, run_equalIn_agg w (d + 1) 36 _ _ hS hp]
  simp only [Program.fieldsOf, Try.underlying36]
  clear hd
  go_simp
set_option maxRecDepth 100000 in
set_option maxHeartbeats 8000000 in
theorem walk (nodes : Int) (A : Option Addr) (len cap : Nat) (it : Nat → Ac) (W : World) (hl : len ≤ maxLen) (hS : Acts W W.heap.size A len it) :
    Calls Try.prog 3 #[.int .i64 nodes, .slice A len cap] W fun e w' => e = .returned (.bool true) ∧ Below W.heap.size W w' := by
  have HS := Lib.hid hS
  have hl' : (len : Int) ≤ 9223372036854775807 := by unfold maxLen at hl; omega
  have HLEN := Lib.hid hl
  obtain ⟨N, hN⟩ : ∃ N, N = min (max nodes 0) 64 := ⟨_, rfl⟩
  have HN := Lib.hid hN
  have HN64 : Hid (N ≤ 64) := Lib.hid (by omega)
  clear hS hN hl
  go_enter Try.func3, Try.ntmps3
  go_wp2_with (fail)
  refine (speaks_any _).mono ?_
  rintro e w1 ⟨rfl, hb1⟩
  have HB1 := Lib.hid hb1
  clear hb1
  go_wp2_with (fail)
  refine (nwt_new (w0 := W) nodes N HN.out w1 HB1.out).mono ?_
  rintro e w2 ⟨rfl, h2, _⟩
  have H2 := Lib.hid h2
  clear h2
  obtain ⟨p, hp⟩ : ∃ p, p = w1.heap.size := ⟨_, rfl⟩
  rw [← hp] at H2 ⊢
  clear hp HB1
  go_wp2_with (fail)
  refine (rnew_any (w0 := W) nodes N HN.out w2 (Lib.hid H2.out.bel)).mono ?_
  rintro e w3 ⟨rfl, h3⟩
  have H3 := Lib.hid h3.out
  clear h3
  go_wp2_with (fail)
  refine (new_any nodes N HN.out w3).mono ?_
  rintro e w4 ⟨rfl, rfl⟩
  have H4 := Lib.hid (nn_start H2.out H3.out.1 H3.out.2)
  obtain ⟨q, hq⟩ : ∃ q, q = w2.heap.size := ⟨_, rfl⟩
  obtain ⟨o, ho⟩ : ∃ o, o = w3.heap.size := ⟨_, rfl⟩
  obtain ⟨w4, hw4⟩ : ∃ w4, w4 = w3.alloc (.cells #[.int .i64 N, .int .i64 0, .slice none 0 0, .map none] 59) := ⟨_, rfl⟩
  rw [← hw4, ← hq, ← ho] at H4
  rw [← hw4, ← hq, ← ho]
  clear hw4 hq ho H2 H3
  go_wp2
  go_loopw [8] (fun i wr => ∃ (k n : Nat) (sent : Int) (L : List Letr) (S : Int → Int → Bool), k ≤ len ∧ n ≤ k ∧ i = .int .i64 k ∧ Hid (NN W wr p q o N sent n L S sent L S ∧ Fine N L ∧ Only N S ∧ 0 ≤ sent ∧ sent ≤ k)) (fun i _ => len - (intOf i).toNat)
  case atStart => exact ⟨0, 0, 0, [], fun _ _ => false, by omega, by omega, rfl, Lib.hid ⟨H4.out, ⟨by simp, by simp, by simp, by simp⟩, (fun _ _ e => by cases e), Int.le_refl 0, Int.le_refl 0⟩⟩
  case round =>
    obtain ⟨k, n, sent, L, S, hk, hnk, rfl, HR⟩ := hrel
    clear H4
    by_cases hkn : k < len
    · have hkn' : (k : Int) < len := by omega
      obtain ⟨HW, b, off, rfl, hB, hc⟩ := HS.out k hkn
      obtain ⟨x, hx⟩ : ∃ x, x = it k := ⟨_, rfl⟩
      rw [← hx] at HW hc
      have hin := fun j u (hj : (acCells x)[j]? = some u) => (HR.out.1.net.bel.cell (p := ⟨b, off + k * 5 + j, none⟩) hB).trans (hc j u hj)
      have i0 := hin 0 _ rfl
      have i1 := hin 1 _ rfl
      have i2 := hin 2 _ rfl
      have i3 := hin 3 _ rfl
      have i4 := hin 4 _ rfl
      rw [Nat.add_zero] at i0
      have hbx : Below wr.heap.size wr (wr.alloc (.cells #[.int .i64 x.k, .int .i64 x.a, .int .i64 x.b, .string x.s, .bool x.c] 29)) := (Below.refl _ wr).alloc (Nat.le_refl _) _
      have HBX : Hid (NX W (wr.alloc (.cells #[.int .i64 x.k, .int .i64 x.a, .int .i64 x.b, .string x.s, .bool x.c] 29)) p q o wr.heap.size N sent n L S sent L S x) := Lib.hid ⟨HR.out.1.below hbx, nb_new wr x⟩
      have HG := Lib.hid HR.out.2
      have hr := r5_is x.k HW.1
      have HX := Lib.hid HW
      have HNK : Hid (n < maxLen) := Lib.hid (by have := HLEN.out; omega)
      clear hin hc hB HW hx hbx
      go_upto_region 9 with (fail)
      obtain ⟨g, hg⟩ : ∃ g, g = wr.heap.size := ⟨_, rfl⟩
      obtain ⟨wx, hwx⟩ : ∃ wx, wx = wr.alloc (.cells #[.int .i64 x.k, .int .i64 x.a, .int .i64 x.b, .string x.s, .bool x.c] 29) := ⟨_, rfl⟩
      rw [← hwx, ← hg] at HBX ⊢
      clear hg hwx i0 i1 i2 i3 i4 HR
      obtain ⟨bt, x0, x1, x2, x3, x4⟩ := HBX.out.2
      clear bt
      go_upto_block 2 with (fail)
      go_cut [10] (fun s10 wy => s10 = .bool true ∧ ∃ (n' : Nat) (sent' : Int) (L' : List Letr) (S' : Int → Int → Bool), Hid (NX W wy p q o g N sent' n' L' S' sent' L' S' x ∧ Fine N L' ∧ Only N S' ∧ 0 ≤ sent' ∧ sent' ≤ ((k + 1 : Nat) : Int) ∧ n' ≤ k + 1))
      case first =>
        have hs9 : 0 ≤ sent ∧ sent ≤ 9223372036854775806 := by have := HG.out.2.2; omega
        have HS9 := Lib.hid hs9
        clear hs9
        rcases r5_cases x.k with h | h | h | h | h
        · have e0 : (r5 x.k == 0) = true := by simpa using h
          clear h hr
          go_wp2_with (fail)
          refine (nx_send (w0 := W) (p := p) (q := q) (o := o) (g := g) (x := x) x.a x.b x.s HG.out.1 HS9.out HBX).mono ?_
          rintro e w6 ⟨rfl, H6⟩
          clear x0 x1 x2 x3 x4 HBX
          obtain ⟨bt, x0, x1, x2, x3, x4⟩ := H6.out.2
          clear bt
          go_wp2_with (fail)
          refine (nx_rsend (w0 := W) (p := p) (q := q) (o := o) (g := g) (x := x) x.a x.b x.s HG.out.1 HS9.out H6).mono ?_
          rintro e w7 ⟨rfl, H7⟩
          clear x0 x1 x2 x3 x4 H6
          have HFN := Lib.hid (fine_send (a := x.a) (b := x.b) (sent := sent) (s := x.s) HG.out.1)
          have HTS : Hid (0 ≤ sendT N x.a x.b x.s L sent ∧ sendT N x.a x.b x.s L sent ≤ ((k + 1 : Nat) : Int)) := Lib.hid (by
            have := HG.out.2.2
            unfold sendT
            split <;> omega)
          go_wp2
          go_meet
          exact ⟨rfl, n, _, _, S, Lib.hid ⟨H7.out, HFN.out, HG.out.2.1, HTS.out.1, HTS.out.2, by omega⟩⟩
        · have e0 : (r5 x.k == 0) = false := by simp [h]
          have e1 : (r5 x.k == 1) = true := by simpa using h
          clear h hr
          go_wp2_with (fail)
          refine (nx_deliver (w0 := W) (p := p) (q := q) (o := o) (g := g) (x := x) x.a HN64.out HG.out.1 HBX).mono ?_
          rintro e w6 ⟨rfl, H6⟩
          clear x0 x1 x2 x3 x4 HBX
          obtain ⟨lt, hlt⟩ : ∃ lt, lt = dlvX L S x.a := ⟨_, rfl⟩
          rw [← hlt]
          obtain ⟨li, la, lb, ls⟩ := lt
          have HLT := Lib.hid hlt
          clear hlt
          rw [show letV ⟨li, la, lb, ls⟩ = .agg #[.int .i64 li, .int .i64 la, .int .i64 lb, .string ls] from rfl]
          have HY := Lib.hid (And.intro (H6.out.below ((Below.refl _ w6).alloc (Nat.le_refl _) (.cells #[.int .i64 li, .int .i64 la, .int .i64 lb, .string ls] 36))) (lb_new w6 li la lb ls))
          obtain ⟨bt, x0, x1, x2, x3, x4⟩ := HY.out.1.2
          clear bt H6
          go_wp2_with (fail)
          obtain ⟨r, hr⟩ : ∃ r, r = w6.heap.size := ⟨_, rfl⟩
          obtain ⟨wz, hwz⟩ : ∃ wz, wz = w6.alloc (.cells #[.int .i64 li, .int .i64 la, .int .i64 lb, .string ls] 36) := ⟨_, rfl⟩
          rw [← hwz, ← hr] at HY ⊢
          clear hr hwz x0 x1 x2 x3 x4
          refine (nb_rdeliver (w0 := W) (p := p) (q := q) (o := o) (g := g) (x := x) x.a HN64.out HG.out.1 HY).mono ?_
          rintro e w7 ⟨rfl, H7⟩
          rw [← HLT.out]
          rw [show letV ⟨li, la, lb, ls⟩ = .agg #[.int .i64 li, .int .i64 la, .int .i64 lb, .string ls] from rfl]
          clear HY
          go_upto_region 19 with (fail)
          have hbz : Below w7.heap.size w7 (w7.alloc (.cells #[.int .i64 li, .int .i64 la, .int .i64 lb, .string ls] 39)) := (Below.refl _ w7).alloc (Nat.le_refl _) _
          have HY2 := Lib.hid (And.intro (H7.out.1.below hbz) (H7.out.2.same (hbz.block r H7.out.2.ty.lt)))
          have m0 : (w7.alloc (.cells #[.int .i64 li, .int .i64 la, .int .i64 lb, .string ls] 39)).cell? ⟨w7.heap.size, 0, none⟩ = some (.int .i64 li) := by simp
          have m1 : (w7.alloc (.cells #[.int .i64 li, .int .i64 la, .int .i64 lb, .string ls] 39)).cell? ⟨w7.heap.size, 1, none⟩ = some (.int .i64 la) := by simp
          have m2 : (w7.alloc (.cells #[.int .i64 li, .int .i64 la, .int .i64 lb, .string ls] 39)).cell? ⟨w7.heap.size, 2, none⟩ = some (.int .i64 lb) := by simp
          have m3 : (w7.alloc (.cells #[.int .i64 li, .int .i64 la, .int .i64 lb, .string ls] 39)).cell? ⟨w7.heap.size, 3, none⟩ = some (.string ls) := by simp
          obtain ⟨r2, hr2⟩ : ∃ r2, r2 = w7.heap.size := ⟨_, rfl⟩
          obtain ⟨wy, hwy⟩ : ∃ wy, wy = w7.alloc (.cells #[.int .i64 li, .int .i64 la, .int .i64 lb, .string ls] 39) := ⟨_, rfl⟩
          rw [← hwy, ← hr2] at m0 m1 m2 m3 ⊢
          rw [← hwy] at HY2
          clear hbz hwy hr2 H7
          obtain ⟨bt, y0, y1, y2, y3⟩ := HY2.out.2
          clear bt
          have hel := fun w => eq_letter ⟨li, la, lb, ls⟩ w
          simp only [letV] at hel
          have HFN := Lib.hid (fine_dlv HG.out.1 S x.a)
          go_wp2
          go_meet
          exact ⟨rfl, n, sent, dlvL L S x.a, S, Lib.hid ⟨HY2.out.1, HFN.out, HG.out.2.1, HS9.out.1, by have := HG.out.2.2; omega, by omega⟩⟩
        · have e0 : (r5 x.k == 0) = false := by simp [h]
          have e1 : (r5 x.k == 1) = false := by simp [h]
          have e2 : (r5 x.k == 2) = true := by simpa using h
          clear h hr
          have HD := Lib.hid HBX.out.drew
          have HFN := Lib.hid (fine_drop HG.out.1 x.a)
          go_upto_region 21 with (fail)
          have hS0 := NX.cells HD
          clear x0 x1 x2 x3 x4 HBX
          go_region_held3 (fun w' => w'.cell? ⟨g, 1, none⟩ = some (.int .i64 x.a) ∧ w'.cell? ⟨g, 2, none⟩ = some (.int .i64 x.b) ∧ w'.cell? ⟨g, 4, none⟩ = some (.bool x.c)) (assumption)
            (first
              | (go_at_call 11; with_reducible refine (nx_drop (w0 := W) (p := p) (q := q) (o := o) (g := g) (x := x) x.a HG.out.1 (by first | assumption)).mono ?_; rintro e w6 ⟨rfl, H6⟩; have hS6 := NX.cells H6)
              | (go_at_call 12; with_reducible refine (nx_rdrop (w0 := W) (p := p) (q := q) (o := o) (g := g) (x := x) x.a HG.out.1 (by first | assumption)).mono ?_; rintro e w7 ⟨rfl, H7⟩; have hS7 := NX.cells H7))
          all_goals
            go_wp2
            go_meet
            exact ⟨rfl, n, sent, (dropL L x.a), S, Lib.hid ⟨by first | exact H7.out | exact H6.out, HFN.out, HG.out.2.1, HS9.out.1, by have := HG.out.2.2; omega, by omega⟩⟩
        · have e0 : (r5 x.k == 0) = false := by simp [h]
          have e1 : (r5 x.k == 1) = false := by simp [h]
          have e2 : (r5 x.k == 2) = false := by simp [h]
          have e3 : (r5 x.k == 3) = true := by simpa using h
          clear h hr
          have HD := Lib.hid HBX.out.drew
          have HFN := Lib.hid (fine_dbl HG.out.1 x.a)
          go_upto_region 23 with (fail)
          have hS0 := NX.cells HD
          clear x0 x1 x2 x3 x4 HBX
          go_region_held3 (fun w' => w'.cell? ⟨g, 1, none⟩ = some (.int .i64 x.a) ∧ w'.cell? ⟨g, 2, none⟩ = some (.int .i64 x.b) ∧ w'.cell? ⟨g, 4, none⟩ = some (.bool x.c)) (assumption)
            (first
              | (go_at_call 13; with_reducible refine (nx_double (w0 := W) (p := p) (q := q) (o := o) (g := g) (x := x) x.a HG.out.1 (by first | assumption)).mono ?_; rintro e w6 ⟨rfl, H6⟩; have hS6 := NX.cells H6)
              | (go_at_call 14; with_reducible refine (nx_rdouble (w0 := W) (p := p) (q := q) (o := o) (g := g) (x := x) x.a HG.out.1 (by first | assumption)).mono ?_; rintro e w7 ⟨rfl, H7⟩; have hS7 := NX.cells H7))
          all_goals
            go_wp2
            go_meet
            exact ⟨rfl, n, sent, (dblL L x.a), S, Lib.hid ⟨by first | exact H7.out | exact H6.out, HFN.out, HG.out.2.1, HS9.out.1, by have := HG.out.2.2; omega, by omega⟩⟩
        · have e0 : (r5 x.k == 0) = false := by simp [h]
          have e1 : (r5 x.k == 1) = false := by simp [h]
          have e2 : (r5 x.k == 2) = false := by simp [h]
          have e3 : (r5 x.k == 3) = false := by simp [h]
          clear h hr
          have HD := Lib.hid HBX.out.drew
          have HFN := Lib.hid (HG.out.1)
          go_upto_region 11 with (fail)
          have hS0 := NX.cells HD
          clear x0 x1 x2 x3 x4 HBX
          go_region_held3 (fun w' => w'.cell? ⟨g, 1, none⟩ = some (.int .i64 x.a) ∧ w'.cell? ⟨g, 2, none⟩ = some (.int .i64 x.b) ∧ w'.cell? ⟨g, 4, none⟩ = some (.bool x.c)) (assumption)
            (first
              | (go_at_call 15; with_reducible refine (nx_part (w0 := W) (p := p) (q := q) (o := o) (g := g) (x := x) x.a x.b x.c HN64.out HNK.out (by first | assumption)).mono ?_; rintro e w6 ⟨rfl, H6⟩; have hS6 := NX.cells H6)
              | (go_at_call 16; with_reducible refine (nx_rpart (w0 := W) (p := p) (q := q) (o := o) (g := g) (x := x) x.a x.b x.c HN64.out (by first | assumption)).mono ?_; rintro e w7 ⟨rfl, H7⟩; have hS7 := NX.cells H7))
          all_goals
            go_wp2
            go_meet
            exact ⟨rfl, (n + 1), sent, L, (parS N S x.a x.b x.c), Lib.hid ⟨by first | exact H7.out | exact H6.out, HFN.out, only_par HG.out.2.1 x.a x.b x.c, HS9.out.1, by have := HG.out.2.2; omega, by omega⟩⟩
      case rest =>
        obtain ⟨rfl, n', sent', L', S', HC⟩ := hcut
        clear hr HBX HG x0 x1 x2 x3 x4
        go_wp2_with (fail)
        refine (nwb_fly (w0 := W) (p := p) wc HC.out.2.1.len HC.out.2.1.s (Lib.hid HC.out.1.1.net)).mono ?_
        rintro e w5 ⟨rfl, H5⟩
        obtain ⟨v, hz⟩ := nz_of (HC.out.1.below H5.out.2.1) H5.out.2.2 H5.out.2.1
        obtain ⟨f, hf⟩ : ∃ f, f = wc.heap.size := ⟨_, rfl⟩
        rw [← hf] at hz ⊢
        have HF := Lib.hid hf
        have HZ := Lib.hid hz
        clear hz hf H5
        have HD := Lib.hid HZ.out.drew
        go_upto_region 25 with (fail)
        have hS0 := NZ.cells HD
        clear HZ
        go_region_held3 (fun w' => w'.cell? ⟨g, 1, none⟩ = some (.int .i64 x.a) ∧ w'.cell? ⟨g, 2, none⟩ = some (.int .i64 x.b) ∧ w'.cell? ⟨q, 2, none⟩ = some v) (assumption)
          (first
            | (go_at_call 18; with_reducible refine (nz_same (w0 := W) (p := p) (q := q) (o := o) (g := g) (x := x) HC.out.2.1 (by first | assumption)).mono ?_; rintro e w6 ⟨rfl, H6⟩; have hS6 := NZ.cells H6)
            | (go_at_call 19; with_reducible refine (nz_parted (w0 := W) (p := p) (q := q) (o := o) (g := g) (x := x) HX.out.2.1 HX.out.2.2 (by first | assumption)).mono ?_; rintro e w7 ⟨rfl, H7⟩; have hS7 := NZ.cells H7)
            | (go_at_call 20; with_reducible refine (nz_rparted (w0 := W) (p := p) (q := q) (o := o) (g := g) (x := x) HN64.out HC.out.2.2.1 (by first | assumption)).mono ?_; rintro e w8 ⟨rfl, H8⟩; have hS8 := NZ.cells H8))
        have HQ : Hid (Below wc.heap.size wc w8 ∧ Room w8 f L'.length) := Lib.hid ⟨H8.out.bel, room_row H8.out.row⟩
        clear HD hS0 H6 hS6 H7 hS7 H8 hS8
        obtain ⟨m, hm⟩ : ∃ m, m = L'.length := ⟨_, rfl⟩
        have hm6 : (m : Int) ≤ 65536 := by have := HC.out.2.1.len; omega
        rw [← hm] at HQ ⊢
        clear hm
        go_wp2
        go_loopw [20] (fun i wt => ∃ j : Nat, j ≤ m ∧ i = .int .i64 j ∧ Hid (Below wc.heap.size wc wt ∧ Room wt f m)) (fun i _ => m - (intOf i).toNat)
        case atStart => exact ⟨0, by omega, rfl, HQ⟩
        case round =>
          obtain ⟨j, hj, rfl, HT⟩ := hrel
          by_cases hjm : j < m
          · have hjm' : (j : Int) < m := by omega
            obtain ⟨⟨v0, q0⟩, z0⟩ := HT.out.2.cell (j * 4) (by omega)
            obtain ⟨⟨v1, q1⟩, z1⟩ := HT.out.2.cell (j * 4 + 1) (by omega)
            obtain ⟨⟨v2, q2⟩, z2⟩ := HT.out.2.cell (j * 4 + 2) (by omega)
            obtain ⟨⟨v3, q3⟩, z3⟩ := HT.out.2.cell (j * 4 + 3) (by omega)
            go_wp2
            go_round
            case rel =>
              have hle : wc.heap.size ≤ f := Nat.le_of_eq HF.out.symm
              exact ⟨j + 1, by omega, by go_num, Lib.hid ⟨(((HT.out.1.setCell (p := ⟨f, j * 4, none⟩) hle _).setCell (p := ⟨f, j * 4 + 1, none⟩) hle _).setCell (p := ⟨f, j * 4 + 2, none⟩) hle _).setCell (p := ⟨f, j * 4 + 3, none⟩) hle _, (((HT.out.2.set _ _).set _ _).set _ _).set _ _⟩⟩
            case measure => simp [intOf]; omega
          · go_wp2
            go_round
            case rel => exact ⟨k + 1, n', sent', L', S', by omega, HC.out.2.2.2.2.2, by go_num, Lib.hid ⟨HC.out.1.1.below HT.out.1, HC.out.2.1, HC.out.2.2.1, HC.out.2.2.2.1, HC.out.2.2.2.2.1⟩⟩
            case measure => simp [intOf]; omega
    · obtain ⟨v, hE⟩ := ne_of HR.out.1
      have HE := Lib.hid hE
      have HFN := Lib.hid HR.out.2.1
      have HD := Lib.hid HE.out.drew
      clear hE HR
      go_upto_region 31 with (fail)
      have hS0 := HD.out.c2
      clear HE
      go_region_held3 (fun w' => w'.cell? ⟨q, 2, none⟩ = some v) (assumption)
        (first
          | (go_at_call 17; with_reducible refine (ne_fly (w0 := W) (p := p) (q := q) (o := o) HFN.out (by first | assumption)).mono ?_; rintro e w6 ⟨f6, rfl, H6⟩; have hS6 := nef_c2 H6)
          | (go_at_call 18; with_reducible refine (ne_same (w0 := W) (p := p) (q := q) (o := o) HFN.out (by first | assumption)).mono ?_; rintro e w7 ⟨rfl, H7⟩; have hS7 := ne_c2 H7)
          | (go_at_call 17; with_reducible refine (ne_oth (w0 := W) (p := p) (q := q) (o := o) (by first | assumption)).mono ?_; rintro e w8 ⟨⟨a8, rfl⟩, H8⟩; have hS8 := ne_c2 H8))
      all_goals
        go_wp2
        go_ret
        exact ⟨rfl, H8.out.nn.net.bel⟩

set_option maxRecDepth 100000 in
theorem contract (H : Type) (enc : TypeId × Value → H) (W : World) (base : Nat) (args : Array Value) (ds gs : List (DataW H)) (before : List MemPlace)
    (hval : ∀ (j : Nat) t v, Try.f3.params[j]? = some t → args[j]? = some v → Value.okWide Try.prog W .any base t v)
    (hW : DataW.Whole enc Try.prog Try.f3.params.toList Rows.netScriptsSpec.vars false W args.toList ds gs before)
    (hz : (DataW.weightsEach Try.prog (Try.f3.params.toList ++ []) (ds ++ gs)).all (· ≤ reachBytes) = true) :
    Calls Try.prog 3 args W fun e W' => ∃ v, e = .returned v ∧ Rows.netScriptsSpec.post enc Try.prog Try.f3 false true false false W args v W' := by
  have hW' := hW
  obtain ⟨p, q, hA0, hV, rfl, hfz, hnd⟩ := hW
  have hA : DataW.TrodAll enc Try.prog W 0 (fun _ => true) true Try.f3.params.toList args.toList ds p := hA0
  rw [Try.params3] at hA hval hz
  obtain ⟨v0, vs0, d0, ds0, p0, q0, hargs, rfl, rfl, h0, r0⟩ := trodAll_cons hA
  obtain ⟨v1, vs1, d1, ds1, p1, q1, rfl, rfl, rfl, h1, r1⟩ := trodAll_cons r0
  obtain ⟨rfl, rfl, rfl⟩ := trodAll_nil r1
  obtain rfl : args = #[v0, v1] := by cases args; simp_all
  obtain ⟨rfl, rfl⟩ := trodVars_none hV
  obtain ⟨x0, rfl, rfl, rfl, w0⟩ := open_int Try.underlying3 (hval 0 3 v0 rfl rfl) h0
  have b0 := i64_of_wf w0
  obtain ⟨A, len, cap, it, rfl, hl, hS⟩ := open_acts (hval 1 22 v1 rfl rfl) h1
  clear hA0
  refine (walk x0 A len cap it W hl hS).mono fun e W' ⟨he, hb⟩ => ?_
  subst he
  exact ⟨_, rfl, law_end hW' rfl rfl hb laidOut (by kernel_rfl) (by kernel_rfl) Try.underlying4⟩

theorem reads (os : Os) {H : Type} (enc : TypeId × Value → H) : ∃ places, DataW.whole enc Try.prog ((World.holding Try.prog os ⟨#[], #[], []⟩).forCall (fun _ _ => 0) ⟨#[], #[.int .i64 0, .slice none 0 0], []⟩).memory Try.f3.params.toList Rows.netScriptsSpec.vars false [Value.int .i64 0, Value.slice none 0 0] 8 = some ([.lit (.int .i64 0), .nil], [], places) :=
  ⟨[], by kernel_rfl⟩

set_option maxRecDepth 100000 in
theorem lifted (os : Os) (started : os.Started) (H : Type) (enc : TypeId × Value → H) (F : Stop.Interp) :
    ReturnsInHanded {} Try.checked os 3 .any ((OpenSpec.ofChange Rows.netScriptsSpec).preRow enc Try.prog Try.f3 Rows.netScriptsRow.domain false Rows.netScriptsRow.laid) (((OpenSpec.ofChange Rows.netScriptsSpec).at F).post enc Try.prog Try.f3 false true false false) := by
  obtain ⟨places, hx⟩ := reads os enc
  have laid_met : laidMet Try.prog Rows.netScriptsRow.laid ((World.holding Try.prog os ⟨#[], #[], []⟩).forCall (fun _ _ => 0) ⟨#[], #[.int .i64 0, .slice none 0 0], []⟩).memory := ⟨[], rfl, List.nodup_nil, fun _ _ h => by cases h⟩
  refine returnsInHanded_of_row (C := Try.checked) (s := OpenSpec.ofChange Rows.netScriptsSpec) own started (by kernel_rfl) Try.func3
    (witness_row_at (enc := enc) (C := Try.checked) false (World.holding Try.prog os ⟨#[], #[], []⟩) #[.int .i64 0, .slice none 0 0] rfl (by kernel_rfl) (by kernel_rfl) (by kernel_rfl)
      (OpenSpec.preRow_of_cond 8 hx (by kernel_rfl) (fun k hk => by cases hk) (by kernel_rfl) laid_met)) ?_
  intro W base args ds gs before hval hW _ _ hz _ _ _
  exact contract H enc W base args ds gs before hval hW hz

theorem said : Rows.NetScriptsSaid :=
  OpenClaim.holds_of_cond 3 Try.f3 rfl rfl rfl rfl rfl rfl rfl ⟨rfl, rfl, rfl, rfl, rfl⟩ rfl rfl rfl rfl rfl (by kernel_rfl) Try.func3 (by kernel_rfl)
    (of_decide_eq_true (by kernel_rfl)) (by unfold Func.isWrapper; first | (rw [if_pos (by decide +kernel)]; kernel_rfl) | (rw [if_neg (by decide +kernel)]; exact ⟨rfl, rfl⟩))
    (fun os started H enc _ F => by rw [OpenClaim.pre_eq_preRow]; exact lifted os started H enc F)

end Go.Proofs.Ytcahiogjmclnjaa.fnNetScripts
