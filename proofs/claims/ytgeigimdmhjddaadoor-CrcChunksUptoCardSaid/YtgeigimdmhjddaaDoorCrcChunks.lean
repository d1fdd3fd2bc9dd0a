/- CrcChunks, where what it reads is bounded: the checksums of chunks of every size, and the first chunk that is bad; lists stay as they were. -/
import Derived.Test.YtgeigimdmhjddaaDoorChunkLaw
import Derived.Deep.DeepCutAuto
import Derived.Laws.AppendOwnNone
import Derived.WalkLawsBesides
import Derived.ChangeSlices
import Derived.ChangeShapes
import Derived.WideShapes

import Derived.Test.YtgeigimdmhjddaaDoorLawEnd

import Derived.Test.YtgeigimdmhjddaaDoorCrcLaid

namespace Go.Proofs.YtgeigimdmhjddaaDoor.fnCrcChunks
open Go.ChangeShapes Go.WideShapes Go.ChangeAt Go.RowKit Go.WideMaps Go.WideElems
open Go.ChangeMaps (open_string)

open Go.ChangeShapes Go.WideShapes in
theorem bulk_lits {H : Type} (k : IntKind) (zs : List Int) : Rows.uptoBulkAll (lits k zs : List (DataW H)) = zs.length := by
  induction zs with
  | nil => rfl
  | cons z zs ih =>
    show Rows.uptoBulkAll (DataW.lit (Lit.int k z) :: lits k zs) = _
    simp only [Rows.uptoBulkAll, Rows.uptoBulk, ih, List.length_cons]
    omega
open Go.ChangeShapes Go.WideShapes in
theorem open_sums {H : Type} {enc : TypeId × Value → H} {W : World} {base : Nat} {v : Value} {d : DataW H} {p : List MemPlace}
    (hv : Value.okWide Tryd.prog W .any base 22 v) (h : DataW.Trod enc Tryd.prog W 0 (fun _ => true) true 22 v d p) (hk : Rows.uptoBulk d ≤ 1048576) :
    ∃ (A : Option Addr) (len cap : Nat) (f : Nat → BitVec 32), v = .slice A len cap ∧ len ≤ 1048576 ∧ SumsAt W W.heap.size A len f ∧ (A = none → len = 0 ∧ cap = 0) := by
  obtain ⟨A, len, cap, rfl⟩ := okWide_slice Tryd.underlying22 hv
  obtain ⟨fuel, hf⟩ := h
  rcases open_ints Tryd.underlying22 Tryd.underlying27 (by kernel_rfl) hf with ⟨hcs, _⟩ | ⟨a, len', cap', zs, hcs, _, hl, hm, hz, hx, hcell, hwz⟩
  · simp only [Value.cells, List.cons.injEq, and_true] at hcs
    injection hcs with e1 e2 e3
    subst e1 e2 e3
    exact ⟨none, 0, 0, fun _ => 0, rfl, Nat.zero_le _, fun i hi => absurd hi (Nat.not_lt_zero _), fun _ => ⟨rfl, rfl⟩⟩
  · simp only [Value.cells, List.cons.injEq, and_true] at hcs
    injection hcs with e1 e2 e3
    subst e1 e2 e3
    simp only [if_true] at hz
    simp only [Prod.mk.injEq] at hx
    obtain ⟨rfl, _⟩ := hx
    have hlen : len ≤ 1048576 := by
      have hk2 := hk
      simp only [Rows.uptoBulk, bulk_lits] at hk2
      have : (zs.take len).length = len := by rw [List.length_take]; omega
      omega
    have hU : ∀ i, i < len → ∃ x : BitVec 32, zs.getD i 0 = U x := fun i hi => by
      have hi' : i < zs.length := by omega
      refine U_of_wf (hwz _ ?_)
      rw [List.getD_eq_getElem?_getD, List.getElem?_eq_getElem hi']
      exact List.getElem_mem _
    refine ⟨some a, len, cap, fun i => if h : i < len then Classical.choose (hU i h) else 0, rfl, hlen, fun i hi => ?_, fun e => by cases e⟩
    have h0 := World.cell?_spot (hcell 0 (by omega))
    obtain ⟨b, off, spot⟩ := a
    have hspot : spot = none := by simpa [Addr.add] using h0
    subst hspot
    have hc := hcell i (by omega)
    rw [add_plain] at hc
    refine ⟨b, off, rfl, ?_, ?_⟩
    · rcases Nat.lt_or_ge b W.heap.size with hlt | hge
      · exact hlt
      · simp [World.cell?, Array.getElem?_eq_none hge] at hc
    · rw [hc, Classical.choose_spec (hU i hi)]
      simp [hi]
def SU (w4 : World) (A : Option Addr) (n : Nat) (g : Nat → BitVec 32) : Prop := ∀ w, Below w4.heap.size w4 w → SumsAt w w.heap.size A n g
theorem SU.of {w4 : World} {A : Option Addr} {n : Nat} {g : Nat → BitVec 32} (h : SumsAt w4 w4.heap.size A n g) : SU w4 A n g := fun w hb i hi => by
  obtain ⟨b, off, e, h1, h2⟩ := (h.below hb) i hi
  exact ⟨b, off, e, by have := hb.size; omega, h2⟩
theorem SU.on {w4 w5 : World} {A : Option Addr} {n : Nat} {g : Nat → BitVec 32} (h : SU w4 A n g) (hb : Below w4.heap.size w4 w5) : SU w5 A n g := fun w hb2 => h w (hb.trans (hb2.mono hb.size))
/-- 'same' of two lists that are the same, in every later world -/
theorem same_on {w4 : World} {A C : Option Addr} {n cap cap' : Nat} {f g : Nat → BitVec 32} (hn : n ≤ 1099511627776) (hA : SU w4 A n f) (hC : SU w4 C n g) (hfg : ∀ i, i < n → f i = g i) (w : World) (hb : Hid (Below w4.heap.size w4 w)) :
    Calls Tryd.prog 8 #[.slice A n cap, .slice C n cap'] w fun e w' => e = .returned (.bool true) ∧ Hid (Below w4.heap.size w4 w') :=
  (same_true A C n cap cap' f g w hn (hA w hb.out) (hC w hb.out) hfg).mono fun _ _ ⟨he, m, hm⟩ => ⟨he, Lib.hid (by rw [hm]; exact below_drewN hb.out m)⟩
theorem bad_on {w4 : World} {s : Txt} {z : Int} (hz : z ≤ 9223372036854775807) (hsz : s.1.size ≤ 1099511627776) {A : Option Addr} {len cap : Nat} (hlen : len ≤ 1099511627776) {f : Nat → BitVec 32} (hh : Half w4) (hS : SU w4 A len f) (r : Int) (hr : bA z s len f = r) (w : World) (hb : Hid (Below w4.heap.size w4 w)) :
    Calls Tryd.prog 9 #[.string s.1, .int .i64 z, .slice A len cap] w fun e w' => e = .returned (.int .i64 r) ∧ Hid (Below w4.heap.size w4 w') :=
  (bad_int s z hz hsz A len cap hlen f w (hh.below hb.out hh.lt) (hS w hb.out)).mono fun _ _ ⟨he, hb'⟩ => ⟨by rw [← hr]; exact he, Lib.hid (hb.out.trans (hb'.mono hb.out.size))⟩
theorem rbad_on {w4 : World} {s : Txt} {z : Int} (hz : z ≤ 9223372036854775807) (hsz : s.1.size ≤ 1099511627776) {A : Option Addr} {len cap : Nat} (hlen : len ≤ 1099511627776) {f : Nat → BitVec 32} (hS : SU w4 A len f) (r : Int) (hr : bA z s len f = r) (w : World) (hb : Hid (Below w4.heap.size w4 w)) :
    Calls Tryd.prog 10 #[.string s.1, .int .i64 z, .slice A len cap] w fun e w' => e = .returned (.int .i64 r) ∧ Hid (Below w4.heap.size w4 w') :=
  (rbad_int s z hz hsz A len cap hlen f w (hS w hb.out)).mono fun _ _ ⟨he, hb'⟩ => ⟨by rw [← hr]; exact he, Lib.hid (hb.out.trans (hb'.mono hb.out.size))⟩
def newsOf (f : Nat → BitVec 32) (len : Nat) : List Value := (List.range len).map fun i => .int .u32 (U (f i))
theorem newsOf_len (f : Nat → BitVec 32) (len : Nat) : (newsOf f len).length = len * 1 := by simp [newsOf]
theorem lit_step {w w1 w2 : World} {B : Nat} {cs : Array Value} {t : TypeId} {n cap : Nat} (h1 : Below B w w1) (hB : B = w1.heap.size) (hg : (w1.alloc (.cells cs t)).grownBy w2 (Value.slice (some ⟨w1.heap.size, 0, none⟩) n cap).ownBlock) : Below B w w2 := by
  have h3 : Below B w1 (w1.alloc (.cells cs t)) := (Below.refl _ _).alloc (by omega) _
  refine (h1.trans h3).grown hg (by simp; omega) (fun j ej => ?_)
  obtain rfl : w1.heap.size = j := by simpa [Value.ownBlock] using ej
  omega
theorem newsOf_one (f : Nat → BitVec 32) (len : Nat) : ∀ u ∈ newsOf f len, u.oneCell' = true := fun u hu => by
  obtain ⟨i, _, rfl⟩ := List.mem_map.1 hu
  rfl
theorem newsOf_cell {w w3 : World} {ad : Addr} {len : Nat} {f : Nat → BitVec 32} {t : TypeId} (hB : Hid (Below w.heap.size w w3)) (h : Hid (SumsAt w3 w.heap.size (some ad) len f)) : ∀ j u, (newsOf f len)[j]? = some u → (w3.alloc (.cells #[] t)).cell? (ad.add j) = some u := fun j u hj => by
  have hlt : j < len := by
    have := (List.getElem?_eq_some_iff.1 hj).1
    rw [newsOf_len] at this; omega
  obtain ⟨b, off, e, hb, hc⟩ := h.out j hlt
  injection e with e
  subst e
  have hu : u = .int .u32 (U (f j)) := by
    simp [newsOf, hlt] at hj
    exact hj.symm
  rw [hu, add_plain]
  exact (((Below.refl _ w3).alloc (Nat.le_refl _) _).cell (p := ⟨b, off + j, none⟩) (by have := hB.out.size; show b < w3.heap.size; omega)).trans hc
theorem sums_own {w4 : World} {v' : Value} {len : Nat} {f : Nat → BitVec 32} {B : Nat} (h : w4.ownsRow B 27 1 v' len (newsOf f len)) : ∃ A4 c4, v' = .slice A4 len c4 ∧ SumsAt w4 w4.heap.size A4 len f := by
  rcases h.2 with ⟨rfl, rfl⟩ | ⟨g, cap, cur, rfl, _, hgb, _⟩
  · exact ⟨none, 0, rfl, fun i hi => absurd hi (Nat.not_lt_zero _)⟩
  · refine ⟨_, cap, rfl, fun i hi => ⟨g, 0, rfl, (Array.getElem?_eq_some_iff.1 hgb).1, ?_⟩⟩
    rw [Nat.zero_add]
    refine (h.cellAt i (by omega)).trans ?_
    simp [hi, newsOf]
/-- the block of A may turn, nothing else -/
def OnlyB (w0 wr w4 : World) (A : Option Addr) (n : Nat) : Prop :=
  wr.heap.size = w4.heap.size ∧ (∀ k, (∀ a, A = some a → k ≠ a.block) → wr.heap[k]? = w4.heap[k]?) ∧ (∃ h, SumsAt wr wr.heap.size A n h) ∧ (∀ i, i < n → ∃ b off, A = some ⟨b, off, none⟩ ∧ wr.frozen? ⟨b, off + i, none⟩ = false) ∧ Below w0.heap.size w0 wr
theorem OnlyB.set {w0 wr w4 : World} {n b off : Nat} (h : OnlyB w0 wr w4 (some ⟨b, off, none⟩) n) (hg : w0.heap.size ≤ b) {i : Nat} (hi : i < n) (x : BitVec 32) : OnlyB w0 (wr.setCell ⟨b, off + i, none⟩ (.int .u32 (U x))) w4 (some ⟨b, off, none⟩) n := by
  obtain ⟨h1, h2, ⟨g, h3⟩, h4, h5⟩ := h
  have hsz : (wr.setCell ⟨b, off + i, none⟩ (.int .u32 (U x))).heap.size = wr.heap.size := by simp [World.setCell]
  refine ⟨by rw [hsz, h1], fun k hk => ?_, ⟨fun j => if j = i then x else g j, fun j hj => ?_⟩, fun j hj => ?_, h5.setCell hg _⟩
  · rw [← h2 k hk]
    simp only [World.setCell, Array.getElem?_modify]
    rw [if_neg (fun e => hk _ rfl e.symm)]
  · obtain ⟨b', off', e, hb, hc⟩ := h3 j hj
    injection e with e; injection e with e1 e2
    subst e1 e2
    refine ⟨b, off, rfl, by rw [hsz]; exact hb, ?_⟩
    by_cases hji : j = i
    · subst hji
      exact (World.cell?_setCell_same _ _ _ hc).trans (by simp)
    · exact (World.cell?_setCell_other _ _ _ _ (by intro e2; injection e2 with _ e3 _; omega)).trans (by rw [hc]; simp [hji])
  · obtain ⟨b', off', e, hf⟩ := h4 j hj
    exact ⟨b', off', e, by rw [World.frozen?_setCell]; exact hf⟩
theorem OnlyB.other {w0 wr w4 : World} {A A' : Option Addr} {n m B : Nat} {f : Nat → BitVec 32} (h : OnlyB w0 wr w4 A n) (ht : SumsAt w4 B A' m f) (hB : B ≤ w4.heap.size) (hn : 0 < m → ∀ a a', A = some a → A' = some a' → a'.block < B → a'.block ≠ a.block) : SumsAt wr wr.heap.size A' m f := fun i hi => by
  obtain ⟨b, off, e, hb, hc⟩ := ht i hi
  refine ⟨b, off, e, by rw [h.1]; omega, ?_⟩
  rw [← hc]
  unfold World.cell?
  rw [h.2.1 b (fun a ea => hn (by omega) a _ ea e hb)]
set_option maxRecDepth 100000 in
set_option maxHeartbeats 4000000 in
theorem walk (S : Txt) (z : Int) (A : Option Addr) (len cap : Nat) (f : Nat → BitVec 32) (w : World) (hh : Half w) (hs : S.1.size ≤ 1048576) (hz : z ≤ 9223372036854775807) (hlen : len ≤ 1048576) (hS : SumsAt w w.heap.size A len f) (hA0 : A = none → len = 0 ∧ cap = 0) :
    Calls Tryd.prog 3 #[.string S.1, .int .i64 z, .slice A len cap] w fun e w' => e = .returned (.bool true) ∧ Below w.heap.size w w' := by
  obtain ⟨i0, hi, hz0, hz1, hz2⟩ := info_parts infoU32
  have hsz : S.1.size ≤ 1099511627776 := by omega
  obtain ⟨xs, hxs⟩ : ∃ xs, chA z.toNat S = xs := ⟨_, rfl⟩
  have hc1 := rchunks_int S z hz hsz w
  rw [hxs] at hc1
  have HXS := Lib.hid hxs
  have HS0 := Lib.hid hS
  have hn : xs.length ≤ 1048576 := by have := chA_len z.toNat S.1.size S (Nat.le_refl _); rw [hxs] at this; omega
  clear hxs hS
  go_enter Tryd.func3, Tryd.ntmps3
  go_upto_region 4 with (first | (go_at_call 5; refine (speaks1_any _ hh).mono ?_; rintro e w' ⟨rfl, rfl⟩) | (go_at_call 6; refine hc1.mono ?_; rintro e w1 ⟨A1, c1, rfl, s1, o1, f1, b1⟩))
  have hh1 := hh.below b1 hh.lt
  have hc2 := chunks_sums S z z.toNat rfl hz hsz w1 hh1
  rw [HXS.out] at hc2
  have HCh := fun (w' : World) (h' : Half w') => chunks_sums S z z.toNat rfl hz hsz w' h'
  rw [HXS.out] at HCh
  go_upto_region 5 with (first | (go_at_call 7; (with_reducible refine hc2.mono ?_); rintro e w2 ⟨A2, c2, rfl, s2, o2, f2, b2⟩) | (go_at_call 7; refine (HCh _ (hh1.below b2 hh1.lt)).mono ?_; rintro e w3 ⟨A3, c3, rfl, s3, o3, f3, b3⟩))
  have hh3 := (hh1.below b2 hh1.lt).below b3 (hh1.below b2 hh1.lt).lt
  have H3 := Lib.hid hh3
  have HH0 := Lib.hid hh
  have B03 := Lib.hid ((b1.trans (b2.mono b1.size)).trans (b3.mono (Nat.le_trans b1.size b2.size)))
  have P1 := Lib.hid (And.intro s1 (And.intro o1 b2))
  have P2 := Lib.hid (And.intro s2 (And.intro o2 (And.intro f2 b3)))
  have P3 := Lib.hid (And.intro s3 o3)
  have Z12 := Lib.hid b1.size
  clear hc1 hc2 HCh hh1 hh3 s1 o1 f1 s2 o2 f2 s3 o3 f3 b1 b2 b3 hh
  go_cut [10] (fun s10 wx => (∃ A4 c4, s10 = .slice A4 len c4 ∧ Hid (SumsAt wx wx.heap.size A4 len f)) ∧ Hid (Below w3.heap.size w3 wx))
  case first =>
    have hso := (HS0.out.below B03.out)
    cases A with
    | none =>
      obtain ⟨rfl, rfl⟩ := hA0 rfl
      clear hso
      go_wp2_with (at_builtin; refine wpList_append_own_none rfl _ _ 22 rfl w3.heap.size 27 i0 1 Tryd.underlying22 hi _ 0 [] rfl (World.ownsRow_lit w3 #[] 0 (Nat.le_refl _) (Nat.zero_le _) rfl) rfl ?_)
      go_meet
      exact ⟨⟨_, _, rfl, Lib.hid (fun i hi => absurd hi (Nat.not_lt_zero _))⟩, Lib.hid ((Below.refl _ w3).alloc (Nat.le_refl _) _)⟩
    | some ad =>
      have HSO := Lib.hid hso
      clear hso
      go_wp2_with (at_builtin; refine wpList_append_own _ rfl _ _ 22 rfl w3.heap.size 27 i0 (.int .u32 0) 1 4 Tryd.underlying22 hi hz0 hz1 hz2 rfl (by decide) _ 0 [] rfl (World.ownsRow_lit w3 #[] 0 (Nat.le_refl _) (Nat.zero_le _) rfl) ad len cap (newsOf f len) rfl (newsOf_len f len) ?c1 ?c2 ?c3 ?c4 ?c5 ?_)
      case c1 => exact newsOf_cell B03 HSO
      case c2 => exact newsOf_one f len
      case c3 => unfold maxLen; omega
      case c4 => omega
      case c5 => simp
      intro v' w4 hown' hgrow' _
      obtain ⟨A4, c4, rfl, g1⟩ := sums_own hown'
      have G1 := Lib.hid g1
      have G2 := Lib.hid (lit_step (Below.refl w3.heap.size w3) rfl hgrow')
      clear hown' hgrow' g1
      go_wp2
      go_meet
      exact ⟨⟨_, _, rfl, G1⟩, G2⟩
  case rest =>
    obtain ⟨⟨A4, c4, rfl, hS4⟩, hBX⟩ := hcut
    have B3x := hBX.out
    have S1x := Lib.hid (SU.on (SU.of P1.out.1) ((P1.out.2.2.trans ((P2.out.2.2.2).mono P1.out.2.2.size)).trans (B3x.mono (Nat.le_trans P1.out.2.2.size P2.out.2.2.2.size))))
    have S2x := Lib.hid (SU.on (SU.of P2.out.1) (P2.out.2.2.2.trans (B3x.mono P2.out.2.2.2.size)))
    have S3x := Lib.hid (SU.on (SU.of P3.out.1) B3x)
    have S4x := Lib.hid (SU.of hS4.out)
    have S0x := Lib.hid (SU.on (SU.of HS0.out) (B03.out.trans (B3x.mono B03.out.size)))
    have HHx := Lib.hid (H3.out.below B3x H3.out.lt)
    have hR := Lib.hid (show bA z S len f = bA z S len f from rfl)
    clear B3x hA0
    have hn' : xs.length ≤ 1099511627776 := by omega
    have hlen' : len ≤ 1099511627776 := by omega
    go_wp2_with (fail)
    refine (same_on hn' S2x.out S1x.out (fun _ _ => rfl) _ (Lib.hid (Below.refl _ _))).mono ?_; rintro e w5 ⟨rfl, B5⟩
    go_wp2_with (fail)
    refine (same_on hn' S3x.out S1x.out (fun _ _ => rfl) _ B5).mono ?_; rintro e w6 ⟨rfl, B6⟩
    go_wp2_with (fail)
    refine (bad_on hz hsz hlen' HHx.out S4x.out _ rfl _ B6).mono ?_; rintro e w7 ⟨rfl, B7⟩
    go_wp2_with (fail)
    refine (rbad_on hz hsz hlen' S0x.out _ rfl _ B7).mono ?_; rintro e w8 ⟨rfl, B8⟩
    go_wp2_with (fail)
    refine (same_on hlen' S4x.out S0x.out (fun _ _ => rfl) _ B8).mono ?_; rintro e w9 ⟨rfl, B9⟩
    have H9 := Lib.hid (HHx.out.below B9.out HHx.out.lt)
    have B39 := Lib.hid (hBX.out.trans (B9.out.mono hBX.out.size))
    have B29 := Lib.hid (P2.out.2.2.2.trans (B39.out.mono P2.out.2.2.2.size))
    have B19 := Lib.hid (P1.out.2.2.trans (B29.out.mono P1.out.2.2.size))
    have B09 := Lib.hid (B03.out.trans (B39.out.mono B03.out.size))
    have Q1 := Lib.hid (P1.out.1.below B19.out)
    have Q2 := Lib.hid (P2.out.1.below B29.out)
    have Q3 := Lib.hid (P3.out.1.below B39.out)
    have O9 : Hid (OnlyB w w9 w9 A2 xs.length) := Lib.hid ⟨rfl, fun _ _ => rfl, ⟨fOf xs, fun i hi => by
        obtain ⟨b, off, e, hb, hc⟩ := Q2.out i hi
        exact ⟨b, off, e, by have := B29.out.size; omega, hc⟩⟩, fun i hi => by
        obtain ⟨b, off, e, hf⟩ := P2.out.2.2.1 i hi
        obtain ⟨b', off', e', hb, _⟩ := P2.out.1 i hi
        rw [e] at e'
        injection e' with e'; injection e' with e1 e2
        subst e1 e2
        exact ⟨b, off, e, (B29.out.frozen (p := ⟨b, _, none⟩) hb).trans hf⟩, B09.out⟩
    have HA2 : ∀ a, A2 = some a → 0 < xs.length → a.block < w2.heap.size := fun a e h0 => by
      obtain ⟨b, off, e', hb, _⟩ := P2.out.1 0 h0
      rw [e] at e'; injection e' with e'; subst e'; exact hb
    have HA2h := Lib.hid HA2
    clear HA2
    have HZ1 := Lib.hid P1.out.2.2.size
    have HZ0 := Lib.hid (show w.heap.size ≤ w1.heap.size from Z12.out)
    go_wp2
    go_loopw [11] (fun i wr => ∃ k : Nat, k ≤ xs.length ∧ i = .int .i64 k ∧ Hid (OnlyB w wr w9 A2 xs.length)) (fun i _ => xs.length - (intOf i).toNat)
    case atStart => exact ⟨0, Nat.zero_le _, rfl, O9⟩
    case round =>
      obtain ⟨k, hk, rfl, HO⟩ := hrel
      by_cases hlt : k < xs.length
      · have i1 : (k : Int) < (xs.length : Int) := by omega
        obtain ⟨g, hg⟩ := HO.out.2.2.1
        obtain ⟨b, off, rfl, hb, hc⟩ := hg k hlt
        obtain ⟨b', off', e, hf⟩ := HO.out.2.2.2.1 k hlt
        injection e with e; injection e with e1 e2
        subst e1 e2
        have hx : bits BinOp.xor IntKind.u32 (U (g k)) 77 = U (g k ^^^ 77#32) := U_xor (g k) 77#32
        have HN := Lib.hid (HO.out.set (by have h1 := P2.out.2.1 _ rfl; have h2 := HZ0.out; exact Nat.le_trans h2 h1) hlt (g k ^^^ 77#32))
        clear hg hb
        go_wp2
        go_roundw
        case rel => exact ⟨k + 1, by omega, by go_num, HN⟩
        case measure => simp [intOf]; omega
      · have i1 : ¬ (k : Int) < (xs.length : Int) := by omega
        have X1 := Lib.hid (HO.out.other Q1.out (by have h1 := B19.out.size; exact h1) (fun _ a a' e e' hlt' => by
          have h1 := P2.out.2.1 _ e
          omega))
        have X3 := Lib.hid (HO.out.other Q3.out (by have h1 := B39.out.size; exact h1) (fun h0 a a' e e' _ => by
          have h1 := P3.out.2 _ e'
          have h2 := HA2h.out a e h0
          omega))
        have BR := Lib.hid HO.out.2.2.2.2
        have hhr := HH0.out.below BR.out HH0.out.lt
        have HHR := Lib.hid hhr
        have hst := same_true A3 A1 xs.length c3 c1 (fOf xs) (fOf xs) wr hn' X3.out X1.out (fun _ _ => rfl)
        clear hhr
        go_wp2_with (fail)
        refine hst.mono ?_; rintro e w10 ⟨rfl, m, hm⟩
        have B10 : Hid (Below w.heap.size w w10) := Lib.hid (by rw [hm]; exact below_drewN BR.out m)
        have X10 : Hid (SumsAt w10 w10.heap.size A1 xs.length (fOf xs)) := Lib.hid (by rw [hm]; exact X1.out)
        have h10 := HH0.out.below B10.out HH0.out.lt
        have hc10 := chunks_sums S z z.toNat rfl hz hsz w10 h10
        rw [HXS.out] at hc10
        clear hm hst h10
        go_wp2_with (fail)
        refine hc10.mono ?_; rintro e w11 ⟨A5, c5, rfl, s5, _, _, b5⟩
        have B11 := Lib.hid (B10.out.trans (b5.mono B10.out.size))
        have X11 := Lib.hid (X10.out.below b5)
        have hsz11 := b5.size
        have X11' : Hid (SumsAt w11 w11.heap.size A1 xs.length (fOf xs)) := Lib.hid (fun i hi => by
          obtain ⟨b, off, e, hb, hc⟩ := X11.out i hi
          exact ⟨b, off, e, by omega, hc⟩)
        have hst2 := same_true A5 A1 xs.length c5 c1 (fOf xs) (fOf xs) w11 hn' s5 X11'.out (fun _ _ => rfl)
        clear s5 b5 hc10 hsz11
        go_wp2_with (fail)
        refine hst2.mono ?_; rintro e w12 ⟨rfl, m, hm⟩
        have B12 : Hid (Below w.heap.size w w12) := Lib.hid (by rw [hm]; exact below_drewN B11.out m)
        have X12 : Hid (SumsAt w12 w12.heap.size A1 xs.length (fOf xs)) := Lib.hid (by rw [hm]; exact X11'.out)
        clear hm hst2
        by_cases hz1 : z < 1
        · go_wp2
          go_ret
          exact ⟨rfl, B12.out⟩
        · have hbd := bad_int S z hz hsz A1 xs.length c1 hn' (fOf xs) w12 (HH0.out.below B12.out HH0.out.lt) X12.out
          have hbn : bA z S xs.length (fOf xs) = -1 := by unfold bA; rw [if_neg hz1, HXS.out]; exact bad_none xs
          rw [hbn] at hbd
          clear hbn
          go_wp2_with (fail)
          refine hbd.mono ?_; rintro e w13 ⟨rfl, hb13⟩
          have B13 := Lib.hid (B12.out.trans (hb13.mono B12.out.size))
          clear hb13
          go_wp2
          go_ret
          exact ⟨rfl, B13.out⟩

theorem contractUpto (H : Type) (enc : TypeId × Value → H) (W : World) (base : Nat) (args : Array Value) (ds gs : List (DataW H)) (before : List MemPlace)
    (hval : ∀ (j : Nat) t v, Tryd.f3.params[j]? = some t → args[j]? = some v → Value.okWide Tryd.prog W .any base t v)
    (hW : DataW.Whole enc Tryd.prog Tryd.f3.params.toList Rows.crcChunksSpec.vars false W args.toList ds gs before) (hL : laidMetH Tryd.prog Rows.crcChunksRow.laid W)
    (hz : (DataW.weightsEach Tryd.prog (Tryd.f3.params.toList ++ []) (ds ++ gs)).all (· ≤ reachBytes) = true) (hk : Rows.uptoSmall H (ds ++ gs) = true) :
    Calls Tryd.prog 3 args W fun e W' => ∃ v, e = .returned v ∧ Rows.crcChunksSpec.post enc Tryd.prog Tryd.f3 false true false false W args v W' := by
  have hW' := hW
  obtain ⟨p, q, hA0, hV, rfl, hfz, hnd⟩ := hW
  have hA : DataW.TrodAll enc Tryd.prog W 0 (fun _ => true) true Tryd.f3.params.toList args.toList ds p := hA0
  rw [Tryd.params3] at hA hval hz
  obtain ⟨v0, vs0, d0, ds0, p0, q0, hargs, rfl, rfl, h0, r0⟩ := trodAll_cons hA
  obtain ⟨v1, vs1, d1, ds1, p1, q1, rfl, rfl, rfl, h1, r1⟩ := trodAll_cons r0
  obtain ⟨v2, vs2, d2, ds2, p2, q2, rfl, rfl, rfl, h2, r2⟩ := trodAll_cons r1
  obtain ⟨rfl, rfl, rfl⟩ := trodAll_nil r2
  obtain rfl : args = #[v0, v1, v2] := by cases args; simp_all
  obtain ⟨rfl, rfl⟩ := trodVars_none hV
  obtain ⟨x0, rfl, rfl, rfl, w0⟩ := open_string Tryd.underlying9 (hval 0 9 v0 rfl rfl) h0
  have b0 : x0.size ≤ 140737488351232 := by have := sized_string hz (j := 0) (t := 9) rfl rfl; simpa [reachBytes] using this
  obtain ⟨x1, rfl, rfl, rfl, w1⟩ := open_int Tryd.underlying3 (hval 1 3 v1 rfl rfl) h1
  have b1 := i64_of_wf w1
  have hk0 : Rows.uptoBulk d2 ≤ 1048576 := by have h := of_decide_eq_true hk; simp only [List.append_nil, Rows.uptoBulkAll] at h; omega
  obtain ⟨A, len, cap, f, rfl, hlen, hS, hnil⟩ := open_sums (hval 2 22 v2 rfl rfl) h2 hk0
  have hbs : x0.size ≤ 1048576 := by
    have h := of_decide_eq_true hk
    simp only [List.append_nil, Rows.uptoBulkAll, Rows.uptoBulk] at h
    have e0 : x0.data.toList.length = x0.size := by simp
    omega
  have hb : x0.size ≤ 140737488351232 := by omega
  clear hA0
  refine (walk ⟨x0, hb⟩ x1 A len cap f W (half_of hL) hbs b1.2 hlen hS hnil).mono fun e W' ⟨he, hb⟩ => ?_
  subst he
  exact ⟨_, rfl, law_end hW' rfl rfl hb laidOut (by kernel_rfl) (by kernel_rfl) Tryd.underlying4⟩

theorem reads (os : Os) {H : Type} (enc : TypeId × Value → H) : ∃ places, DataW.whole enc Tryd.prog ((laidWorld os).forCall (fun _ _ => 0) ⟨#[], #[.string ⟨#[]⟩, .int .i64 0, .slice none 0 0], []⟩).memory Tryd.f3.params.toList Rows.crcChunksSpec.vars false [Value.string ⟨#[]⟩, Value.int .i64 0, Value.slice none 0 0] 8 = some ([.lit (.string []), .lit (.int .i64 0), .nil], [], places) :=
  ⟨[], by kernel_rfl⟩

set_option maxRecDepth 100000 in
theorem lifted (os : Os) (started : os.Started) (H : Type) (enc : TypeId × Value → H) (F : Stop.Interp) :
    ReturnsInHanded {} Tryd.checked os 3 .any ((Rows.OpenSpec.upto Rows.crcChunksSpec).preRow enc Tryd.prog Tryd.f3 Rows.crcChunksUptoRow.domain false Rows.crcChunksUptoRow.laid) (((Rows.OpenSpec.upto Rows.crcChunksSpec).at F).post enc Tryd.prog Tryd.f3 false true false false) := by
  obtain ⟨places, hx⟩ := reads os enc
  have laid_met : laidMet Tryd.prog Rows.crcChunksUptoRow.laid ((laidWorld os).forCall (fun _ _ => 0) ⟨#[], #[.string ⟨#[]⟩, .int .i64 0, .slice none 0 0], []⟩).memory := (laidMet_of_run' 8 (by kernel_rfl) (by kernel_rfl))
  refine returnsInHanded_of_row (C := Tryd.checked) (s := Rows.OpenSpec.upto Rows.crcChunksSpec) own started (by kernel_rfl) Tryd.func3
    (witness_row_at (enc := enc) (C := Tryd.checked) false (laidWorld os) #[.string ⟨#[]⟩, .int .i64 0, .slice none 0 0] rfl (by kernel_rfl) (by kernel_rfl) (by kernel_rfl)
      (OpenSpec.preRow_of_cond 8 hx (by kernel_rfl) (fun k hk => by cases hk; kernel_rfl) (by kernel_rfl) laid_met)) ?_
  intro W base args ds gs before hval hW _ hcond hz hL _ _
  exact contractUpto H enc W base args ds gs before hval hW hL hz (hcond _ rfl)

theorem said : Rows.CrcChunksUptoSaid :=
  OpenClaim.holds_of_cond 3 Tryd.f3 rfl rfl rfl rfl rfl rfl rfl ⟨rfl, rfl, rfl, rfl, rfl⟩ rfl rfl rfl rfl rfl (by kernel_rfl) Tryd.func3 (by kernel_rfl)
    (of_decide_eq_true (by kernel_rfl)) (by unfold Func.isWrapper; first | (rw [if_pos (by decide +kernel)]; kernel_rfl) | (rw [if_neg (by decide +kernel)]; exact ⟨rfl, rfl⟩))
    (fun os started H enc _ F => by rw [OpenClaim.pre_eq_preRow]; exact lifted os started H enc F)

theorem plain (f : FuncId) (fn : Func) (hf : Tryd.pinned.checked.prog.funcNamed "mahout/mahoutlaw01.CrcChunks" = some f) (hfn : Tryd.pinned.checked.prog.funcs[f]? = some fn) :
    ∀ (j : Nat) t, fn.params[j]? = some t → Tryd.pinned.checked.prog.wantsStandIn t = false := by
  obtain rfl : f = 3 := Option.some.inj ((show Tryd.prog.funcNamed "mahout/mahoutlaw01.CrcChunks" = some 3 by kernel_rfl).symm.trans hf) |>.symm
  obtain rfl : fn = Tryd.f3 := (Option.some.inj (Tryd.func3.symm.trans hfn)).symm
  exact fun j t ht => by
    rw [Tryd.params3] at ht
    have hm : t ∈ [9, 3, 22] := by simpa using Array.mem_of_getElem? ht
    have hall : ([9, 3, 22].all fun u => !Tryd.prog.wantsStandIn u) = true := by kernel_rfl
    exact (show Tryd.prog.wantsStandIn t = false by simpa using List.all_eq_true.1 hall t hm)
/-- THE CARD -/
theorem card : Rows.CrcChunksUptoCardSaid :=
  Claim7.holds_tied_plain_at .later [] _ _ _ _ said (fun _ h => by cases h) (by kernel_rfl) (fun _ h => by cases h) crcChunksUpto_row_tie rfl ⟨rfl, rfl⟩ (by kernel_rfl) rfl (fun f fn hf hfn => ⟨by kernel_rfl, plain f fn hf hfn⟩) (by kernel_rfl)

end Go.Proofs.YtgeigimdmhjddaaDoor.fnCrcChunks
