/- JournalKeeps: whatever crashes: found are the last image, every record that was synced behind it, and a beginning of the others. -/
import Derived.Test.YtlflfaldnpcjcaaGreatDoorJourCnt
import Derived.Test.YtlflfaldnpcjcaaGreatDoorJourTx2
import Derived.Test.YtlflfaldnpcjcaaGreatDoorJnlF
import Derived.Test.YtlflfaldnpcjcaaGreatDoorJnlC
import Derived.Deep.DeepAppendRoom
import Derived.Test.YtlflfaldnpcjcaaGreatDoorLawEnd
namespace Go.Proofs.YtlflfaldnpcjcaaGreatDoor.fnJournalKeeps
open Go.ChangeShapes Go.WideShapes Go.ChangeAt Go.RowKit Go.WideMaps Go.WideElems
open Go.ChangeMaps (open_string)

noncomputable def laidWorld (os : Os) : World := laidWorldJ os
/-- the law's row of records lies beside the disk -/
structure Row (W w : World) (j : Nat) (S : Nat → Prop) (ao : Option Addr) (ca : Nat) (bs : List (List UInt8)) : Prop where
  row : RowO w W.heap.size ao ca bs
  ap : ∀ g, ao = some ⟨g, 0, none⟩ → ¬ S g ∧ ¬ g = j
theorem row_nil (W w : World) (j : Nat) (S : Nat → Prop) : Row W w j S none 0 [] := ⟨⟨rfl, .inl ⟨rfl, rfl⟩⟩, fun _ h => by cases h⟩
theorem Row.step {W w w' : World} {j ca : Nat} {S S' : Nat → Prop} {ao : Option Addr} {bs : List (List UInt8)} (h : Row W w j S ao ca bs) (k : JQ w w' j S S') : Row W w' j S' ao ca bs := by
  obtain ⟨⟨h0, hr⟩, ha⟩ := h
  rcases hr with hr | ⟨g, cap', cur, h1, h2, h3, h4⟩
  · refine ⟨⟨h0, .inl hr⟩, fun g hg => ?_⟩
    obtain ⟨hr, _⟩ := hr
    injection hr with hr _ _
    rw [hg] at hr
    cases hr
  · have hg : ao = some ⟨g, 0, none⟩ := by injection h1
    have hlt := (Array.getElem?_eq_some_iff.1 h3).1
    obtain ⟨a1, a2⟩ := ha g hg
    refine ⟨⟨h0, .inr ⟨g, cap', cur, h1, h2, (k.t.block g hlt (fun e => e.elim a1 a2)).trans h3, h4⟩⟩, fun g' hg' => ?_⟩
    rw [hg] at hg'
    injection hg' with hg'
    injection hg' with hg'
    subst hg'
    exact ⟨fun e => (k.s g e).elim a1 (by omega), a2⟩
theorem str_back (t : ByteArray) : strV t.data.toList = .string t := by
  show Value.string ⟨t.data.toList.toArray⟩ = _
  rw [Array.toArray_toList]
theorem rowo_olds {w : World} {B ca : Nat} {ao : Option Addr} {bs : List (List UInt8)} (h : RowO w B ao ca bs) : (ao = none → bs.length = 0 ∧ ca = 0) ∧ ∀ b, ao = some b → ∀ j u, (bs.map strV)[j]? = some u → w.cell? (b.add j) = some u := by
  have ht := h.text
  refine ⟨fun e => ?_, fun b hb j u hu => ?_⟩
  · obtain ⟨_, h⟩ := h
    rcases h with ⟨h, _⟩ | ⟨g, cap', cur, h1, _⟩
    · injection h with _ h2 h3
      exact ⟨h2, h3⟩
    · injection h1 with h1
      rw [e] at h1
      cases h1
  · have hj : j < bs.length := by
      have := (List.getElem?_eq_some_iff.1 hu).1
      simpa using this
    obtain ⟨g, h1, _, _, h4⟩ := ht j hj
    rw [hb] at h1
    injection h1 with h1
    subst h1
    rw [List.getElem?_map, List.getElem?_eq_getElem hj] at hu
    injection hu with hu
    rw [← hu]
    rw [add_plain, Nat.zero_add]
    exact h4
theorem row_grow {W w w' : World} {p j m b i bl : Nat} {S : Nat → Prop} {img t : ByteArray} {bs : List (List UInt8)} {cs : List (List UInt8)} {v' : Value} (hK : KSt W w p j S img cs m b i) (hbl : bl = bs.length) (hr : w'.ownsRow w.heap.size 9 1 v' (bl + 1) (bs.map strV ++ [.string t])) (g : w.grownBy w' none) :
    ∃ ao' ca', v' = .slice ao' (bl + 1) ca' ∧ Hid (KSt W w' p j S img cs m b i ∧ Row W w' j S ao' ca' (bs ++ [t.data.toList])) := by
  obtain ⟨o1, o2, o3, _⟩ := hK.own
  have hK' := hK.grown g (fun b hb => by cases hb)
  have hx : (bs ++ [t.data.toList]).map strV = bs.map strV ++ [.string t] := by rw [List.map_append, List.map_cons, str_back, List.map_nil]
  have hl : (bs ++ [t.data.toList]).length = bl + 1 := by rw [hbl, List.length_append]; rfl
  obtain ⟨h0, hr⟩ := hr
  rcases hr with ⟨_, h⟩ | ⟨q, cap', cur, h1, h2, h3, h4⟩
  · omega
  · refine ⟨_, cap', h1, Lib.hid ⟨hK', ⟨⟨?_, .inr ⟨q, cap', cur, by rw [hl], Nat.le_trans o3.size h2, h3, ?_⟩⟩, fun g' hg' => ?_⟩⟩⟩
    · rw [hx, hl]; exact h0
    · rw [hx, hl]; exact h4
    · injection hg' with hg'
      injection hg' with hg'
      subst hg'
      exact ⟨fun e => by have := o1 _ e; omega, fun e => by omega⟩
theorem row_spare {W w w' : World} {p j ca m b i bl q : Nat} {S : Nat → Prop} {img t : ByteArray} {bs : List (List UInt8)} {cs : List (List UInt8)} (hK : KSt W w p j S img cs m b i) (hR : Row W w j S (some ⟨q, 0, none⟩) ca bs) (hbl : bl = bs.length) (hr : w'.ownsRow W.heap.size 9 1 (.slice (some ⟨q, 0, none⟩) (bl + 1) ca) (bl + 1) (bs.map strV ++ [.string t])) (g : w.grownBy w' (some q)) :
    Hid (KSt W w' p j S img cs m b i ∧ Row W w' j S (some ⟨q, 0, none⟩) ca (bs ++ [t.data.toList])) := by
  have hx : (bs ++ [t.data.toList]).map strV = bs.map strV ++ [.string t] := by rw [List.map_append, List.map_cons, str_back, List.map_nil]
  have hl : (bs ++ [t.data.toList]).length = bl + 1 := by rw [hbl, List.length_append]; rfl
  refine Lib.hid ⟨hK.grown g (fun b hb => ?_), ⟨?_, hR.ap⟩⟩
  · injection hb with hb
    subst hb
    exact ⟨(hR.row.at_ rfl).1, hR.ap _ rfl⟩
  · unfold RowO
    rw [hx, hl]
    exact hr
theorem row_same {w w' : World} {B : Nat} {a : Option Addr} {bs : List (List UInt8)} (e : w.heap = w'.heap) (h : TextRow w B a bs) : TextRow w' B a bs := fun i hi => by
  obtain ⟨g, h1, h2, h3, h4⟩ := h i hi
  exact ⟨g, h1, h2, by rw [← e]; exact h3, by rw [← h4]; simp only [World.cell?, e]⟩
theorem row_take {w : World} {B : Nat} {a : Option Addr} {bs : List (List UInt8)} (m : Nat) (h : TextRow w B a bs) : TextRow w B a (bs.take m) := fun i hi => by
  have hi2 : i < bs.length := by rw [List.length_take] at hi; omega
  obtain ⟨g, h1, h2, h3, h4⟩ := h i hi2
  exact ⟨g, h1, h2, h3, by rw [h4, List.getElem_take]⟩
/-- the box of one act, beside the disk -/
structure JBx (w : World) (j : Nat) (S : Nat → Prop) (g : Nat) (x : JAc) : Prop where
  c0 : w.cell? ⟨g, 0, none⟩ = some (.int .i64 x.k)
  c1 : w.cell? ⟨g, 1, none⟩ = some (.int .i64 x.a)
  c2 : w.cell? ⟨g, 2, none⟩ = some (.int .i64 x.b)
  c3 : w.cell? ⟨g, 3, none⟩ = some (.string x.t)
  lt : g < w.heap.size
  ns : ¬ S g
  nj : ¬ g = j
theorem JBx.step {w w' : World} {j g : Nat} {S S' : Nat → Prop} {x : JAc} (h : JBx w j S g x) (k : JQ w w' j S S') : JBx w' j S' g x := by
  have e := k.t.block g h.lt (fun e => e.elim h.ns h.nj)
  exact ⟨(cell_eq e 0).trans h.c0, (cell_eq e 1).trans h.c1, (cell_eq e 2).trans h.c2, (cell_eq e 3).trans h.c3, Nat.lt_of_lt_of_le h.lt k.t.size, fun hs => (k.s g hs).elim h.ns (by have := h.lt; omega), h.nj⟩
/-- the world of the question, its box -/
abbrev SF (w7 : World) (q : Nat) (img : ByteArray) (v : Value) (w' : World) : Prop := Hid (∃ n, w' = w7.drewN n) ∧ w'.cell? ⟨q, 0, none⟩ = some (.string img) ∧ w'.cell? ⟨q, 1, none⟩ = some v
theorem sf_drewN {w7 w' : World} {q : Nat} {img : ByteArray} {v : Value} (h : SF w7 q img v w') (n : Nat) : SF w7 q img v (w'.drewN n) := by
  obtain ⟨h1, h2, h3⟩ := h
  obtain ⟨m, rfl⟩ := h1.out
  exact ⟨Lib.hid ⟨m + n, by simp [World.drewN, Nat.add_assoc]⟩, h2, h3⟩
theorem row_no_j {W w : World} {p j B ca m b i : Nat} {S : Nat → Prop} {img : ByteArray} {bs cs : List (List UInt8)} {ao : Option Addr} (h : KSt W w p j S img cs m b i) (r : RowO w B ao ca bs) {g : Nat} (hg : ao = some ⟨g, 0, none⟩) : ¬ g = j := by
  obtain ⟨n, s, k, im, ed, hk, hJ⟩ := h
  obtain ⟨cs, hc⟩ := hJ.jt.ty
  obtain ⟨_, r⟩ := r
  rcases r with ⟨h1, _⟩ | ⟨q, cap', cur, h1, h2, h3, _⟩
  · injection h1 with h1 _ _
    rw [hg] at h1
    cases h1
  · injection h1 with h1 _ _
    rw [hg] at h1
    injection h1 with h1
    injection h1 with h1
    subst h1
    intro e
    subst e
    rw [hc] at h3
    injection h3 with h3
    injection h3 with _ h3 _
    exact absurd h3 (by decide)
set_option maxRecDepth 100000 in
set_option maxHeartbeats 8000000 in
theorem walk (A : Option Addr) (len cap : Nat) (it : Nat → JAc) (W : World) (hh : Half W) (hp : Pw W) (hS : JActs W W.heap.size A len it) (hsum : sumJ it len ≤ 1048576) :
    Calls Tryz.prog 3 #[.slice A len cap] W fun e w' => e = .returned (.bool true) ∧ Below W.heap.size W w' := by
  have hlen : len ≤ 1048576 := Nat.le_trans (sumJ_len it len) hsum
  have HS := Lib.hid (And.intro hS hsum)
  have HT : Hid (Tabs W) := Lib.hid ⟨fun w' hb => hh.below hb hh.lt, fun w' hb => hp.below hb⟩
  have hs := speaks10_any W hh
  obtain ⟨i0, hi, hz0, hz1, hz2⟩ := info_parts infoStr
  clear hS hsum hh hp
  go_enter Tryz.func3, Tryz.ntmps3
  go_wp2_with (fail)
  refine hs.mono ?_
  rintro e w1 ⟨rfl, hb1⟩
  have hnew := new_K (w0 := W) 1099511627776 hb1
  rw [show (max 1099511627776 0 : Int) = 1099511627776 from rfl] at hnew
  clear hs
  go_wp2_with (fail)
  refine hnew.mono ?_
  rintro e w2 ⟨rfl, h2⟩
  obtain ⟨p, hp⟩ : ∃ p, p = w1.heap.size := ⟨_, rfl⟩
  obtain ⟨S0, hS0⟩ : ∃ S0 : Nat → Prop, S0 = fun b => b = w1.heap.size := ⟨_, rfl⟩
  have HD2 : Hid (DK W w2 p S0 1099511627776 0 [] []) := Lib.hid (by rw [hp, hS0]; exact h2.out.1)
  rw [← hp]
  clear h2 hnew hp hS0 hb1
  have ho1 := kst_first HD2 HT.out
  go_wp2_with (fail)
  refine ho1.mono ?_
  rintro ex w3 ⟨j, ao, cp0, S3, rfl, hJ3⟩
  clear ho1 HD2
  have HM0 : ∀ o1, Hid (KSt W (w3.alloc o1) p j S3 ⟨#[]⟩ [] 0 0 0) := fun o1 => Lib.hid (hJ3.out.1.below ((Below.refl _ _).alloc (Nat.le_refl _) o1))
  clear hJ3
  go_wp2_with (fail)
  go_loopw [4, 7, 8, 9, 10] (fun s4 s7 s8 s9 i wr => ∃ (k j : Nat) (S : Nat → Prop) (img : ByteArray) (bs : List (List UInt8)) (m : Nat) (ao : Option Addr) (ca bl : Nat), k ≤ len ∧ bl = bs.length ∧ s4 = .pointer (some ⟨j, 0, none⟩) ∧ s7 = .string img ∧ s8 = .slice ao bl ca ∧ s9 = .int .i64 (m : Int) ∧ i = .int .i64 (k : Int) ∧ Hid (KSt W wr p j S img bs m (sumJ it k) k ∧ Row W wr j S ao ca bs)) (fun _ _ _ _ i _ => len - (intOf i).toNat)
  case atStart => exact ⟨0, j, S3, ⟨#[]⟩, [], 0, none, 0, 0, Nat.zero_le _, rfl, rfl, rfl, rfl, rfl, rfl, Lib.hid ⟨(HM0 _).out, row_nil _ _ _ _⟩⟩
  case round =>
    obtain ⟨k, j, S, img, bs, m, ao, ca, bl, hk, hbl, rfl, rfl, rfl, rfl, rfl, HM⟩ := hrel
    clear HM0
    have HBL := Lib.hid hbl
    clear hbl
    by_cases hlt : k < len
    · obtain ⟨hok, b, off, rfl, hbw, hcell⟩ := HS.out.1 k hlt
      obtain ⟨x, hx⟩ : ∃ x, x = it k := ⟨_, rfl⟩
      rw [← hx] at hok hcell
      have hown := HM.out.1.own
      have hin := fun a u (ha : (jaCells x)[a]? = some u) => (hown.2.2.1.cell (p := ⟨b, off + k * 4 + a, none⟩) hbw).trans (hcell a u ha)
      have i0 := hin 0 _ rfl
      have i1 := hin 1 _ rfl
      have i2 := hin 2 _ rfl
      have i3 := hin 3 _ rfl
      rw [Nat.add_zero] at i0
      have hlt' : (k : Int) < (len : Int) := by omega
      obtain ⟨g, hg⟩ : ∃ g, g = wr.heap.size := ⟨_, rfl⟩
      obtain ⟨wx, hwx⟩ : ∃ wx, wx = wr.alloc (.cells #[.int .i64 x.k, .int .i64 x.a, .int .i64 x.b, .string x.t] 34) := ⟨_, rfl⟩
      have hbx : Below wr.heap.size wr wx := by rw [hwx]; exact (Below.refl _ _).alloc (Nat.le_refl _) _
      have hhx : wx.heap[g]? = some (.cells #[.int .i64 x.k, .int .i64 x.a, .int .i64 x.b, .string x.t] 34 (0, 0)) := by rw [hwx, hg]; exact heap_alloc_new wr _
      have HX : Hid (KSt W wx p j S img bs m (sumJ it k) k ∧ Row W wx j S ao ca bs ∧ JBx wx j S g x) := Lib.hid ⟨HM.out.1.below hbx, HM.out.2.step (JP.q (JP.bel hbx)), by simp [World.cell?, hhx], by simp [World.cell?, hhx], by simp [World.cell?, hhx], by simp [World.cell?, hhx], (Array.getElem?_eq_some_iff.1 hhx).1, fun e => by have := hown.1 g e; omega, fun e => by have := hown.2.1; omega⟩
      have hsk : sumJ it (k + 1) ≤ 1048576 := Nat.le_trans (sumJ_mono it hlt) HS.out.2
      have hsk1 : sumJ it k + (x.t.size + 1) = sumJ it (k + 1) := by rw [hx]; rfl
      have HN := Lib.hid (And.intro hsk (And.intro hsk1 hok))
      have hr5 := rem_five x.k hok.k
      clear hin hcell hbw hown HM hx hhx hbx hok hsk hsk1
      go_upto_region 14 with (fail)
      rw [← hwx, ← hg]
      clear hwx hg i0 i1 i2 i3
      obtain ⟨x0, x1, x2, x3, _, _, _⟩ := HX.out.2.2
      have hts : ¬ (1048576 : Int) < (x.t.size : Int) := by have := HN.out.1; have := HN.out.2.1; omega
      rcases (by omega : x.k % 5 = 0 ∨ x.k % 5 = 1 ∨ x.k % 5 = 2 ∨ x.k % 5 = 3 ∨ x.k % 5 = 4) with hr | hr | hr | hr | hr
      · rw [hr] at hr5
        -- [[
        have hap := kst_append x.t (Lib.hid HX.out.1) HT.out (by have := HN.out.1; have := HN.out.2.1; omega) (by omega)
        go_wp2_with (fail)
        refine hap.mono ?_
        rintro e w5 ⟨rfl, S5, h5⟩
        rw [HN.out.2.1] at h5
        have HX5 := Lib.hid (And.intro h5.out.1 (And.intro (HX.out.2.1.step h5.out.2) (HX.out.2.2.step h5.out.2)))
        clear hap h5 x0 x1 x2 x3 HX
        obtain ⟨x0, x1, x2, x3, _, _, _⟩ := HX5.out.2.2
        obtain ⟨wa, hwa⟩ : ∃ wa, wa = w5.alloc (.cells #[.string x.t] 9) := ⟨_, rfl⟩
        have hba : Below w5.heap.size w5 wa := by rw [hwa]; exact (Below.refl _ _).alloc (Nat.le_refl _) _
        have HA := Lib.hid (And.intro (HX5.out.1.below hba) (HX5.out.2.1.step (JP.q (JP.bel hba))))
        have hca : wa.cell? ⟨w5.heap.size, 0, none⟩ = some (.string x.t) := by rw [hwa]; simp
        have hkl : k + 1 ≤ len := hlt
        have hbk : bl ≤ 1048576 := by have := HX5.out.1.own.2.2.2.2; rw [List.length_append, ← HBL.out] at this; omega
        by_cases hroom : bl + 1 ≤ ca
        · obtain ⟨q, rfl⟩ : ∃ q, ao = some ⟨q, 0, none⟩ := by
            cases ao with
            | none => have := (rowo_olds HX5.out.2.1.row).1 rfl; omega
            | some a =>
              obtain ⟨_, ho⟩ := HX5.out.2.1.row
              rcases ho with ⟨h, _⟩ | ⟨q, cap', cur, h1, _⟩
              · injection h with h; cases h
              · injection h1 with h1; exact ⟨q, h1⟩
          have HRW := Lib.hid (And.intro hwa hba)
          have hown := HA.out.2.row
          unfold RowO at hown
          rw [← HBL.out] at hown
          rw [hwa] at hown hca
          clear hba hwa
          go_wp2_with (at_builtin; refine wpList_append_own_spare _ rfl _ _ 27 rfl W.heap.size 9 i0 1 Tryz.underlying27 hi hz1 q bl ca (bs.map strV) rfl hown ⟨w5.heap.size, 0, none⟩ 1 1 [.string x.t] rfl rfl ?c1 ?c2 ?c3 ?_)
          case c1 =>
            intro a u hj
            match a, hj with
            | 0, hj => simp at hj; subst hj; simp [Addr.add]
          case c2 => intro u hu; simp at hu; subst hu; rfl
          case c3 => omega
          intro w6 hown6 hg6
          have HE := row_spare HA.out.1 HA.out.2 HBL.out hown6 (by rw [HRW.out.1]; exact hg6)
          clear hown hown6 hg6
          go_wp2_with (fail)
          go_roundw
          case rel => exact ⟨k + 1, j, S5, img, bs ++ [x.t.data.toList], m, _, ca, bl + 1, hkl, by rw [List.length_append, ← HBL.out]; rfl, rfl, rfl, rfl, rfl, by first | rfl | go_num, HE⟩
          case measure => simp [intOf]; omega
        · have HRW := Lib.hid (And.intro hwa hba)
          obtain ⟨o1, o2⟩ := rowo_olds HA.out.2.row
          rw [← HBL.out] at o1
          rw [hwa] at o2 hca
          have e9 : (w5.alloc (.cells #[.string x.t] 9)).heap.size = w5.heap.size + 1 := by simp
          have HE9 := Lib.hid e9
          clear hba hwa e9
          go_wp2_with (at_builtin; refine wpList_append_grows _ rfl _ _ 27 rfl 9 i0 (.string ⟨#[]⟩) 1 16 Tryz.underlying27 hi hz0 hz1 hz2 rfl (by decide) ao bl ca (bs.map strV) rfl o1 (by rw [List.length_map, ← HBL.out, Nat.mul_one]) o2 ⟨w5.heap.size, 0, none⟩ 1 1 [.string x.t] rfl rfl ?c1 ?c2 ?c3 ?c4 ?c5 ?_)
          case c1 =>
            intro a u hj
            match a, hj with
            | 0, hj => simp at hj; subst hj; simp [Addr.add]
          case c2 => intro u hu; simp at hu; subst hu; rfl
          case c3 => omega
          case c4 => unfold maxLen; omega
          case c5 => omega
          intro v6 w6 hown6 hg6
          obtain ⟨ao6, ca6, rfl, HE⟩ := row_grow (w := wa) HA.out.1 HBL.out (by rw [HRW.out.1, HE9.out]; exact hown6) (by rw [HRW.out.1]; exact hg6)
          clear o1 o2 hown6 hg6
          go_wp2_with (fail)
          go_roundw
          case rel => exact ⟨k + 1, j, S5, img, bs ++ [x.t.data.toList], m, ao6, ca6, bl + 1, hkl, by rw [List.length_append, ← HBL.out]; rfl, rfl, rfl, rfl, rfl, by first | rfl | go_num, HE⟩
          case measure => simp [intOf]; omega
        -- ]]
      · rw [hr] at hr5
        -- [[
        have hap := kst_sync (Lib.hid HX.out.1) (by have := HN.out.1; have := HN.out.2.1; omega) (by omega)
        rw [← HBL.out] at hap
        go_wp2_with (fail)
        refine hap.mono ?_
        rintro e w5 ⟨rfl, S5, h5⟩
        have HE : Hid (KSt W w5 p j S5 img bs bl (sumJ it (k + 1)) (k + 1) ∧ Row W w5 j S5 ao ca bs) := Lib.hid ⟨h5.out.1.wide (by have := HN.out.2.1; omega), HX.out.2.1.step h5.out.2⟩
        clear hap h5 x0 x1 x2 x3 HX
        go_wp2_with (fail)
        go_roundw
        case rel => exact ⟨k + 1, j, S5, img, bs, bl, ao, ca, bl, hlt, HBL.out, rfl, rfl, rfl, rfl, by first | rfl | go_num, HE⟩
        case measure => simp [intOf]; omega
        -- ]]
      · rw [hr] at hr5
        -- [[
        have hap := kst_roll x.t (Lib.hid HX.out.1) HT.out (by have := HN.out.1; have := HN.out.2.1; omega) (by omega) (by omega)
        go_wp2_with (fail)
        refine hap.mono ?_
        rintro e w5 ⟨rfl, S5, h5⟩
        have HE : Hid (KSt W w5 p j S5 x.t [] 0 (sumJ it (k + 1)) (k + 1) ∧ JBx w5 j S5 g x) := Lib.hid ⟨h5.out.1.wide (by have := HN.out.2.1; omega), HX.out.2.2.step h5.out.2⟩
        clear hap h5 x0 x1 x2 x3 HX
        obtain ⟨x0, x1, x2, x3, _, _, _⟩ := HE.out.2
        go_wp2_with (fail)
        go_roundw
        case rel => exact ⟨k + 1, j, S5, x.t, [], 0, none, 0, 0, hlt, rfl, rfl, rfl, rfl, rfl, by first | rfl | go_num, Lib.hid ⟨HE.out.1, row_nil _ _ _ _⟩⟩
        case measure => simp [intOf]; omega
        -- ]]
      all_goals
        rw [hr] at hr5
        have hap := kst_crash x.a x.b (Lib.hid HX.out.1) (by have := HN.out.1; have := HN.out.2.1; omega) (by omega)
        go_wp2_with (fail)
        refine hap.mono ?_
        rintro e w5 ⟨rfl, S5, h5⟩
        have HW5 : Hid (W.heap.size ≤ w5.heap.size) := Lib.hid (Nat.le_trans HX.out.1.own.2.2.1.size h5.out.2.t.size)
        have HR5 : Hid (Row W w5 j S5 ao ca bs) := Lib.hid (HX.out.2.1.step (JP.q h5.out.2))
        have HC5 := Lib.hid h5.out.1
        clear hap h5 x0 x1 x2 x3 HX
        have hop := kst_open HC5 HT.out (by have := HN.out.1; have := HN.out.2.1; omega) (by omega)
        go_wp2_with (fail)
        refine hop.mono ?_
        rintro e w6 ⟨j6, ao6, ca6, S6, m2, rfl, hm2, h6⟩
        have HR6 := Lib.hid (HR5.out.step (JP.q (j := j) h6.out.2.2.1))
        have H6 := Lib.hid (And.intro h6.out.1 (And.intro h6.out.2.1 h6.out.2.2.2))
        rw [← HBL.out] at hm2
        clear hop h6 HR5 HC5
        obtain ⟨q7, hq7⟩ : ∃ q7, q7 = w6.heap.size := ⟨_, rfl⟩
        obtain ⟨w7, hw7⟩ : ∃ w7, w7 = w6.alloc (.cells #[.string img, .slice ao6 m2 ca6] 29) := ⟨_, rfl⟩
        have hb7 : Below w6.heap.size w6 w7 := by rw [hw7]; exact (Below.refl _ _).alloc (Nat.le_refl _) _
        have hh7 : w7.heap[q7]? = some (.cells #[.string img, .slice ao6 m2 ca6] 29 (0, 0)) := by rw [hw7, hq7]; exact heap_alloc_new w6 _
        have d0 : w7.cell? ⟨q7, 0, none⟩ = some (.string img) := by simp [World.cell?, hh7]
        have d1 : w7.cell? ⟨q7, 1, none⟩ = some (.slice ao6 m2 ca6) := by simp [World.cell?, hh7]
        have HJ7 : Hid (KSt W w7 p j6 S6 img (bs.take m2) m2 (sumJ it k) (k + 1) ∧ RowO w7 w5.heap.size ao6 ca6 (bs.take m2) ∧ RowO w7 W.heap.size ao ca bs) := Lib.hid ⟨H6.out.1.below hb7, H6.out.2.1.keep (Nat.le_refl _) fun g _ h2 => hb7.block g h2, HR6.out.row.keep (Nat.le_refl _) fun g _ h2 => hb7.block g h2⟩
        go_upto_region 19 with (fail)
        rw [← hw7, ← hq7]
        have hlm : (bs.take m2).length = m2 := by rw [List.length_take, ← HBL.out]; omega
        have HLM := Lib.hid (And.intro hlm (And.intro hw7 hq7))
        clear hh7 hb7 hw7 hq7 hlm
        have hca : bl ≤ ca := by
          obtain ⟨_, ho⟩ := HJ7.out.2.2
          rw [← HBL.out] at ho
          rcases ho with ⟨h, _⟩ | ⟨q, cap', cur, h1, _, _, h4, _⟩
          · injection h; omega
          · injection h1; omega
        have htx := fun (w' : World) (h : w7.heap = w'.heap) => texts10_any w5.heap.size W.heap.size ca6 ca ao6 ao (bs.take m2) w' (row_same h HJ7.out.2.1.text) (row_take m2 (row_same h HJ7.out.2.2.text)) (by have := HLM.out.1; have := HJ7.out.1.own.2.2.2.2; omega)
        rw [HLM.out.1] at htx
        have e1 : ¬ ((m2 : Int) < (m : Int)) := by omega
        have e2 : ¬ ((bl : Int) < (m2 : Int)) := by omega
        have e3 : (m2 : Int) ≤ (ca : Int) := by omega
        have e0 : (0 : Int) ≤ (m2 : Int) := by omega
        have f1 : decide ((m2 : Int) < (m : Int)) = false := by simpa using hm2.1
        have f2 : decide ((bl : Int) < (m2 : Int)) = false := by simpa using hm2.2
        have g1 : ¬ m2 < m := by omega
        have g2 : ¬ bl < m2 := by omega
        have g3 : m2 ≤ ca := by omega
        have HE7 := Lib.hid (And.intro hm2 hca)
        clear hca hm2
        have HEND : Hid (∀ w', Below w7.heap.size w7 w' → Hid (KSt W w' p j6 S6 img (bs.take m2) m2 (sumJ it (k + 1)) (k + 1) ∧ Row W w' j6 S6 ao6 ca6 (bs.take m2))) := Lib.hid fun w' hb => Lib.hid ⟨(HJ7.out.1.wide (by have := HN.out.2.1; omega)).below hb, HJ7.out.2.1.keep HW5.out fun g _ h2 => hb.block g h2, fun g hg => ⟨H6.out.2.2 g hg, row_no_j HJ7.out.1 HJ7.out.2.1 hg⟩⟩
        have HTX := Lib.hid htx
        have hS : SF w7 q7 img (.slice ao6 m2 ca6) w7.drew := ⟨Lib.hid ⟨1, rfl⟩, d0, d1⟩
        have HD0 := Lib.hid (And.intro d0 d1)
        clear htx d0 d1
        rcases (by cases ao with
          | none =>
            obtain ⟨o1, _⟩ := rowo_olds HJ7.out.2.2
            exact .inl ⟨rfl, (o1 rfl).2⟩
          | some a => exact .inr ⟨a, rfl⟩ : (ao = none ∧ ca = 0) ∨ ∃ a, ao = some a) with ⟨rfl, hc0⟩ | ⟨a, rfl⟩
        · obtain ⟨o1, _⟩ := rowo_olds HJ7.out.2.2
          have hb0 : bl = 0 := by rw [HBL.out]; exact (o1 rfl).1
          have hm0 : m2 = 0 := by have := HE7.out.1; omega
          have hs0 : m = 0 := by have := HE7.out.1; omega
          have htx0 := HTX.out
          rw [hc0, hm0] at htx0
          have HTX0 := Lib.hid htx0
          rw [hm0] at hS HD0
          have HZ := Lib.hid (And.intro hc0 (And.intro hb0 (And.intro hm0 hs0)))
          rw [hc0, hb0, hm0, hs0]
          clear o1 hc0 hb0 hm0 hs0 htx0 HTX e0 e1 e2 e3 f1 f2 g1 g2 g3 hr5
          go_wp2_with (fail)
          go_region_held3 (fun w' => SF w7 q7 img (.slice ao6 0 ca6) w') (first | assumption | exact ⟨Lib.hid ⟨_, rfl⟩, HD0.out.1, HD0.out.2⟩)
            ((go_at_call 12; refine (HTX0.out w7.drew rfl).mono ?_; rintro e w9 ⟨rfl, q9, rfl⟩; have hS9 := sf_drewN (by assumption) q9))
          clear hS
          obtain ⟨d0, d1⟩ := HD0.out
          go_wp2_with (fail)
          go_quiet (fail)
          go_wp2_with (fail)
          go_roundw
          case rel => exact ⟨k + 1, j6, S6, img, bs.take m2, m2, ao6, ca6, m2, hlt, HLM.out.1.symm, rfl, rfl, by rw [HZ.out.2.2.1], by rw [HZ.out.2.2.1]; rfl, by first | rfl | go_num, HEND.out _ ⟨rfl, rfl, rfl, Nat.le_refl _, fun _ _ => rfl⟩⟩
          case measure => simp [intOf]; omega
        ·
          -- [[
          go_wp2_with (fail)
          go_region_held3 (fun w' => SF w7 q7 img (.slice ao6 m2 ca6) w') (first | assumption | exact ⟨Lib.hid ⟨_, rfl⟩, HD0.out.1, HD0.out.2⟩)
            ((go_at_call 12; refine (HTX.out w7.drew rfl).mono ?_; rintro e w9 ⟨rfl, q9, rfl⟩; have hS9 := sf_drewN (by assumption) q9))
          clear hS
          obtain ⟨d0, d1⟩ := HD0.out
          go_wp2_with (fail)
          go_quiet (fail)
          go_wp2_with (fail)
          go_roundw
          case rel => exact ⟨k + 1, j6, S6, img, bs.take m2, m2, ao6, ca6, m2, hlt, HLM.out.1.symm, rfl, rfl, rfl, rfl, by first | rfl | go_num, HEND.out _ ⟨rfl, rfl, rfl, Nat.le_refl _, fun _ _ => rfl⟩⟩
          case measure => simp [intOf]; omega
          -- ]]
    · obtain rfl : k = len := by omega
      have hcn := kst_count HM.out.1
      rw [← HBL.out] at hcn
      go_wp2_with (fail)
      refine hcn.mono ?_
      rintro e w5 ⟨rfl, n5, rfl⟩
      clear hcn
      go_wp2_with (fail)
      go_ret
      exact ⟨rfl, HM.out.1.own.2.2.1.trans ⟨rfl, rfl, rfl, Nat.le_refl _, fun _ _ => rfl⟩⟩

set_option maxRecDepth 100000 in
theorem contractUpto (H : Type) (enc : TypeId × Value → H) (W : World) (base : Nat) (args : Array Value) (ds gs : List (DataW H)) (before : List MemPlace)
    (hval : ∀ (j : Nat) t v, Tryz.f3.params[j]? = some t → args[j]? = some v → Value.okWide Tryz.prog W .any base t v)
    (hW : DataW.Whole enc Tryz.prog Tryz.f3.params.toList Rows.journalKeepsSpec.vars false W args.toList ds gs before) (hL : laidMetH Tryz.prog Rows.journalKeepsRow.laid W)
    (hz : (DataW.weightsEach Tryz.prog (Tryz.f3.params.toList ++ []) (ds ++ gs)).all (· ≤ reachBytes) = true) (hk : Rows.uptoSmall H (ds ++ gs) = true) :
    Calls Tryz.prog 3 args W fun e W' => ∃ v, e = .returned v ∧ Rows.journalKeepsSpec.post enc Tryz.prog Tryz.f3 false true false false W args v W' := by
  have hW' := hW
  obtain ⟨p, q, hA0, hV, rfl, hfz, hnd⟩ := hW
  have hA : DataW.TrodAll enc Tryz.prog W 0 (fun _ => true) true Tryz.f3.params.toList args.toList ds p := hA0
  rw [Tryz.params3] at hA hval hz
  obtain ⟨v0, vs0, d0, ds0, p0, q0, hargs, rfl, rfl, h0, r0⟩ := trodAll_cons hA
  obtain ⟨rfl, rfl, rfl⟩ := trodAll_nil r0
  obtain rfl : args = #[v0] := by cases args; simp_all
  obtain ⟨rfl, rfl⟩ := trodVars_none hV
  have hk0 : Rows.uptoBulk d0 ≤ 1048576 := by have h := of_decide_eq_true hk; simp only [List.append_nil, List.cons_append, List.nil_append, Rows.uptoBulkAll] at h; omega
  obtain ⟨A, len, cap, it, rfl, hS, hsum⟩ := open_jacts (hval 0 22 v0 rfl rfl) h0
  have hsum2 : sumJ it len ≤ 1048576 := Nat.le_trans hsum hk0
  clear hA0
  refine (walk A len cap it W (half_in hL) (pow_in hL) hS hsum2).mono fun e W' ⟨he, hb⟩ => ?_
  subst he
  exact ⟨_, rfl, law_end hW' rfl rfl hb laidOut (by kernel_rfl) (by kernel_rfl) Tryz.underlying4⟩

theorem reads (os : Os) {H : Type} (enc : TypeId × Value → H) : ∃ places, DataW.whole enc Tryz.prog ((laidWorld os).forCall (fun _ _ => 0) ⟨#[], #[.slice none 0 0], []⟩).memory Tryz.f3.params.toList Rows.journalKeepsSpec.vars false [Value.slice none 0 0] 8 = some ([.nil], [], places) :=
  ⟨[], by kernel_rfl⟩

set_option maxRecDepth 100000 in
theorem lifted (os : Os) (started : os.Started) (H : Type) (enc : TypeId × Value → H) (F : Stop.Interp) :
    ReturnsInHanded {} Tryz.checked os 3 .any ((Rows.OpenSpec.upto Rows.journalKeepsSpec).preRow enc Tryz.prog Tryz.f3 Rows.journalKeepsUptoRow.domain false Rows.journalKeepsUptoRow.laid) (((Rows.OpenSpec.upto Rows.journalKeepsSpec).at F).post enc Tryz.prog Tryz.f3 false true false false) := by
  obtain ⟨places, hx⟩ := reads os enc
  have laid_met : laidMet Tryz.prog Rows.journalKeepsUptoRow.laid ((laidWorld os).forCall (fun _ _ => 0) ⟨#[], #[.slice none 0 0], []⟩).memory := (laidMet_of_run' 8 (by kernel_rfl) (by kernel_rfl))
  refine returnsInHanded_of_row (C := Tryz.checked) (s := Rows.OpenSpec.upto Rows.journalKeepsSpec) own started (by kernel_rfl) Tryz.func3
    (witness_row_at (enc := enc) (C := Tryz.checked) false (laidWorld os) #[.slice none 0 0] rfl (by kernel_rfl) (by kernel_rfl) (by kernel_rfl)
      (OpenSpec.preRow_of_cond 8 hx (by kernel_rfl) (fun k hk => by cases hk; kernel_rfl) (by kernel_rfl) laid_met)) ?_
  intro W base args ds gs before hval hW _ hcond hz hL _ _
  exact contractUpto H enc W base args ds gs before hval hW hL hz (hcond _ rfl)

theorem said : Rows.JournalKeepsUptoSaid :=
  OpenClaim.holds_of_cond 3 Tryz.f3 rfl rfl rfl rfl rfl rfl rfl ⟨rfl, rfl, rfl, rfl, rfl⟩ rfl rfl rfl rfl rfl (by kernel_rfl) Tryz.func3 (by kernel_rfl)
    (of_decide_eq_true (by kernel_rfl)) (by unfold Func.isWrapper; first | (rw [if_pos (by decide +kernel)]; kernel_rfl) | (rw [if_neg (by decide +kernel)]; exact ⟨rfl, rfl⟩))
    (fun os started H enc _ F => by rw [OpenClaim.pre_eq_preRow]; exact lifted os started H enc F)

theorem plain (f : FuncId) (fn : Func) (hf : Tryz.pinned.checked.prog.funcNamed "mahout/mahoutlaw10.JournalKeeps" = some f) (hfn : Tryz.pinned.checked.prog.funcs[f]? = some fn) :
    ∀ (j : Nat) t, fn.params[j]? = some t → Tryz.pinned.checked.prog.wantsStandIn t = false := by
  obtain rfl : f = 3 := Option.some.inj ((show Tryz.prog.funcNamed "mahout/mahoutlaw10.JournalKeeps" = some 3 by kernel_rfl).symm.trans hf) |>.symm
  obtain rfl : fn = Tryz.f3 := (Option.some.inj (Tryz.func3.symm.trans hfn)).symm
  exact fun j t ht => by
    rw [Tryz.params3] at ht
    have hm : t ∈ [22] := by simpa using Array.mem_of_getElem? ht
    have hall : ([22].all fun u => !Tryz.prog.wantsStandIn u) = true := by kernel_rfl
    exact (show Tryz.prog.wantsStandIn t = false by simpa using List.all_eq_true.1 hall t hm)
/-- THE CARD -/
theorem card : Rows.JournalKeepsUptoCardSaid :=
  Claim7.holds_tied_plain_at .later [] _ _ _ _ said (fun _ h => by cases h) (by kernel_rfl) (fun _ h => by cases h) journalKeepsUpto_row_tie rfl ⟨rfl, rfl⟩ (by kernel_rfl) rfl (fun f fn hf hfn => ⟨by kernel_rfl, plain f fn hf hfn⟩) (by kernel_rfl)

end Go.Proofs.YtlflfaldnpcjcaaGreatDoor.fnJournalKeeps
