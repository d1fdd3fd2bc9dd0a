/- The reference's Spread: the very list of the program's. -/
import Derived.Test.YtjjmflkdfgneoaaSprRefM
namespace Go.Proofs.Ytjjmflkdfgneoaa
open Go.RowKit

def tkT (len : Nat) (T : List Nat) : List Value := (List.range len).map fun m => .bool (T.contains m)
theorem tkT_set (len : Nat) (T : List Nat) (x : Nat) : (tkT len T).set x (.bool true) = tkT len (T ++ [x]) := by
  apply List.ext_getElem
  · simp [tkT]
  · intro j h1 h2
    rw [List.getElem_set]
    simp only [tkT, List.getElem_map, List.getElem_range]
    split
    · rename_i h
      subst h
      simp
    · rename_i h
      have h' : ¬ j = x := fun e => h e.symm
      simp [h']
/-- the rows of the reference's Spread when T are taken -/
def RT (w wr : World) (B len : Nat) (T : List Nat) (vt vo : Value) : Prop :=
  wr.ownsRow B 4 1 vt len (tkT len T) ∧ wr.ownsRow B 3 1 vo T.length (outT T) ∧ Below B w wr
set_option maxRecDepth 100000 in
set_option maxHeartbeats 4000000 in
theorem rspread_no (len cap : Nat) (A : Option Addr) (p1 p2 : Nat) (w : World) (n : Int) (hp : plc p1 p2 = none) :
    Calls Try.prog 6 #[.complex .f64 p1 p2, .slice A len cap, .int .i64 n] w fun e w' => e = .returned (.slice none 0 0) ∧ w' = w := by
  have H := Lib.hid hp
  clear hp
  go_enter Try.func6, Try.ntmps6
  go_wp2_with (fail)
  refine (refplace_no _ _ _ H.out).mono ?_
  rintro e w' ⟨rfl, rfl⟩
  go_wp2_with (fail)
  go_ret
  exact ⟨rfl, rfl⟩
set_option maxRecDepth 100000 in
set_option maxHeartbeats 4000000 in
theorem rspread_any (len cap : Nat) (A : Option Addr) (p1 p2 : Nat) (ca cb : Nat → Nat) (w : World) (hn : len ≤ 2199023255552) (n : Int) (p : Int × Int) (hp : plc p1 p2 = some p) (dst : Nat → Int) (hdst : dst = fun i => distO (plc p1 p2) (plc (ca i) (cb i))) (hlo : ∀ i, -1 ≤ dst i ∧ dst i < 9223372036854775807) (f : Nat → Nat) (hf : NearF len (fun i => farI (dst i)) f) (hS : SlOf w w.heap.size A len (fun i => .complex .f64 (ca i) (cb i))) :
    Calls Try.prog 6 #[.complex .f64 p1 p2, .slice A len cap, .int .i64 n] w fun e w' => ∃ v, e = .returned v ∧ w'.ownsRow w.heap.size 3 1 v (sprT n.toNat (candS ca cb (candL ca cb f len))).length (outT (sprT n.toNat (candS ca cb (candL ca cb f len)))) ∧ Below w.heap.size w w' := by
  obtain ⟨i0, hi, hz0, hz1, hz2⟩ := info_parts info64n
  have hnear := rnear_any len cap A p1 p2 ca cb w (by omega) dst hdst hlo f hf hS
  have hmk := makeB len (by omega)
  have hdi : ∀ i w, Calls Try.prog 13 #[.complex .f64 p1 p2, .complex .f64 (ca i) (cb i)] w fun e w' => e = .returned (.int .i64 (distO (plc p1 p2) (plc (ca i) (cb i)))) ∧ w = w' := fun i w => refdist_any _ _ _ _ _
  have hsg : ∀ i, (plc (ca i) (cb i)).isSome = true → 0 ≤ distO (plc p1 p2) (plc (ca i) (cb i)) := fun i h => by
    obtain ⟨q, hq⟩ := Option.isSome_iff_exists.1 h
    rw [hp, hq]
    exact sq_lo p q
  have hsn : ∀ i, (plc (ca i) (cb i)).isSome = false → distO (plc p1 p2) (plc (ca i) (cb i)) = -1 := fun i h => by
    have hq : plc (ca i) (cb i) = none := by simpa using h
    rw [hp, hq]
    rfl
  obtain ⟨B, hB⟩ : ∃ B, B = w.heap.size := ⟨_, rfl⟩
  have hne : ∀ i j, i < j → j < len → f i ≠ f j := fun i j h h2 e => by have := hf.2.2 i j h h2; rw [e] at this; omega
  have HNE := Lib.hid hne
  have HF := Lib.hid hf
  have HS := Lib.hid hS
  have HB := Lib.hid hB
  have HP := Lib.hid hp
  have HSG := Lib.hid hsg
  have HSN := Lib.hid hsn
  have HDI := Lib.hid hdi
  have HT0 : ∀ W : World, (W.alloc (.cells (madeCells #[.bool false] len) 4)).ownsRow W.heap.size 4 1 (.slice (some ⟨W.heap.size, 0, none⟩) len len) len (tkT len []) := fun W => by
    have h := World.ownsRow_lit (e := 4) (size := 1) (base := W.heap.size) W (madeCells #[.bool false] len) len (Nat.le_refl _) (by unfold maxLen; omega) (by rw [size_madeCells]; omega)
    rw [toList_madeCells_one] at h
    have e : tkT len [] = List.replicate len (.bool false) := by
      unfold tkT
      apply List.ext_getElem <;> simp
    rw [e]
    exact h
  have HT := Lib.hid HT0
  obtain ⟨L0, hL0⟩ : ∃ L0, L0 = candS ca cb (candL ca cb f len) := ⟨_, rfl⟩
  have HL0 := Lib.hid hL0
  rw [← hB] at hnear ⊢
  rw [← hL0]
  clear hL0
  clear hS hf hdst hlo hB HT0 hne hsg hsn hdi hp
  go_enter Try.func6, Try.ntmps6
  go_wp2_with (fail)
  refine (refplace_yes _ _ _ _ HP.out).mono ?_
  rintro e w' ⟨rfl, rfl⟩
  go_wp2_with (fail)
  refine hnear.mono ?_
  rintro e w2 ⟨v, rfl, ho, hb⟩
  clear hnear
  obtain ⟨B2, hB2⟩ : ∃ B2, B2 = w2.heap.size := ⟨_, rfl⟩
  have HBB := Lib.hid hB2
  obtain ⟨a0, c0, rfl⟩ : ∃ a c, v = .slice a len c := by
    rcases ho.2 with ⟨h, h0⟩ | ⟨g, cp, cur, h, _⟩
    · exact ⟨none, 0, by rw [h, h0]⟩
    · exact ⟨_, _, h⟩
  have hnr : ∀ i, i < len → ∃ b, a0 = some ⟨b, 0, none⟩ ∧ b < B2 ∧ w2.cell? ⟨b, i, none⟩ = some (.int .i64 (f i : Int)) := fun i hi => by
    obtain ⟨g, cp, h1, h2, h3⟩ := ho.form (by omega)
    injection h1 with h1 h4 h5
    subst h1 h5
    refine ⟨g, rfl, by rw [hB2]; exact (ho.lt g (by simp [Value.ownBlock])).2, ?_⟩
    have := ho.cellAt i (by omega)
    rw [this]
    simp [outL, hi]
  have HNR := Lib.hid hnr
  have HB0 := Lib.hid hb
  have hBB : B ≤ B2 := by rw [hB2]; have := hb.size; rw [HB.out]; exact this
  clear ho hb hnr hB2
  go_wp2_with fail
  clear hmk
  have hT := HT.out w2
  rw [← HBB.out] at hT ⊢
  have HRN : Hid (RT w2 (w2.alloc (.cells (madeCells #[.bool false] len) 4)) B2 len [] (.slice (some ⟨B2, 0, none⟩) len len) (.slice none 0 0)) := Lib.hid ⟨hT, World.ownsRow_nil _ _ _ _, (Below.refl _ _).alloc (by rw [HBB.out]; exact Nat.le_refl _) _⟩
  have HI0 : Hid (sprT n.toNat L0 = [] ++ sprT (n.toNat - 0) (leftT ca cb f len []) ∧ (leftT ca cb f len []).length + 0 ≤ len ∧ ∀ t ∈ ([] : List Nat), t < len ∧ (plc (ca t) (cb t)).isSome = true) := Lib.hid ⟨by rw [leftT_nil, HL0.out]; rfl, by rw [leftT_nil]; have := candL_len ca cb f len; simpa [candS] using this, fun t ht => by cases ht⟩
  clear hT HT
  go_loopw [10] (fun vo wr => ∃ (T : List Nat) (a : Option Addr) (c : Nat), vo = .slice a T.length c ∧ Hid (RT w2 wr B2 len T (.slice (some ⟨B2, 0, none⟩) len len) vo) ∧ Hid (sprT n.toNat L0 = T ++ sprT (n.toNat - T.length) (leftT ca cb f len T) ∧ (leftT ca cb f len T).length + T.length ≤ len ∧ ∀ t ∈ T, t < len ∧ (plc (ca t) (cb t)).isSome = true)) (fun vo _ => len - slen vo)
  case atStart => exact ⟨[], none, 0, rfl, HRN, HI0⟩
  case round =>
    clear HRN HI0
    obtain ⟨T, a, c, rfl, HR, HI⟩ := hrel
    have hTl : T.length ≤ len := by have := HI.out.2.1; omega
    by_cases hlt : (T.length : Int) < n
    · have hcells : ∀ x, x < len → ∃ b off, A = some ⟨b, off, none⟩ ∧ wr.cell? ⟨b, off + x, none⟩ = some (.complex .f64 (ca x) (cb x)) ∧ wr.cell? ⟨B2, x, none⟩ = some (.bool (T.contains x)) := fun x hx => by
        obtain ⟨b, off, e, hb, hc⟩ := HS.out x hx
        refine ⟨b, off, e, ?_, ?_⟩
        · refine (HR.out.2.2.cell (p := ⟨b, off + x, none⟩) (show b < B2 by have := HB.out; omega)).trans ?_
          exact (HB0.out.cell (p := ⟨b, off + x, none⟩) (show b < B by have := HB.out; omega)).trans hc
        · rw [HR.out.1.cellAt x (by omega)]
          simp [tkT, hx]
      have hnear : ∀ k, k < len → ∃ b, a0 = some ⟨b, 0, none⟩ ∧ wr.cell? ⟨b, k, none⟩ = some (.int .i64 (f k : Int)) := fun k hk => by
        obtain ⟨b, e, hb, hc⟩ := HNR.out k hk
        exact ⟨b, e, (HR.out.2.2.cell (p := ⟨b, k, none⟩) hb).trans hc⟩
      have hout : ∀ j, j < T.length → ∃ b, a = some ⟨b, 0, none⟩ ∧ wr.cell? ⟨b, j, none⟩ = some (.int .i64 (T.getD j 0 : Int)) := fun j hj => by
        obtain ⟨g, cp, h1, h2, h3⟩ := HR.out.2.1.form (by omega)
        injection h1 with h1 h4 h5
        subst h1
        refine ⟨g, rfl, ?_⟩
        rw [HR.out.2.1.cellAt j (by omega)]
        simp [outT, hj, List.getD_eq_getElem?_getD]
      have HC := Lib.hid hcells
      have HN := Lib.hid hnear
      have HO := Lib.hid hout
      clear hcells hnear hout
      go_wp2
      go_loopw [13, 14, 15] (fun bv mv iv w3 => ∃ (j : Nat) (b m : Int), j ≤ len ∧ iv = .int .i64 (j : Int) ∧ bv = .int .i64 b ∧ mv = .int .i64 m ∧ Hid (BestS ca cb f T 1099511627776 j b m) ∧ ∃ q, w3 = wr.drewN q) (fun _ _ iv _ => len - (intOf iv).toNat)
      case atStart => exact ⟨0, -1, -1, Nat.zero_le _, rfl, rfl, rfl, Lib.hid (.inl ⟨rfl, rfl, fun m h => absurd h (Nat.not_lt_zero _)⟩), 0, rfl⟩
      case round =>
        obtain ⟨j, b, m, hj, rfl, rfl, rfl, HBS, q, rfl⟩ := hrel
        by_cases hjn : j < len
        · obtain ⟨x, hxe⟩ : ∃ x, x = f j := ⟨_, rfl⟩
          have hx : x < len := by rw [hxe]; exact HF.out.1 j hjn
          obtain ⟨bn, rfl, cn⟩ := HN.out j hjn
          obtain ⟨b1, off, rfl, c1, c2⟩ := HC.out x hx
          rw [← hxe] at cn
          have hdx := HDI.out x
          have i1 : (x : Int) < (len : Int) := by omega
          cases ht : T.contains x with
          | true =>
            have HB2 := Lib.hid (bestS_skip HBS.out (by rw [← hxe]; unfold okP; rw [ht]; simp))
            rw [ht] at c2
            clear ht c1 hdx hxe
            go_wp2
            go_roundw
            case rel => exact ⟨j + 1, b, m, by omega, by first | rfl | go_num, rfl, rfl, HB2, _, rfl⟩
            case measure => simp [intOf]; omega
          | false =>
            rw [ht] at c2
            cases hpl : (plc (ca x) (cb x)).isSome with
            | false =>
              have HB2 := Lib.hid (bestS_skip HBS.out (by rw [← hxe]; unfold okP; rw [hpl]; simp))
              rw [HSN.out x hpl] at hdx
              clear ht hpl hxe
              go_wp2_with (fail)
              refine (hdx _).mono ?_
              rintro e w9 ⟨rfl, rfl⟩
              clear hdx
              go_wp2
              go_roundw
              case rel => exact ⟨j + 1, b, m, by omega, by first | rfl | go_num, rfl, rfl, HB2, _, rfl⟩
              case measure => simp [intOf]; omega
            | true =>
              have hok : okP ca cb T x = true := by unfold okP; rw [ht, hpl]; rfl
              have HOK := Lib.hid (And.intro hok hxe)
              have hd0 := HSG.out x hpl
              obtain ⟨d0, hd0e⟩ : ∃ d, d = distO (plc p1 p2) (plc (ca x) (cb x)) := ⟨_, rfl⟩
              rw [← hd0e] at hdx hd0
              have hd1 : ¬ d0 < 0 := by omega
              clear ht hpl hok hxe hd0 hd0e
              go_wp2_with (fail)
              refine (hdx _).mono ?_
              rintro e w9 ⟨rfl, rfl⟩
              clear hdx
              go_wp2
              go_loopw [17, 18] (fun dv jv w4 => ∃ (k : Nat) (d : Int), k ≤ T.length ∧ jv = .int .i64 (k : Int) ∧ dv = .int .i64 d ∧ Hid (d = lstG ca cb 1099511627776 (T.take k) x) ∧ ∃ q, w4 = wr.drewN q) (fun _ jv _ => T.length - (intOf jv).toNat)
              case atStart => exact ⟨0, 1099511627776, Nat.zero_le _, rfl, rfl, Lib.hid rfl, _, rfl⟩
              case round =>
                obtain ⟨k, d, hk, rfl, rfl, HD, q2, rfl⟩ := hrel
                by_cases hkl : k < T.length
                · obtain ⟨y, hye⟩ : ∃ y, y = T.getD k 0 := ⟨_, rfl⟩
                  have hyT : T[k] = y := by rw [hye, List.getD_eq_getElem?_getD, List.getElem?_eq_getElem hkl]; rfl
                  have hy : y < len := by rw [← hyT]; exact (HI.out.2.2 _ (List.getElem_mem hkl)).1
                  obtain ⟨bo, rfl, co⟩ := HO.out k hkl
                  obtain ⟨b2, off2, e, c3, _⟩ := HC.out y hy
                  injection e with e
                  injection e with e1 e2
                  subst e1 e2
                  rw [← hye] at co
                  have hdy := fun w => refdist_any (ca x) (cb x) (ca y) (cb y) w
                  obtain ⟨dy, hdye⟩ : ∃ d, d = distO (plc (ca x) (cb x)) (plc (ca y) (cb y)) := ⟨_, rfl⟩
                  rw [← hdye] at hdy
                  have i2 : (y : Int) < (len : Int) := by omega
                  have HD2 : Hid (min d dy = lstG ca cb 1099511627776 (T.take (k + 1)) x) := Lib.hid (by rw [List.take_succ_eq_append_getElem hkl, lstG_app, hyT, HD.out, hdye])
                  have HDY := Lib.hid hdy
                  clear hye hyT hdye hdy
                  by_cases hlt2 : dy < d
                  · rw [show min d dy = dy by omega] at HD2
                    go_wp2_with (fail)
                    go_region_with (go_at_call 13; refine (HDY.out _).mono ?_; rintro e w' ⟨rfl, rfl⟩)
                    all_goals
                      go_wp2_with (fail)
                      go_region_with (go_at_call 13; refine (HDY.out _).mono ?_; rintro e w' ⟨rfl, rfl⟩)
                    all_goals
                      go_wp2
                      go_roundw
                      case rel => exact ⟨k + 1, dy, by omega, by first | rfl | go_num, rfl, HD2, _, rfl⟩
                      case measure => simp [intOf]; omega
                  · rw [show min d dy = d by omega] at HD2
                    go_wp2_with (fail)
                    go_region_with (go_at_call 13; refine (HDY.out _).mono ?_; rintro e w' ⟨rfl, rfl⟩)
                    all_goals
                      go_wp2
                      go_roundw
                      case rel => exact ⟨k + 1, d, by omega, by first | rfl | go_num, rfl, HD2, _, rfl⟩
                      case measure => simp [intOf]; omega
                · obtain rfl : k = T.length := by omega
                  have hd : d = lstG ca cb 1099511627776 T x := by have := HD.out; rw [List.take_length] at this; exact this
                  have hpos : 0 ≤ lstG ca cb 1099511627776 T x := lstG_pos ca cb x (okP_plc HOK.out.1) T _ (by omega) (fun t ht => (HI.out.2.2 t ht).2)
                  by_cases hm : m < d
                  · have HB2 : Hid (BestS ca cb f T 1099511627776 (j + 1) (x : Int) d) := Lib.hid (by
                      have := bestS_yes HBS.out (by rw [← HOK.out.2]; exact HOK.out.1) (by rw [← HOK.out.2]; exact hpos) (by rw [← HOK.out.2, ← hd]; exact hm)
                      rw [← HOK.out.2, ← hd] at this
                      exact this)
                    clear hd hpos
                    go_wp2
                    go_roundw
                    case rel => exact ⟨j + 1, (x : Int), d, by omega, by first | rfl | go_num, rfl, rfl, HB2, _, rfl⟩
                    case measure => simp [intOf]; omega
                  · have HB2 : Hid (BestS ca cb f T 1099511627776 (j + 1) b m) := Lib.hid (bestS_no HBS.out (by rw [← HOK.out.2]; exact hpos) (by rw [← HOK.out.2, ← hd]; exact hm))
                    clear hd hpos
                    go_wp2
                    go_roundw
                    case rel => exact ⟨j + 1, b, m, by omega, by first | rfl | go_num, rfl, rfl, HB2, _, rfl⟩
                    case measure => simp [intOf]; omega
        · obtain rfl : j = len := by omega
          rcases HBS.out with ⟨rfl, rfl, hno⟩ | ⟨k0, rfl, rfl, hm0, hpick⟩
          · have hend : sprT n.toNat L0 = T := by
              have h := HI.out.1
              rw [pick_none hno, sprT_nil, List.append_nil] at h
              exact h
            have HE := Lib.hid hend
            clear hend hno
            go_wp2
            go_ret
            exact ⟨_, rfl, by rw [HE.out]; exact HR.out.2.1.mono hBB, HB0.out.trans ((show Below B2 w2 (wr.drewN q) from ⟨HR.out.2.2.os, HR.out.2.2.tape, HR.out.2.2.output, HR.out.2.2.size, HR.out.2.2.block⟩).mono hBB)⟩
          · have hpn := pick_next (by omega) HNE.out hpick (n.toNat - T.length - 1)
            have hx0 := HF.out.1 k0 hpick.1
            obtain ⟨x, hx⟩ : ∃ x, x = f k0 := ⟨_, rfl⟩
            rw [← hx] at hpn hx0 ⊢
            have HPN := Lib.hid hpn
            have HX0 := Lib.hid (And.intro hx0 (okP_plc (by rw [hx]; exact hpick.2.1 : okP ca cb T x = true)))
            have r1 : (wr.drewN q).ownsRow B2 4 1 (.slice (some ⟨B2, 0, none⟩) j j) j (tkT j T) := HR.out.1
            have r2 : (wr.drewN q).ownsRow B2 3 1 (.slice a T.length c) T.length (outT T) := HR.out.2.1
            have c1 : (wr.drewN q).cell? ⟨B2, x, none⟩ = some (.bool (T.contains x)) := by
              rw [r1.cellAt x (by omega)]
              simp [tkT, hx0]
            have f1 : (wr.drewN q).frozen? ⟨B2, x, none⟩ = false := r1.frozenAt x
            obtain ⟨s1, s2⟩ := r1.stored x (.bool true)
            rw [tkT_set] at s1
            have s3 := r2.kept s2 (rows_apart3 r1 r2 (by decide))
            have s4 : Below B2 w2 ((wr.drewN q).setCell ⟨B2, x, none⟩ (.bool true)) := (show Below B2 w2 (wr.drewN q) from ⟨HR.out.2.2.os, HR.out.2.2.tape, HR.out.2.2.output, HR.out.2.2.size, HR.out.2.2.block⟩).setCell (p := ⟨B2, x, none⟩) (Nat.le_refl _) _
            have S1 := Lib.hid s1
            have S3 := Lib.hid s3
            have S4 := Lib.hid s4
            have hxi : (x : Int) < (j : Int) := by omega
            have hx9 : ¬ (x : Int) < 0 := by omega
            have k3 : T.length + 1 ≤ maxLen := by unfold maxLen; omega
            have k4 : (T.length + 1) * 8 ≤ 140737488355328 := by omega
            clear r1 r2 s1 s2 s3 s4 hx hpn hpick hm0 hx0
            have hBz : B2 ≤ wr.heap.size := by have := HR.out.2.2.size; rw [HBB.out]; exact Nat.le_trans (Nat.le_of_eq rfl) this
            have hsz : ((wr.drewN q).setCell ⟨B2, x, none⟩ (.bool true)).heap.size = wr.heap.size := by simp [World.setCell]
            have hown := S3.out
            have hc1 : ∀ j2 u, [Value.int .i64 (x : Int)][j2]? = some u → (((wr.drewN q).setCell ⟨B2, x, none⟩ (.bool true)).alloc (.cells #[.int .i64 (x : Int)] 3)).cell? ((⟨wr.heap.size, 0, none⟩ : Addr).add j2) = some u := by
              intro j2 u hj2
              match j2, hj2 with
              | 0, hj2 =>
                simp at hj2
                subst hj2
                have h8 := new_one ((wr.drewN q).setCell ⟨B2, x, none⟩ (.bool true)) (.int .i64 (x : Int)) 3
                rw [hsz] at h8
                simpa [Addr.add] using h8
            have HC1 := Lib.hid hc1
            clear hc1
            go_wp2_with (at_builtin; refine wpList_append_own _ rfl _ _ 28 rfl B2 3 i0 _ 1 8 Try.underlying28 hi hz0 hz1 hz2 rfl (by decide) _ _ _ rfl (hown.alloc _) ⟨wr.heap.size, 0, none⟩ 1 1 [.int .i64 (x : Int)] rfl rfl HC1.out (by simp [Value.oneCell']) k3 k4 (by simp; omega) ?_)
            intro v' w3 hown' hgrow' hnn
            have t1 := (S1.out.alloc (.cells #[.int .i64 (x : Int)] 3)).kept hgrow' (rows_apart3 (hown.alloc (.cells #[.int .i64 (x : Int)] 3)) (S1.out.alloc (.cells #[.int .i64 (x : Int)] 3)) (by decide))
            have t2 : outT T ++ [.int .i64 (x : Int)] = outT (T ++ [x]) := by simp [outT]
            have t3 : Below B2 w2 w3 := by
              refine (S4.out.alloc (by rw [hsz]; exact hBz) (.cells #[.int .i64 (x : Int)] 3)).grown hgrow' (by have := HBB.out; have := HR.out.2.2.size; simp; omega) (fun j ej => ?_)
              exact (hown.lt j ej).1
            obtain ⟨g9, c9, rfl, _, _⟩ := hown'.form (by omega)
            rw [t2] at hown'
            have e9 : (T ++ [x]).length = T.length + 1 := by simp
            have HN2 : Hid (RT w2 w3 B2 j (T ++ [x]) (.slice (some ⟨B2, 0, none⟩) j j) (.slice (some ⟨g9, 0, none⟩) (T.length + 1) c9)) := Lib.hid ⟨t1, by rw [e9]; exact hown', t3⟩
            have HI2 : Hid (sprT n.toNat L0 = (T ++ [x]) ++ sprT (n.toNat - (T ++ [x]).length) (leftT ca cb f j (T ++ [x])) ∧ (leftT ca cb f j (T ++ [x])).length + (T ++ [x]).length ≤ j ∧ ∀ t ∈ T ++ [x], t < j ∧ (plc (ca t) (cb t)).isSome = true) := Lib.hid (by
              obtain ⟨h1, h2, h3⟩ := HI.out
              obtain ⟨h4, h5⟩ := HPN.out
              refine ⟨?_, by rw [e9]; omega, fun t ht => ?_⟩
              · rw [h1, show n.toNat - T.length = (n.toNat - T.length - 1) + 1 by omega, h4, e9, show n.toNat - (T.length + 1) = n.toNat - T.length - 1 by omega]
                simp
              · rcases List.mem_append.1 ht with h | h
                · exact h3 t h
                · rw [show t = x by simpa using h]; exact HX0.out)
            have hT9 : T.length < j := by have := HPN.out.2; have := HI.out.2.1; omega
            clear hown hown' hgrow' t1 t2 t3 hnn
            go_wp2
            go_roundw
            case rel => exact ⟨T ++ [x], _, _, by rw [e9], HN2, HI2⟩
            case measure => simp [slen]; omega
    · have hend : sprT n.toNat L0 = T := by
        have h := HI.out.1
        rw [show n.toNat - T.length = 0 by omega] at h
        simpa [sprT] using h
      have HE := Lib.hid hend
      clear hend
      go_wp2
      go_ret
      exact ⟨_, rfl, by rw [HE.out]; exact HR.out.2.1.mono hBB, HB0.out.trans (HR.out.2.2.mono hBB)⟩
end Go.Proofs.Ytjjmflkdfgneoaa
