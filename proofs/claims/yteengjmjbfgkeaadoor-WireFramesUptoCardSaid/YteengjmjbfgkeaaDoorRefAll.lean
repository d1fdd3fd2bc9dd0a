/- The contract of the reference's All. -/
import Derived.Test.YteengjmjbfgkeaaDoorRefNext
namespace Go.Proofs.YteengjmjbfgkeaaDoor
open Go.RowKit

set_option maxHeartbeats 1000000 in
theorem rall_any (s : ByteArray) (w : World) (hs : s.size ≤ 1099511627776) :
    Calls Tryd.prog 26 #[.string s] w (AllPost w s.data.toList) := by
  obtain ⟨i0, hi, hz0, hz1, hz2⟩ := info_parts infoStr
  obtain ⟨l, hl⟩ : ∃ l, l = s.data.toList := ⟨_, rfl⟩
  rw [← hl]
  have HL := Lib.hid hl
  have zl : l.length = s.size := by rw [hl]; simp
  have ZL := Lib.hid zl
  clear hl zl
  obtain ⟨B, hB⟩ : ∃ B, B = w.heap.size := ⟨_, rfl⟩
  have HB := Lib.hid hB
  clear hB
  go_enter Tryd.func26, Tryd.ntmps26
  go_wp2
  go_loopw [5, 6] (fun v i wr => ∃ (a : Nat) (acc : List (List UInt8)), a ≤ s.size ∧ i = .int .i64 a ∧ Hid (AllInv l a acc ∧ wr.ownsRow B 9 1 v acc.length (acc.map strV) ∧ Below B w wr)) (fun _ i _ => s.size - (intOf i).toNat)
  case atStart => exact ⟨0, [], Nat.zero_le _, rfl, Lib.hid ⟨AllInv.start l, ⟨rfl, .inl ⟨rfl, rfl⟩⟩, Below.refl _ _⟩⟩
  case round =>
    obtain ⟨a, acc, ha, rfl, HI⟩ := hrel
    obtain ⟨r, hr⟩ : ∃ r, r = nxAt (l.drop a) := ⟨_, rfl⟩
    have hn := rnext_any s a wr ha (by omega)
    rw [← HL.out, ← hr] at hn
    unfold nxEnd nxVal at hn
    obtain ⟨bd, er⟩ := r
    simp only at hn
    obtain ⟨q, hq⟩ : ∃ q : ByteArray, q = ⟨bd.toArray⟩ := ⟨_, rfl⟩
    rw [← hq] at hn
    by_cases c3 : er = 3
    · subst c3
      have HN := Lib.hid hn
      have HE : Hid (allL (l.drop a) = ([], 0, 0)) := all_end (by rw [← hr])
      clear hn hr hq
      go_wp2_with (fail)
      refine HN.out.mono ?_
      rintro e w1 ⟨rfl, hb⟩
      have HB1 := Lib.hid hb
      clear hb
      go_wp2
      go_ret3
      exact all_fin HI HE HB.out HB1
    · by_cases c0 : er = 0
      · subst c0
        have hn0 : (nxAt (l.drop a)).2 = 0 := by rw [← hr]
        have hlen := nx_ok_len hn0
        have hm := HI.out.1.more hn0
        rw [← hr] at hlen hm
        simp only at hlen hm
        rw [if_pos rfl] at hn
        have hle : a + bd.length + 12 ≤ s.size := by
          have := ZL.out
          have := hlen.1
          simp only [List.length_drop] at this
          omega
        have hacc : 12 * acc.length ≤ a := HI.out.1.1
        have HM := Lib.hid hm
        have HN := Lib.hid hn
        have HQ := Lib.hid hq
        obtain ⟨d, hd⟩ : ∃ d, d = bd.length := ⟨_, rfl⟩
        rw [← hd] at hle HN HM
        clear hn hr hq hn0 hlen hm c3 hd
        go_wp2_with (fail)
        refine HN.out.mono ?_
        rintro e w1 ⟨rfl, hb⟩
        have hown := ownsRow_below HI.out.2.1 hb
        have B1 := Lib.hid (HI.out.2.2.trans (hb.mono (by have := HI.out.2.2.size; rw [HB.out]; exact this)))
        have hBz : B ≤ w1.heap.size := by have := B1.out.size; rw [HB.out]; omega
        clear hb
        go_wp2_with (at_builtin; refine wpList_append_own _ rfl _ _ 41 rfl B 9 i0 (.string ⟨#[]⟩) 1 16 Tryd.underlying41 hi hz0 hz1 hz2 rfl (by decide) _ _ _ rfl (hown.alloc _) ⟨w1.heap.size, 0, none⟩ 1 1 [.string q] rfl rfl ?c1 ?c2 ?c3 ?c4 ?c5 ?_)
        case c1 =>
          intro j u hj
          match j, hj with
          | 0, hj => simp at hj; subst hj; simp [Addr.add]
        case c2 => first | rfl | (intro u hu; simp at hu; subst hu; rfl)
        case c3 => unfold maxLen; omega
        case c4 => omega
        case c5 => simp; omega
        intro v' w2 hown' hgrow' _
        have HG := Lib.hid (all_step B1 HB.out hown hgrow')
        have hown2 : w2.ownsRow B 9 1 v' (acc ++ [bd]).length ((acc ++ [bd]).map strV) := by
          rw [List.length_append, List.map_append]
          show w2.ownsRow B _ 1 v' (acc.length + 1) (acc.map strV ++ [Value.string ⟨bd.toArray⟩])
          rw [← HQ.out]
          exact hown'
        have HO := Lib.hid hown2
        clear hown hown' hgrow' hown2
        go_wp2
        go_roundw
        case rel => exact ⟨a + d + 12, acc ++ [bd], hle, by push_cast; rfl, Lib.hid ⟨HM.out, HO.out, HG.out⟩⟩
        case measure => simp [intOf]; omega
      · have HE : Hid (allL (l.drop a) = ([], 0, er)) := by
          show _ = _
          rw [all_bad (by rw [← hr]; exact c3) (by rw [← hr]; exact c0), ← hr]
        rw [if_neg c0] at hn
        have HN := Lib.hid hn
        have t3 : (er == 3) = false := by simpa using c3
        have t0 : (er != 0) = true := by simpa using c0
        clear hn hr hq c3 c0
        go_wp2_with (fail)
        refine HN.out.mono ?_
        rintro e w1 ⟨rfl, hb⟩
        have HB1 := Lib.hid hb
        clear hb
        go_wp2
        go_ret3
        exact all_fin HI HE HB.out HB1
end Go.Proofs.YteengjmjbfgkeaaDoor
