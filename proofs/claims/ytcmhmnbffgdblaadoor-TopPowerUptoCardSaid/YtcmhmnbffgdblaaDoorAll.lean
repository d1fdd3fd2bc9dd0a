/- The contract of wire.All: the bodies of all frames, in a row of the call's own. -/
import Derived.Test.YtcmhmnbffgdblaaDoorNextM
import Derived.OwnWalk
import Derived.Laws.AppendOwn
namespace Go.Proofs.YtcmhmnbffgdblaaDoor
open Go.RowKit

/-- the bodies of all frames, the place where they end, and why -/
def allL (l : List UInt8) : List (List UInt8) × Nat × Int :=
  if _h3 : (nxAt l).2 = 3 then ([], 0, 0) else
  if _h0 : (nxAt l).2 = 0 then
    if _hl : 12 ≤ l.length then
      ((nxAt l).1 :: (allL (l.drop ((nxAt l).1.length + 12))).1, (nxAt l).1.length + 12 + (allL (l.drop ((nxAt l).1.length + 12))).2.1, (allL (l.drop ((nxAt l).1.length + 12))).2.2)
    else ([], 0, 0)
  else ([], 0, (nxAt l).2)
termination_by l.length
decreasing_by all_goals (simp only [List.length_drop]; omega)
theorem nx_ok_len {l : List UInt8} (h : (nxAt l).2 = 0) : (nxAt l).1.length + 12 ≤ l.length ∧ (nxAt l).1.length ≤ 1048576 := by
  unfold nxAt at h ⊢
  split at h
  · cases h
  · rw [if_neg (by assumption)]
    split at h
    · cases h
    · rw [if_neg (by assumption)]
      split at h
      · cases h
      · rw [if_neg (by assumption)]
        split at h
        · cases h
        · rw [if_neg (by assumption)]
          split at h
          · cases h
          · rw [if_neg (by assumption)]
            rename_i h1 h2 h3
            simp only [List.length_take, List.length_drop]
            omega
theorem all_end {l : List UInt8} (h : (nxAt l).2 = 3) : allL l = ([], 0, 0) := by rw [allL, dif_pos h]
theorem all_bad {l : List UInt8} (h3 : (nxAt l).2 ≠ 3) (h : (nxAt l).2 ≠ 0) : allL l = ([], 0, (nxAt l).2) := by rw [allL, dif_neg h3, dif_neg h]
theorem all_more {l : List UInt8} (h : (nxAt l).2 = 0) :
    allL l = ((nxAt l).1 :: (allL (l.drop ((nxAt l).1.length + 12))).1, (nxAt l).1.length + 12 + (allL (l.drop ((nxAt l).1.length + 12))).2.1, (allL (l.drop ((nxAt l).1.length + 12))).2.2) := by
  rw [allL, dif_neg (by omega), dif_pos h, dif_pos (by have := (nx_ok_len h).1; omega)]
def strV (l : List UInt8) : Value := .string ⟨l.toArray⟩
def AllPost (w : World) (l : List UInt8) (e : Ending) (w' : World) : Prop :=
  ∃ v, e = .returned (.tuple #[v, .int .i64 (allL l).2.1, .int .i64 (allL l).2.2]) ∧ w'.ownsRow w.heap.size 9 1 v (allL l).1.length ((allL l).1.map strV) ∧ Below w.heap.size w w'
/-- what is known of what was gathered, where the rest begins at a -/
def AllInv (l : List UInt8) (a : Nat) (acc : List (List UInt8)) : Prop :=
  12 * acc.length ≤ a ∧ allL l = (acc ++ (allL (l.drop a)).1, a + (allL (l.drop a)).2.1, (allL (l.drop a)).2.2)
theorem AllInv.start (l : List UInt8) : AllInv l 0 [] := ⟨Nat.zero_le _, by simp⟩
theorem AllInv.more {l : List UInt8} {a : Nat} {acc : List (List UInt8)} (h : AllInv l a acc) (h0 : (nxAt (l.drop a)).2 = 0) :
    AllInv l (a + (nxAt (l.drop a)).1.length + 12) (acc ++ [(nxAt (l.drop a)).1]) := by
  obtain ⟨h1, h2⟩ := h
  refine ⟨by simp; omega, ?_⟩
  rw [h2, all_more h0, List.drop_drop]
  rw [show a + ((nxAt (l.drop a)).1.length + 12) = a + (nxAt (l.drop a)).1.length + 12 by omega]
  generalize allL (l.drop (a + (nxAt (l.drop a)).1.length + 12)) = t
  simp only [List.append_assoc, List.singleton_append]
  congr 2
  omega
theorem ownsRow_below {w w' : World} {B : Nat} {e : TypeId} {v : Value} {n : Nat} {xs : List Value} (h : w.ownsRow B e 1 v n xs) (hb : Below w.heap.size w w') : w'.ownsRow B e 1 v n xs := by
  obtain ⟨hl, h⟩ := h
  refine ⟨hl, ?_⟩
  rcases h with h | ⟨g, cap, cur, h1, h2, h3, h4, h5, h6, h7⟩
  · exact .inl h
  · have hg : g < w.heap.size := by
      rcases Nat.lt_or_ge g w.heap.size with hl | hl
      · exact hl
      · rw [Array.getElem?_eq_none hl] at h3; cases h3
    exact .inr ⟨g, cap, cur, h1, h2, (hb.block g hg).trans h3, h4, h5, h6, h7⟩
theorem ownsRow_block {w : World} {B : Nat} {e : TypeId} {v : Value} {n : Nat} {xs : List Value} (h : w.ownsRow B e 1 v n xs) : ∀ k, v.ownBlock = some k → B ≤ k := by
  rcases h.2 with ⟨rfl, _⟩ | ⟨g, cap, cur, rfl, h2, _⟩
  · intro k hk; cases hk
  · intro k hk; injection hk with hk; rw [← hk]; exact h2
theorem infoStr : (Tryd.prog.info? 9).map (fun i => (i.zero, i.size, i.bytes)) = some (some (.string ⟨#[]⟩), 1, 16) := by kernel_rfl
theorem all_fin {w wr w1 : World} {B : Nat} {l : List UInt8} {a : Nat} {acc : List (List UInt8)} {v : Value} {er : Int} (HI : Hid (AllInv l a acc ∧ wr.ownsRow B 9 1 v acc.length (acc.map strV) ∧ Below B w wr))
    (HE : Hid (allL (l.drop a) = ([], 0, er))) (hB : B = w.heap.size) (hb : Hid (Below wr.heap.size wr w1)) : AllPost w l (.returned (.tuple #[v, .int .i64 (a : Int), .int .i64 er])) w1 := by
  obtain ⟨⟨_, h2⟩, ho, hbl⟩ := HI.out
  rw [HE.out] at h2
  simp only [List.append_nil, Nat.add_zero] at h2
  subst hB
  refine ⟨v, ?_, ?_, hbl.trans (hb.out.mono hbl.size)⟩
  · rw [h2]
  · rw [h2]; exact ownsRow_below ho hb.out
theorem all_step {w w1 w2 : World} {B : Nat} {o : Obj} {v : Value} {n : Nat} {xs : List Value} (h1 : Hid (Below B w w1)) (hB : B = w.heap.size) (hown : w1.ownsRow B 9 1 v n xs) (hg : (w1.alloc o).grownBy w2 v.ownBlock) : Below B w w2 := by
  have h3 : Below B w1 (w1.alloc o) := (Below.refl _ _).alloc (by have := h1.out.size; omega) _
  exact (h1.out.trans h3).grown hg (by have := h1.out.size; simp; omega) (ownsRow_block hown)
set_option maxHeartbeats 1000000 in
theorem all_any (s : ByteArray) (w : World) (hs : s.size ≤ 1099511627776) (hh : Half w) :
    Calls Tryd.prog 10 #[.string s] w (AllPost w s.data.toList) := by
  obtain ⟨i0, hi, hz0, hz1, hz2⟩ := info_parts infoStr
  obtain ⟨l, hl⟩ : ∃ l, l = s.data.toList := ⟨_, rfl⟩
  rw [← hl]
  have HL := Lib.hid hl
  have HH := Lib.hid hh
  have h2 := hh.lt
  have zl : l.length = s.size := by rw [hl]; simp
  have ZL := Lib.hid zl
  clear hl hh zl
  obtain ⟨B, hB⟩ : ∃ B, B = w.heap.size := ⟨_, rfl⟩
  have HB := Lib.hid hB
  clear hB h2
  go_enter Tryd.func10, Tryd.ntmps10
  go_wp2
  go_loopw [5, 6] (fun v i wr => ∃ (a : Nat) (acc : List (List UInt8)), a ≤ s.size ∧ i = .int .i64 a ∧ Hid (AllInv l a acc ∧ wr.ownsRow B 9 1 v acc.length (acc.map strV) ∧ Below B w wr)) (fun _ i _ => s.size - (intOf i).toNat)
  case atStart => exact ⟨0, [], Nat.zero_le _, rfl, Lib.hid ⟨AllInv.start l, ⟨rfl, .inl ⟨rfl, rfl⟩⟩, Below.refl _ _⟩⟩
  case round =>
    obtain ⟨a, acc, ha, rfl, HI⟩ := hrel
    have hH := HH.out.below HI.out.2.2 (by rw [HB.out]; exact HH.out.lt)
    obtain ⟨r, hr⟩ : ∃ r, r = nxAt (l.drop a) := ⟨_, rfl⟩
    have hn := next_any s a wr ha (by omega) hH
    rw [← HL.out, ← hr] at hn
    unfold nxEnd nxVal at hn
    obtain ⟨bd, er⟩ := r
    simp only at hn
    obtain ⟨q, hq⟩ : ∃ q : ByteArray, q = ⟨bd.toArray⟩ := ⟨_, rfl⟩
    rw [← hq] at hn
    by_cases c3 : er = 3
    · subst c3
      have HN := Lib.hid hn
      have HE : Hid (allL (l.drop a) = ([], 0, 0)) := all_end (by rw [← hr])
      clear hn hr hH hq
      go_wp2_with (fail)
      refine HN.out.mono ?_
      rintro e w1 ⟨rfl, hb⟩
      have HB1 := Lib.hid hb
      clear hb
      go_wp2
      go_ret3
      exact all_fin HI HE HB.out HB1
    · by_cases c0 : er = 0
      · subst c0
        have hn0 : (nxAt (l.drop a)).2 = 0 := by rw [← hr]
        have hlen := nx_ok_len hn0
        have hm := HI.out.1.more hn0
        rw [← hr] at hlen hm
        simp only at hlen hm
        rw [if_pos rfl] at hn
        have hle : a + bd.length + 12 ≤ s.size := by
          have := ZL.out
          have := hlen.1
          simp only [List.length_drop] at this
          omega
        have hacc : 12 * acc.length ≤ a := HI.out.1.1
        have HM := Lib.hid hm
        have HN := Lib.hid hn
        have HQ := Lib.hid hq
        obtain ⟨d, hd⟩ : ∃ d, d = bd.length := ⟨_, rfl⟩
        rw [← hd] at hle HN HM
        clear hn hr hH hq hn0 hlen hm c3 hd
        go_wp2_with (fail)
        refine HN.out.mono ?_
        rintro e w1 ⟨rfl, hb⟩
        have hown := ownsRow_below HI.out.2.1 hb
        have B1 := Lib.hid (HI.out.2.2.trans (hb.mono (by have := HI.out.2.2.size; rw [HB.out]; exact this)))
        have hBz : B ≤ w1.heap.size := by have := B1.out.size; rw [HB.out]; omega
        clear hb
        go_wp2_with (at_builtin; refine wpList_append_own _ rfl _ _ 22 rfl B 9 i0 (.string ⟨#[]⟩) 1 16 Tryd.underlying22 hi hz0 hz1 hz2 rfl (by decide) _ _ _ rfl (hown.alloc _) ⟨w1.heap.size, 0, none⟩ 1 1 [.string q] rfl rfl ?c1 ?c2 ?c3 ?c4 ?c5 ?_)
        case c1 =>
          intro j u hj
          match j, hj with
          | 0, hj => simp at hj; subst hj; simp [Addr.add]
        case c2 => first | rfl | (intro u hu; simp at hu; subst hu; rfl)
        case c3 => unfold maxLen; omega
        case c4 => omega
        case c5 => simp; omega
        intro v' w2 hown' hgrow' _
        have HG := Lib.hid (all_step B1 HB.out hown hgrow')
        have hown2 : w2.ownsRow B 9 1 v' (acc ++ [bd]).length ((acc ++ [bd]).map strV) := by
          rw [List.length_append, List.map_append]
          show w2.ownsRow B _ 1 v' (acc.length + 1) (acc.map strV ++ [Value.string ⟨bd.toArray⟩])
          rw [← HQ.out]
          exact hown'
        have HO := Lib.hid hown2
        clear hown hown' hgrow' hown2
        go_wp2
        go_roundw
        case rel => exact ⟨a + d + 12, acc ++ [bd], hle, by push_cast; rfl, Lib.hid ⟨HM.out, HO.out, HG.out⟩⟩
        case measure => simp [intOf]; omega
      · have HE : Hid (allL (l.drop a) = ([], 0, er)) := by
          show _ = _
          rw [all_bad (by rw [← hr]; exact c3) (by rw [← hr]; exact c0), ← hr]
        rw [if_neg c0] at hn
        have HN := Lib.hid hn
        have t3 : (er == 3) = false := by simpa using c3
        have t0 : (er != 0) = true := by simpa using c0
        clear hn hr hH hq c3 c0
        go_wp2_with (fail)
        refine HN.out.mono ?_
        rintro e w1 ⟨rfl, hb⟩
        have HB1 := Lib.hid hb
        clear hb
        go_wp2
        go_ret3
        exact all_fin HI HE HB.out HB1
end Go.Proofs.YtcmhmnbffgdblaaDoor
