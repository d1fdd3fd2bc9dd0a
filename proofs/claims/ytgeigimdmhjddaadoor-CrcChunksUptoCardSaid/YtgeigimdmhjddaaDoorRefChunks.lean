/- The reference's Chunks. -/
import Derived.Test.YtgeigimdmhjddaaDoorChunkSums
import Derived.WalkLawsBesides
namespace Go.Proofs.YtgeigimdmhjddaaDoor
open Go.RowKit

def RInv (s : Txt) (K B : Nat) (w wr : World) (v : Value) (a : Nat) (pre : List Txt) (R : Txt) : Prop :=
  R.1 = s.1.extract a s.1.size ∧ chA K s = pre ++ chA K R ∧ pre.length ≤ a ∧ wr.ownsRow B 27 1 v pre.length (pre.map sumV) ∧ Below B w wr
theorem extract_two (s R : ByteArray) (a n : Nat) (ha : a + n ≤ s.size) (hR : R = s.extract a s.size) : R.extract 0 n = s.extract a (a + n) := by
  subst hR
  apply ByteArray.ext
  apply Array.toList_inj.1
  have es : s.data.toList.length = s.size := by simp
  simp only [ByteArray.data_extract, Array.toList_extract, List.extract_eq_take_drop]
  rw [Nat.sub_zero, List.drop_zero, List.take_take, show a + n - a = n by omega, Nat.min_eq_left (by omega)]
theorem extract_rest (s R : ByteArray) (a n : Nat) (ha : a + n ≤ s.size) (hR : R = s.extract a s.size) : R.extract n R.size = s.extract (a + n) s.size := by
  subst hR
  apply ByteArray.ext
  apply Array.toList_inj.1
  have es : s.data.toList.length = s.size := by simp
  simp only [ByteArray.data_extract, Array.toList_extract, List.extract_eq_take_drop, ByteArray.size_extract]
  rw [List.take_of_length_le (by simp only [List.length_drop, List.length_take]; omega), List.take_of_length_le (l := List.drop a _) (by simp only [List.length_drop]; omega), List.drop_drop, List.take_of_length_le (by simp only [List.length_drop]; omega)]
theorem sums_step {w w1 w2 : World} {B : Nat} {o : Obj} {v : Value} {n : Nat} {xs : List Value} (h1 : Below B w w1) (hB : B = w.heap.size) (hown : w1.ownsRow B 27 1 v n xs) (hg : (w1.alloc o).grownBy w2 v.ownBlock) : Below B w w2 := by
  have h3 : Below B w1 (w1.alloc o) := (Below.refl _ _).alloc (by have := h1.size; omega) _
  refine (h1.trans h3).grown hg (by have := h1.size; simp; omega) (fun j ej => ?_)
  rcases hown.2 with ⟨rfl, _⟩ | ⟨g, cap, cur, rfl, hb, _, _⟩
  · simp [Value.ownBlock] at ej
  · obtain rfl : g = j := by simpa [Value.ownBlock] using ej
    exact hb
theorem RInv.start (s : Txt) (K B : Nat) (w : World) : RInv s K B w w (.slice none 0 0) 0 [] s := ⟨by simp, rfl, Nat.le_refl _, ⟨rfl, .inl ⟨rfl, rfl⟩⟩, Below.refl _ _⟩
theorem RInv.step {s : Txt} {K B : Nat} {w wr w2 : World} {v v' : Value} {a : Nat} {pre : List Txt} {R : Txt} {o : Obj} (h : RInv s K B w wr v a pre R) (hB : B = w.heap.size) (hK : 0 < K) (ha : a < s.1.size) (n : Nat) (hn : n = min K (s.1.size - a)) (x : ByteArray) (hx : x = s.1.extract a (a + n))
    (hown : w2.ownsRow B 27 1 v' (pre.length + 1) (pre.map sumV ++ [.int .u32 (U (Crc.sum x.data.toList))])) (hg : (wr.alloc o).grownBy w2 v.ownBlock) :
    ∃ (p q : Txt), RInv s K B w w2 v' (a + n) (pre ++ [p]) q := by
  obtain ⟨h1, h2, h3, h4, h5⟩ := h
  have hs := s.2
  have hR : R.1.size = s.1.size - a := by rw [h1, ByteArray.size_extract]; omega
  obtain ⟨p, hp⟩ : ∃ p : Txt, p.1 = x := ⟨⟨x, by rw [hx, ByteArray.size_extract]; omega⟩, rfl⟩
  obtain ⟨q, hq⟩ : ∃ q : Txt, q.1 = s.1.extract (a + n) s.1.size := ⟨⟨s.1.extract (a + n) s.1.size, by rw [ByteArray.size_extract]; omega⟩, rfl⟩
  refine ⟨p, q, hq, ?_, ?_, ?_, sums_step h5 hB h4 hg⟩
  · rw [h2, chA_cons (k := K) (R := R) ⟨hK, by omega⟩ n (by rw [hR]; exact hn) p q (by rw [hp, hx]; exact (extract_two s.1 R.1 a n (by omega) h1).symm) (by rw [hq]; exact (extract_rest s.1 R.1 a n (by omega) h1).symm)]
    simp
  · simp only [List.length_append, List.length_cons, List.length_nil]; omega
  · rw [List.length_append, List.map_append]
    show w2.ownsRow B _ 1 v' (pre.length + 1) (pre.map sumV ++ [sumV p])
    unfold sumV
    rw [hp]
    exact hown
theorem RInv.fin {s : Txt} {K B : Nat} {w wr : World} {v : Value} {a : Nat} {pre : List Txt} {R : Txt} (h : RInv s K B w wr v a pre R) (hB : B = w.heap.size) (ha : ¬ a < s.1.size) : ChunksPost w (chA K s) (.returned v) wr := by
  obtain ⟨h1, h2, h3, h4, h5⟩ := h
  have hR : R.1.size = 0 := by rw [h1, ByteArray.size_extract]; omega
  rw [chA_nil (R := R) (by omega), List.append_nil] at h2
  rw [h2]
  subst hB
  exact ⟨v, rfl, h4, h5⟩
set_option maxRecDepth 100000 in
set_option maxHeartbeats 2000000 in
theorem rchunks_any (s : Txt) (kn : Nat) (hk0 : 1 ≤ kn) (hk1 : kn ≤ 9223372036854775807) (hsz : s.1.size ≤ 1099511627776) (w : World) :
    Calls Tryd.prog 6 #[.string s.1, .int .i64 (kn : Int)] w (ChunksPost w (chA kn s)) := by
  obtain ⟨i0, hi, hz0, hz1, hz2⟩ := info_parts infoU32
  obtain ⟨B, hB⟩ : ∃ B, B = w.heap.size := ⟨_, rfl⟩
  have HB := Lib.hid hB
  clear hB
  go_enter Tryd.func6, Tryd.ntmps6
  go_wp2
  go_loopw [5, 6] (fun v i wr => ∃ (a : Nat) (pre : List Txt) (R : Txt), a ≤ s.1.size ∧ i = .int .i64 a ∧ Hid (RInv s kn B w wr v a pre R)) (fun _ i _ => s.1.size - (intOf i).toNat)
  case atStart => exact ⟨0, [], s, Nat.zero_le _, rfl, Lib.hid (RInv.start s kn B w)⟩
  case round =>
    obtain ⟨a, pre, R, ha, rfl, HI⟩ := hrel
    have hpl := HI.out.2.2.1
    by_cases hlt : a < s.1.size
    · by_cases hle : (kn : Int) < (s.1.size : Int) - (a : Int)
      · have e1 : ((a : Int) + (kn : Int)).toNat = a + kn := by omega
        have hmx : (s.1.extract a (a + kn)).size ≤ maxLen := by rw [ByteArray.size_extract]; unfold maxLen; omega
        go_wp2_with (fail)
        refine (rsum_any _ _ hmx).mono ?_
        rintro e w1 ⟨rfl, rfl⟩
        have hown := HI.out.2.2.2.1
        have hBz : B ≤ wr.heap.size := by have := HI.out.2.2.2.2.size; rw [HB.out]; exact Nat.le_trans (Nat.le_of_eq rfl) this
        go_wp2_with (at_builtin; refine wpList_append_own _ rfl _ _ 22 rfl B 27 i0 (.int .u32 0) 1 4 Tryd.underlying22 hi hz0 hz1 hz2 rfl (by decide) _ _ _ rfl (hown.alloc _) ⟨wr.heap.size, 0, none⟩ 1 1 [.int .u32 (U (Crc.sum (s.1.extract a (a + kn)).data.toList))] rfl rfl ?c1 ?c2 ?c3 ?c4 ?c5 ?_)
        case c1 =>
          intro j u hj
          match j, hj with
          | 0, hj => simp at hj; subst hj; simp [Addr.add]
        case c2 => first | rfl | (intro u hu; simp at hu; subst hu; rfl)
        case c3 => unfold maxLen; omega
        case c4 => omega
        case c5 => simp; omega
        intro v' w2 hown' hgrow' _
        obtain ⟨p, q, hst⟩ := HI.out.step HB.out (by omega) hlt (kn) (by omega) _ (rfl) (by simpa using hown') hgrow'
        have HST := Lib.hid hst
        clear hown hown' hgrow' hst
        go_wp2
        go_roundw
        case rel => exact ⟨_, _, _, by omega, by first | rfl | (push_cast; rfl) | (simp; omega), HST⟩
        case measure => simp [intOf]; omega
      · have hmx : (s.1.extract a s.1.size).size ≤ maxLen := by rw [ByteArray.size_extract]; unfold maxLen; omega
        have e3 : (a : Int) + ((s.1.size : Int) - (a : Int)) = (s.1.size : Int) := by omega
        go_wp2_with (fail)
        refine (rsum_any _ _ hmx).mono ?_
        rintro e w1 ⟨rfl, rfl⟩
        have hown := HI.out.2.2.2.1
        have hBz : B ≤ wr.heap.size := by have := HI.out.2.2.2.2.size; rw [HB.out]; exact Nat.le_trans (Nat.le_of_eq rfl) this
        go_wp2_with (at_builtin; refine wpList_append_own _ rfl _ _ 22 rfl B 27 i0 (.int .u32 0) 1 4 Tryd.underlying22 hi hz0 hz1 hz2 rfl (by decide) _ _ _ rfl (hown.alloc _) ⟨wr.heap.size, 0, none⟩ 1 1 [.int .u32 (U (Crc.sum (s.1.extract a s.1.size).data.toList))] rfl rfl ?c1 ?c2 ?c3 ?c4 ?c5 ?_)
        case c1 =>
          intro j u hj
          match j, hj with
          | 0, hj => simp at hj; subst hj; simp [Addr.add]
        case c2 => first | rfl | (intro u hu; simp at hu; subst hu; rfl)
        case c3 => unfold maxLen; omega
        case c4 => omega
        case c5 => simp; omega
        intro v' w2 hown' hgrow' _
        obtain ⟨p, q, hst⟩ := HI.out.step HB.out (by omega) hlt (s.1.size - a) (by omega) _ (by rw [show a + (s.1.size - a) = s.1.size by omega]) (by simpa using hown') hgrow'
        have HST := Lib.hid hst
        clear hown hown' hgrow' hst
        go_wp2
        go_roundw
        case rel => exact ⟨_, _, _, by omega, by first | rfl | (push_cast; rfl) | (simp; omega), HST⟩
        case measure => simp [intOf]; omega
    · go_wp2
      go_ret
      exact HI.out.fin HB.out hlt
end Go.Proofs.YtgeigimdmhjddaaDoor
