/- Chunks of a changed text: the one that is bad. -/
import Derived.Test.YtgeigimdmhjddaaDoorBad
import Derived.Test.YtgeigimdmhjddaaDoorCrcBurst
namespace Go.Proofs.YtgeigimdmhjddaaDoor
open Go.RowKit

def fOf (xs : List Txt) (i : Nat) : BitVec 32 := (xs.map sumB)[i]?.getD 0
theorem match_self (xs : List Txt) : Match (fOf xs) xs.length xs := ⟨Nat.le_refl _, fun i h => by simp [fOf, h]⟩
theorem bad_none (xs : List Txt) : badG (fOf xs) xs.length 0 xs = -1 := by
  have h := (match_self xs).bad []
  rw [List.append_nil] at h
  rw [h]
  show (if xs.length < xs.length then _ else _) = _
  rw [if_neg (Nat.lt_irrefl _)]
theorem chA_split {k : Nat} {R : Txt} (h : 0 < k ∧ 0 < R.1.size) (n : Nat) (hn : n = min k R.1.size) : ∃ p q : Txt, chA k R = p :: chA k q ∧ p.1.data.toList = R.1.data.toList.take n ∧ q.1.data.toList = R.1.data.toList.drop n ∧ q.1.size = R.1.size - n := by
  have hR := R.2
  refine ⟨⟨R.1.extract 0 n, by rw [ByteArray.size_extract]; omega⟩, ⟨R.1.extract n R.1.size, by rw [ByteArray.size_extract]; omega⟩, chA_cons h n hn _ _ rfl rfl, ?_, ?_, ?_⟩
  · simp [List.extract_eq_take_drop]
  · have e : R.1.data.toList.length = R.1.size := by simp
    simp only [ByteArray.data_extract, Array.toList_extract, List.extract_eq_take_drop]
    rw [List.take_of_length_le (by rw [List.length_drop]; omega)]
  · simp only [ByteArray.size_extract]; omega
theorem bad_at {K : Nat} (hK : 0 < K) (f : Nat → BitVec 32) (len : Nat) (x y : UInt8) (hxy : x ≠ y) : ∀ (n : Nat) (s t : Txt) (k i : Nat), s.1.size ≤ n → s.1.data.toList[k]? = some y → t.1.data.toList = s.1.data.toList.set k x →
    (∀ j, f (i + j) = fOf (chA K s) j) → len = i + (chA K s).length → badG f len i (chA K t) = ((i + k / K : Nat) : Int)
  | n, s, t, k, i, hn, hk, ht, hf, hl => by
    have es : s.1.data.toList.length = s.1.size := by simp
    have et : t.1.data.toList.length = t.1.size := by simp
    have hks : k < s.1.size := by rw [← es]; exact (List.getElem?_eq_some_iff.1 hk).1
    have hts : t.1.size = s.1.size := by rw [← et, ht, List.length_set, es]
    obtain ⟨c, hc⟩ : ∃ c, c = min K s.1.size := ⟨_, rfl⟩
    obtain ⟨p, q, e1, hp, hq, hqs⟩ := chA_split (k := K) (R := s) ⟨hK, by omega⟩ c hc
    obtain ⟨p', q', e1', hp', hq', hqs'⟩ := chA_split (k := K) (R := t) ⟨hK, by omega⟩ c (by rw [hts]; exact hc)
    rw [e1] at hf hl
    rw [e1']
    have f0 : f i = sumB p := by have := hf 0; simpa [fOf] using this
    simp only [List.length_cons] at hl
    show (if i = len ∨ sumB p' ≠ f i then (i : Int) else badG f len (i + 1) (chA K q')) = _
    rw [ht] at hp' hq'
    by_cases hkc : k < c
    · rw [if_pos (.inr (by
        rw [f0]
        unfold sumB
        rw [hp, hp']
        refine Crc.burst (by simp) k ?_ ?_ ?_
        · rw [List.take_take, List.take_take, List.take_set_of_le (by omega)]
        · rw [List.drop_take, List.drop_take, List.drop_set_of_lt (by omega)]
        · intro e
          have := congrArg (fun l => l[k]?) e
          simp only [List.getElem?_take, if_pos hkc] at this
          rw [hk, List.getElem?_set_self (by omega)] at this
          exact hxy (Option.some.inj this)))]
      rw [Nat.div_eq_of_lt (by omega), Nat.add_zero]
    · have hcK : c = K := by omega
      have hpp : p' = p := Subtype.ext (ByteArray.ext (Array.toList_inj.1 (by rw [hp, hp', List.take_set_of_le (by omega)])))
      rw [if_neg (by rintro (e | e); omega; exact e (by rw [hpp, f0]))]
      obtain ⟨m, rfl⟩ : ∃ m, n = m + 1 := ⟨n - 1, by omega⟩
      rw [bad_at hK f len x y hxy m q q' (k - c) (i + 1) (by omega) (by rw [hq, List.getElem?_drop, show c + (k - c) = k by omega]; exact hk)
        (by rw [hq', hq, List.drop_set, if_neg hkc])
        (fun j => by have := hf (j + 1); rw [show i + 1 + j = i + (j + 1) by omega, this]; simp [fOf]) (by omega)]
      subst hcK
      congr 1
      have : k / c = (k - c) / c + 1 := by rw [← Nat.sub_add_cancel (show c ≤ k by omega)]; simp [Nat.add_div_right _ hK]
      omega
end Go.Proofs.YtgeigimdmhjddaaDoor
