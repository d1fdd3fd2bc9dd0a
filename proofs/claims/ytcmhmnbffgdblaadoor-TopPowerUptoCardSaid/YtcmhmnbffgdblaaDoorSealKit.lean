/- What the walks over streams of frames share: the stream as it grows, rows of texts, bytes that are changed in place. -/
import Derived.Test.YtcmhmnbffgdblaaDoorCuts
import Derived.Test.YtcmhmnbffgdblaaDoorCrcLaid
namespace Go.Proofs.YtcmhmnbffgdblaaDoor
open Go.ChangeShapes Go.WideShapes Go.ChangeAt Go.RowKit

theorem strV_q (l : List UInt8) : strV l = .string ⟨l.toArray⟩ := rfl
def Acc (bs : List (List UInt8)) (k : Nat) (S : ByteArray) : Prop := S.data.toList = stream (bs.take k)
theorem acc_size {bs : List (List UInt8)} {k : Nat} {S : ByteArray} (h : Acc bs k S) (ht : totL bs ≤ 1048576) : S.size ≤ 12582912 := by
  have h1 : S.data.toList.length = S.size := by simp
  rw [h] at h1
  have := stream_len (bs.take k)
  have := tot_take bs k
  omega
theorem acc_step {bs : List (List UInt8)} {k : Nat} {S q : ByteArray} (h : Acc bs k S) (hk : k < bs.length) (hq : q.data.toList = bs[k]) : Acc bs (k + 1) (S ++ ⟨(frameL q.data.toList).toArray⟩) := by
  unfold Acc at h ⊢
  rw [ByteArray.data_append, Array.toList_append, h, hq, List.take_succ_eq_append_getElem hk, stream_append]
  simp [stream]
theorem acc_done {bs : List (List UInt8)} {S : ByteArray} (h : Acc bs bs.length S) : S.data.toList = stream bs := by
  rw [h, List.take_length]
/-- a row of the call's own that holds texts -/
def TextRow (w : World) (B : Nat) (ao : Option Addr) (bs : List (List UInt8)) : Prop :=
  ∀ i, (h : i < bs.length) → ∃ g, ao = some ⟨g, 0, none⟩ ∧ B ≤ g ∧ g < w.heap.size ∧ w.cell? ⟨g, i, none⟩ = some (strV bs[i])
theorem text_drewN {w : World} {B : Nat} {ao : Option Addr} {bs : List (List UInt8)} (h : TextRow w B ao bs) (n : Nat) : TextRow (w.drewN n) B ao bs := fun i hi => by
  obtain ⟨g, e, b1, b2, c⟩ := h i hi
  exact ⟨g, e, b1, b2, c⟩
theorem all_post {w w' : World} {l : List UInt8} {bs : List (List UInt8)} {n m : Nat} {er : Int} {e : Ending} (hal : allL l = (bs, n, er)) (hm : bs.length = m) (h : AllPost w l e w') :
    ∃ ao cp, e = .returned (.tuple #[.slice ao m cp, .int .i64 n, .int .i64 er]) ∧ TextRow w' w.heap.size ao bs ∧ Below w.heap.size w w' := by
  obtain ⟨v, he, ho, hb⟩ := h
  rw [hal] at he ho
  simp only at he ho
  rw [hm] at ho
  obtain ⟨hl, ho⟩ := ho
  rcases ho with ⟨rfl, h0⟩ | ⟨g, cap, cur, rfl, h2, h3, h4, h5, h6, h7⟩
  · subst h0
    exact ⟨none, 0, he, fun i hi => absurd hi (by omega), hb⟩
  · refine ⟨_, _, he, fun i hi => ⟨g, rfl, h2, ?_, ?_⟩, hb⟩
    · rcases Nat.lt_or_ge g w'.heap.size with hl | hl
      · exact hl
      · rw [Array.getElem?_eq_none hl] at h3; cases h3
    · have hi2 : i < cur.size := by omega
      have e1 : cur.toList[i]? = some (strV bs[i]) := by
        have : (cur.toList.take (m * 1))[i]? = some (strV bs[i]) := by rw [h7, List.getElem?_map, List.getElem?_eq_getElem hi]; rfl
        rw [List.getElem?_take] at this
        split at this
        · exact this
        · cases this
      simp only [World.cell?, h3]
      simpa using e1
theorem byte_of (c : BitVec 32) (d : Int) : ∃ x : UInt8, U c / d % 256 = (x.toNat : Int) :=
  ⟨UInt8.ofNat (U c / d % 256).toNat, by
    rw [UInt8.toNat_ofNat']
    have h0 := Int.emod_nonneg (U c / d) (by decide : (256 : Int) ≠ 0)
    have h1 := Int.emod_lt_of_pos (U c / d) (by decide : (0 : Int) < 256)
    omega⟩
theorem u8_xor_of (a b : UInt8) : bits BinOp.xor IntKind.u8 (a.toNat : Int) (b.toNat : Int) = ((a ^^^ b).toNat : Int) := by
  rw [u8_xor_nat _ _ a.toNat_lt b.toNat_lt, UInt8.toNat_xor]
/-- the first k of four places from a on may have turned; sb: one has -/
def SInv (l0 : List UInt8) (a k : Nat) (l : List UInt8) (sb : Bool) : Prop :=
  (l.length = l0.length ∧ ∀ i, i < a ∨ a + k ≤ i → l[i]? = l0[i]?) ∧ (sb = true ↔ l ≠ l0)
theorem sinv_start (l0 : List UInt8) (a : Nat) : Hid (SInv l0 a 0 l0 false) := ⟨⟨rfl, fun _ _ => rfl⟩, by simp⟩
theorem xor_ne {x y : UInt8} (hx : x ≠ 0) : y ^^^ x ≠ y := by
  intro e
  apply hx
  have := congrArg (y ^^^ ·) e
  simpa [← UInt8.xor_assoc] using this
theorem sinv_step {l0 l : List UInt8} {a k : Nat} {sb : Bool} (h : SInv l0 a k l sb) (hk : a + k < l.length) (x : UInt8) : SInv l0 a (k + 1) (l.set (a + k) (l[a + k] ^^^ x)) (sb || x != 0) := by
  obtain ⟨⟨hl, h1⟩, h2⟩ := h
  have hle : l[a + k]? = l0[a + k]? := h1 _ (.inr (Nat.le_refl _))
  refine ⟨⟨by simpa using hl, fun i hi => ?_⟩, ?_⟩
  · rw [List.getElem?_set_ne (by omega)]
    exact h1 i (by omega)
  · by_cases hx : x = 0
    · subst hx
      have e : l.set (a + k) (l[a + k] ^^^ 0) = l := by simp
      rw [e]
      simpa using h2
    · have hb : (x != 0) = true := by simpa using hx
      rw [hb, Bool.or_true]
      refine ⟨fun _ e => ?_, fun _ => rfl⟩
      have h3 := congrArg (fun m => m[a + k]?) e
      simp only [List.getElem?_set_self hk] at h3
      rw [← hle, List.getElem?_eq_getElem hk] at h3
      injection h3 with h3
      exact xor_ne hx h3
theorem sinv_end {l0 l : List UInt8} {a k : Nat} {sb : Bool} (h : SInv l0 a k l sb) (hk4 : k ≤ 4) (hk : k = 4 ∨ l0.length ≤ a + k) : Near4 l l0 a ∧ (sb = true ↔ l ≠ l0) := by
  obtain ⟨⟨hl, h1⟩, h2⟩ := h
  refine ⟨⟨hl, fun i hi => ?_⟩, h2⟩
  rcases hk with rfl | hk
  · exact h1 i hi
  · by_cases hi2 : i < a ∨ a + k ≤ i
    · exact h1 i hi2
    · rcases hi with hi | hi
      · exact absurd (.inl hi) hi2
      · by_cases hz : i < l0.length
        · omega
        · rw [List.getElem?_eq_none (by omega), List.getElem?_eq_none (by omega)]
/-- what is read of a stream that may have turned within four bytes -/
theorem read_turned {bs : List (List UInt8)} {l : List UInt8} {a : Nat} {sb : Bool} (hb : Small bs) (hn : Near4 l (stream bs) a) (hs : sb = true ↔ l ≠ stream bs) :
    ∃ m n er, allL l = (bs.take m, n, er) ∧ m ≤ bs.length ∧ ((sb = true ∧ m < bs.length ∧ er = 24) ∨ (sb = false ∧ m = bs.length ∧ er = 0)) := by
  cases sb
  · have : l = stream bs := by
      by_cases h : l = stream bs
      · exact h
      · exact absurd (hs.2 h) (by decide)
    subst this
    exact ⟨bs.length, _, 0, by rw [all_whole bs hb, List.take_length], Nat.le_refl _, .inr ⟨rfl, rfl, rfl⟩⟩
  · obtain ⟨k, hk, hal⟩ := all_changed bs hb l a hn (hs.1 rfl)
    exact ⟨k, _, 24, hal, by omega, .inl ⟨rfl, hk, rfl⟩⟩
theorem TextRow.at_ {w : World} {B : Nat} {ao : Option Addr} {bs : List (List UInt8)} (h : TextRow w B ao bs) : RowAt w ao bs := fun i hi => by
  obtain ⟨g, e, _, _, c⟩ := h i hi
  exact ⟨g, 0, e, by rw [Nat.zero_add]; exact c⟩
end Go.Proofs.YtcmhmnbffgdblaaDoor
