/- Bytes of a Pack and of none; the law's own test. -/
import Derived.Test.YteengjmjbfgkeaaDoorWireBytes
namespace Go.Proofs.YteengjmjbfgkeaaDoor
open Go.RowKit

def catS (parts : List ByteArray) : ByteArray := ⟨(cat parts).toArray⟩
theorem catS_size (parts : List ByteArray) : (catS parts).size = tot parts := by
  unfold catS
  show (cat parts).toArray.size = _
  rw [List.size_toArray, cat_length]
theorem bytes_pack (p L : Nat) (w : World) (parts : List ByteArray) (hP : PackIs w p L parts) (ht : tot parts ≤ 281474976710656) :
    Calls Tryd.prog 38 #[.pointer (some ⟨p, 0, none⟩)] w fun e w' => e = .returned (.string (catS parts)) ∧ Below w.heap.size w w' := by
  obtain ⟨hl, hL, hf, hd, hc, hch⟩ := hP
  exact bytes_raw p L hd w parts hc hch (by omega) ht
theorem bytes_nil (w : World) :
    Calls Tryd.prog 38 #[.pointer none] w fun e w' => e = .returned (.string ⟨#[]⟩) ∧ w = w' := by
  go_enter Tryd.func38, Tryd.ntmps38
  go_wp2
  go_ret
  exact ⟨rfl, rfl⟩

/-- two Packs, laid one behind the other -/
theorem two_first (w : World) (t : TypeId) : PackIs ((w.alloc (.cells #[.pointer none] t)).alloc (.cells #[.pointer none] t)) w.heap.size (w.heap.size + 2) [] := by
  have h := PackIs.new w t
  have hb : Below (w.alloc (.cells #[.pointer none] t)).heap.size (w.alloc (.cells #[.pointer none] t)) ((w.alloc (.cells #[.pointer none] t)).alloc (.cells #[.pointer none] t)) := (Below.refl _ _).alloc (Nat.le_refl _) _
  exact (h.below hb (Nat.le_refl _)).raise (by omega) (by simp)
theorem two_second (w : World) (t : TypeId) : PackIs ((w.alloc (.cells #[.pointer none] t)).alloc (.cells #[.pointer none] t)) (w.heap.size + 1) (w.heap.size + 2) [] := by
  have h := PackIs.new (w.alloc (.cells #[.pointer none] t)) t
  simpa using h
theorem two_below {B : Nat} {w w1 : World} (h : Below B w w1) (t : TypeId) (hB : B ≤ w1.heap.size := by exact h.size) : Below B w ((w1.alloc (.cells #[.pointer none] t)).alloc (.cells #[.pointer none] t)) :=
  (h.alloc hB _).alloc (by simp; omega) _

def ab : ByteArray := ⟨#[97, 98]⟩
theorem said_bytes : catS [numS (ab.size : Int) ++ ab, numS 64] = ⟨#[128, 1, 4, 97, 98]⟩ := by decide +kernel

theorem speaks2_any (w : World) :
    Calls Tryd.prog 20 #[] w fun e w' => e = .returned (.bool true) ∧ Below w.heap.size w w' := by
  have P0 := Lib.hid (PackIs.new w 65)
  have B0 := Lib.hid ((Below.refl w.heap.size w).alloc (Nat.le_refl _) (.cells #[.pointer none] 65))
  go_enter Tryd.func20, Tryd.ntmps20
  go_wp2_with (first | (go_at_call 36; go_must (refine (int_pack _ _ 64 _ _ P0.out (by omega)).mono ?_; rintro e w1 ⟨rfl, hp1, hg1⟩; have P1 := Lib.hid hp1; have B1 := Lib.hid (below_grown B0.out hg1 (Nat.le_refl _) (by simp)); clear hp1 hg1)) | (go_at_call 37; go_must (refine (text_pack _ _ ab _ _ P1.out (by decide)).mono ?_; rintro e w2 ⟨rfl, hp2, hg2⟩; have P2 := Lib.hid hp2; have B2 := Lib.hid (below_grown B1.out hg2 (Nat.le_refl _) B1.out.size); clear hp2 hg2)) | (go_at_call 38; go_must (refine (bytes_pack _ _ _ _ P2.out (by decide)).mono ?_; rw [said_bytes]; rintro e w3 ⟨rfl, hb3⟩; have B3 := Lib.hid (B2.out.trans (hb3.mono B2.out.size)); clear hb3)))
  go_ret
  exact ⟨rfl, B3.out⟩
end Go.Proofs.YteengjmjbfgkeaaDoor
