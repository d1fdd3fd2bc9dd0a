/- Bytes of a Pack and of none; the law's own test. -/
import Derived.Test.YtndcmjgjecdgcaaDoorWireBytes
namespace Go.Proofs.YtndcmjgjecdgcaaDoor
open Go.RowKit

def catS (parts : List ByteArray) : ByteArray := ⟨(cat parts).toArray⟩
theorem catS_size (parts : List ByteArray) : (catS parts).size = tot parts := by
  unfold catS
  show (cat parts).toArray.size = _
  rw [List.size_toArray, cat_length]
theorem bytes_pack (p L : Nat) (w : World) (parts : List ByteArray) (hP : PackIs w p L parts) (ht : tot parts ≤ 281474976710656) :
    Calls Tryd.prog 21 #[.pointer (some ⟨p, 0, none⟩)] w fun e w' => e = .returned (.string (catS parts)) ∧ Below w.heap.size w w' := by
  obtain ⟨hl, hL, hf, hd, hc, hch⟩ := hP
  exact bytes_raw p L hd w parts hc hch (by omega) ht
theorem bytes_nil (w : World) :
    Calls Tryd.prog 21 #[.pointer none] w fun e w' => e = .returned (.string ⟨#[]⟩) ∧ w = w' := by
  go_enter Tryd.func21, Tryd.ntmps21
  go_wp2
  go_ret
  exact ⟨rfl, rfl⟩

/-- two Packs, laid one behind the other -/
theorem two_first (w : World) (t : TypeId) : PackIs ((w.alloc (.cells #[.pointer none] t)).alloc (.cells #[.pointer none] t)) w.heap.size (w.heap.size + 2) [] := by
  have h := PackIs.new w t
  have hb : Below (w.alloc (.cells #[.pointer none] t)).heap.size (w.alloc (.cells #[.pointer none] t)) ((w.alloc (.cells #[.pointer none] t)).alloc (.cells #[.pointer none] t)) := (Below.refl _ _).alloc (Nat.le_refl _) _
  exact (h.below hb (Nat.le_refl _)).raise (by omega) (by simp)
theorem two_second (w : World) (t : TypeId) : PackIs ((w.alloc (.cells #[.pointer none] t)).alloc (.cells #[.pointer none] t)) (w.heap.size + 1) (w.heap.size + 2) [] := by
  have h := PackIs.new (w.alloc (.cells #[.pointer none] t)) t
  simpa using h
theorem two_below {B : Nat} {w w1 : World} (h : Below B w w1) (t : TypeId) (hB : B ≤ w1.heap.size := by exact h.size) : Below B w ((w1.alloc (.cells #[.pointer none] t)).alloc (.cells #[.pointer none] t)) :=
  (h.alloc hB _).alloc (by simp; omega) _

def ab : ByteArray := ⟨#[97, 98]⟩
theorem said_bytes : catS [numS (ab.size : Int) ++ ab, numS 64] = ⟨#[128, 1, 4, 97, 98]⟩ := by decide +kernel

end Go.Proofs.YtndcmjgjecdgcaaDoor
