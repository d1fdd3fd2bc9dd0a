/- The contracts that the laws of messages share: Encode and Valid as single facts. -/
import Derived.Test.YtndcmjgjecdgcaaDoorRecMsg
import Derived.Test.YtndcmjgjecdgcaaDoorRecInj
import Derived.Test.YtndcmjgjecdgcaaDoorRecSame
import Derived.Test.YtndcmjgjecdgcaaDoorRecSpeaks
import Derived.Test.YtndcmjgjecdgcaaDoorRecOpen
namespace Go.Proofs.YtndcmjgjecdgcaaDoor
open Go.RowKit
/-- what Encode answers -/
def encR (k c i : Int) (ns : List Int) (ts : List ByteArray) : ByteArray := if validB k ns.length ts.length then encS k c i ns ts else ⟨#[]⟩
theorem num_len (n : Int) : (numS n).data.toList.length ≤ 10 := by
  have := (numS_size n).2
  have h2 : (numS n).data.toList.length = (numS n).size := size_toList _
  omega
theorem nums_len (ns : List Int) : (numsL ns).length ≤ 10 * ns.length := by
  induction ns with
  | nil => simp [numsL]
  | cons n ns ih =>
    have h1 := num_len n
    have h2 : (numsL (n :: ns)) = (numS n).data.toList ++ numsL ns := by simp [numsL]
    rw [h2, List.length_append, List.length_cons]
    omega
theorem texts_len (ts : List ByteArray) : (textsL ts).length ≤ 10 * ts.length + totB ts := by
  induction ts with
  | nil => simp [textsL]
  | cons n ns ih =>
    have h1 := num_len n.size
    have h2 : (textsL (n :: ns)) = textL n ++ textsL ns := by simp [textsL]
    have h3 : (textL n).length = (numS n.size).data.toList.length + n.size := by unfold textL; rw [List.length_append]; rfl
    rw [h2, List.length_append, List.length_cons, h3]
    simp only [totB, List.map_cons, List.sum_cons] at ih ⊢
    omega
theorem enc_len (k c i : Int) (ns : List Int) (ts : List ByteArray) : (encL k c i ns ts).length ≤ 50 + 10 * (ns.length + ts.length + totB ts) := by
  have h1 := num_len k
  have h2 := num_len c
  have h3 := num_len i
  have h4 := num_len ns.length
  have h5 := num_len ts.length
  have h6 := nums_len ns
  have h7 := texts_len ts
  unfold encL headL
  simp only [List.length_append]
  omega
theorem encode_any (k c i : Int) (A C : Option Addr) (cn ct : Nat) (ns : List Int) (ts : List ByteArray) (w : World) (hS : Shp w) (hM : MsgAt w w.heap.size A C ns ts) (hk : i64 k) (hc : i64 c) (hi : i64 i) (hz : (encL k c i ns ts).length ≤ 281474976710656) :
    Calls Tryd.prog 9 #[.agg #[.int .i64 k, .int .i64 c, .int .i64 i, .slice A ns.length cn, .slice C ts.length ct]] w fun e w' => e = .returned (.string (encR k c i ns ts)) ∧ Below w.heap.size w w' := by
  have hn : ns.length ≤ 140737488351232 := by have := hM.nl; omega
  have ht : ts.length ≤ 140737488351232 := by have := hM.tl; omega
  unfold encR
  by_cases hv : validB k ns.length ts.length = true
  · rw [if_pos hv]; exact encode_yes k c i A C cn ct ns ts w hS hM hv hk hc hi hz
  · rw [if_neg hv]; exact encode_no k c i A C cn ct ns ts w hS hn ht (by simpa using hv)
theorem valid_msg (k c i : Int) (A C : Option Addr) (cn ct : Nat) (ns : List Int) (ts : List ByteArray) (w : World) (hS : Shp w) (hM : MsgAt w w.heap.size A C ns ts) :
    Calls Tryd.prog 10 #[.agg #[.int .i64 k, .int .i64 c, .int .i64 i, .slice A ns.length cn, .slice C ts.length ct]] w fun e w' => e = .returned (.bool (validB k ns.length ts.length)) ∧ Below w.heap.size w w' :=
  valid_any k c i A C ns.length ts.length cn ct w hS (by have := hM.nl; omega) (by have := hM.tl; omega)
theorem encR_no {k c i : Int} {ns : List Int} {ts : List ByteArray} (h : validB k ns.length ts.length = false) : encR k c i ns ts = ⟨#[]⟩ := by unfold encR; simp [h]
theorem encR_yes {k c i : Int} {ns : List Int} {ts : List ByteArray} (h : validB k ns.length ts.length = true) : encR k c i ns ts = encS k c i ns ts := by unfold encR; simp [h]
theorem encS_ne (k c i : Int) (ns : List Int) (ts : List ByteArray) : ¬ (encS k c i ns ts).toList = [] := by
  rw [ByteArray.toList_eq]
  exact enc_ne k c i ns ts
end Go.Proofs.YtndcmjgjecdgcaaDoor
