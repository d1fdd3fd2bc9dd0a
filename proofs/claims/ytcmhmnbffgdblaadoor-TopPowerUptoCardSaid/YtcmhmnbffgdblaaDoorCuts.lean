/- Plain mathematics of a stream of frames that is cut short at a place, or has one byte changed there. And the contract of the law's own comparison of texts. -/
import Derived.Test.YtcmhmnbffgdblaaDoorTexts
import Derived.Test.YtcmhmnbffgdblaaDoorQuiet
namespace Go.Proofs.YtcmhmnbffgdblaaDoor
open Go.RowKit

/-- where the first n frames end -/
def endAt (bs : List (List UInt8)) (n : Nat) : Nat := (stream (bs.take n)).length
theorem endAt_succ {bs : List (List UInt8)} {n : Nat} (h : n < bs.length) : endAt bs (n + 1) = endAt bs n + (bs[n].length + 12) := by
  unfold endAt
  rw [List.take_succ_eq_append_getElem h, stream_append, List.length_append]
  simp [stream, frameL_length]
theorem endAt_all (bs : List (List UInt8)) : endAt bs bs.length = (stream bs).length := by unfold endAt; rw [List.take_length]
theorem stream_parts {bs : List (List UInt8)} {n : Nat} (h : n < bs.length) : stream bs = stream (bs.take n) ++ (frameL bs[n] ++ stream (bs.drop (n + 1))) := by
  have e : bs = bs.take n ++ bs[n] :: bs.drop (n + 1) := by
    rw [← List.drop_eq_getElem_cons h, List.take_append_drop]
  conv => lhs; rw [e]
  rw [stream_append]
  rfl
theorem small_take {bs : List (List UInt8)} (hb : Small bs) (n : Nat) : Small (bs.take n) := fun x hx => hb x (List.mem_of_mem_take hx)
theorem cut_read {bs : List (List UInt8)} (hb : Small bs) {n cut : Nat} (h : n < bs.length) (h1 : endAt bs n ≤ cut) (h2 : cut < endAt bs (n + 1)) :
    allL ((stream bs).take cut) = (bs.take n, endAt bs n, if endAt bs n = cut then 0 else 23) := by
  rw [endAt_succ h] at h2
  have e : (stream bs).take cut = stream (bs.take n) ++ (frameL bs[n]).take (cut - endAt bs n) := by
    rw [stream_parts h, List.take_append, List.take_of_length_le (by exact h1)]
    congr 1
    show List.take (cut - endAt bs n) _ = _
    rw [List.take_append, frameL_length, show cut - endAt bs n - (bs[n].length + 12) = 0 by omega, List.take_zero, List.append_nil]
  rw [e, all_stream _ (small_take hb n)]
  by_cases hc : endAt bs n = cut
  · rw [if_pos hc, show cut - endAt bs n = 0 by omega, List.take_zero, all_nil]
    simp only [List.append_nil, Nat.add_zero]
    rfl
  · rw [if_neg hc, all_torn (hb bs[n] (List.getElem_mem h)) (n := cut - endAt bs n) (by omega) (by omega) rfl]
    simp only [List.append_nil, Nat.add_zero]
    rfl
theorem turn_read {bs : List (List UInt8)} (hb : Small bs) {n cut : Nat} (h : n < bs.length) (h1 : endAt bs n ≤ cut) (h2 : cut < endAt bs (n + 1)) {x : UInt8} (hx : x ≠ 0) (hc : cut < (stream bs).length) :
    allL ((stream bs).set cut ((stream bs)[cut] ^^^ x)) = (bs.take n, endAt bs n, 24) := by
  rw [endAt_succ h] at h2
  have hlf : cut - endAt bs n < (frameL bs[n]).length := by rw [frameL_length]; omega
  have hp := stream_parts h
  have hv : (stream bs)[cut]? = (frameL bs[n])[cut - endAt bs n]? := by
    rw [hp, List.getElem?_append_right h1]
    exact List.getElem?_append_left hlf
  rw [List.getElem?_eq_getElem hc, List.getElem?_eq_getElem hlf] at hv
  injection hv with hv
  have e : (stream bs).set cut ((stream bs)[cut] ^^^ x) = stream (bs.take n) ++ ((frameL bs[n]).set (cut - endAt bs n) ((frameL bs[n])[cut - endAt bs n] ^^^ x) ++ stream (bs.drop (n + 1))) := by
    rw [hv]
    generalize (frameL bs[n])[cut - endAt bs n] ^^^ x = y
    rw [hp, List.set_append_right _ _ h1]
    show _ ++ (List.set _ (cut - endAt bs n) y) = _
    rw [List.set_append_left _ _ hlf]
  have hne : (frameL bs[n]).set (cut - endAt bs n) ((frameL bs[n])[cut - endAt bs n] ^^^ x) ≠ frameL bs[n] := by
    intro e2
    have h3 := congrArg (fun m => m[cut - endAt bs n]?) e2
    simp only [List.getElem?_set_self hlf] at h3
    rw [List.getElem?_eq_getElem hlf] at h3
    injection h3 with h3
    apply hx
    have := congrArg ((frameL bs[n])[cut - endAt bs n] ^^^ ·) h3
    simpa [← UInt8.xor_assoc] using this
  have hnear : Near4 ((frameL bs[n]).set (cut - endAt bs n) ((frameL bs[n])[cut - endAt bs n] ^^^ x)) (frameL bs[n]) (cut - endAt bs n) :=
    ⟨by simp, fun i hi => by rw [List.getElem?_set_ne (by omega)]⟩
  rw [e, all_stream _ (small_take hb n), all_corrupt (hb bs[n] (List.getElem_mem h)) hnear hne]
  simp only [List.append_nil, Nat.add_zero]
  rfl

/-- a slice that holds texts -/
def RowAt (w : World) (ao : Option Addr) (bs : List (List UInt8)) : Prop :=
  ∀ i, (h : i < bs.length) → ∃ b off, ao = some ⟨b, off, none⟩ ∧ w.cell? ⟨b, off + i, none⟩ = some (strV bs[i])
theorem RowAt.drewN {w : World} {ao : Option Addr} {bs : List (List UInt8)} (h : RowAt w ao bs) (n : Nat) : RowAt (w.drewN n) ao bs := fun i hi => by
  obtain ⟨b, off, e, c⟩ := h i hi
  exact ⟨b, off, e, c⟩
theorem RowAt.take {w : World} {ao : Option Addr} {bs : List (List UInt8)} (h : RowAt w ao bs) (n : Nat) : RowAt w ao (bs.take n) := fun i hi => by
  rw [List.length_take] at hi
  obtain ⟨b, off, e, c⟩ := h i (by omega)
  exact ⟨b, off, e, by rw [List.getElem_take]; exact c⟩
theorem Texts.at_ {w : World} {B : Nat} {ao : Option Addr} {bs : List (List UInt8)} (h : Texts w B ao bs) : RowAt w ao bs := fun i hi => by
  obtain ⟨b, off, e, _, c⟩ := h i hi
  exact ⟨b, off, e, c⟩
end Go.Proofs.YtcmhmnbffgdblaaDoor
