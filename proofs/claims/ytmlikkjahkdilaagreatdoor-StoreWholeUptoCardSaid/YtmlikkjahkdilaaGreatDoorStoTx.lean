/- A list of texts as it came in: its cells, and how much it holds. -/
import Derived.Test.YtmlikkjahkdilaaGreatDoorStkF
import Derived.SliceStrings
import Derived.ChangeShapes
import Derived.Deep.Slices
namespace Go.Proofs.YtmlikkjahkdilaaGreatDoor
open Go.RowKit Go.ChangeShapes Go.WideShapes Go.Deep

/-- the slice value holds the texts, all of them below B -/
def Texts (w : World) (B : Nat) (A : Option Addr) (bs : List (List UInt8)) : Prop :=
  ∀ i, (h : i < bs.length) → ∃ b off, A = some ⟨b, off, none⟩ ∧ b < B ∧ w.cell? ⟨b, off + i, none⟩ = some (strV bs[i])
theorem Texts.below {w w' : World} {B : Nat} {A : Option Addr} {bs : List (List UInt8)} (h : Texts w B A bs) (hb : Below B w w') : Texts w' B A bs := fun i hi => by
  obtain ⟨b, off, e, hB, hc⟩ := h i hi
  exact ⟨b, off, e, hB, (hb.cell (p := ⟨b, _, none⟩) hB).trans hc⟩
def totL : List (List UInt8) → Nat
  | [] => 0
  | b :: bs => b.length + 1 + totL bs
theorem stream_len (bs : List (List UInt8)) : (stream bs).length ≤ 12 * totL bs := by
  induction bs with
  | nil => simp [stream]
  | cons b bs ih => simp only [stream, List.length_append, frameL_length, totL]; omega
theorem len_le_tot (bs : List (List UInt8)) : bs.length ≤ totL bs := by
  induction bs with
  | nil => simp
  | cons b bs ih => simp only [List.length_cons, totL]; omega
theorem mem_le_tot {bs : List (List UInt8)} {b : List UInt8} (h : b ∈ bs) : b.length ≤ totL bs := by
  induction bs with
  | nil => cases h
  | cons x bs ih =>
    simp only [totL]
    rcases List.mem_cons.1 h with rfl | h
    · omega
    · have := ih h; omega
theorem tot_takeT (bs : List (List UInt8)) (n : Nat) : totL (bs.take n) ≤ totL bs := by
  induction bs generalizing n with
  | nil => simp [totL]
  | cons x bs ih =>
    cases n with
    | zero => simp [totL]
    | succ n => simp only [List.take_succ_cons, totL]; have := ih n; omega
theorem small_of {bs : List (List UInt8)} (h : totL bs ≤ 1048576) : Small bs := fun _ hb => Nat.le_trans (mem_le_tot hb) h
set_option maxRecDepth 100000 in
theorem bulk_strs {H : Type} (ss : List ByteArray) : Rows.uptoBulkAll (strs ss : List (DataW H)) = totL (ss.map fun s => s.data.toList) := by
  induction ss with
  | nil => rfl
  | cons s ss ih =>
    show Rows.uptoBulkAll (DataW.lit (Lit.string s.data.toList) :: strs ss) = _
    simp only [Rows.uptoBulkAll, Rows.uptoBulk, List.map_cons, totL, ih]
set_option maxRecDepth 100000 in
theorem open_texts {H : Type} {enc : TypeId × Value → H} {W : World} {base : Nat} {v : Value} {d : DataW H} {p : List MemPlace}
    (hv : Value.okWide Tryz.prog W .any base 36 v) (h : DataW.Trod enc Tryz.prog W 0 (fun _ => true) true 36 v d p) (hk : Rows.uptoBulk d ≤ 1048576) :
    ∃ (A : Option Addr) (len cap : Nat) (bs : List (List UInt8)), v = .slice A len cap ∧ bs.length = len ∧ len ≤ cap ∧ Texts W W.heap.size A bs ∧ totL bs ≤ 1048576 := by
  obtain ⟨A, len, cap, rfl⟩ := okWide_slice Tryz.underlying36 hv
  obtain ⟨fuel, hf⟩ := h
  have hc1 : Tryz.prog.cellsOf 9 = 1 := by kernel_rfl
  rcases open_strings Tryz.underlying36 Tryz.underlying9 hc1 hf with ⟨hcs, _⟩ | ⟨a, len', cap', ss, hcs, _, hl, hm, hss, hx, hcell, _⟩
  · simp only [Value.cells, List.cons.injEq, and_true] at hcs
    injection hcs with e1 e2 e3
    subst e1 e2 e3
    exact ⟨none, 0, 0, [], rfl, rfl, Nat.le_refl _, fun i hi => absurd hi (by simp), by simp [totL]⟩
  · simp only [Value.cells, List.cons.injEq, and_true] at hcs
    injection hcs with e1 e2 e3
    subst e1 e2 e3
    simp only [if_true] at hss
    simp only [Prod.mk.injEq] at hx
    obtain ⟨rfl, _⟩ := hx
    have hk2 : totL ((ss.take len).map fun s => s.data.toList) ≤ 1048576 := by
      simp only [Rows.uptoBulk, bulk_strs] at hk
      omega
    have hlen : ((ss.take len).map fun s => s.data.toList).length = len := by simp; omega
    refine ⟨some a, len, cap, (ss.take len).map fun s => s.data.toList, rfl, hlen, hl, fun i hi => ?_, hk2⟩
    have hi' : i < ss.length := by omega
    have hc := hcell i hi'
    obtain ⟨b, off, spot⟩ := a
    have hspot : spot = none := by
      have h0 := World.cell?_spot (hcell 0 (by omega))
      simpa [Addr.add] using h0
    subst hspot
    rw [add_plain] at hc
    refine ⟨b, off, rfl, ?_, ?_⟩
    · rcases Nat.lt_or_ge b W.heap.size with hlt | hge
      · exact hlt
      · simp [World.cell?, Array.getElem?_eq_none hge] at hc
    · rw [hc]
      have e : ss.getD i ByteArray.empty = ss[i] := by rw [List.getD_eq_getElem?_getD, List.getElem?_eq_getElem hi']; rfl
      rw [e]
      simp [strV]
end Go.Proofs.YtmlikkjahkdilaaGreatDoor
