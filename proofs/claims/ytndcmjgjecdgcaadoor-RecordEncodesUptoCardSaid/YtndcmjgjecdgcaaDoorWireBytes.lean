/- The contract of wire.Pack's Bytes: all forms, the first one first. -/
import Derived.Test.YtndcmjgjecdgcaaDoorWirePackB
import Derived.RegionTactic
import Derived.Deep.RegionLaw
import Derived.StillTailTactics
namespace Go.Proofs.YtndcmjgjecdgcaaDoor
open Go.RowKit

/-- all the forms' bytes; the list has the last one first -/
def cat : List ByteArray → List UInt8
  | [] => []
  | s :: r => cat r ++ s.data.toList
def tot : List ByteArray → Nat
  | [] => 0
  | s :: r => tot r + s.size
theorem cat_length : ∀ l : List ByteArray, (cat l).length = tot l
  | [] => rfl
  | s :: r => by simp [cat, tot, cat_length r]
theorem cat_append : ∀ (a b : List ByteArray), cat (a ++ b) = cat b ++ cat a
  | [], b => by simp [cat]
  | s :: r, b => by simp [cat, cat_append r b]
theorem tot_append : ∀ (a b : List ByteArray), tot (a ++ b) = tot b + tot a
  | [], b => by simp [tot]
  | s :: r, b => by simp [tot, tot_append r b]; omega

theorem tot_snoc (a : List ByteArray) (s : ByteArray) : tot (a ++ [s]) = tot a + s.size := by rw [tot_append]; simp [tot]; omega
theorem cat_snoc (a : List ByteArray) (s : ByteArray) : cat (a ++ [s]) = s.data.toList ++ cat a := by rw [cat_append]; simp [cat]
theorem size_toList (s : ByteArray) : s.data.toList.length = s.size := by simp

/-- the head of a chain, as a walk reads it -/
theorem Chain.nil_ {w : World} {L : Nat} {h : Option Addr} (hc : Chain w L h []) : h = none := hc
theorem Chain.cons_ {w : World} {L : Nat} {h : Option Addr} {s : ByteArray} {r : List ByteArray} (hc : Chain w L h (s :: r)) :
    ∃ g h', h = some ⟨g, 0, none⟩ ∧ L ≤ g ∧ g < w.heap.size ∧ w.cell? ⟨g, 0, none⟩ = some (.pointer h') ∧ w.cell? ⟨g, 1, none⟩ = some (.string s) ∧ 0 < s.size ∧ Hid (Chain w L h' r) := hc

theorem make8 (n : Nat) (hn : n ≤ 281474976710656) : ∀ w : World, (Instr.makeSlice 89 (.int .i64 (n : Int)) (.int .i64 (n : Int))).run Tryd.prog w =
    .ok (.slice (some ⟨w.heap.size, 0, none⟩) n n) (w.alloc (.cells (madeCells #[.int .u8 0] n) 5)) := by
  intro w
  obtain ⟨i, hi, hz0, hz1, hz2⟩ := info_parts info8
  have := run_make (P := Tryd.prog) w 89 5 i (.int .u8 0) Tryd.underlying89 hi hz0 .i64 .i64 n n (by omega) (by omega) (by rw [hz2]; omega) (by omega)
  simpa [hz1, Value.cells] using this
theorem sizeOf8 : ∀ w, (Go.sizeOf 5).run Tryd.prog w = .ok 1 w := fun _ => by kernel_rfl

theorem mid_get (l m : List UInt8) (o : Nat) (ho : o + m.length ≤ l.length) (j : Nat) :
    (l.take o ++ m ++ l.drop (o + m.length))[j]? = if o ≤ j ∧ j < o + m.length then m[j - o]? else l[j]? := by
  have h1 : (l.take o).length = o := by rw [List.length_take]; omega
  rw [List.append_assoc, List.getElem?_append, List.getElem?_append, h1]
  by_cases hj : j < o
  · rw [if_pos hj, if_neg (by omega), List.getElem?_take_of_lt hj]
  · rw [if_neg hj]
    by_cases hm : j - o < m.length
    · rw [if_pos hm, if_pos (by omega)]
    · rw [if_neg hm, if_neg (by omega), List.getElem?_drop]
      congr 1
      omega
/-- a row of bytes behind a copy into its middle -/
theorem Row8.setCells {w : World} {g : Nat} {l : List UInt8} (h : Row8 w g l) (o : Nat) (m : List UInt8) (ho : o + m.length ≤ l.length) :
    Row8 (w.setCells g o (m.map fun x => Value.int .u8 (x.toNat : Int))) g (l.take o ++ m ++ l.drop (o + m.length)) := by
  intro j hj
  have hl : (l.take o ++ m ++ l.drop (o + m.length)).length = l.length := by simp; omega
  have hj' : j < l.length := by omega
  have key := mid_get l m o ho j
  rw [List.getElem?_eq_getElem hj] at key
  refine ⟨?_, ?_⟩
  · by_cases hin : o ≤ j ∧ j < o + m.length
    · have hm : j - o < m.length := by omega
      have := World.cell?_setCells_in g (m.map fun x => Value.int .u8 (x.toNat : Int)) o w (fun i hi => by
        rw [(h (o + i) (by simp at hi; omega)).1]; rfl) (j - o) (by simpa using hm)
      rw [show o + (j - o) = j by omega] at this
      rw [this]
      rw [if_pos hin, List.getElem?_eq_getElem hm] at key
      injection key with key
      rw [key, List.getElem_map]
    · rw [World.cell?_setCells_out g _ o w ⟨g, j, none⟩ (fun _ _ => by simp only [List.length_map]; omega), (h j hj').1]
      rw [if_neg hin, List.getElem?_eq_getElem hj'] at key
      injection key with key
      rw [key]
  · rw [World.frozen?_setCells]; exact (h j hj').2
theorem below_setCells {B b : Nat} {a : World} (hb : B ≤ b) : ∀ (vs : List Value) (o : Nat) (w : World), Below B a w → Below B a (w.setCells b o vs)
  | [], _, _, h => h
  | v :: r, o, w, h => below_setCells hb r (o + 1) _ (h.setCell (by exact hb) v)

set_option maxHeartbeats 1000000 in
theorem bytes_raw (p L : Nat) (h : Option Addr) (w : World) (parts : List ByteArray) (hc : w.cell? ⟨p, 0, none⟩ = some (.pointer h)) (hch : Chain w L h parts) (hp : p < w.heap.size) (ht : tot parts ≤ 281474976710656) :
    Calls Tryd.prog 21 #[.pointer (some ⟨p, 0, none⟩)] w fun e w' => e = .returned (.string ⟨(cat parts).toArray⟩) ∧ Below w.heap.size w w' := by
  have HC := Lib.hid hch
  clear hch
  go_enter Tryd.func21, Tryd.ntmps21
  go_wp2
  go_loopg [3, 4] parts.length (fun k s3 s4 wr => ∃ (done rest : List ByteArray) (h' : Option Addr), k = rest.length ∧ Hid (parts = done ++ rest) ∧ s3 = .int .i64 (tot done : Nat) ∧ s4 = .pointer h' ∧ Hid (Chain w L h' rest) ∧ w = wr)
  case atStart => exact ⟨[], parts, h, rfl, rfl, rfl, rfl, HC, rfl⟩
  case round =>
    obtain ⟨done, rest, h', hk, HP, rfl, rfl, HR, rfl⟩ := hrel
    have HK := Lib.hid hk
    clear hk
    cases rest with
    | nil =>
      obtain rfl := HR.out.nil_
      have hparts : parts = done := by simpa using HP.out
      subst hparts
      clear HR HP HK
      have hmk := make8 (tot parts) ht
      have R0 := Lib.hid (Row8.made w 5 (tot parts))
      have B0 : Hid (Below w.heap.size w (w.alloc (.cells (madeCells #[.int .u8 0] (tot parts)) 5))) := (Below.refl _ _).alloc (Nat.le_refl _) _
      go_wp2
      go_loopg [3, 6] parts.length (fun k s3 s6 wr => ∃ (done rest : List ByteArray) (h' : Option Addr) (l : List UInt8) (n : Nat), k = rest.length ∧ Hid (parts = done ++ rest) ∧ Hid (n = tot rest) ∧ s3 = .int .i64 (n : Int) ∧ s6 = .pointer h' ∧ Hid (Chain w L h' rest) ∧ Hid (Row8 wr w.heap.size l) ∧ Hid (l.length = tot parts) ∧ Hid (l.drop n = cat done) ∧ Hid (Below w.heap.size w wr))
      case atStart => exact ⟨[], parts, h, List.replicate (tot parts) 0, tot parts, rfl, rfl, rfl, rfl, rfl, HC, R0, Lib.hid (by simp), Lib.hid (by simp [cat]), B0⟩
      case round =>
        obtain ⟨done, rest, h', l, n, hk, HP, HT, rfl, rfl, HR, HRow, HLen, HDrop, HB⟩ := hrel
        have HK := Lib.hid hk
        clear hk hmk R0 B0
        cases rest with
        | nil =>
          obtain rfl := HR.out.nil_
          have hl : l = cat parts := by
            have h1 := HDrop.out
            have h2 := HT.out
            simp only [tot] at h2
            rw [h2, List.drop_zero] at h1
            rw [h1]
            have := HP.out
            simp only [List.append_nil] at this
            rw [this]
          have hbk := HRow.out.back (P := Tryd.prog) 89 9 5 (tot parts) Tryd.underlying89 Tryd.underlying5 Tryd.underlying9
          rw [HLen.out, hl] at hbk
          have HL := Lib.hid hl
          clear hl
          go_wp2
          go_ret
          exact ⟨rfl, HB.out⟩
        | cons s rest =>
          obtain ⟨g, h2, rfl, hg1, hg2, hc0', hc1', hs, HR2⟩ := HR.out.cons_
          have hc0 : wr.cell? ⟨g, 0, none⟩ = some (.pointer h2) := (HB.out.cell (p := ⟨g, 0, none⟩) hg2).trans hc0'
          have hc1 : wr.cell? ⟨g, 1, none⟩ = some (.string s) := (HB.out.cell (p := ⟨g, 1, none⟩) hg2).trans hc1'
          clear hc0' hc1'
          obtain ⟨m, hm⟩ : ∃ m, m = tot rest := ⟨_, rfl⟩
          have hn : n = m + s.size := by have := HT.out; simp only [tot] at this; omega
          have hmt : m + s.size ≤ tot parts := by
            have := HP.out
            rw [this, tot_append]; simp only [tot]; omega
          have HM := Lib.hid hm
          clear hm
          subst hn
          have hlm : m + s.data.toList.length ≤ l.length := by rw [HLen.out, size_toList]; omega
          have HCS : Hid (∀ j, j < s.size → (wr.drew.cell? ⟨w.heap.size, m + j, none⟩).isSome = true) := fun j hj => by
            have := (HRow.out (m + j) (by rw [size_toList] at hlm; omega)).1
            show (wr.cell? ⟨w.heap.size, m + j, none⟩).isSome = true
            rw [this]; rfl
          have HFS : Hid (∀ j, j < s.size → wr.drew.frozen? ⟨w.heap.size, m + j, none⟩ = false) := fun j hj =>
            (HRow.out (m + j) (by rw [size_toList] at hlm; omega)).2
          have HRow2 := Lib.hid ((HRow.out.drew).setCells m s.data.toList hlm)
          have HB2 := Lib.hid (below_setCells (b := w.heap.size) (Nat.le_refl _) (s.data.toList.map fun x => Value.int .u8 (x.toNat : Int)) m _ HB.out.drew)
          have HLen2 : Hid ((l.take m ++ s.data.toList ++ l.drop (m + s.data.toList.length)).length = tot parts) := by
            have := HLen.out
            show _ = _
            simp only [List.length_append, List.length_take, List.length_drop]
            omega
          have HDrop2 : Hid ((l.take m ++ s.data.toList ++ l.drop (m + s.data.toList.length)).drop m = cat (done ++ [s])) := by
            have h1 : (l.take m).length = m := by rw [List.length_take]; omega
            show _ = _
            rw [List.append_assoc, List.drop_append_of_le_length (by omega), List.drop_of_length_le (by omega), List.nil_append, size_toList, cat_snoc, HDrop.out]
          have hne : ¬ (tot parts = m) := by omega
          have hmle : m ≤ tot parts := by omega
          have HC0 : Hid (∀ W1, Below w.heap.size w W1 → W1.cell? ⟨g, 0, none⟩ = some (.pointer h2)) := fun W1 hb => (hb.cell (p := ⟨g, 0, none⟩) hg2).trans (((HB.out.cell (p := ⟨g, 0, none⟩) hg2).symm).trans hc0)
          clear hlm
          go_wp2
          go_region_law (refine step_copy_string rfl (.tmp 47) (.tmp 51) 89 9 rfl 5 Tryd.underlying89 sizeOf8 w.heap.size m (tot parts - m) (tot parts - m) (by simp [Act.eval, Act.put]) s (by simp [Act.eval, Act.put]) (by omega) HCS.out HFS.out ?_)
          all_goals
            generalize wr.drew.setCells w.heap.size m (List.map (fun x => Value.int .u8 (x.toNat : Int)) s.data.toList) = W1 at HRow2 HB2 ⊢
            have hc0n := HC0.out W1 HB2.out
            go_wp2
            go_roundg rest.length
            case measure => have := HK.out; simp at this; omega
            case rel => exact ⟨done ++ [s], rest, h2, _, m, rfl, Lib.hid (by rw [HP.out]; simp), HM, rfl, rfl, HR2, HRow2, HLen2, HDrop2, HB2⟩
    | cons s rest =>
      obtain ⟨g, h2, rfl, hg1, hg2, hc0, hc1, hs, HR2⟩ := HR.out.cons_
      have htot : tot done + s.size ≤ 281474976710656 := by
        have := HP.out
        rw [this, tot_append] at ht
        simp [tot] at ht
        omega
      go_wp2
      go_roundg rest.length
      case measure => have := HK.out; simp at this; omega
      case rel => exact ⟨done ++ [s], rest, h2, rfl, Lib.hid (by rw [HP.out]; simp), by rw [tot_snoc]; go_num, rfl, HR2, rfl⟩
end Go.Proofs.YtndcmjgjecdgcaaDoor
