/- The contract of record.Encode: a message's bytes. -/
import Derived.Test.YtndcmjgjecdgcaaDoorRecFns
namespace Go.Proofs.YtndcmjgjecdgcaaDoor
open Go.RowKit

def textL (s : ByteArray) : List UInt8 := (numS s.size).data.toList ++ s.data.toList
def numsL (ns : List Int) : List UInt8 := ns.flatMap fun n => (numS n).data.toList
def textsL (ts : List ByteArray) : List UInt8 := ts.flatMap textL
def headL (k c i : Int) (n : Nat) : List UInt8 := (numS k).data.toList ++ (numS c).data.toList ++ (numS i).data.toList ++ (numS n).data.toList
/-- the bytes of a message -/
def encL (k c i : Int) (ns : List Int) (ts : List ByteArray) : List UInt8 :=
  headL k c i ns.length ++ numsL ns ++ (numS ts.length).data.toList ++ textsL ts
def encS (k c i : Int) (ns : List Int) (ts : List ByteArray) : ByteArray := ⟨(encL k c i ns ts).toArray⟩
theorem nums_snoc (l : List Int) (x : Int) : numsL (l ++ [x]) = numsL l ++ (numS x).data.toList := by simp [numsL]
theorem texts_snoc (l : List ByteArray) (x : ByteArray) : textsL (l ++ [x]) = textsL l ++ textL x := by simp [textsL]
theorem take_snoc {α : Type} (l : List α) (d : α) (i : Nat) (h : i < l.length) : l.take (i + 1) = l.take i ++ [l.getD i d] := by
  rw [List.take_add_one, List.getElem?_eq_getElem h]
  simp [List.getD, h]
/-- a message as it lies: its numbers and its texts, all below B -/
structure MsgAt (w : World) (B : Nat) (A C : Option Addr) (ns : List Int) (ts : List ByteArray) : Prop where
  n : SlOf w B A ns.length (fun i => .int .i64 (ns.getD i 0))
  t : SlOf w B C ts.length (fun i => .string (ts.getD i ⟨#[]⟩))
  nb : ∀ n ∈ ns, -9223372036854775808 ≤ n ∧ n ≤ 9223372036854775807
  nl : ns.length * 8 ≤ 140737488351232
  tl : ts.length * 16 ≤ 140737488351232
  tb : ∀ t ∈ ts, t.size ≤ 140737488351232
theorem MsgAt.below {w w' : World} {B : Nat} {A C : Option Addr} {ns : List Int} {ts : List ByteArray} (h : MsgAt w B A C ns ts) (hb : Below B w w') : MsgAt w' B A C ns ts :=
  ⟨h.n.below hb, h.t.below hb, h.nb, h.nl, h.tl, h.tb⟩
theorem MsgAt.up {w : World} {B B' : Nat} {A C : Option Addr} {ns : List Int} {ts : List ByteArray} (h : MsgAt w B A C ns ts) (hb : B ≤ B') : MsgAt w B' A C ns ts :=
  ⟨fun i hi => by obtain ⟨b, o, e, h1, h2⟩ := h.n i hi; exact ⟨b, o, e, by omega, h2⟩, fun i hi => by obtain ⟨b, o, e, h1, h2⟩ := h.t i hi; exact ⟨b, o, e, by omega, h2⟩, h.nb, h.nl, h.tl, h.tb⟩

/-- the box that holds a copy of one message -/
structure M5 (w : World) (q : Nat) (k c i : Int) (A : Option Addr) (n cn : Nat) (C : Option Addr) (t ct : Nat) : Prop where
  lt : q < w.heap.size
  c0 : w.cell? ⟨q, 0, none⟩ = some (.int .i64 k)
  c1 : w.cell? ⟨q, 1, none⟩ = some (.int .i64 c)
  c2 : w.cell? ⟨q, 2, none⟩ = some (.int .i64 i)
  c3 : w.cell? ⟨q, 3, none⟩ = some (.slice A n cn)
  c4 : w.cell? ⟨q, 4, none⟩ = some (.slice C t ct)
section
variable {w w' : World} {q : Nat} {k c i : Int} {A : Option Addr} {n cn : Nat} {C : Option Addr} {t ct : Nat}
theorem M5.below {B : Nat} (h : M5 w q k c i A n cn C t ct) (hb : Below B w w') (hq : q < B) : M5 w' q k c i A n cn C t ct :=
  have e : w'.heap[q]? = w.heap[q]? := hb.block q hq
  ⟨by have := (World.cell?_of_block (a := ⟨q, 0, none⟩) e).trans h.c0
      rcases Nat.lt_or_ge q w'.heap.size with hlt | hge
      · exact hlt
      · simp [World.cell?, Array.getElem?_eq_none hge] at this,
    (World.cell?_of_block (a := ⟨q, _, none⟩) e).trans h.c0, (World.cell?_of_block (a := ⟨q, _, none⟩) e).trans h.c1, (World.cell?_of_block (a := ⟨q, _, none⟩) e).trans h.c2, (World.cell?_of_block (a := ⟨q, _, none⟩) e).trans h.c3, (World.cell?_of_block (a := ⟨q, _, none⟩) e).trans h.c4⟩
theorem M5.grown {p : Nat} (h : M5 w q k c i A n cn C t ct) (hg : w.grownBy w' (some p)) (hne : q ≠ p) : M5 w' q k c i A n cn C t ct :=
  have e : w'.heap[q]? = w.heap[q]? := hg.block q h.lt (by intro e; injection e with e; omega)
  ⟨Nat.lt_of_lt_of_le h.lt hg.size,
    (World.cell?_of_block (a := ⟨q, _, none⟩) e).trans h.c0, (World.cell?_of_block (a := ⟨q, _, none⟩) e).trans h.c1, (World.cell?_of_block (a := ⟨q, _, none⟩) e).trans h.c2, (World.cell?_of_block (a := ⟨q, _, none⟩) e).trans h.c3, (World.cell?_of_block (a := ⟨q, _, none⟩) e).trans h.c4⟩
theorem M5.new (w : World) (k c i : Int) (A : Option Addr) (n cn : Nat) (C : Option Addr) (t ct : Nat) (ty : TypeId) : M5 (w.alloc (.cells #[.int .i64 k, .int .i64 c, .int .i64 i, .slice A n cn, .slice C t ct] ty)) w.heap.size k c i A n cn C t ct := by
  refine ⟨by simp, ?_, ?_, ?_, ?_, ?_⟩ <;> simp
end
theorem Shp.alloc {w : World} (h : Shp w) (o : Obj) : Shp (w.alloc o) := h.below ((Below.refl _ _).alloc (Nat.le_refl _) o) (Nat.le_refl _)
theorem below_alloc (w : World) (o : Obj) : Below w.heap.size w (w.alloc o) := (Below.refl _ _).alloc (Nat.le_refl _) o

set_option maxRecDepth 100000 in
theorem encode_no (k c i : Int) (A C : Option Addr) (cn ct : Nat) (ns : List Int) (ts : List ByteArray) (w : World) (hS : Shp w) (hn : ns.length ≤ 140737488351232) (ht : ts.length ≤ 140737488351232) (hv : validB k ns.length ts.length = false) :
    Calls Tryd.prog 9 #[.agg #[.int .i64 k, .int .i64 c, .int .i64 i, .slice A ns.length cn, .slice C ts.length ct]] w fun e w' => e = .returned (.string ⟨#[]⟩) ∧ Below w.heap.size w w' := by
  have HS := Lib.hid hS
  clear hS
  go_enter Tryd.func9, Tryd.ntmps9
  go_wp2_with (fail)
  refine (valid_any k c i A C ns.length ts.length cn ct _ (HS.out.alloc _) hn ht).mono ?_
  rw [hv]
  rintro e w1 ⟨rfl, hb⟩
  have BB := Lib.hid ((below_alloc w _).trans (hb.mono (by simp)))
  clear hb
  go_wp2
  go_ret
  exact ⟨rfl, BB.out⟩
set_option maxRecDepth 100000 in
set_option maxHeartbeats 4000000 in
theorem encode_yes (k c i : Int) (A C : Option Addr) (cn ct : Nat) (ns : List Int) (ts : List ByteArray) (w : World) (hS : Shp w) (hM : MsgAt w w.heap.size A C ns ts) (hv : validB k ns.length ts.length = true)
    (hk : -9223372036854775808 ≤ k ∧ k ≤ 9223372036854775807) (hc : -9223372036854775808 ≤ c ∧ c ≤ 9223372036854775807) (hi : -9223372036854775808 ≤ i ∧ i ≤ 9223372036854775807) (hz : (encL k c i ns ts).length ≤ 281474976710656) :
    Calls Tryd.prog 9 #[.agg #[.int .i64 k, .int .i64 c, .int .i64 i, .slice A ns.length cn, .slice C ts.length ct]] w fun e w' => e = .returned (.string (encS k c i ns ts)) ∧ Below w.heap.size w w' := by
  have HS := Lib.hid hS
  have HM := Lib.hid hM
  have HK := Lib.hid hk
  have HC := Lib.hid hc
  have HI := Lib.hid hi
  have HZ := Lib.hid hz
  have hn : ns.length ≤ 140737488351232 := by have := hM.nl; omega
  have ht : ts.length ≤ 140737488351232 := by have := hM.tl; omega
  obtain ⟨N, hN⟩ : ∃ N, N = ns.length := ⟨_, rfl⟩
  obtain ⟨T, hT⟩ : ∃ T, T = ts.length := ⟨_, rfl⟩
  have HN := Lib.hid hN
  have HT := Lib.hid hT
  rw [← hN, ← hT] at hv ⊢
  rw [← hN] at hn
  rw [← hT] at ht
  clear hS hM hk hc hi hz hN hT
  go_enter Tryd.func9, Tryd.ntmps9
  go_wp2_with (fail)
  refine (valid_any k c i A C N T cn ct _ (HS.out.alloc _) hn ht).mono ?_
  rw [hv]
  rintro e w1 ⟨rfl, hb⟩
  have M1 := Lib.hid ((M5.new w k c i A N cn C T ct 27).below hb (by simp))
  have BB := Lib.hid ((below_alloc w _).trans (hb.mono (by simp)))
  obtain ⟨q, hq⟩ : ∃ q, q = w.heap.size := ⟨_, rfl⟩
  rw [← hq] at M1 ⊢
  have HQ := Lib.hid hq
  obtain ⟨p, hp⟩ : ∃ p, p = w1.heap.size := ⟨_, rfl⟩
  have hqp : q < p := by rw [hp]; exact M1.out.lt
  have P2 := Lib.hid (PackIs.new w1 60)
  have M2 := Lib.hid (M1.out.below (below_alloc w1 (.cells #[.pointer none] 60)) M1.out.lt)
  have BB2 := Lib.hid (BB.out.trans ((below_alloc w1 (.cells #[.pointer none] 60)).mono BB.out.size))
  rw [← hp] at P2
  have HP := Lib.hid hp
  have hwp : w.heap.size ≤ p := by rw [hp]; exact BB.out.size
  clear hp hq hb M1 BB hv
  have c0 := M2.out.c0
  go_wp2_with (fail)
  rw [← HP.out]
  refine (int_pack p _ k _ _ P2.out HK.out).mono ?_
  rintro e w3 ⟨rfl, hp3, hg3⟩
  have P3 := Lib.hid hp3
  have M3 := Lib.hid (M2.out.grown hg3 (by omega))
  have BB3 := Lib.hid (below_grown BB2.out hg3 hwp BB2.out.size)
  clear hp3 hg3 P2 M2 BB2 c0
  have c0 := M3.out.c1
  go_wp2_with (fail)
  refine (int_pack p _ c _ _ P3.out HC.out).mono ?_
  rintro e w4 ⟨rfl, hp3, hg3⟩
  have P4 := Lib.hid hp3
  have M4 := Lib.hid (M3.out.grown hg3 (by omega))
  have BB4 := Lib.hid (below_grown BB3.out hg3 hwp BB3.out.size)
  clear hp3 hg3 P3 M3 BB3 c0
  have c0 := M4.out.c2
  go_wp2_with (fail)
  refine (int_pack p _ i _ _ P4.out HI.out).mono ?_
  rintro e w5 ⟨rfl, hp3, hg3⟩
  have P5 := Lib.hid hp3
  have M5 := Lib.hid (M4.out.grown hg3 (by omega))
  have BB5 := Lib.hid (below_grown BB4.out hg3 hwp BB4.out.size)
  clear hp3 hg3 P4 M4 BB4 c0
  have c0 := M5.out.c3
  go_wp2_with (fail)
  refine (int_pack p _ (N : Int) _ _ P5.out (by omega)).mono ?_
  rintro e w6 ⟨rfl, hp3, hg3⟩
  have P6 := Lib.hid hp3
  have M6 := Lib.hid (M5.out.grown hg3 (by omega))
  have BB6 := Lib.hid (below_grown BB5.out hg3 hwp BB5.out.size)
  clear hp3 hg3 P5 M5 BB5 c0
  have c0 := M6.out.c3
  go_wp2_with (fail)
  have hcat : cat [numS (N : Int), numS i, numS c, numS k] = headL k c i N ++ numsL (ns.take 0) := by simp [cat, headL, numsL]
  go_loopg [27] N (fun m s27 wr => ∃ (j : Nat) (parts : List ByteArray), j ≤ N ∧ Hid (m = N - j) ∧ s27 = .int .i64 (j : Int) ∧ Hid (cat parts = headL k c i N ++ numsL (ns.take j)) ∧ Hid (PackIs wr p (p + 1) parts) ∧ Hid (M5 wr q k c i A N cn C T ct) ∧ Hid (Below w.heap.size w wr))
  case atStart => exact ⟨0, _, by omega, rfl, rfl, hcat, P6, M6, BB6⟩
  case round =>
    obtain ⟨j, parts, hj, HJ, rfl, HCAT, P7, M7, BB7⟩ := hrel
    clear P6 M6 BB6 hcat c0
    by_cases hlt : j < N
    · have hjn : j < ns.length := by rw [← HN.out]; exact hlt
      obtain ⟨b, off, rfl, hb, hcell'⟩ := (HM.out.n.below BB7.out) j hjn
      have hcell : wr.cell? ⟨b, off + j, none⟩ = some (.int .i64 (ns.getD j 0)) := hcell'
      have hx : -9223372036854775808 ≤ ns.getD j 0 ∧ ns.getD j 0 ≤ 9223372036854775807 := by
        have e : ns.getD j 0 = ns[j] := by simp [List.getD, hjn]
        rw [e]; exact HM.out.nb _ (List.getElem_mem hjn)
      have HX := Lib.hid hx
      have hc2 := congrArg (· ++ (numS (ns.getD j 0)).data.toList) HCAT.out
      have HCAT2 : Hid (cat (numS (ns.getD j 0) :: parts) = headL k c i N ++ numsL (ns.take (j + 1))) := by
        show _ = _
        rw [take_snoc ns 0 j hjn, nums_snoc, ← List.append_assoc, ← hc2]
        rfl
      clear hcell' hx hjn hc2
      go_wp2_with (fail)
      refine (int_pack p _ (ns.getD j 0) _ _ P7.out HX.out).mono ?_
      rintro e w8 ⟨rfl, hp3, hg3⟩
      have P8 := Lib.hid hp3
      have M8 := Lib.hid (M7.out.grown hg3 (by omega))
      have BB8 := Lib.hid (below_grown BB7.out hg3 hwp BB7.out.size)
      clear hp3 hg3 P7 M7 BB7
      go_wp2
      go_roundg (N - (j + 1))
      case measure => have := HJ.out; omega
      case rel => exact ⟨j + 1, _, by omega, rfl, by go_num, HCAT2.out, P8, M8, BB8⟩
    · obtain rfl : j = N := by omega
      have c0 := M7.out.c4
      go_wp2_with (fail)
      refine (int_pack p _ (T : Int) _ _ P7.out (by omega)).mono ?_
      rintro e w8 ⟨rfl, hp3, hg3⟩
      have P8 := Lib.hid hp3
      have M8 := Lib.hid (M7.out.grown hg3 (by omega))
      have BB8 := Lib.hid (below_grown BB7.out hg3 hwp BB7.out.size)
      have hcat : cat (numS T :: parts) = headL k c i j ++ numsL ns ++ (numS T).data.toList ++ textsL (ts.take 0) := by
        have := HCAT.out
        rw [HN.out, List.take_length] at this
        show cat parts ++ _ = _
        rw [this, ← HN.out]
        simp [textsL]
      clear hp3 hg3 P7 M7 BB7 c0 HCAT
      have c0 := M8.out.c4
      go_wp2_with (fail)
      go_loopg [41] T (fun m s41 wr => ∃ (l : Nat) (parts : List ByteArray), l ≤ T ∧ Hid (m = T - l) ∧ s41 = .int .i64 (l : Int) ∧ Hid (cat parts = headL k c i j ++ numsL ns ++ (numS T).data.toList ++ textsL (ts.take l)) ∧ Hid (PackIs wr p (p + 1) parts) ∧ Hid (Below w.heap.size w wr))
      case atStart => exact ⟨0, _, by omega, rfl, rfl, hcat, P8, BB8⟩
      case round =>
        obtain ⟨l, parts2, hl, HL, rfl, HCAT, P9, BB9⟩ := hrel
        clear P8 M8 BB8 hcat c0
        by_cases hlt : l < T
        · have hln : l < ts.length := by rw [← HT.out]; exact hlt
          obtain ⟨b, off, rfl, hb, hcell'⟩ := (HM.out.t.below BB9.out) l hln
          obtain ⟨x, hx⟩ : ∃ x, x = ts.getD l ⟨#[]⟩ := ⟨_, rfl⟩
          have hcell := hcell'
          change _ = some (Value.string (ts.getD l ⟨#[]⟩)) at hcell
          rw [← hx] at hcell
          have hxs : x.size ≤ 140737488351232 := by
            have e : x = ts[l] := by rw [hx]; simp [List.getD, hln]
            rw [e]; exact HM.out.tb _ (List.getElem_mem hln)
          have hc2 := congrArg (· ++ textL x) HCAT.out
          have HCAT2 : Hid (cat ((numS x.size ++ x) :: parts2) = headL k c i j ++ numsL ns ++ (numS T).data.toList ++ textsL (ts.take (l + 1))) := by
            show _ = _
            rw [take_snoc ts ⟨#[]⟩ l hln, texts_snoc, ← List.append_assoc, ← hx, ← hc2]
            show cat parts2 ++ _ = _
            rw [ByteArray.data_append, Array.toList_append]
            rfl
          clear hcell' hx hln hc2
          go_wp2_with (fail)
          refine (text_pack p _ x _ _ P9.out hxs).mono ?_
          rintro e w10 ⟨rfl, hp3, hg3⟩
          have P10 := Lib.hid hp3
          have BB10 := Lib.hid (below_grown BB9.out hg3 hwp BB9.out.size)
          clear hp3 hg3 P9 BB9
          go_wp2
          go_roundg (T - (l + 1))
          case measure => have := HL.out; omega
          case rel => exact ⟨l + 1, _, by omega, rfl, by go_num, HCAT2.out, P10, BB10⟩
        · obtain rfl : l = T := by omega
          have he : encL k c i ns ts = cat parts2 := by
            rw [HCAT.out, HT.out, List.take_length, HN.out]
            rfl
          have hz2 : tot parts2 ≤ 281474976710656 := by rw [← cat_length, ← he]; exact HZ.out
          go_wp2_with (fail)
          refine (bytes_pack p _ _ _ P9.out hz2).mono ?_
          rintro e w10 ⟨rfl, hb⟩
          have BB10 := Lib.hid (BB9.out.trans (hb.mono BB9.out.size))
          clear hb
          go_wp2
          go_ret
          exact ⟨by show Ending.returned (.string (catS parts2)) = _; unfold encS; rw [he]; rfl, BB10.out⟩
end Go.Proofs.YtndcmjgjecdgcaaDoor
