/- The reference's net: what is taken away, what is cut. -/
import Derived.Test.YtcahiogjmclnjaaNetRefP
import Derived.Deep.QuietTactic
import Derived.BigQuiet
namespace Go.Proofs.Ytcahiogjmclnjaa
open Go.RowKit
theorem infoRL : (Try.prog.info? 39).map (fun i => (i.zero, i.size, i.bytes)) = some (some (.agg #[.int .i64 0, .int .i64 0, .int .i64 0, .string ⟨#[]⟩]), 4, 40) := by kernel_rfl
theorem erase_take {L : List Letr} {i k : Nat} {l : Letr} (hl : L[i]? = some l) : (L.take (i + 1)).eraseIdx k = if i = k then (L.take i).eraseIdx k else (L.take i).eraseIdx k ++ [l] := by
  have hi := (List.getElem?_eq_some_iff.1 hl).1
  have e : L.take (i + 1) = L.take i ++ [l] := by rw [List.take_add_one, hl]; rfl
  have hlen : (L.take i).length = i := by rw [List.length_take]; omega
  rw [e]
  by_cases h : i = k
  · subst h
    rw [if_pos rfl, List.eraseIdx_append_of_length_le (by omega), hlen]
    simp
    rw [List.eraseIdx_of_length_le (by omega)]
  · rw [if_neg h]
    by_cases h2 : k < i
    · rw [List.eraseIdx_append_of_lt_length (by omega)]
    · rw [List.eraseIdx_append_of_length_le (by omega), hlen, List.eraseIdx_of_length_le (l := L.take i) (by omega)]
      rw [List.eraseIdx_of_length_le (by simp; omega)]
/-- the post of take: beside the net's own cells nothing is turned -/
def RTake (w0 w : World) (q : Nat) (N sent : Int) (L : List Letr) (S : Int → Int → Bool) (e : Ending) (w' : World) : Prop := e = .returned (.tuple #[]) ∧ Hid (RNt w0 w' q N sent L S ∧ Tch w w' (fun i => i = q) ∧ ∃ v1, RN w' w0.heap.size q N sent v1 L S ∧ ∀ b, v1.ownBlock = some b → w.heap.size ≤ b)
section
variable {w0 : World} {q : Nat} {N sent : Int} {L : List Letr} {S : Int → Int → Bool}
set_option maxRecDepth 100000 in
set_option maxHeartbeats 4000000 in
theorem rtake_any (k : Nat) (w : World) (hk : k < L.length) (hL : L.length ≤ 65536) (h : Hid (RNt w0 w q N sent L S)) :
    Calls Try.prog 27 #[.pointer (some ⟨q, 0, none⟩), .int .i64 k] w (RTake w0 w q N sent (L.eraseIdx k) S) := by
  obtain ⟨i0, hi, hz0, hz1, hz2⟩ := info_parts infoRL
  have HFI := Lib.hid (And.intro hi (And.intro hz0 (And.intro hz1 hz2)))
  clear hi hz0 hz1 hz2
  obtain ⟨hb0, v, hR⟩ := h.out
  obtain ⟨a', c', hv⟩ := hR.is_slice
  subst hv
  have HR := Lib.hid hR
  have c2 := hR.c2
  obtain ⟨m, hm⟩ : ∃ m, m = L.length := ⟨_, rfl⟩
  have HM := Lib.hid hm
  rw [← hm] at c2 hk hL HR
  have hm6 : (m : Int) ≤ 65536 := by omega
  have hk' : (k : Int) < m := by omega
  have HB := Lib.hid hb0
  clear hR hm hb0
  go_enter Try.func27, Try.ntmps27
  go_wp2
  go_loopw [4, 5] (fun o i wr => ∃ (j : Nat) (a2 : Option Addr) (n2 c3 : Nat), j ≤ m ∧ i = .int .i64 j ∧ o = .slice a2 n2 c3 ∧ n2 ≤ j ∧ Hid (Below w.heap.size w wr ∧ Fly wr 39 4 w.heap.size (.slice a2 n2 c3) ((L.take j).eraseIdx k).length (cellsOf ((L.take j).eraseIdx k)) ∧ n2 = ((L.take j).eraseIdx k).length)) (fun _ i _ => m - (intOf i).toNat)
  case atStart => exact ⟨0, none, 0, 0, by omega, rfl, rfl, by omega, Lib.hid ⟨Below.refl _ _, ⟨rfl, .inl ⟨rfl, rfl⟩⟩, rfl⟩⟩
  case round =>
    obtain ⟨j, a2, n2, c3, hj, rfl, rfl, hn2, HF⟩ := hrel
    have c2r := (HF.out.1.cell (p := ⟨q, 2, none⟩) HR.out.ty.lt).trans c2
    by_cases hjm : j < m
    · have hjm' : (j : Int) < m := by omega
      obtain ⟨l, hl⟩ : ∃ l, L[j]? = some l := ⟨_, List.getElem?_eq_getElem (by rw [← HM.out]; exact hjm)⟩
      have HT := Lib.hid (erase_take (k := k) hl)
      by_cases hjk : j = k
      · have hjk1 : ((j : Int) != (k : Int)) = false := by simp; omega
        have HT2 : Hid ((L.take (j + 1)).eraseIdx k = (L.take j).eraseIdx k) := Lib.hid (by rw [HT.out, if_pos hjk])
        clear hjk hl
        go_wp2
        go_round
        case rel => exact ⟨j + 1, a2, n2, c3, by omega, by go_num, rfl, by omega, Lib.hid (by rw [HT2.out]; exact HF.out)⟩
        case measure => simp [intOf]; omega
      · have hjk1 : ((j : Int) != (k : Int)) = true := by simp; omega
        have HT2 : Hid ((L.take (j + 1)).eraseIdx k = (L.take j).eraseIdx k ++ [l]) := Lib.hid (by rw [HT.out, if_neg hjk])
        obtain ⟨g, o, cap, hav, hgs, e0, e1, e2, e3⟩ := HR.out.cell hl
        have hav2 : a' = some ⟨g, o, none⟩ := by injection hav
        clear hav
        subst hav2
        have d0 := (HF.out.1.cell (p := ⟨g, o + j * 4, none⟩) hgs).trans e0
        have d1 := (HF.out.1.cell (p := ⟨g, o + j * 4 + 1, none⟩) hgs).trans e1
        have d2 := (HF.out.1.cell (p := ⟨g, o + j * 4 + 2, none⟩) hgs).trans e2
        have d3 := (HF.out.1.cell (p := ⟨g, o + j * 4 + 3, none⟩) hgs).trans e3
        have hfl : Fly (wr.alloc (.cells #[.int .i64 l.id, .int .i64 l.a, .int .i64 l.b, .string l.s] 39)) 39 4 w.heap.size (.slice a2 n2 c3) n2 (cellsOf ((L.take j).eraseIdx k)) := by
          have hf := HF.out.2.1
          rw [← HF.out.2.2] at hf
          exact hf.same (fun b hb => Below.heap_alloc wr _ b (hf.lt b hb).2)
        have HFL := Lib.hid hfl
        have HSZ := Lib.hid HF.out.1.size
        have HN2 := Lib.hid hn2
        clear hjk hl e0 e1 e2 e3 hgs hfl
        go_wp2_with (at_builtin; refine wpList_append_fly _ rfl _ _ 49 rfl 39 i0 (.agg #[.int .i64 0, .int .i64 0, .int .i64 0, .string ⟨#[]⟩]) 4 40 w.heap.size n2 Try.underlying49 HFI.out.1 HFI.out.2.1 HFI.out.2.2.1 HFI.out.2.2.2 rfl (by decide) (.slice a2 n2 c3) (cellsOf ((L.take j).eraseIdx k)) rfl HFL.out ⟨wr.heap.size, 0, none⟩ 1 (cellsL l) rfl rfl ?c1 ?c2 ?c3 ?c4 ?c5 ?_)
        case c1 =>
          intro j u hj
          match j, hj with
          | 0, hj => simp [cellsL] at hj; subst hj; simp [Addr.add]
          | 1, hj => simp [cellsL] at hj; subst hj; simp [Addr.add]
          | 2, hj => simp [cellsL] at hj; subst hj; simp [Addr.add]
          | 3, hj => simp [cellsL] at hj; subst hj; simp [Addr.add]
        case c2 => intro u hu; simp [cellsL] at hu; rcases hu with rfl | rfl | rfl | rfl <;> rfl
        case c3 => unfold maxLen; omega
        case c4 => omega
        case c5 => have := HSZ.out; simp; omega
        intro a4 c4 w2 hf2 hg2 _
        have HX : Hid (Below w.heap.size w w2 ∧ Fly w2 39 4 w.heap.size (.slice a4 (n2 + 1) c4) ((L.take (j + 1)).eraseIdx k).length (cellsOf ((L.take (j + 1)).eraseIdx k)) ∧ n2 + 1 = ((L.take (j + 1)).eraseIdx k).length) := Lib.hid (by
          have e1 : ((L.take (j + 1)).eraseIdx k).length = n2 + 1 := by rw [HT2.out, List.length_append, ← HF.out.2.2]; rfl
          refine ⟨?_, by rw [e1, HT2.out, ← cells_more]; exact hf2, e1.symm⟩
          have hba := HF.out.1.alloc HF.out.1.size (.cells #[.int .i64 l.id, .int .i64 l.a, .int .i64 l.b, .string l.s] 39)
          refine ⟨hg2.os.trans hba.os, hg2.tape.trans hba.tape, hg2.output.trans hba.output, Nat.le_trans hba.size hg2.size, fun b hb => (hg2.block b (by have := hba.size; omega) (fun e => ?_)).trans (hba.block b hb)⟩
          have := (HFL.out.lt b e.symm).1
          omega)
        clear hf2 hg2 HFL HSZ HF d0 d1 d2 d3
        go_wp2
        go_round
        case rel => exact ⟨j + 1, a4, n2 + 1, c4, by omega, by go_num, rfl, by omega, HX⟩
        case measure => simp [intOf]; omega
    · have hrb : RN wr w0.heap.size q N sent (.slice a' m c') L S := HR.out.below HF.out.1
      have fz := free_of hrb.ty 2
      have HFIN : Hid (RTake w0 w q N sent (L.eraseIdx k) S (.returned (.tuple #[])) (wr.setCell ⟨q, 2, none⟩ (.slice a2 n2 c3))) := Lib.hid (by
        have hjl : L.take j = L := List.take_of_length_le (by have := HM.out; omega)
        have hfl := HF.out.2.1
        rw [hjl] at hfl
        have hfl2 : Fly wr 39 4 w0.heap.size (.slice a2 n2 c3) (L.eraseIdx k).length (cellsOf (L.eraseIdx k)) := by
          refine ⟨hfl.1, hfl.2.imp id ?_⟩
          rintro ⟨g, o, cap, q1, q2, q3⟩
          exact ⟨g, o, cap, q1, by have := HB.out.size; omega, q3⟩
        have ht : Tch w (wr.setCell ⟨q, 2, none⟩ (.slice a2 n2 c3)) (fun i => i = q) := (tch_below _ HF.out.1).then (tch_set _ _ _) (fun i _ e => e)
        have hr := rnp_tch (r := .tuple #[]) HB.out HR.out (hrb.setFly hfl2) (ht.mono (fun i _ e => .inl e))
        exact ⟨rfl, Lib.hid ⟨hr.2.out.1, ht, _, hrb.setFly hfl2, fun b hb => (hfl.lt b hb).1⟩⟩)
      clear hrb
      go_wp2
      first
        | (go_ret; exact HFIN.out)
        | exact bodyPost_ret (v := .tuple #[]) (results_none rfl _ _ _) rfl HFIN.out
end
end Go.Proofs.Ytcahiogjmclnjaa
