/- Package journal: the file of some records, behind a crash; no program but for the disk's changes. JournalStill: two rows of the same texts are the same. A list of texts as it came in. -/
import Derived.Test.YtppmlkgmoifgoaaGreatDoorJnlC
import Derived.SliceStrings
import Derived.ChangeShapes
import Derived.Deep.Slices
namespace Go.Proofs.YtppmlkgmoifgoaaGreatDoor
open Go.RowKit Go.Maps
/-- the slice value holds the texts, all of them below B -/
def Texts (w : World) (B : Nat) (A : Option Addr) (bs : List (List UInt8)) : Prop :=
  ∀ i, (h : i < bs.length) → ∃ b off, A = some ⟨b, off, none⟩ ∧ b < B ∧ w.cell? ⟨b, off + i, none⟩ = some (strV bs[i])
theorem Texts.below {w w' : World} {B : Nat} {A : Option Addr} {bs : List (List UInt8)} (h : Texts w B A bs) (hb : Below B w w') : Texts w' B A bs := fun i hi => by
  obtain ⟨b, off, e, hB, hc⟩ := h i hi
  exact ⟨b, off, e, hB, (hb.cell (p := ⟨b, _, none⟩) hB).trans hc⟩
def totL : List (List UInt8) → Nat
  | [] => 0
  | b :: bs => b.length + 1 + totL bs
theorem stream_len (bs : List (List UInt8)) : (stream bs).length ≤ 12 * totL bs := by
  induction bs with
  | nil => simp [stream]
  | cons b bs ih => simp only [stream, List.length_append, frameL_length, totL]; omega
theorem len_le_tot (bs : List (List UInt8)) : bs.length ≤ totL bs := by
  induction bs with
  | nil => simp
  | cons b bs ih => simp only [List.length_cons, totL]; omega
theorem mem_le_tot {bs : List (List UInt8)} {b : List UInt8} (h : b ∈ bs) : b.length ≤ totL bs := by
  induction bs with
  | nil => cases h
  | cons x bs ih =>
    simp only [totL]
    rcases List.mem_cons.1 h with rfl | h
    · omega
    · have := ih h; omega
theorem small_of {bs : List (List UInt8)} (h : totL bs ≤ 1048576) : Small bs := fun _ hb => Nat.le_trans (mem_le_tot hb) h
/-- where the first n frames end -/
def endAt (bs : List (List UInt8)) (n : Nat) : Nat := (stream (bs.take n)).length
theorem endAt_succ {bs : List (List UInt8)} {n : Nat} (h : n < bs.length) : endAt bs (n + 1) = endAt bs n + (bs[n].length + 12) := by
  unfold endAt
  rw [List.take_succ_eq_append_getElem h, stream_append, List.length_append]
  simp [stream, frameL_length]
theorem endAt_all (bs : List (List UInt8)) : endAt bs bs.length = (stream bs).length := by unfold endAt; rw [List.take_length]
theorem stream_parts {bs : List (List UInt8)} {n : Nat} (h : n < bs.length) : stream bs = stream (bs.take n) ++ (frameL bs[n] ++ stream (bs.drop (n + 1))) := by
  have e : bs = bs.take n ++ bs[n] :: bs.drop (n + 1) := by
    rw [← List.drop_eq_getElem_cons h, List.take_append_drop]
  conv => lhs; rw [e]
  rw [stream_append]
  rfl
theorem small_take {bs : List (List UInt8)} (hb : Small bs) (n : Nat) : Small (bs.take n) := fun x hx => hb x (List.mem_of_mem_take hx)
theorem cut_read {bs : List (List UInt8)} (hb : Small bs) {n cut : Nat} (h : n < bs.length) (h1 : endAt bs n ≤ cut) (h2 : cut < endAt bs (n + 1)) :
    allL ((stream bs).take cut) = (bs.take n, endAt bs n, if endAt bs n = cut then 0 else 23) := by
  rw [endAt_succ h] at h2
  have e : (stream bs).take cut = stream (bs.take n) ++ (frameL bs[n]).take (cut - endAt bs n) := by
    rw [stream_parts h, List.take_append, List.take_of_length_le (by exact h1)]
    congr 1
    show List.take (cut - endAt bs n) _ = _
    rw [List.take_append, frameL_length, show cut - endAt bs n - (bs[n].length + 12) = 0 by omega, List.take_zero, List.append_nil]
  rw [e, all_stream _ (small_take hb n)]
  by_cases hc : endAt bs n = cut
  · rw [if_pos hc, show cut - endAt bs n = 0 by omega, List.take_zero, all_nil]
    simp only [List.append_nil, Nat.add_zero]
    rfl
  · rw [if_neg hc, all_torn (hb bs[n] (List.getElem_mem h)) (n := cut - endAt bs n) (by omega) (by omega) rfl]
    simp only [List.append_nil, Nat.add_zero]
    rfl
theorem take_end (bs : List (List UInt8)) (m : Nat) : (stream bs).take (endAt bs m) = stream (bs.take m) := by
  have e : stream bs = stream (bs.take m) ++ stream (bs.drop m) := by rw [← stream_append, List.take_append_drop]
  unfold endAt
  rw [e, List.take_append, List.take_length, Nat.sub_self, List.take_zero, List.append_nil]
theorem endAt_le (bs : List (List UInt8)) (m : Nat) : endAt bs m ≤ (stream bs).length := by
  have h := congrArg List.length (take_end bs m)
  rw [List.length_take] at h
  show (stream (bs.take m)).length ≤ _
  omega
theorem endAt_zero (bs : List (List UInt8)) : endAt bs 0 = 0 := rfl
theorem endAt_pos {bs : List (List UInt8)} {m : Nat} (h : m < bs.length) : 0 < endAt bs (m + 1) := by rw [endAt_succ h]; omega
/-- a file of a beginning of the records' bytes -/
def bytC (bs : List (List UInt8)) (cut : Nat) : ByteArray := ⟨((stream bs).take cut).toArray⟩
def fileC (bs : List (List UInt8)) (cut : Nat) : Option (Nat × ByteArray) := if cut = 0 then none else some (0, bytC bs cut)
theorem bytC_list (bs : List (List UInt8)) (cut : Nat) : (bytC bs cut).data.toList = (stream bs).take cut := by simp [bytC]
theorem bytC_zero (bs : List (List UInt8)) : bytC bs 0 = ⟨#[]⟩ := by simp [bytC]
theorem byt_fileC (bs : List (List UInt8)) (cut : Nat) : bytO (fileC bs cut) = bytC bs cut := by
  unfold fileC
  by_cases h : cut = 0
  · rw [if_pos h, h, bytC_zero]; rfl
  · rw [if_neg h]; rfl
theorem nth_fileC (bs : List (List UInt8)) (cut : Nat) : nthO (fileC bs cut) = 0 := by
  unfold fileC
  by_cases h : cut = 0
  · rw [if_pos h]; rfl
  · rw [if_neg h]; rfl
theorem bytC_size (bs : List (List UInt8)) (cut : Nat) : (bytC bs cut).size ≤ (stream bs).length := by
  show ((stream bs).take cut).toArray.size ≤ _
  rw [List.size_toArray, List.length_take]
  omega
theorem app_fileC {bs : List (List UInt8)} {m t : Nat} (h : m < bs.length) (ht : t ≤ bs[m].length + 12) (h0 : 0 < t) (d : ByteArray) (hd : d.data.toList = (frameL bs[m]).take t) :
    held (oneL (fileC bs (endAt bs m))) [.app (edN 0) d] = oneL (fileC bs (endAt bs m + t)) := by
  rw [app_one _ 0 d (fun _ => nth_fileC _ _), byt_fileC]
  have hne : ¬ endAt bs m + t = 0 := by omega
  have e : bytC bs (endAt bs m) ++ d = bytC bs (endAt bs m + t) := by
    apply ByteArray.ext
    apply Array.toList_inj.1
    rw [ByteArray.data_append, Array.toList_append, bytC_list, bytC_list, hd, take_end]
    conv => rhs; rw [stream_parts h]
    rw [List.take_append (l₁ := stream (bs.take m)), List.take_of_length_le (l := stream (bs.take m)) (by show (stream (bs.take m)).length ≤ endAt bs m + t; unfold endAt; omega), show endAt bs m + t - (stream (bs.take m)).length = t by unfold endAt; omega, List.take_append, frameL_length, show t - (bs[m].length + 12) = 0 by omega, List.take_zero, List.append_nil]
  rw [e]
  unfold fileC
  rw [if_neg hne]
/-- what is found of it -/
theorem find_fileC {bs : List (List UInt8)} (hb : Small bs) {n cut : Nat} (hn : n ≤ bs.length) (h1 : endAt bs n ≤ cut) (h2 : cut = endAt bs n ∨ (∃ h : n < bs.length, cut ≤ endAt bs (n + 1))) :
    ∃ m er, m ≤ bs.length ∧ allL ((stream bs).take cut) = (bs.take m, endAt bs m, er) ∧ ((er = 0 ∧ cut = endAt bs m) ∨ (er = 23 ∧ endAt bs m < cut)) := by
  have whole : ∀ m, m ≤ bs.length → cut = endAt bs m → ∃ m er, m ≤ bs.length ∧ allL ((stream bs).take cut) = (bs.take m, endAt bs m, er) ∧ ((er = 0 ∧ cut = endAt bs m) ∨ (er = 23 ∧ endAt bs m < cut)) := fun m hm hc => by
    refine ⟨m, 0, hm, ?_, .inl ⟨rfl, hc⟩⟩
    rw [hc, take_end, all_whole _ (small_take hb m)]
    rfl
  rcases h2 with h2 | ⟨hl, h2⟩
  · exact whole n hn h2
  · rcases Nat.lt_or_ge cut (endAt bs (n + 1)) with h3 | h3
    · by_cases h4 : endAt bs n = cut
      · exact whole n hn h4.symm
      · refine ⟨n, 23, hn, ?_, .inr ⟨rfl, by omega⟩⟩
        rw [cut_read hb hl h1 h3, if_neg h4]
    · exact whole (n + 1) hl (by omega)
/-- what is on the disk behind opening -/
def opF (bs : List (List UInt8)) (cut m : Nat) (er : Int) : Option (Nat × ByteArray) := opO (fileC bs cut) (endAt bs m) er
theorem opF_bytes {bs : List (List UInt8)} {cut m : Nat} {er : Int} (h : (er = 0 ∧ cut = endAt bs m) ∨ (er = 23 ∧ endAt bs m < cut)) : (bytO (opF bs cut m er)).data.toList = stream (bs.take m) ∧ nthO (opF bs cut m er) ≤ 1 := by
  unfold opF opO
  rcases h with ⟨rfl, hc⟩ | ⟨rfl, hc⟩
  · rw [if_pos rfl, byt_fileC, bytC_list, hc, take_end, nth_fileC]
    exact ⟨rfl, by omega⟩
  · rw [if_neg (by decide)]
    refine ⟨?_, by show nthO (fileC bs cut) + 1 ≤ 1; rw [nth_fileC]; omega⟩
    show ((bytO (fileC bs cut)).extract 0 (endAt bs m)).data.toList = _
    rw [byt_fileC]
    have : ((bytC bs cut).extract 0 (endAt bs m)).data.toList = ((bytC bs cut).data.toList).take (endAt bs m) := by simp
    rw [this, bytC_list, List.take_take, Nat.min_eq_left (by omega), take_end]
/-- the changes that wait: some frames behind the first sy -/
def pend (bs : List (List UInt8)) (sy d : Nat) : List Chg := (List.range d).map fun t => .app (edN 0) ⟨(frameL (bs.getD (sy + t) [])).toArray⟩
theorem pend_zero (bs : List (List UInt8)) (sy : Nat) : pend bs sy 0 = [] := rfl
theorem pend_succ (bs : List (List UInt8)) (sy d : Nat) : pend bs sy (d + 1) = pend bs sy d ++ [.app (edN 0) ⟨(frameL (bs.getD (sy + d) [])).toArray⟩] := by
  unfold pend
  rw [List.range_succ, List.map_append]
  rfl
theorem pend_len (bs : List (List UInt8)) (sy d : Nat) : (pend bs sy d).length = d := by simp [pend]
theorem getD_at2 (bs : List (List UInt8)) {i : Nat} (h : i < bs.length) : bs.getD i [] = bs[i] := by simp [List.getD, h]
theorem fr_size (b : List UInt8) : (⟨(frameL b).toArray⟩ : ByteArray).size = b.length + 12 := by
  show (frameL b).toArray.size = _
  rw [List.size_toArray, frameL_length]
theorem pend_wts (bs : List (List UInt8)) (sy : Nat) : ∀ d, sy + d ≤ bs.length → endAt bs sy + wts (pend bs sy d) = endAt bs (sy + d)
  | 0, _ => rfl
  | d + 1, h => by
    have ih := pend_wts bs sy d (by omega)
    rw [pend_succ, wts_app, show sy + (d + 1) = (sy + d) + 1 from rfl, endAt_succ (by omega), ← ih, getD_at2 bs (by omega)]
    show endAt bs sy + (wts (pend bs sy d) + ((⟨(frameL bs[sy + d]).toArray⟩ : ByteArray).size + 0)) = _
    rw [fr_size]
    omega
theorem pend_ok (bs : List (List UInt8)) (sy d : Nat) : ∀ c ∈ pend bs sy d, okC c := fun c hc => by
  obtain ⟨t, _, rfl⟩ := List.mem_map.1 hc
  show 9 ≤ 64
  decide
theorem srt_one (o : Option (Nat × ByteArray)) : SrtF (oneL o) := by
  match o with
  | none => exact List.Pairwise.nil
  | some (k, s) => exact List.pairwise_singleton _ _
theorem tot_pend {bs : List (List UInt8)} {sy d : Nat} (h : sy + d ≤ bs.length) : totF (held (oneL (fileC bs (endAt bs sy))) (pend bs sy d)) ≤ endAt bs (sy + d) := by
  have h1 := tot_held (srt_one (fileC bs (endAt bs sy))) (pend bs sy d) (pend_ok bs sy d)
  have h2 : totF (oneL (fileC bs (endAt bs sy))) ≤ endAt bs sy := by
    rw [tot_one, byt_fileC]
    show ((stream bs).take (endAt bs sy)).toArray.size ≤ _
    rw [List.size_toArray, List.length_take]
    omega
  have h3 := pend_wts bs sy d h
  omega
/-- what a crash leaves that keeps no change whole -/
theorem crash_fileC {bs : List (List UInt8)} {sy : Nat} (hs : sy ≤ bs.length) (tear : Int) : ∃ cut, crashL (oneL (fileC bs (endAt bs sy))) (pend bs sy (bs.length - sy)) 0 tear = oneL (fileC bs cut) ∧ endAt bs sy ≤ cut ∧ (cut = endAt bs sy ∨ (∃ h : sy < bs.length, cut ≤ endAt bs (sy + 1))) := by
  have hk : keepN (pend bs sy (bs.length - sy)) 0 = 0 := by unfold keepN; omega
  unfold crashL
  rw [hk, List.take_zero, List.nil_append]
  by_cases h : sy < bs.length
  · have hc : (pend bs sy (bs.length - sy))[0]? = some (.app (edN 0) ⟨(frameL bs[sy]).toArray⟩) := by
      unfold pend
      rw [List.getElem?_map, List.getElem?_range (by omega)]
      show some (Chg.app (edN 0) ⟨(frameL (bs.getD (sy + 0) [])).toArray⟩) = _
      rw [Nat.add_zero, getD_at2 bs h]
    rw [hc]
    unfold tornC
    by_cases ht : 0 < tear
    · simp only [if_pos ht]
      have hfs := fr_size bs[sy]
      refine ⟨endAt bs sy + min tear.toNat (bs[sy].length + 12), ?_, by omega, .inr ⟨h, by rw [endAt_succ h]; omega⟩⟩
      refine app_fileC h (by omega) (by omega) _ ?_
      rw [hfs]
      simp
    · simp only [if_neg ht]
      exact ⟨endAt bs sy, rfl, Nat.le_refl _, .inl rfl⟩
  · have hc : (pend bs sy (bs.length - sy))[0]? = none := by
      rw [show bs.length - sy = 0 by omega, pend_zero]; rfl
    rw [hc]
    exact ⟨endAt bs sy, rfl, Nat.le_refl _, .inl rfl⟩
/-- one name and what stands in its file, told -/
def accS (o : Option (Nat × ByteArray)) (k : Nat) : ByteArray := if k = 0 then ⟨#[]⟩ else match o with
  | none => ⟨#[]⟩
  | some (k', s) => ⟨#[]⟩ ++ (edN k' ++ ⟨#[61]⟩ ++ s)
end Go.Proofs.YtppmlkgmoifgoaaGreatDoor

namespace Go.Proofs.YtppmlkgmoifgoaaGreatDoor
open Go.RowKit Go.Maps
set_option maxRecDepth 100000 in
set_option maxHeartbeats 4000000 in
theorem texts10_any (B1 B2 c1 c2 : Nat) (a1 a2 : Option Addr) (bs : List (List UInt8)) (w : World) (h1 : TextRow w B1 a1 bs) (h2 : TextRow w B2 a2 bs) (hl : bs.length ≤ 1048576) :
    Calls Tryz.prog 15 #[.slice a1 bs.length c1, .slice a2 bs.length c2] w fun e w' => e = .returned (.bool true) ∧ ∃ n, w' = w.drewN n := by
  have HT := Lib.hid (And.intro h1 h2)
  clear h1 h2
  obtain ⟨len, hlen⟩ : ∃ len, len = bs.length := ⟨_, rfl⟩
  rw [← hlen] at hl ⊢
  have HL := Lib.hid hlen
  clear hlen
  go_enter Tryz.func15, Tryz.ntmps15
  go_wp2_with (fail)
  go_loopw [5] (fun i wr => ∃ k : Nat, k ≤ len ∧ i = .int .i64 (k : Int) ∧ ∃ n, wr = w.drewN n) (fun i _ => len - (intOf i).toNat)
  case atStart => exact ⟨0, Nat.zero_le _, rfl, 0, rfl⟩
  case round =>
    obtain ⟨k, hk, rfl, n, rfl⟩ := hrel
    by_cases hlt : k < len
    · have hkl : k < bs.length := by have := HL.out; omega
      obtain ⟨g1, rfl, _, _, t1⟩ := HT.out.1 k hkl
      obtain ⟨g2, rfl, _, _, t2⟩ := HT.out.2 k hkl
      obtain ⟨z, hz⟩ : ∃ z : ByteArray, z = ⟨bs[k].toArray⟩ := ⟨_, rfl⟩
      have d1 : w.cell? ⟨g1, k, none⟩ = some (.string z) := by rw [hz]; exact t1
      have d2 : w.cell? ⟨g2, k, none⟩ = some (.string z) := by rw [hz]; exact t2
      have hk0 : (0 : Int) ≤ (k : Int) := by omega
      have hk1 : (k : Int) < (len : Int) := by omega
      clear t1 t2 hz
      go_wp2_with (fail)
      go_quiet (fail)
      go_wp2_with (fail)
      go_roundw
      case rel => exact ⟨k + 1, by omega, by first | rfl | go_num, _, rfl⟩
      case measure => simp [intOf]; omega
    · obtain rfl : k = len := by omega
      go_wp2
      go_ret
      exact ⟨rfl, _, rfl⟩
end Go.Proofs.YtppmlkgmoifgoaaGreatDoor

namespace Go.Proofs.YtppmlkgmoifgoaaGreatDoor
open Go.RowKit Go.ChangeShapes Go.WideShapes Go.Deep
set_option maxRecDepth 100000 in
theorem bulk_strs {H : Type} (ss : List ByteArray) : Rows.uptoBulkAll (strs ss : List (DataW H)) = totL (ss.map fun s => s.data.toList) := by
  induction ss with
  | nil => rfl
  | cons s ss ih =>
    show Rows.uptoBulkAll (DataW.lit (Lit.string s.data.toList) :: strs ss) = _
    simp only [Rows.uptoBulkAll, Rows.uptoBulk, List.map_cons, totL, ih]
set_option maxRecDepth 100000 in
theorem open_texts {H : Type} {enc : TypeId × Value → H} {W : World} {base : Nat} {v : Value} {d : DataW H} {p : List MemPlace}
    (hv : Value.okWide Tryz.prog W .any base 24 v) (h : DataW.Trod enc Tryz.prog W 0 (fun _ => true) true 24 v d p) (hk : Rows.uptoBulk d ≤ 1048576) :
    ∃ (A : Option Addr) (len cap : Nat) (bs : List (List UInt8)), v = .slice A len cap ∧ bs.length = len ∧ len ≤ cap ∧ Texts W W.heap.size A bs ∧ totL bs ≤ 1048576 := by
  obtain ⟨A, len, cap, rfl⟩ := okWide_slice Tryz.underlying24 hv
  obtain ⟨fuel, hf⟩ := h
  have hc1 : Tryz.prog.cellsOf 9 = 1 := by kernel_rfl
  rcases open_strings Tryz.underlying24 Tryz.underlying9 hc1 hf with ⟨hcs, _⟩ | ⟨a, len', cap', ss, hcs, _, hl, hm, hss, hx, hcell, _⟩
  · simp only [Value.cells, List.cons.injEq, and_true] at hcs
    injection hcs with e1 e2 e3
    subst e1 e2 e3
    exact ⟨none, 0, 0, [], rfl, rfl, Nat.le_refl _, fun i hi => absurd hi (by simp), by simp [totL]⟩
  · simp only [Value.cells, List.cons.injEq, and_true] at hcs
    injection hcs with e1 e2 e3
    subst e1 e2 e3
    simp only [if_true] at hss
    simp only [Prod.mk.injEq] at hx
    obtain ⟨rfl, _⟩ := hx
    have hk2 : totL ((ss.take len).map fun s => s.data.toList) ≤ 1048576 := by
      simp only [Rows.uptoBulk, bulk_strs] at hk
      omega
    have hlen : ((ss.take len).map fun s => s.data.toList).length = len := by simp; omega
    refine ⟨some a, len, cap, (ss.take len).map fun s => s.data.toList, rfl, hlen, hl, fun i hi => ?_, hk2⟩
    have hi' : i < ss.length := by omega
    have hc := hcell i hi'
    obtain ⟨b, off, spot⟩ := a
    have hspot : spot = none := by
      have h0 := World.cell?_spot (hcell 0 (by omega))
      simpa [Addr.add] using h0
    subst hspot
    rw [add_plain] at hc
    refine ⟨b, off, rfl, ?_, ?_⟩
    · rcases Nat.lt_or_ge b W.heap.size with hlt | hge
      · exact hlt
      · simp [World.cell?, Array.getElem?_eq_none hge] at hc
    · rw [hc]
      have e : ss.getD i ByteArray.empty = ss[i] := by rw [List.getD_eq_getElem?_getD, List.getElem?_eq_getElem hi']; rfl
      rw [e]
      simp [strV]
end Go.Proofs.YtppmlkgmoifgoaaGreatDoor

