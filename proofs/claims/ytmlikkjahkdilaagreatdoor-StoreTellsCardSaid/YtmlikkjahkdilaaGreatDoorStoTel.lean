/- StoreTells: one replica's file, a bit of it turned. -/
import Derived.Test.YtmlikkjahkdilaaGreatDoorStoLs0
import Derived.Test.YtmlikkjahkdilaaGreatDoorDkFlip
namespace Go.Proofs.YtmlikkjahkdilaaGreatDoor
open Go.RowKit Go.Maps
theorem fsx_ext : ∀ {L M : Fs}, SrtF L → SrtF M → (∀ q, getF L q = getF M q) → L = M
  | [], [], _, _, _ => rfl
  | [], y :: M, _, _, h => by
    have := h y.n
    rw [getF_nil, getF_cons, if_pos rfl] at this
    cases this
  | x :: L, [], _, _, h => by
    have := h x.n
    rw [getF_nil, getF_cons, if_pos rfl] at this
    cases this
  | x :: L, y :: M, hL, hM, h => by
    obtain ⟨l1, l2⟩ := List.pairwise_cons.1 hL
    obtain ⟨m1, m2⟩ := List.pairwise_cons.1 hM
    have nx : getF L x.n = none := getF_none.2 fun z hz e => by have := l1 z hz; rw [e, blt_irrefl] at this; cases this
    have ny : getF M y.n = none := getF_none.2 fun z hz e => by have := m1 z hz; rw [e, blt_irrefl] at this; cases this
    have hn : x.n = y.n := by
      by_cases e : x.n = y.n
      · exact e
      · exfalso
        cases hb : blt x.n y.n with
        | true =>
          have h1 := h x.n
          rw [getF_cons, if_pos rfl, getF_cons, if_neg (fun e2 => e e2.symm)] at h1
          have h2 : getF M x.n = none := getF_none.2 fun z hz e2 => by
            have := blt_trans hb (m1 z hz)
            rw [e2, blt_irrefl] at this
            cases this
          rw [h2] at h1
          cases h1
        | false =>
          have hb2 := blt_total e hb
          have h1 := h y.n
          rw [getF_cons, if_neg e, getF_cons, if_pos rfl] at h1
          have h2 : getF L y.n = none := getF_none.2 fun z hz e2 => by
            have := blt_trans hb2 (l1 z hz)
            rw [e2, blt_irrefl] at this
            cases this
          rw [h2] at h1
          cases h1
    have hd : x.d = y.d := by
      have h1 := h x.n
      rw [getF_cons, if_pos rfl, getF_cons, if_pos hn.symm] at h1
      injection h1
    have he : x = y := by cases x; cases y; simp only at hn hd; subst hn hd; rfl
    subst he
    rw [fsx_ext l2 m2 (fun q => by
      have h1 := h q
      rw [getF_cons, getF_cons] at h1
      by_cases e : x.n = q
      · subst e; rw [nx, ny]
      · rw [if_neg e, if_neg e] at h1; exact h1)]
/-- a byte with a bit turned is another one -/
theorem flip_nearS (d : ByteArray) (b : Nat) (hb : b / 8 < d.size) : Near4 (flipD d (b : Int)).data.toList d.data.toList (b / 8) ∧ (flipD d (b : Int)).data.toList ≠ d.data.toList := by
  have hq : ((b : Int) / 8).toNat = b / 8 := by omega
  have hl : b / 8 < d.data.toList.length := by simpa using hb
  have e1 : (flipD d (b : Int)).data.toList = d.data.toList.set (b / 8) ((d.data.toList[b / 8]?.getD 0) ^^^ bitB (b : Int)) := by
    unfold flipD
    rw [hq, List.toList_toArray]
  rw [e1]
  refine ⟨⟨by rw [List.length_set], fun i hi => ?_⟩, fun e => ?_⟩
  · rw [List.getElem?_set_ne (by omega)]
  · have h2 : (d.data.toList.set (b / 8) ((d.data.toList[b / 8]?.getD 0) ^^^ bitB (b : Int)))[b / 8]? = d.data.toList[b / 8]? := by rw [e]
    rw [List.getElem?_set_self hl, List.getElem?_eq_getElem hl] at h2
    injection h2 with h2
    simp only [Option.getD_some] at h2
    have h3 : bitB (b : Int) = 0 := by
      have h4 : d.data.toList[b / 8] ^^^ (d.data.toList[b / 8] ^^^ bitB (b : Int)) = d.data.toList[b / 8] ^^^ d.data.toList[b / 8] := by rw [h2]
      rw [← UInt8.xor_assoc, UInt8.xor_self, UInt8.zero_xor] at h4
      exact h4
    rw [bitB_nat] at h3
    have hr8 : b % 8 = 0 ∨ b % 8 = 1 ∨ b % 8 = 2 ∨ b % 8 = 3 ∨ b % 8 = 4 ∨ b % 8 = 5 ∨ b % 8 = 6 ∨ b % 8 = 7 := by omega
    rcases hr8 with h | h | h | h | h | h | h | h <;> rw [h] at h3 <;> exact absurd h3 (by decide)
def oneX (x : Blk) (f : ByteArray) : Fs := [⟨x.nm, f⟩]
theorem get_oneX (x : Blk) (f q : ByteArray) : getF (oneX x f) q = if q = x.nm then some f else none := by
  unfold oneX
  rw [getF_cons, getF_nil]
  by_cases h : q = x.nm
  · rw [if_pos h, if_pos h.symm]
  · rw [if_neg h, if_neg (fun e => h e.symm)]
theorem srt_oneX (x : Blk) (f : ByteArray) : SrtF (oneX x f) := List.pairwise_singleton _ _
theorem wr_oneX (x : Blk) (f : ByteArray) : wrL [] x f = oneX x f := by
  refine fsx_ext (srt_wrL List.Pairwise.nil x f) (srt_oneX x f) fun q => ?_
  rw [get_wrL [] x f q rfl, get_oneX]
  by_cases h : q = newS
  · rw [if_pos h, if_neg (fun e => nm_ne_new x (h.symm.trans e))]
  · rw [if_neg h]; rfl
theorem put_oneX (x : Blk) (f d : ByteArray) : putF (oneX x f) x.nm d = oneX x d := by
  refine fsx_ext (srt_putF (srt_oneX x f) _ _) (srt_oneX x d) fun q => ?_
  rw [getF_putF, get_oneX, get_oneX]
  by_cases h : q = x.nm
  · rw [if_pos h, if_pos h]
  · rw [if_neg h, if_neg h, if_neg h]
theorem fs_none {L : Fs} (h : ∀ q, getF L q = none) : L = [] := by
  cases L with
  | nil => rfl
  | cons y L =>
    have := h y.n
    rw [getF_cons, if_pos rfl] at this
    cases this
theorem fg_oneX (x : Blk) (f : ByteArray) : held (oneX x f) (fgC (oneX x f) [x] []) = [] := by
  refine fs_none fun q => ?_
  by_cases h : q ∈ [x].map Blk.nm
  · exact (get_fgC (oneX x f) [x] [] q).1 h
  · rw [(get_fgC (oneX x f) [x] [] q).2 h, held_nil, get_oneX, if_neg]
    intro e
    exact h (by rw [e]; exact List.mem_cons_self ..)
theorem turned_bad (x : Blk) (d : ByteArray) (hd : d.size ≤ 4096) (b : Nat) (hb : b / 8 < (fileB x d).size) : lookR (oneX x (flipD (fileB x d) (b : Int))) x = (⟨#[]⟩, false) := by
  unfold lookR
  rw [get_oneX, if_pos rfl]
  refine dataR_bad x _ ?_
  obtain ⟨h1, h2⟩ := flip_nearS (fileB x d) b hb
  have hl : (fileB x d).data.toList = stream [cat (hdP x ⟨d, by omega⟩ (chA 64 ⟨d, by omega⟩)), d.data.toList] := by
    rw [fileB_of (by omega), fileF_list]
  have hs : Small [cat (hdP x ⟨d, by omega⟩ (chA 64 ⟨d, by omega⟩)), d.data.toList] := fun y hy => by
    rcases List.mem_cons.1 hy with rfl | hy
    · exact hd_size x ⟨d, by omega⟩ hd
    · rw [List.mem_singleton.1 hy]
      have : d.data.toList.length = d.size := by simp
      omega
  rw [hl] at h1 h2
  obtain ⟨k, _, h3⟩ := all_changed _ hs _ _ h1 h2
  rw [h3]
  show ¬ (24 : Int) = 0
  decide
/-- a block's box beside the store -/
structure BQ (w : World) (S : Nat → Prop) (m q : Nat) (a b c : Int) : Prop where
  c0 : w.cell? ⟨q, 0, none⟩ = some (.int .i64 a)
  c1 : w.cell? ⟨q, 1, none⟩ = some (.int .i64 b)
  c2 : w.cell? ⟨q, 2, none⟩ = some (.int .i64 c)
  lt : q < w.heap.size
  nS : ¬ S q
  nm : ¬ q = m
theorem BQ.frm {w w' : World} {S S' : Nat → Prop} {m q : Nat} {a b c : Int} (h : BQ w S m q a b c) (f : Frm w w' S S' m) : BQ w' S' m q a b c := by
  have e := f.t.block q h.lt (fun e => e.elim h.nS h.nm)
  exact ⟨(cell_eq e 0).trans h.c0, (cell_eq e 1).trans h.c1, (cell_eq e 2).trans h.c2, Nat.lt_of_lt_of_le h.lt f.t.size, fun e2 => (f.s q e2).elim h.nS (by have := h.lt; omega), h.nm⟩
end Go.Proofs.YtmlikkjahkdilaaGreatDoor
