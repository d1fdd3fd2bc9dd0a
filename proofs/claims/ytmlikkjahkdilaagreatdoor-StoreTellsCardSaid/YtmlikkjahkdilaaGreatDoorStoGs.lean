/- Package store: the disk's files as a function of blocks. -/
import Derived.Test.YtmlikkjahkdilaaGreatDoorStkT
namespace Go.Proofs.YtmlikkjahkdilaaGreatDoor
open Go.RowKit Go.Maps
/-- the disk holds just the files of the blocks' data -/
structure GS (L : Fs) (g : Blk → Option ByteArray) : Prop where
  at_ : ∀ y, okB y → getF L y.nm = (g y).map (fileB y)
  no : ∀ q, (∀ y, okB y → ¬ q = y.nm) → getF L q = none
  ok : ∀ y d, g y = some d → okB y ∧ okD d
theorem gs_nil : GS [] (fun _ => none) := ⟨fun _ _ => rfl, fun _ _ => rfl, fun _ _ h => by cases h⟩
theorem GS.new {L : Fs} {g : Blk → Option ByteArray} (h : GS L g) : getF L newS = none := h.no _ fun y _ => nm_ne_new y
theorem GS.write {L : Fs} {g : Blk → Option ByteArray} (h : GS L g) {x : Blk} (hx : okB x) {d : ByteArray} (hd : okD d) : GS (wrL L x (fileB x d)) (fun y => if y = x then some d else g y) := by
  refine ⟨fun y hy => ?_, fun q hq => ?_, fun y e he => ?_⟩
  · rw [get_wrL L x _ _ h.new, if_neg (fun e => nm_ne_new y e.symm)]
    by_cases e : y = x
    · rw [if_pos (by rw [e]), e]
      simp
    · rw [if_neg (fun e2 => e (nm_inj e2)), h.at_ y hy]
      simp [e]
  · rw [get_wrL L x _ _ h.new]
    by_cases e : q = newS
    · rw [if_pos e]
    · rw [if_neg e, if_neg (hq x hx), h.no q hq]
  · by_cases e2 : y = x
    · simp only [e2, if_true] at he
      injection he with he
      subst he
      rw [e2]
      exact ⟨hx, hd⟩
    · simp only [e2, if_false] at he
      exact h.ok y e he
theorem GS.look {L : Fs} {g : Blk → Option ByteArray} (h : GS L g) {y : Blk} {d : ByteArray} (hg : g y = some d) : lookR L y = (d, true) := by
  obtain ⟨h1, h2⟩ := h.ok y d hg
  unfold lookR
  rw [h.at_ y h1, hg]
  exact dataR_good y d h2
/-- the blocks of the disk's files -/
theorem GS.list {L : Fs} {g : Blk → Option ByteArray} (h : GS L g) (hs : SrtF L) : ∃ bl : List Blk, namesF L = bl.map Blk.nm ∧ ∀ y, inB bl y = (g y).isSome := by
  have key : ∀ M : Fs, (∀ e ∈ M, e ∈ L) → ∃ bl : List Blk, namesF M = bl.map Blk.nm ∧ ∀ y ∈ bl, (g y).isSome = true := by
    intro M
    induction M with
    | nil => exact fun _ => ⟨[], rfl, fun _ h => by cases h⟩
    | cons e M ih =>
      intro hM
      obtain ⟨bl, h1, h2⟩ := ih fun e he => hM e (List.mem_cons_of_mem _ he)
      have he := mem_getF hs (hM e (List.mem_cons_self ..))
      have hex : ∃ y, okB y ∧ e.n = y.nm := by
        apply Classical.byContradiction
        intro hn
        have := h.no e.n fun y hy e2 => hn ⟨y, hy, e2⟩
        rw [this] at he
        cases he
      obtain ⟨y, hy, hye⟩ := hex
      refine ⟨y :: bl, ?_, fun z hz => ?_⟩
      · show e.n :: namesF M = y.nm :: bl.map Blk.nm
        rw [h1, hye]
      · rcases List.mem_cons.1 hz with rfl | hz
        · rw [hye, h.at_ z hy] at he
          cases hg : g z with
          | none => rw [hg] at he; cases he
          | some d => rfl
        · exact h2 z hz
  obtain ⟨bl, h1, h2⟩ := key L fun _ h => h
  refine ⟨bl, h1, fun y => ?_⟩
  unfold inB
  by_cases hy : y ∈ bl
  · rw [decide_eq_true hy, h2 y hy]
  · rw [decide_eq_false hy]
    cases hg : g y with
    | none => rfl
    | some d =>
      exfalso
      have h3 := h.at_ y (h.ok y d hg).1
      rw [hg] at h3
      have h4 := getF_mem h3
      have h5 : y.nm ∈ namesF L := List.mem_map.2 ⟨_, h4, rfl⟩
      rw [h1] at h5
      obtain ⟨z, hz, hze⟩ := List.mem_map.1 h5
      exact hy (nm_inj hze ▸ hz)
/-- a store over the data of blocks -/
def SG (W w : World) (s p m : Nat) (S : Nat → Prop) (n nk tot : Nat) (g : Blk → Option ByteArray) : Prop :=
  ∃ L, SS W w s p m S 1099511627776 n L [] nk (fun y => (g y).isSome) ∧ GS L g ∧ totF L ≤ tot ∧ L.length ≤ 2 * nk
section
variable {W w w' : World} {s p m n nk tot : Nat} {S : Nat → Prop} {g : Blk → Option ByteArray}
theorem SG.below (h : SG W w s p m S n nk tot g) (hb : Below w.heap.size w w') : SG W w' s p m S n nk tot g := by
  obtain ⟨L, h1, h2, h3⟩ := h
  exact ⟨L, h1.below hb, h2, h3⟩
theorem SG.congr {g' : Blk → Option ByteArray} (h : SG W w s p m S n nk tot g) (e : ∀ y, g y = g' y) : SG W w s p m S n nk tot g' := by
  have : g = g' := funext e
  rw [← this]
  exact h
theorem sg_first {W w : World} {p : Nat} {S : Nat → Prop} (h : Hid (DK W w p S 1099511627776 0 [] [])) (hT : TabsS W) :
    Calls Tryz.prog 8 #[.pointer (some ⟨p, 0, none⟩)] w fun e w' => ∃ s m S', e = .returned (.tuple #[.pointer (some ⟨s, 0, none⟩), .int .i64 0]) ∧ Hid (SG W w' s p m S' 0 0 0 (fun _ => none) ∧ Frm w w' S S' m) := by
  refine (open_none h hT (by decide)).mono ?_
  rintro e w' ⟨s, m, S', rfl, hx⟩
  exact ⟨s, m, S', rfl, Lib.hid ⟨⟨[], hx.out.1, gs_nil, Nat.le_refl _, Nat.le_refl _⟩, hx.out.2.1⟩⟩
theorem sg_write (x : Blk) (hx : okB x) (d : ByteArray) (hd : okD d) (h : Hid (SG W w s p m S n nk tot g)) (hT : TabsS W) (hg : g x = none) (hn : n + 10 < maxLen ∧ nk < maxLen) (ht : tot + 50000 ≤ 1099511627776) :
    Calls Tryz.prog 10 #[.pointer (some ⟨s, 0, none⟩), .agg #[.int .i64 x.a, .int .i64 x.b, .int .i64 x.c], .string d] w fun e w' => e = .returned (.int .i64 0) ∧ ∃ S', Hid (SG W w' s p m S' (n + 5) (nk + 1) (tot + 50000) (fun y => if y = x then some d else g y) ∧ Frm w w' S S' m) := by
  obtain ⟨L, h1, h2, h3, h4⟩ := h.out
  have hf := file_size x d hd.2
  have hno : getF L x.nm = none := by rw [h2.at_ x hx, hg]; rfl
  refine (write_S x hx d hd (Lib.hid h1) hT (by rw [hg]; rfl) (by decide) hn (by omega) h2.new hno).mono ?_
  rintro e w' ⟨rfl, S', hw⟩
  have hlw := len_wrL L x (fileB x d)
  refine ⟨rfl, S', Lib.hid ⟨⟨_, hw.out.1.kcongr (fun y _ => ?_), h2.write hx hd, ?_, by omega⟩, hw.out.2⟩⟩
  · by_cases e : y = x
    · simp [e]
    · simp [e]
  · rw [tot_wrL h1.dk.srt x _ h2.new hno]
    omega
theorem crash_nil (L : Fs) (keep tear : Int) : crashL L [] keep tear = L := by
  unfold crashL
  simp [tornC, held]
theorem sg_crash (keep tear : Int) (h : Hid (SG W w s p m S n nk tot g)) (hn : n + 10 < maxLen) (hl : 2 * nk ≤ n) (ht : tot ≤ 1099511627776) :
    Calls Tryz.prog 15 #[.pointer (some ⟨p, 0, none⟩), .int .i64 keep, .int .i64 tear] w fun e w' => e = .returned (.tuple #[]) ∧ ∃ S' L, Hid (DK W w' p S' 1099511627776 (n + 1) L [] ∧ GS L g ∧ totF L ≤ tot ∧ L.length ≤ 2 * nk) := by
  obtain ⟨L, h1, h2, h3, h4⟩ := h.out
  refine (crash_K keep tear (Lib.hid h1.dk) (by simp only [List.length_nil]; omega) (by omega) (by show totF L + 0 ≤ 1099511627776; omega)).mono ?_
  rintro e w' ⟨rfl, hx⟩
  rw [crash_nil] at hx
  exact ⟨rfl, _, L, Lib.hid ⟨hx.out.1, h2, h3, h4⟩⟩
theorem sg_open {W w : World} {p n tot : Nat} {S : Nat → Prop} {g : Blk → Option ByteArray} {L : Fs} (h : Hid (DK W w p S 1099511627776 n L [])) (hgs : GS L g) (hT : TabsS W) (hn : n + 10 ≤ 8796093022206 ∧ L.length ≤ 1099511627776) (ht : totF L ≤ tot) (ht2 : tot ≤ 1099511627776) :
    Calls Tryz.prog 8 #[.pointer (some ⟨p, 0, none⟩)] w fun e w' => ∃ s m S' nk, e = .returned (.tuple #[.pointer (some ⟨s, 0, none⟩), .int .i64 0]) ∧ Hid (SG W w' s p m S' n nk tot g ∧ Frm w w' S S' m) := by
  obtain ⟨bl, h1, h2⟩ := hgs.list h.out.srt
  have hl : bl.length = L.length := by
    have := congrArg List.length h1
    simp only [namesF, List.length_map] at this
    exact this.symm
  refine (open_S bl h hT h1 (fun y hy => ?_) ⟨hn.1, by omega⟩ (by omega)).mono ?_
  · have h3 := h2 y
    unfold inB at h3
    rw [decide_eq_true hy] at h3
    cases hg : g y with
    | none => rw [hg] at h3; cases h3
    | some d => exact ⟨(hgs.ok y d hg).1, by rw [hgs.look hg]⟩
  · rintro e w' ⟨s, m, S', rfl, hx⟩
    exact ⟨s, m, S', _, rfl, Lib.hid ⟨⟨L, hx.out.1.kcongr (fun y _ => h2 y), hgs, ht, by omega⟩, hx.out.2.1⟩⟩
theorem sg_read (x : Blk) (d : ByteArray) (h : Hid (SG W w s p m S n nk tot g)) (hT : TabsS W) (hg : g x = some d) (ht : tot ≤ 1099511627776) :
    Calls Tryz.prog 9 #[.pointer (some ⟨s, 0, none⟩), .agg #[.int .i64 x.a, .int .i64 x.b, .int .i64 x.c]] w fun e w' => e = .returned (.tuple #[.string d, .int .i64 0]) ∧ Below w.heap.size w w' := by
  obtain ⟨L, h1, h2, h3, h4⟩ := h.out
  exact read_good x (h2.ok x d hg).1 d (Lib.hid h1) hT (by rw [hg]; rfl) (h2.look hg) (by omega)
theorem sg_none (x : Blk) (hx : okB x) (h : Hid (SG W w s p m S n nk tot g)) (hg : g x = none) :
    Calls Tryz.prog 9 #[.pointer (some ⟨s, 0, none⟩), .agg #[.int .i64 x.a, .int .i64 x.b, .int .i64 x.c]] w fun e w' => e = .returned (.tuple #[.string ⟨#[]⟩, .int .i64 140]) ∧ Below w.heap.size w w' := by
  obtain ⟨L, h1, h2, h3, h4⟩ := h.out
  exact read_none x hx (Lib.hid h1) (by rw [hg]; rfl)
end
end Go.Proofs.YtmlikkjahkdilaaGreatDoor
