/- The reference's disk as it lies there; all files that it holds. -/
import Derived.Test.YtjlhnacdfpbchaaDkRefC
namespace Go.Proofs.Ytjlhnacdfpbchaa
open Go.RowKit Go.Maps

def kC : Chg → Int
  | .app _ _ => 1
  | .ren _ _ => 2
  | .del _ => 3
def nC : Chg → ByteArray
  | .app n _ => n
  | .ren a _ => a
  | .del a => a
def dC : Chg → ByteArray
  | .app _ d => d
  | .ren _ b => b
  | .del _ => ByteArray.empty
theorem chC_eq (c : Chg) : chC c = [.int .i64 (kC c), .string (nC c), .string (dC c)] := by cases c <;> rfl
abbrev chR (c : Chg) : List Value := [.int .i64 (kC c), .string (nC c), .string (dC c)]
def cellsC (cs : List Chg) : List Value := cs.flatMap chR
theorem cellsC_get : ∀ (L : List Chg) (i : Nat) (x : Chg), L[i]? = some x → ∀ j u, (chR x)[j]? = some u → (cellsC L)[i * 3 + j]? = some u
  | [], i, x, h => by simp at h
  | y :: L, 0, x, h => fun j u hj => by
    simp only [List.getElem?_cons_zero, Option.some.injEq] at h
    subst h
    have hj3 : j < 3 := by have := (List.getElem?_eq_some_iff.1 hj).1; simpa using this
    rw [cellsC, List.flatMap_cons, List.getElem?_append_left (by simp; omega), Nat.zero_mul, Nat.zero_add]
    exact hj
  | y :: L, i + 1, x, h => fun j u hj => by
    rw [cellsC, List.flatMap_cons, List.getElem?_append_right (by simp; omega), ← cellsC]
    rw [show (i + 1) * 3 + j - (chR y).length = i * 3 + j by simp; omega]
    exact cellsC_get L i x (by simpa using h) j u hj
theorem cellsC_app (L M : List Chg) : cellsC (L ++ M) = cellsC L ++ cellsC M := List.flatMap_append ..
theorem infoChg : (Try.prog.info? 80).map (fun i => (i.zero, i.size, i.bytes)) = some (some (.agg #[.int .i64 0, .string ⟨#[]⟩, .string ⟨#[]⟩]), 3, 40) := by kernel_rfl
/-- a list of changes that lies there -/
structure CV (B : Nat) (w : World) (u : Value) (cs : List Chg) : Prop where
  row : w.ownsRow B 80 3 u cs.length (cellsC cs)
theorem CV.below {B : Nat} {w w' : World} {u : Value} {cs : List Chg} (h : CV B w u cs) (hb : Below w.heap.size w w') : CV B w' u cs := ⟨below_row h.row hb⟩
theorem CV.slice {B : Nat} {w : World} {v : Value} {cs : List Chg} (h : CV B w v cs) : ∃ a c, v = .slice a cs.length c := by
  rcases h.row.2 with ⟨h1, h0⟩ | ⟨g, cap, cur, rfl, _⟩
  · exact ⟨none, 0, by rw [h0, h1]⟩
  · exact ⟨_, _, rfl⟩
theorem CV.cells {B : Nat} {w : World} {v : Value} {L : List Chg} (h : CV B w v L) {k : Nat} {x : Chg} (hk : L[k]? = some x) :
    ∃ g cap, v = .slice (some ⟨g, 0, none⟩) L.length cap ∧ w.cell? ⟨g, k * 3, none⟩ = some (.int .i64 (kC x)) ∧ w.cell? ⟨g, k * 3 + 1, none⟩ = some (.string (nC x)) ∧ w.cell? ⟨g, k * 3 + 2, none⟩ = some (.string (dC x)) := by
  have hkl := (List.getElem?_eq_some_iff.1 hk).1
  rcases h.row.2 with ⟨_, h0⟩ | ⟨g, cap, cur, rfl, h2, h3⟩
  · omega
  · have hc := fun j u hj => cellsC_get L k x hk j u hj
    refine ⟨g, cap, rfl, ?_, ?_, ?_⟩
    · rw [h.row.cellAt (k * 3) (by omega)]; exact hc 0 _ rfl
    · rw [h.row.cellAt (k * 3 + 1) (by omega)]; exact hc 1 _ rfl
    · rw [h.row.cellAt (k * 3 + 2) (by omega)]; exact hc 2 _ rfl
/-- the reference's disk -/
structure RDk (w : World) (p : Nat) (cap : Int) (v u : Value) (L : Fs) (cs : List Chg) : Prop where
  lt : p < w.heap.size
  c0 : w.cell? ⟨p, 0, none⟩ = some (.int .i64 cap)
  c1 : w.cell? ⟨p, 1, none⟩ = some v
  c2 : w.cell? ⟨p, 2, none⟩ = some u
  fv : FV 0 w v L
  cv : CV 0 w u cs
theorem RDk.below {w w' : World} {p : Nat} {cap : Int} {v u : Value} {L : Fs} {cs : List Chg} (h : RDk w p cap v u L cs) (hb : Below w.heap.size w w') : RDk w' p cap v u L cs :=
  ⟨Nat.lt_of_lt_of_le h.lt hb.size, (hb.cell (p := ⟨p, 0, none⟩) h.lt).trans h.c0, (hb.cell (p := ⟨p, 1, none⟩) h.lt).trans h.c1, (hb.cell (p := ⟨p, 2, none⟩) h.lt).trans h.c2, h.fv.below hb, h.cv.below hb⟩
/-- what its size keeps -/
structure DOk (L : Fs) (cs : List Chg) : Prop where
  srt : SrtF L
  ok : ∀ c ∈ cs, okC c
  len : L.length + cs.length ≤ 1099511627775
  tot : totF L + wts cs ≤ 140737488355328
theorem wts_take (cs : List Chg) (k : Nat) (x : Chg) (h : cs[k]? = some x) : wts (cs.take k) + wtC x ≤ wts cs := by
  have e := List.take_append_drop k cs
  have hd : cs.drop k = x :: cs.drop (k + 1) := by
    obtain ⟨hlt, rfl⟩ := List.getElem?_eq_some_iff.1 h
    exact List.drop_eq_getElem_cons hlt
  rw [hd] at e
  have : wts cs = wts (cs.take k) + wts (x :: cs.drop (k + 1)) := by rw [← wts_app, e]
  have h2 : wts (x :: cs.drop (k + 1)) = wtC x + wts (cs.drop (k + 1)) := by simp [wts]
  omega
theorem do_step {w : World} {o : Value} {L : Fs} {cs : List Chg} (hd : DOk L cs) {k : Nat} {x : Chg} (hx : cs[k]? = some x) (h : FV 0 w o (held L (cs.take k))) :
    Calls Try.prog 38 #[o, .agg #[.int .i64 (kC x), .string (nC x), .string (dC x)]] w fun e w' => ∃ o2, e = .returned o2 ∧ Hid (FV 0 w' o2 (held L (cs.take (k + 1))) ∧ Below w.heap.size w w') := by
  have hok : ∀ c ∈ cs.take k, okC c := fun c hc => hd.ok c (List.mem_of_mem_take hc)
  have hkl := (List.getElem?_eq_some_iff.1 hx).1
  have hl := len_held L (cs.take k)
  have ht := tot_held hd.srt (cs.take k) hok
  have hw := wts_take cs k x hx
  have h1 := hd.len
  have h2 := hd.tot
  have hlt : (cs.take k).length ≤ k := by simp; omega
  have := do_any x h (srt_held hd.srt _) (hd.ok x (List.mem_of_getElem? hx)) (by omega) (by omega)
  rw [chC_eq] at this
  refine this.mono ?_
  rintro e w' ⟨o2, rfl, H⟩
  refine ⟨o2, rfl, Lib.hid ⟨?_, H.out.2⟩⟩
  rw [List.take_add_one, hx]
  show FV 0 w' o2 (held L (cs.take k ++ [x]))
  rw [held_one]
  exact H.out.1.base (Nat.zero_le _)
set_option maxRecDepth 100000 in
set_option maxHeartbeats 4000000 in
theorem held_R {w : World} {p : Nat} {cap : Int} {v u : Value} {L : Fs} {cs : List Chg} (h : RDk w p cap v u L cs) (hd : DOk L cs) :
    Calls Try.prog 23 #[.pointer (some ⟨p, 0, none⟩)] w fun e w' => ∃ o, e = .returned o ∧ Hid (FV 0 w' o (held L cs) ∧ Below w.heap.size w w') := by
  have HH := Lib.hid h
  have HD := Lib.hid hd
  have hL : (cs.length : Int) ≤ 9223372036854775807 := by have := hd.len; omega
  obtain ⟨a, c, rfl⟩ := h.cv.slice
  have c1 := h.c1
  clear h hd
  go_enter Try.func23, Try.ntmps23
  go_wp2
  go_loopw [3, 4] (fun o i wr => ∃ k : Nat, k ≤ cs.length ∧ i = .int .i64 k ∧ Hid (FV 0 wr o (held L (cs.take k)) ∧ Below w.heap.size w wr)) (fun _ i _ => cs.length - (intOf i).toNat)
  case atStart => exact ⟨0, Nat.zero_le _, rfl, Lib.hid ⟨HH.out.fv, Below.refl _ _⟩⟩
  case round =>
    obtain ⟨k, hk, rfl, HB⟩ := hrel
    have HR := Lib.hid (HH.out.below HB.out.2)
    have y2 := HR.out.c2
    by_cases hkn : k < cs.length
    · obtain ⟨x, hx⟩ : ∃ x, cs[k]? = some x := ⟨_, List.getElem?_eq_getElem hkn⟩
      obtain ⟨g, cap2, e, d0, d1, d2⟩ := HR.out.cv.cells hx
      injection e with e1 _ e3
      subst e1
      subst e3
      have hkn' : (k : Int) < cs.length := by omega
      have HC := Lib.hid (do_step HD.out hx HB.out.1)
      clear hx
      go_wp2_with (first
        | (go_at_call 38; refine HC.out.mono ?_; rintro e w2 ⟨o2, rfl, H2⟩)
        | go_in)
      go_wp2
      have HB2 := Lib.hid (And.intro H2.out.1 (HB.out.2.trans (H2.out.2.mono HB.out.2.size)))
      go_roundw
      case rel => exact ⟨k + 1, by omega, by simp, HB2⟩
      case measure => simp [intOf]; omega
    · obtain rfl : k = cs.length := by omega
      have hk3 : decide (((cs.length : Nat) : Int) < (cs.length : Int)) = false := by simp
      have HV := Lib.hid HB.out
      rw [List.take_length] at HV
      obtain ⟨a3, c3, rfl⟩ := HV.out.1.slice
      clear hkn hk HB
      go_wp2
      go_ret
      exact ⟨_, rfl, HV⟩
end Go.Proofs.Ytjlhnacdfpbchaa
