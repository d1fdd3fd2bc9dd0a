/- DiskMoves: a file gets another name, whatever the names and the texts. -/
import Derived.Test.YtdpcajkbhgcehaaDiskMov
import Derived.SizedLaws

import Derived.Test.YtdpcajkbhgcehaaLawEnd

import Derived.Test.YtdpcajkbhgcehaaPlainKit

namespace Go.Proofs.Ytdpcajkbhgcehaa.fnDiskMoves
open Go.ChangeShapes Go.WideShapes Go.ChangeAt Go.RowKit Go.WideMaps Go.WideElems
open Go.ChangeMaps (open_string)

open Go.Maps
set_option maxRecDepth 100000 in
theorem open_names {H : Type} {enc : TypeId × Value → H} {W : World} {base : Nat} {v : Value} {d : DataW H} {p : List MemPlace}
    (hv : Value.okWide Try.prog W .any base 50 v) (h : DataW.Trod enc Try.prog W 0 (fun _ => true) true 50 v d p) :
    ∃ x y : ByteArray, v = .agg #[.string x, .string y] ∧ d = .agg [.lit (.string x.data.toList), .lit (.string y.data.toList)] := by
  have hu : Try.prog.underlying 50 = some (.array 2 9) := Try.underlying50
  simp only [Value.okWide, hu] at hv
  obtain ⟨cs, rfl, hsz, _⟩ := hv
  obtain ⟨fuel, hf⟩ := h
  obtain ⟨ys, m, _, hx, hlen, hyl, hg⟩ := DataW.trod_array hu hf
  have c3 : Try.prog.cellsOf 9 = 1 := by kernel_rfl
  have c32 : Try.prog.cellsOf 50 = 2 := by kernel_rfl
  rw [c32] at hlen hsz
  have hlen' : cs.toList.length = 2 := by simpa [Value.cells] using hlen
  obtain ⟨v0, v1, hcs⟩ : ∃ v0 v1, cs = #[v0, v1] := by
    match hc : cs.toList, hlen' with
    | [v0, v1], _ => exact ⟨v0, v1, by apply Array.ext'; exact hc⟩
  subst hcs
  match ys, hyl, hx with
  | [y0, y1], _, hx =>
    have g0 : DataW.trod enc Try.prog W 0 (fun _ => true) true m 9 [v0] = some y0 := by have := hg 0 (by omega); simpa [c3, Value.cells] using this
    have g1 : DataW.trod enc Try.prog W 0 (fun _ => true) true m 9 [v1] = some y1 := by have := hg 1 (by omega); simpa [c3, Value.cells] using this
    obtain ⟨k, e0, f0, _⟩ := DataW.trod_string Try.underlying9 g0
    obtain ⟨i, e1, f1, _⟩ := DataW.trod_string Try.underlying9 g1
    simp only [List.cons.injEq, and_true] at e0 e1
    subst e0 e1 f0 f1
    simp only [List.map_cons, List.map_nil, Prod.mk.injEq] at hx
    exact ⟨k, i, rfl, hx.1⟩
def sK : ByteArray := ⟨#[107, 101, 101, 112]⟩
theorem bel_tch {w0 w w' : World} {S : Nat → Prop} (hb : Below w0.heap.size w0 w) (t : Tch w w' S) (h : ∀ i, S i → w0.heap.size ≤ i) : Below w0.heap.size w0 w' :=
  ⟨t.os.trans hb.os, t.tape.trans hb.tape, t.output.trans hb.output, Nat.le_trans hb.size t.size, fun i hi => (t.block i (Nat.lt_of_lt_of_le hi hb.size) (fun e => by have := h i e; omega)).trans (hb.block i hi)⟩
theorem sk_ne {a b : ByteArray} (h : ¬ a = b) : ¬ sk a = sk b := fun e => h (by
  have : a.data.toList = b.data.toList := by simpa [sk] using e
  exact ByteArray.ext (Array.ext' this))
/-- a disk whose files are told by D; of the names in the list the bytes are known -/
structure Mo (w0 w : World) (p : Nat) (n q : Nat) (D : DataW Unit) (u : Nat) : Prop where
  bel : Below w0.heap.size w0 w
  hp : w0.heap.size ≤ p
  st : ∃ (L m : Nat) (chg : Value) (cs : List Value), DiskAt w p 1099511627776 (.map (some L)) chg (.map (some m)) (u : Int) ∧ FM w m n D ∧ w.ownsRow w0.heap.size 81 1 chg q cs ∧ w0.heap.size ≤ m
/-- the bytes of a file -/
def Row (w0 w : World) (v : Value) (X : List UInt8) : Prop := w.ownsRow w0.heap.size 5 1 v X.length (Lib.byteCells X)
theorem read_any (w0 w : World) (p n q : Nat) (D : DataW Unit) (u : Nat) (h : Mo w0 w p n q D u) (name : ByteArray) (hname : name.size ≤ maxLen) (v : Value) (X : List UInt8) (hhas : Maps.has D (sk name) = true) (hv : hdr v = some (D.atKey (sk name) (hd (.slice none 0 0)), [])) (hr : Row w0 w v X) :
    Calls Try.prog 14 #[.pointer (some ⟨p, 0, none⟩), .string name] w fun e w' => e = .returned (.tuple #[.string ⟨X.toArray⟩, .int .i64 0]) ∧ w = w' := by
  obtain ⟨L, m, chg, cs, hk, hf, hc, hm⟩ := h.st
  have hh := holds_any p m n _ _ _ chg v D name w hk hf hname true hhas hv
  have hlk := look_file hf hname hv
  have hcv := convert_any hr
  have c3 := hk.c3
  clear hk hf hc hm hhas hv hr h
  go_enter Try.func14, Try.ntmps14
  go_wp2_with (fail)
  refine hh.mono ?_
  rintro e w' ⟨rfl, rfl⟩
  clear hh
  go_wp2
  go_ret2
  exact ⟨rfl, rfl⟩
theorem read_miss (w0 w : World) (p n q : Nat) (D : DataW Unit) (u : Nat) (h : Mo w0 w p n q D u) (name : ByteArray) (hname : name.size ≤ maxLen) (hhas : Maps.has D (sk name) = false) (hv : D.atKey (sk name) (hd (.slice none 0 0)) = hd (.slice none 0 0)) :
    Calls Try.prog 14 #[.pointer (some ⟨p, 0, none⟩), .string name] w fun e w' => e = .returned (.tuple #[.string ⟨#[]⟩, .int .i64 41]) ∧ w = w' := by
  obtain ⟨L, m, chg, cs, hk, hf, hc, hm⟩ := h.st
  exact read_not p name w (holds_any p m n _ _ _ chg (.slice none 0 0) D name w hk hf hname false hhas (by rw [hv]; rfl))
theorem used_any (w0 w : World) (p n q : Nat) (D : DataW Unit) (u : Nat) (h : Mo w0 w p n q D u) : Calls Try.prog 22 #[.pointer (some ⟨p, 0, none⟩)] w fun e w' => e = .returned (.int .i64 u) ∧ w = w' := by
  obtain ⟨L, m, chg, cs, hk, _⟩ := h.st
  exact used_at p _ _ _ _ _ w hk
theorem app_first (w0 w : World) (p : Nat) (a : ByteArray) (hb : Below w0.heap.size w0 w) (hp : w0.heap.size ≤ p) (hk : DiskAt w p 1099511627776 (.map none) (.slice none 0 0) (.map none) 0) (ha : a.size ≤ 1048576) :
    Calls Try.prog 17 #[.pointer (some ⟨p, 0, none⟩), .string sK, .string a] w fun e w' => e = .returned (.int .i64 0) ∧ ∃ v, Mo w0 w' p 1 1 (empF.put (sk sK) (hd v)) a.size ∧ Row w0 w' v a.data.toList := by
  refine (append_first p w0.heap.size _ sK a w hk (by decide) (by decide) hb.size (by omega) (by omega) (by decide)).mono ?_
  rintro e w' ⟨he, L, m, v, chg, q1, q2, q3, q4, _, t, hL⟩
  refine ⟨he, v, ⟨bel_tch hb t (fun i e => by omega), hp, L, m, chg, _, q1, q2, q4, Nat.le_trans hb.size hL.2⟩, ?_⟩
  unfold Row
  have e1 : 0 + a.size = a.data.toList.length := by simp
  rw [e1] at q3
  simpa [Lib.byteCells, Lib.strCells] using q3
/-- append to a file, there or not; the other rows stay where their blocks are others -/
theorem app_more (w0 w : World) (p n q : Nat) (D : DataW Unit) (u : Nat) (h : Mo w0 w p n q D u) (name b : ByteArray) (v : Value) (X : List UInt8) (h1 : 1 ≤ name.size) (h2 : name.size ≤ 64) (hn : n ≤ 4) (hq : q ≤ 4) (hu : u ≤ 1048576) (hX : X.length ≤ 1048576) (hbz : b.size ≤ 1048576)
    (hv : hdr v = some (D.atKey (sk name) (hd (.slice none 0 0)), [])) (hr : Row w0 w v X) :
    Calls Try.prog 17 #[.pointer (some ⟨p, 0, none⟩), .string name, .string b] w fun e w' => e = .returned (.int .i64 0) ∧ ∃ v', Mo w0 w' p (n + 1) (q + 1) (D.put (sk name) (hd v')) (u + b.size) ∧ Row w0 w' v' (X ++ b.data.toList) ∧ ∀ vo Xo, Row w0 w vo Xo → (∀ g, vo.ownBlock = some g → ¬ v.ownBlock = some g) → Row w0 w' vo Xo := by
  obtain ⟨L, m, chg, cs, hk, hf, hc, hm⟩ := h.st
  refine (append_some p L m n w0.heap.size X.length _ u chg v _ cs q D name b w hk hf (by unfold maxLen; omega) hv hr (by omega) hc (by omega) (by omega) h1 h2 h.bel.size (by omega) (by omega) (by decide)).mono ?_
  rintro e w' ⟨he, v3, chg3, q1, q2, q3, q4, t, _⟩
  rw [cells_more, len_more] at q3
  refine ⟨he, v3, ⟨bel_tch h.bel t (fun i e => ?_), h.hp, L, m, chg3, _, by simpa using q1, q2, q4, hm⟩, q3, fun vo Xo ho hap => row_tch ho t (fun g hg e => ?_)⟩
  · rcases e with e | e | e | e
    · have := h.hp; omega
    · omega
    · exact (hr.lt i e.symm).1
    · exact (hc.lt i e.symm).1
  · rcases e with e | e | e | e
    · exact cells_apart (row_at ho hg) hk.ty (by decide) e
    · exact map_apart (row_at ho hg) hf e
    · exact hap g hg e.symm
    · exact cells_apart (row_at ho hg) (row_at hc e.symm) (by decide) rfl
theorem ren_ok (w0 w : World) (p n q : Nat) (D : DataW Unit) (u : Nat) (h : Mo w0 w p n q D u) (fm tt : ByteArray) (v : Value) (X : List UInt8) (hf0 : fm.size ≤ 64) (h1 : 1 ≤ tt.size) (h2 : tt.size ≤ 64) (hn : n ≤ 4) (hq : q ≤ 4) (hhf : Maps.has D (sk fm) = true) (hht : Maps.has D (sk tt) = false)
    (hv : hdr v = some (D.atKey (sk fm) (hd (.slice none 0 0)), [])) (hv2 : D.atKey (sk tt) (hd (.slice none 0 0)) = hd (.slice none 0 0)) :
    Calls Try.prog 18 #[.pointer (some ⟨p, 0, none⟩), .string fm, .string tt] w fun e w' => e = .returned (.int .i64 0) ∧ Mo w0 w' p (n + 1) (q + 1) ((D.put (sk tt) (hd v)).del (sk fm)) u ∧ ∀ vo Xo, Row w0 w vo Xo → Row w0 w' vo Xo := by
  obtain ⟨L, m, chg, cs, hk, hf, hc, hm⟩ := h.st
  refine (rename_yes p L m n w0.heap.size _ _ chg v (.slice none 0 0) cs q D fm tt w hk hf (by unfold maxLen; omega) (by omega) h1 h2 hhf hht hv (by rw [hv2]; rfl) h.bel.size hc (by omega)).mono ?_
  rintro e w' ⟨he, chg', q1, q2, q3, t⟩
  refine ⟨he, ⟨bel_tch h.bel t (fun i e => ?_), h.hp, L, m, chg', _, q1, q2, q3, hm⟩, fun vo Xo ho => row_tch ho t (fun g hg e => ?_)⟩
  · rcases e with e | e | e
    · have := h.hp; omega
    · omega
    · exact (hc.lt i e.symm).1
  · rcases e with e | e | e
    · exact cells_apart (row_at ho hg) hk.ty (by decide) e
    · exact map_apart (row_at ho hg) hf e
    · exact cells_apart (row_at ho hg) (row_at hc e.symm) (by decide) rfl
theorem isName_no (s : ByteArray) (w : World) (h : ¬ (1 ≤ s.size ∧ s.size ≤ 64)) :
    Calls Try.prog 38 #[.string s] w fun e w' => e = .returned (.bool false) ∧ w = w' := by
  by_cases h0 : s.size = 0
  · obtain rfl : s = ByteArray.empty := ByteArray.ext (Array.eq_empty_of_size_eq_zero h0)
    go_enter Try.func38, Try.ntmps38
    go_wp2
    go_ret
    exact ⟨rfl, rfl⟩
  · have hne := some_name (R := s) (by omega)
    have hle : ¬ (s.size : Int) ≤ 64 := by omega
    go_enter Try.func38, Try.ntmps38
    go_wp2
    go_ret
    exact ⟨rfl, rfl⟩
theorem app_arg (w : World) (p : Nat) (name b : ByteArray) (h : ¬ (1 ≤ name.size ∧ name.size ≤ 64)) :
    Calls Try.prog 17 #[.pointer (some ⟨p, 0, none⟩), .string name, .string b] w fun e w' => e = .returned (.int .i64 2) ∧ Below w.heap.size w w' := by
  have hnm := isName_no name w h
  go_enter Try.func17, Try.ntmps17
  go_wp2_with (fail)
  refine hnm.mono ?_
  rintro e w' ⟨rfl, rfl⟩
  clear hnm
  go_wp2
  go_ret
  exact ⟨rfl, Below.refl _ _⟩
theorem ren_arg (w : World) (p : Nat) (fm tt : ByteArray) (h : ¬ (1 ≤ tt.size ∧ tt.size ≤ 64)) :
    Calls Try.prog 18 #[.pointer (some ⟨p, 0, none⟩), .string fm, .string tt] w fun e w' => e = .returned (.int .i64 2) ∧ w = w' := by
  have hnm := isName_no tt w h
  go_enter Try.func18, Try.ntmps18
  go_wp2_with (fail)
  refine hnm.mono ?_
  rintro e w' ⟨rfl, rfl⟩
  clear hnm
  go_wp2
  go_ret
  exact ⟨rfl, rfl⟩
theorem ren_miss (w0 w : World) (p n q : Nat) (D : DataW Unit) (u : Nat) (h : Mo w0 w p n q D u) (fm tt : ByteArray) (hf0 : fm.size ≤ maxLen) (h1 : 1 ≤ tt.size) (h2 : tt.size ≤ 64) (hhf : Maps.has D (sk fm) = false) (hv : D.atKey (sk fm) (hd (.slice none 0 0)) = hd (.slice none 0 0)) :
    Calls Try.prog 18 #[.pointer (some ⟨p, 0, none⟩), .string fm, .string tt] w fun e w' => e = .returned (.int .i64 41) ∧ w = w' := by
  obtain ⟨L, m, chg, cs, hk, hf, hc, hm⟩ := h.st
  have hnm := isName_any tt w h1 h2
  have hh := holds_any p m n _ _ _ chg (.slice none 0 0) D fm w hk hf hf0 false hhf (by rw [hv]; rfl)
  clear hk hf hc hm hhf hv h
  go_enter Try.func18, Try.ntmps18
  go_wp2_with (fail)
  refine hnm.mono ?_
  rintro e w' ⟨rfl, rfl⟩
  clear hnm
  go_wp2_with (fail)
  refine hh.mono ?_
  rintro e w' ⟨rfl, rfl⟩
  clear hh
  go_wp2
  go_ret
  exact ⟨rfl, rfl⟩
theorem ren_there (w0 w : World) (p n q : Nat) (D : DataW Unit) (u : Nat) (h : Mo w0 w p n q D u) (fm tt : ByteArray) (v v2 : Value) (hf0 : fm.size ≤ maxLen) (h1 : 1 ≤ tt.size) (h2 : tt.size ≤ 64) (hhf : Maps.has D (sk fm) = true) (hht : Maps.has D (sk tt) = true)
    (hv : hdr v = some (D.atKey (sk fm) (hd (.slice none 0 0)), [])) (hv2 : hdr v2 = some (D.atKey (sk tt) (hd (.slice none 0 0)), [])) :
    Calls Try.prog 18 #[.pointer (some ⟨p, 0, none⟩), .string fm, .string tt] w fun e w' => e = .returned (.int .i64 42) ∧ w = w' := by
  obtain ⟨L, m, chg, cs, hk, hf, hc, hm⟩ := h.st
  have hnm := isName_any tt w h1 h2
  have hh := holds_any p m n _ _ _ chg v D fm w hk hf hf0 true hhf hv
  have hh2 := holds_any p m n _ _ _ chg v2 D tt w hk hf (by unfold maxLen; omega) true hht hv2
  clear hk hf hc hm hhf hht hv hv2 h
  go_enter Try.func18, Try.ntmps18
  go_wp2_with (fail)
  refine hnm.mono ?_
  rintro e w' ⟨rfl, rfl⟩
  clear hnm
  go_wp2_with (fail)
  refine hh.mono ?_
  rintro e w' ⟨rfl, rfl⟩
  clear hh
  go_wp2_with (fail)
  refine hh2.mono ?_
  rintro e w' ⟨rfl, rfl⟩
  clear hh2
  go_wp2
  go_ret
  exact ⟨rfl, rfl⟩
theorem Mo.below {w0 w w' : World} {p n q : Nat} {D : DataW Unit} {u : Nat} (h : Mo w0 w p n q D u) (hb : Below w.heap.size w w') : Mo w0 w' p n q D u := by
  obtain ⟨hb0, hp, L, m, chg, cs, hk, hf, hc, hm⟩ := h
  have t := tch_below (fun _ => False) hb
  exact ⟨hb0.trans (hb.mono hb0.size), hp, L, m, chg, cs, hk.tch t (fun e => e), fm_tch hf t (fun e => e), row_tch hc t (fun _ _ e => e), hm⟩
theorem Row.below {w0 w w' : World} {v : Value} {X : List UInt8} (h : Row w0 w v X) (hb : Below w.heap.size w w') : Row w0 w' v X := row_tch h (tch_below (fun _ => False) hb) (fun _ _ e => e)
theorem Mo.isMap {w0 w : World} {p n q : Nat} {D : DataW Unit} {u : Nat} (h : Mo w0 w p n q D u) : IsMap D := by
  obtain ⟨L, m, chg, cs, hk, hf, _⟩ := h.st
  exact hf.isMap
theorem has_k (d : DataW Unit) : Maps.has (empF.put (sk sK) d) (sk sK) = true := Maps.has_put_same ⟨[], rfl⟩ (sk_key sK) d
theorem has_o (d : DataW Unit) {x : ByteArray} (h : ¬ x = sK) : Maps.has (empF.put (sk sK) d) (sk x) = false := by
  rw [Maps.has_put_other (sk_ne h)]
  rfl
theorem at_o (d z : DataW Unit) {x : ByteArray} (h : ¬ x = sK) : (empF.put (sk sK) d).atKey (sk x) z = z := by
  rw [Maps.atKey_put_other (sk_ne h)]
  rfl
set_option maxRecDepth 100000 in
set_option maxHeartbeats 4000000 in
theorem walk (a b fm tt : ByteArray) (W : World) (ha : a.size ≤ 1048576) (hb : b.size ≤ 1048576) (hfm : fm.size ≤ 1048576) (htt : tt.size ≤ 1048576) :
    Calls Try.prog 7 #[.string a, .string b, .agg #[.string fm, .string tt]] W fun e w' => e = .returned (.bool true) ∧ Below W.heap.size W w' := by
  have hb0 : Below W.heap.size W (W.alloc (.cells #[.string fm, .string tt] 50)) := (Below.refl _ W).alloc (Nat.le_refl _) _
  obtain ⟨W1, hW1⟩ : ∃ W1, W1 = W.alloc (.cells #[.string fm, .string tt] 50) := ⟨_, rfl⟩
  rw [← hW1] at hb0
  have HKW : Hid (∀ w', Below W1.heap.size W1 w' → Below W.heap.size W w') := Lib.hid (fun w' h => hb0.trans (h.mono hb0.size))
  have HW := Lib.hid hW1
  clear hb0 hW1
  have hx0 : W1.cell? ⟨W.heap.size, 0, none⟩ = some (.string fm) := by rw [HW.out]; simp
  have hx1 : W1.cell? ⟨W.heap.size, 1, none⟩ = some (.string tt) := by rw [HW.out]; simp
  go_enter Try.func7, Try.ntmps7
  go_wp2_with (fail)
  rw [← HW.out]
  go_region
  all_goals
    have hbd : Below W1.heap.size W1 W1.drew := (Below.refl _ _).drew
    have HBD := Lib.hid hbd
    clear hbd hx0 hx1
  all_goals generalize W1.drew = w0 at *
  all_goals
    go_wp2_with (fail)
    refine (dspeaks w0).mono ?_
    rintro e w1 ⟨rfl, hb1⟩
    have HB1 := Lib.hid (HBD.out.trans (hb1.mono HBD.out.size))
    clear hb1
    go_wp2_with (fail)
    refine (dnew_any 1099511627776 w1).mono ?_
    rintro e w2 ⟨rfl, hk2, hb2⟩
    have hx := app_first W1 w2 w1.heap.size a (HB1.out.trans (hb2.mono HB1.out.size)) HB1.out.size hk2 ha
    obtain ⟨p, hp⟩ : ∃ p, p = w1.heap.size := ⟨_, rfl⟩
    rw [← hp] at hx ⊢
    clear hp hk2 hb2 HB1 HBD
    go_wp2_with (fail)
    refine hx.mono ?_
    rintro e w3 ⟨rfl, v, h3, hr3⟩
    have H3 := Lib.hid (And.intro h3 hr3)
    clear h3 hr3 hx
    by_cases hva : 1 ≤ fm.size ∧ fm.size ≤ 64
    · by_cases hfk : fm = sK
      · subst hfk
        have heK : sK.toList = [107, 101, 101, 112] := by rw [ByteArray.toList_eq]; rfl
        have hy := app_more W1 w3 p 1 1 _ _ H3.out.1 sK b v a.data.toList (by decide) (by decide) (by decide) (by decide) ha (by simpa using ha) hb (by rw [put_at]; exact hdr_row H3.out.2) H3.out.2
        go_wp2_with (fail)
        refine hy.mono ?_
        rintro e w4 ⟨rfl, v', h4, h4r, _⟩
        have hhk : Maps.has ((empF.put (sk sK) (hd v)).put (sk sK) (hd v')) (sk sK) = true := Maps.has_put_same H3.out.1.isMap (sk_key sK) _
        have hak : hdr v' = some (((empF.put (sk sK) (hd v)).put (sk sK) (hd v')).atKey (sk sK) (hd (.slice none 0 0)), []) := by rw [Maps.atKey_put_same H3.out.1.isMap (sk_key sK)]; exact hdr_row h4r
        have hho : ∀ x : ByteArray, ¬ x = sK → Maps.has ((empF.put (sk sK) (hd v)).put (sk sK) (hd v')) (sk x) = false := fun x hx => by rw [Maps.has_put_other (sk_ne hx)]; exact has_o _ hx
        have hao : ∀ (x : ByteArray) (z : DataW Unit), ¬ x = sK → ((empF.put (sk sK) (hd v)).put (sk sK) (hd v')).atKey (sk x) z = z := fun x z hx => by rw [Maps.atKey_put_other (sk_ne hx)]; exact at_o _ _ hx
        have HD := Lib.hid (And.intro hhk (And.intro hak (And.intro hho hao)))
        have H4 := Lib.hid (And.intro h4 h4r)
        obtain ⟨D1, hD1⟩ : ∃ D1, D1 = (empF.put (sk sK) (hd v)).put (sk sK) (hd v') := ⟨_, rfl⟩
        rw [← hD1] at HD H4
        clear h4 h4r hy H3 hhk hak hho hao hD1
        have hus := used_any W1 w4 p _ _ _ _ H4.out.1
        go_wp2_with (fail)
        refine hus.mono ?_
        rintro e w5 ⟨rfl, rfl⟩
        clear hus
        by_cases hok : (1 ≤ tt.size ∧ tt.size ≤ 64) ∧ ¬ tt = sK
        · have hrn := ren_ok W1 w4 p _ _ _ _ H4.out.1 sK tt v' (a.data.toList ++ b.data.toList) (by decide) hok.1.1 hok.1.2 (by decide) (by decide) HD.out.1 (HD.out.2.2.1 tt hok.2) HD.out.2.1 (HD.out.2.2.2 tt _ hok.2)
          go_wp2_with (fail)
          refine hrn.mono ?_
          rintro e w5 ⟨rfl, h5, h5r⟩
          have H5 := Lib.hid (And.intro h5 (h5r v' _ H4.out.2))
          have HM := Lib.hid H4.out.1.isMap
          have HB5 := Lib.hid (HKW.out w5 h5.bel)
          clear h5 h5r hrn H4
          have hrd := read_any W1 w5 p _ _ _ _ H5.out.1 tt (by unfold maxLen; omega) v' _ (by rw [Maps.has_del_other (sk_ne hok.2)]; exact Maps.has_put_same HM.out (sk_key tt) _) (by rw [Maps.atKey_del_other (sk_ne hok.2), Maps.atKey_put_same HM.out (sk_key tt)]; exact hdr_row H5.out.2) H5.out.2
          have HRK := Lib.hid (read_miss W1 w5 p _ _ _ _ H5.out.1 sK (by decide) Maps.has_del_same (Maps.atKey_del_same _))
          have hus := used_any W1 w5 p _ _ _ _ H5.out.1
          have HOK := Lib.hid hok
          clear hok
          go_wp2_with (fail)
          refine hrd.mono ?_
          rintro e w6 ⟨rfl, rfl⟩
          clear hrd
          go_wp2_with (fail)
          refine HRK.out.mono ?_
          rintro e w6 ⟨rfl, rfl⟩
          go_wp2_with (fail)
          refine hus.mono ?_
          rintro e w6 ⟨rfl, rfl⟩
          clear hus
          go_wp2_with (fail)
          refine HRK.out.mono ?_
          rintro e w6 ⟨rfl, rfl⟩
          go_wp2
          go_ret
          exact ⟨rfl, HB5.out⟩
        · obtain ⟨r, hr0, hrn⟩ : ∃ r : Int, (r == 0) = false ∧ Calls Try.prog 18 #[.pointer (some ⟨p, 0, none⟩), .string sK, .string tt] w4 fun e w' => e = .returned (.int .i64 r) ∧ w4 = w' := by
            by_cases hvt : 1 ≤ tt.size ∧ tt.size ≤ 64
            · have htk : tt = sK := Classical.byContradiction fun e => hok ⟨hvt, e⟩
              exact ⟨42, by decide, ren_there W1 w4 p _ _ _ _ H4.out.1 sK tt v' v' (by decide) hvt.1 hvt.2 HD.out.1 (by rw [htk]; exact HD.out.1) HD.out.2.1 (by rw [htk]; exact HD.out.2.1)⟩
            · exact ⟨2, by decide, ren_arg w4 p sK tt hvt⟩
          clear hok
          have HB4 := Lib.hid (HKW.out w4 H4.out.1.bel)
          go_wp2_with (fail)
          refine hrn.mono ?_
          rintro e w5 ⟨rfl, rfl⟩
          clear hrn
          obtain ⟨S, er, hrd⟩ : ∃ (S : ByteArray) (er : Int), Calls Try.prog 14 #[.pointer (some ⟨p, 0, none⟩), .string tt] w4 fun e w' => e = .returned (.tuple #[.string S, .int .i64 er]) ∧ w4 = w' := by
            by_cases htk : tt = sK
            · exact ⟨_, 0, by rw [htk]; exact read_any W1 w4 p _ _ _ _ H4.out.1 sK (by decide) v' _ HD.out.1 HD.out.2.1 H4.out.2⟩
            · exact ⟨_, 41, read_miss W1 w4 p _ _ _ _ H4.out.1 tt (by unfold maxLen; omega) (HD.out.2.2.1 tt htk) (HD.out.2.2.2 tt _ htk)⟩
          go_wp2_with (fail)
          refine hrd.mono ?_
          rintro e w5 ⟨rfl, rfl⟩
          clear hrd
          have hrk := read_any W1 w4 p _ _ _ _ H4.out.1 sK (by decide) v' _ HD.out.1 HD.out.2.1 H4.out.2
          clear H4
          go_wp2_with (fail)
          refine hrk.mono ?_
          rintro e w5 ⟨rfl, rfl⟩
          clear hrk
          go_wp2
          go_ret
          exact ⟨rfl, HB4.out⟩
      · have hkf : ¬ sK = fm := fun e => hfk e.symm
        have hy := app_more W1 w3 p 1 1 _ _ H3.out.1 fm b (.slice none 0 0) [] hva.1 hva.2 (by decide) (by decide) ha (by decide) hb (by rw [at_o _ _ hfk]; rfl) (row_nil _ _ _)
        go_wp2_with (fail)
        refine hy.mono ?_
        rintro e w4 ⟨rfl, v', h4, h4r, h4o⟩
        have h4k := h4o v _ H3.out.2 (fun g _ e => by cases e)
        have hhf : Maps.has ((empF.put (sk sK) (hd v)).put (sk fm) (hd v')) (sk fm) = true := Maps.has_put_same H3.out.1.isMap (sk_key fm) _
        have haf : hdr v' = some (((empF.put (sk sK) (hd v)).put (sk fm) (hd v')).atKey (sk fm) (hd (.slice none 0 0)), []) := by rw [Maps.atKey_put_same H3.out.1.isMap (sk_key fm)]; exact hdr_row h4r
        have hhk : Maps.has ((empF.put (sk sK) (hd v)).put (sk fm) (hd v')) (sk sK) = true := by rw [Maps.has_put_other (sk_ne hkf)]; exact has_k _
        have hak : hdr v = some (((empF.put (sk sK) (hd v)).put (sk fm) (hd v')).atKey (sk sK) (hd (.slice none 0 0)), []) := by rw [Maps.atKey_put_other (sk_ne hkf), put_at]; exact hdr_row h4k
        have hho : ∀ x : ByteArray, ¬ x = sK → ¬ x = fm → Maps.has ((empF.put (sk sK) (hd v)).put (sk fm) (hd v')) (sk x) = false := fun x hx hx2 => by rw [Maps.has_put_other (sk_ne hx2)]; exact has_o _ hx
        have hao : ∀ (x : ByteArray) (z : DataW Unit), ¬ x = sK → ¬ x = fm → ((empF.put (sk sK) (hd v)).put (sk fm) (hd v')).atKey (sk x) z = z := fun x z hx hx2 => by rw [Maps.atKey_put_other (sk_ne hx2)]; exact at_o _ _ hx
        have HD := Lib.hid (And.intro (And.intro hhf haf) (And.intro (And.intro hhk hak) (And.intro hho hao)))
        have H4 := Lib.hid (And.intro h4 (And.intro h4r h4k))
        obtain ⟨D1, hD1⟩ : ∃ D1, D1 = (empF.put (sk sK) (hd v)).put (sk fm) (hd v') := ⟨_, rfl⟩
        rw [← hD1] at HD H4
        have hz1 : (1 : Int) ≤ (fm.size : Int) := by omega
        have hz2 : (fm.size : Int) ≤ 64 := by omega
        clear h4 h4r h4o h4k hy H3 hhf haf hhk hak hho hao hD1
        have hus := used_any W1 w4 p _ _ _ _ H4.out.1
        go_wp2_with (fail)
        refine hus.mono ?_
        rintro e w5 ⟨rfl, rfl⟩
        clear hus
        by_cases hok : (1 ≤ tt.size ∧ tt.size ≤ 64) ∧ ¬ tt = sK ∧ ¬ tt = fm
        · have hkt : ¬ sK = tt := fun e => hok.2.1 e.symm
          have hrn := ren_ok W1 w4 p _ _ _ _ H4.out.1 fm tt v' ([] ++ b.data.toList) hva.2 hok.1.1 hok.1.2 (by decide) (by decide) HD.out.1.1 (HD.out.2.2.1 tt hok.2.1 hok.2.2) HD.out.1.2 (HD.out.2.2.2 tt _ hok.2.1 hok.2.2)
          go_wp2_with (fail)
          refine hrn.mono ?_
          rintro e w5 ⟨rfl, h5, h5r⟩
          have H5 := Lib.hid (And.intro h5 (And.intro (h5r v' _ H4.out.2.1) (h5r v _ H4.out.2.2)))
          have HM := Lib.hid H4.out.1.isMap
          have HB5 := Lib.hid (HKW.out w5 h5.bel)
          clear h5 h5r hrn H4
          have hrd := read_any W1 w5 p _ _ _ _ H5.out.1 tt (by unfold maxLen; omega) v' _ (by rw [Maps.has_del_other (sk_ne hok.2.2)]; exact Maps.has_put_same HM.out (sk_key tt) _) (by rw [Maps.atKey_del_other (sk_ne hok.2.2), Maps.atKey_put_same HM.out (sk_key tt)]; exact hdr_row H5.out.2.1) H5.out.2.1
          have hrf := read_miss W1 w5 p _ _ _ _ H5.out.1 fm (by unfold maxLen; omega) Maps.has_del_same (Maps.atKey_del_same _)
          have hus := used_any W1 w5 p _ _ _ _ H5.out.1
          have hrk := read_any W1 w5 p _ _ _ _ H5.out.1 sK (by decide) v _ (by rw [Maps.has_del_other (sk_ne hkf), Maps.has_put_other (sk_ne hkt)]; exact HD.out.2.1.1) (by rw [Maps.atKey_del_other (sk_ne hkf), Maps.atKey_put_other (sk_ne hkt)]; exact HD.out.2.1.2) H5.out.2.2
          have HC := Lib.hid (And.intro hrd (And.intro hrf (And.intro hus hrk)))
          clear hok hrd hrf hus hrk hva hkt hkf
          go_wp2_with (fail)
          refine HC.out.1.mono ?_
          rintro e w6 ⟨rfl, rfl⟩
          go_wp2_with (fail)
          refine HC.out.2.1.mono ?_
          rintro e w6 ⟨rfl, rfl⟩
          go_wp2_with (fail)
          all_goals
            refine HC.out.2.2.1.mono ?_
            rintro e w6 ⟨rfl, rfl⟩
            go_wp2_with (fail)
            refine HC.out.2.2.2.mono ?_
            rintro e w6 ⟨rfl, rfl⟩
            go_wp2
            all_goals
              go_ret
              exact ⟨rfl, HB5.out⟩
        · obtain ⟨r, hr0, hrn⟩ : ∃ r : Int, (r == 0) = false ∧ Calls Try.prog 18 #[.pointer (some ⟨p, 0, none⟩), .string fm, .string tt] w4 fun e w' => e = .returned (.int .i64 r) ∧ w4 = w' := by
            by_cases hvt : 1 ≤ tt.size ∧ tt.size ≤ 64
            · by_cases htk : tt = sK
              · exact ⟨42, by decide, ren_there W1 w4 p _ _ _ _ H4.out.1 fm tt v' v (by unfold maxLen; omega) hvt.1 hvt.2 HD.out.1.1 (by rw [htk]; exact HD.out.2.1.1) HD.out.1.2 (by rw [htk]; exact HD.out.2.1.2)⟩
              · have htf : tt = fm := Classical.byContradiction fun e => hok ⟨hvt, htk, e⟩
                exact ⟨42, by decide, ren_there W1 w4 p _ _ _ _ H4.out.1 fm tt v' v' (by unfold maxLen; omega) hvt.1 hvt.2 HD.out.1.1 (by rw [htf]; exact HD.out.1.1) HD.out.1.2 (by rw [htf]; exact HD.out.1.2)⟩
            · exact ⟨2, by decide, ren_arg w4 p fm tt hvt⟩
          clear hok hva
          have HB4 := Lib.hid (HKW.out w4 H4.out.1.bel)
          go_wp2_with (fail)
          refine hrn.mono ?_
          rintro e w5 ⟨rfl, rfl⟩
          clear hrn
          obtain ⟨S, er, hrd⟩ : ∃ (S : ByteArray) (er : Int), Calls Try.prog 14 #[.pointer (some ⟨p, 0, none⟩), .string tt] w4 fun e w' => e = .returned (.tuple #[.string S, .int .i64 er]) ∧ w4 = w' := by
            by_cases htk : tt = sK
            · exact ⟨_, 0, by rw [htk]; exact read_any W1 w4 p _ _ _ _ H4.out.1 sK (by decide) v _ HD.out.2.1.1 HD.out.2.1.2 H4.out.2.2⟩
            · by_cases htf : tt = fm
              · exact ⟨_, 0, by rw [htf]; exact read_any W1 w4 p _ _ _ _ H4.out.1 fm (by unfold maxLen; omega) v' _ HD.out.1.1 HD.out.1.2 H4.out.2.1⟩
              · exact ⟨_, 41, read_miss W1 w4 p _ _ _ _ H4.out.1 tt (by unfold maxLen; omega) (HD.out.2.2.1 tt htk htf) (HD.out.2.2.2 tt _ htk htf)⟩
          go_wp2_with (fail)
          refine hrd.mono ?_
          rintro e w5 ⟨rfl, rfl⟩
          clear hrd
          have hrk := read_any W1 w4 p _ _ _ _ H4.out.1 sK (by decide) v _ HD.out.2.1.1 HD.out.2.1.2 H4.out.2.2
          clear hkf
          clear H4
          go_wp2_with (fail)
          refine hrk.mono ?_
          rintro e w5 ⟨rfl, rfl⟩
          clear hrk
          go_wp2
          all_goals
            go_ret
            exact ⟨rfl, HB4.out⟩
    · have hfk : ¬ fm = sK := fun e => hva (by rw [e]; decide)
      have hy := app_arg w3 p fm b hva
      go_wp2_with (fail)
      refine hy.mono ?_
      rintro e w4 ⟨rfl, hb4⟩
      have H4 := Lib.hid (And.intro (H3.out.1.below hb4) (H3.out.2.below hb4))
      clear hb4 hy H3
      have hus := used_any W1 w4 p _ _ _ _ H4.out.1
      go_wp2_with (fail)
      refine hus.mono ?_
      rintro e w5 ⟨rfl, rfl⟩
      clear hus
      obtain ⟨r, hr0, hrn⟩ : ∃ r : Int, (r == 0) = false ∧ Calls Try.prog 18 #[.pointer (some ⟨p, 0, none⟩), .string fm, .string tt] w4 fun e w' => e = .returned (.int .i64 r) ∧ w4 = w' := by
        by_cases hvt : 1 ≤ tt.size ∧ tt.size ≤ 64
        · exact ⟨41, by decide, ren_miss W1 w4 p _ _ _ _ H4.out.1 fm tt (by unfold maxLen; omega) hvt.1 hvt.2 (has_o _ hfk) (at_o _ _ hfk)⟩
        · exact ⟨2, by decide, ren_arg w4 p fm tt hvt⟩
      go_wp2_with (fail)
      refine hrn.mono ?_
      rintro e w5 ⟨rfl, rfl⟩
      clear hrn
      obtain ⟨S, er, hrd⟩ : ∃ (S : ByteArray) (er : Int), Calls Try.prog 14 #[.pointer (some ⟨p, 0, none⟩), .string tt] w4 fun e w' => e = .returned (.tuple #[.string S, .int .i64 er]) ∧ w4 = w' := by
        by_cases htk : tt = sK
        · exact ⟨_, 0, by rw [htk]; exact read_any W1 w4 p _ _ _ _ H4.out.1 sK (by decide) v _ (has_k _) (by rw [put_at]; exact hdr_row H4.out.2) H4.out.2⟩
        · exact ⟨_, 41, read_miss W1 w4 p _ _ _ _ H4.out.1 tt (by unfold maxLen; omega) (has_o _ htk) (at_o _ _ htk)⟩
      go_wp2_with (fail)
      refine hrd.mono ?_
      rintro e w5 ⟨rfl, rfl⟩
      clear hrd
      have hrk := read_any W1 w4 p _ _ _ _ H4.out.1 sK (by decide) v _ (has_k _) (by rw [put_at]; exact hdr_row H4.out.2) H4.out.2
      have HB4 := Lib.hid (HKW.out w4 H4.out.1.bel)
      clear H4
      go_wp2_with (fail)
      refine hrk.mono ?_
      rintro e w5 ⟨rfl, rfl⟩
      clear hrk
      by_cases hz : fm.size = 0
      · obtain rfl : fm = ByteArray.empty := ByteArray.ext (Array.eq_empty_of_size_eq_zero hz)
        go_wp2
        go_ret
        exact ⟨rfl, HB4.out⟩
      · have hz1 : (1 : Int) ≤ (fm.size : Int) := by omega
        have hz2 : decide ((fm.size : Int) ≤ 64) = false := decide_eq_false (by omega)
        go_wp2
        all_goals
          go_ret
          exact ⟨rfl, HB4.out⟩

set_option maxRecDepth 100000 in
theorem contractUpto (H : Type) (enc : TypeId × Value → H) (W : World) (base : Nat) (args : Array Value) (ds gs : List (DataW H)) (before : List MemPlace)
    (hval : ∀ (j : Nat) t v, Try.f7.params[j]? = some t → args[j]? = some v → Value.okWide Try.prog W .any base t v)
    (hW : DataW.Whole enc Try.prog Try.f7.params.toList Rows.diskMovesSpec.vars false W args.toList ds gs before)
    (hz : (DataW.weightsEach Try.prog (Try.f7.params.toList ++ []) (ds ++ gs)).all (· ≤ reachBytes) = true) (hk : Rows.uptoSmall H (ds ++ gs) = true) :
    Calls Try.prog 7 args W fun e W' => ∃ v, e = .returned v ∧ Rows.diskMovesSpec.post enc Try.prog Try.f7 false true false false W args v W' := by
  have hW' := hW
  obtain ⟨p, q, hA0, hV, rfl, hfz, hnd⟩ := hW
  have hA : DataW.TrodAll enc Try.prog W 0 (fun _ => true) true Try.f7.params.toList args.toList ds p := hA0
  rw [Try.params7] at hA hval hz
  obtain ⟨v0, vs0, d0, ds0, p0, q0, hargs, rfl, rfl, h0, r0⟩ := trodAll_cons hA
  obtain ⟨v1, vs1, d1, ds1, p1, q1, rfl, rfl, rfl, h1, r1⟩ := trodAll_cons r0
  obtain ⟨v2, vs2, d2, ds2, p2, q2, rfl, rfl, rfl, h2, r2⟩ := trodAll_cons r1
  obtain ⟨rfl, rfl, rfl⟩ := trodAll_nil r2
  obtain rfl : args = #[v0, v1, v2] := by cases args; simp_all
  obtain ⟨rfl, rfl⟩ := trodVars_none hV
  obtain ⟨x0, rfl, rfl, rfl, w0⟩ := open_string Try.underlying9 (hval 0 9 v0 rfl rfl) h0
  have b0 : x0.size ≤ 140737488351232 := by have := sized_string hz (j := 0) (t := 9) rfl rfl; simpa [reachBytes] using this
  obtain ⟨x1, rfl, rfl, rfl, w1⟩ := open_string Try.underlying9 (hval 1 9 v1 rfl rfl) h1
  have b1 : x1.size ≤ 140737488351232 := by have := sized_string hz (j := 1) (t := 9) rfl rfl; simpa [reachBytes] using this
  obtain ⟨fm, tt, rfl, rfl⟩ := open_names (hval 2 50 v2 rfl rfl) h2
  have hbulk : x0.size ≤ 1048576 ∧ x1.size ≤ 1048576 ∧ fm.size ≤ 1048576 ∧ tt.size ≤ 1048576 := by
    have h := of_decide_eq_true hk
    simp only [List.append_nil, List.cons_append, List.nil_append, Rows.uptoBulkAll, Rows.uptoBulk] at h
    have e0 : x0.data.toList.length = x0.size := by simp
    have e1 : x1.data.toList.length = x1.size := by simp
    have e2 : fm.data.toList.length = fm.size := by simp
    have e3 : tt.data.toList.length = tt.size := by simp
    omega
  clear hA0
  refine (walk x0 x1 fm tt W hbulk.1 hbulk.2.1 hbulk.2.2.1 hbulk.2.2.2).mono fun e W' ⟨he, hb⟩ => ?_
  subst he
  exact ⟨_, rfl, law_end hW' rfl rfl hb laidOut (by kernel_rfl) (by kernel_rfl) Try.underlying4⟩

theorem reads (os : Os) {H : Type} (enc : TypeId × Value → H) : ∃ places, DataW.whole enc Try.prog ((World.holding Try.prog os ⟨#[], #[], []⟩).forCall (fun _ _ => 0) ⟨#[], #[.string ⟨#[]⟩, .string ⟨#[]⟩, .agg #[.string ⟨#[]⟩, .string ⟨#[]⟩]], []⟩).memory Try.f7.params.toList Rows.diskMovesSpec.vars false [Value.string ⟨#[]⟩, Value.string ⟨#[]⟩, Value.agg #[.string ⟨#[]⟩, .string ⟨#[]⟩]] 8 = some ([.lit (.string []), .lit (.string []), .agg [.lit (.string []), .lit (.string [])]], [], places) :=
  ⟨[], by kernel_rfl⟩

set_option maxRecDepth 100000 in
theorem lifted (os : Os) (started : os.Started) (H : Type) (enc : TypeId × Value → H) (F : Stop.Interp) :
    ReturnsInHanded {} Try.checked os 7 .any ((Rows.OpenSpec.upto Rows.diskMovesSpec).preRow enc Try.prog Try.f7 Rows.diskMovesUptoRow.domain false Rows.diskMovesUptoRow.laid) (((Rows.OpenSpec.upto Rows.diskMovesSpec).at F).post enc Try.prog Try.f7 false true false false) := by
  obtain ⟨places, hx⟩ := reads os enc
  have laid_met : laidMet Try.prog Rows.diskMovesUptoRow.laid ((World.holding Try.prog os ⟨#[], #[], []⟩).forCall (fun _ _ => 0) ⟨#[], #[.string ⟨#[]⟩, .string ⟨#[]⟩, .agg #[.string ⟨#[]⟩, .string ⟨#[]⟩]], []⟩).memory := ⟨[], rfl, List.nodup_nil, fun _ _ h => by cases h⟩
  refine returnsInHanded_of_row (C := Try.checked) (s := Rows.OpenSpec.upto Rows.diskMovesSpec) own started (by kernel_rfl) Try.func7
    (witness_row_at (enc := enc) (C := Try.checked) false (World.holding Try.prog os ⟨#[], #[], []⟩) #[.string ⟨#[]⟩, .string ⟨#[]⟩, .agg #[.string ⟨#[]⟩, .string ⟨#[]⟩]] rfl (by kernel_rfl) (by kernel_rfl) (by kernel_rfl)
      (OpenSpec.preRow_of_cond 8 hx (by kernel_rfl) (fun k hk => by cases hk; kernel_rfl) (by kernel_rfl) laid_met)) ?_
  intro W base args ds gs before hval hW _ hcond hz _ _ _
  exact contractUpto H enc W base args ds gs before hval hW hz (hcond _ rfl)

theorem said : Rows.DiskMovesUptoSaid :=
  OpenClaim.holds_of_cond 7 Try.f7 rfl rfl rfl rfl rfl rfl rfl ⟨rfl, rfl, rfl, rfl, rfl⟩ rfl rfl rfl rfl rfl (by kernel_rfl) Try.func7 (by kernel_rfl)
    (of_decide_eq_true (by kernel_rfl)) (by unfold Func.isWrapper; first | (rw [if_pos (by decide +kernel)]; kernel_rfl) | (rw [if_neg (by decide +kernel)]; exact ⟨rfl, rfl⟩))
    (fun os started H enc _ F => by rw [OpenClaim.pre_eq_preRow]; exact lifted os started H enc F)

end Go.Proofs.Ytdpcajkbhgcehaa.fnDiskMoves
