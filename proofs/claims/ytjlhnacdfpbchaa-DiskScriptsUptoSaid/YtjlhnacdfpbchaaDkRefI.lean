/- The reference's disk: Crash, Flip. -/
import Derived.Test.YtjlhnacdfpbchaaDkRefE
import Derived.Test.YtjlhnacdfpbchaaBytes
import Derived.Deep.DeepCutAuto
import Derived.StillTailTactics
namespace Go.Proofs.Ytjlhnacdfpbchaa
open Go.RowKit Go.Maps

theorem RS.more {w0 w : World} {p : Nat} {S S' : Nat → Prop} {cap : Int} {L : Fs} {cs : List Chg} (h : RS w0 w p S cap L cs) (hd : ∀ b, S b → S' b) (ho : ∀ b, S' b → w0.heap.size ≤ b ∧ b < w.heap.size) : RS w0 w p S' cap L cs := by
  obtain ⟨v, u, h1, h2, h3⟩ := h.st
  exact ⟨h.bel, hd p h.hp, ho, h.srt, h.ok, h.ty, v, u, h1, fun b e => hd b (h2 b e), fun b e => hd b (h3 b e)⟩
theorem grow_grow {S : Nat → Prop} {w wr w' : World} (h1 : w.heap.size ≤ wr.heap.size) (h2 : wr.heap.size ≤ w'.heap.size) : ∀ b, grow (grow S w wr) wr w' b → grow S w w' b := fun b hb => by
  rcases hb with (k | ⟨k1, k2⟩) | ⟨k1, k2⟩
  · exact .inl k
  · exact .inr ⟨k1, Nat.lt_of_lt_of_le k2 h2⟩
  · exact .inr ⟨Nat.le_trans h1 k1, k2⟩
/-- a change is done to what lasts -/
theorem do_keep {B : Nat} {w : World} {o : Value} {L : Fs} {cs : List Chg} (hd : DOk L cs) {k : Nat} {x : Chg} (hx : cs[k]? = some x) (h : FV B w o (held L (cs.take k))) :
    Calls Try.prog 38 #[o, .agg #[.int .i64 (kC x), .string (nC x), .string (dC x)]] w fun e w' => ∃ o2, e = .returned o2 ∧ Hid (FV w.heap.size w' o2 (held L (cs.take (k + 1))) ∧ Below w.heap.size w w') := by
  have hok : ∀ c ∈ cs.take k, okC c := fun c hc => hd.ok c (List.mem_of_mem_take hc)
  have hkl := (List.getElem?_eq_some_iff.1 hx).1
  have hl := len_held L (cs.take k)
  have ht := tot_held hd.srt (cs.take k) hok
  have hw := wts_take cs k x hx
  have h1 := hd.len
  have h2 := hd.tot
  have hlt : (cs.take k).length ≤ k := by simp; omega
  have := do_any x h (srt_held hd.srt _) (hd.ok x (List.mem_of_getElem? hx)) (by omega) (by omega)
  rw [chC_eq] at this
  refine this.mono ?_
  rintro e w' ⟨o2, rfl, H⟩
  refine ⟨o2, rfl, Lib.hid ⟨?_, H.out.2⟩⟩
  rw [List.take_add_one, hx]
  show FV _ w' o2 (held L (cs.take k ++ [x]))
  rw [held_one]
  exact H.out.1
theorem do_part {B : Nat} {w : World} {o : Value} {L : Fs} {cs : List Chg} (hd : DOk L cs) {k : Nat} {n d part : ByteArray} (hx : cs[k]? = some (.app n d)) (hp : part.size ≤ d.size) (h : FV B w o (held L (cs.take k))) :
    Calls Try.prog 38 #[o, .agg #[.int .i64 1, .string n, .string part]] w fun e w' => ∃ o2, e = .returned o2 ∧ Hid (FV w.heap.size w' o2 (held L (cs.take k ++ [.app n part])) ∧ Below w.heap.size w w') := by
  have hok : ∀ c ∈ cs.take k, okC c := fun c hc => hd.ok c (List.mem_of_mem_take hc)
  have hkl := (List.getElem?_eq_some_iff.1 hx).1
  have hl := len_held L (cs.take k)
  have ht := tot_held hd.srt (cs.take k) hok
  have hw := wts_take cs k _ hx
  have h1 := hd.len
  have h2 := hd.tot
  have hlt : (cs.take k).length ≤ k := by simp; omega
  have e1 : wtC (.app n d) = d.size := rfl
  have := do_any (.app n part) h (srt_held hd.srt _) (show n.size ≤ 64 from hd.ok _ (List.mem_of_getElem? hx)) (by omega) (by show totF _ + part.size ≤ _; omega)
  refine this.mono ?_
  rintro e w' ⟨o2, rfl, H⟩
  refine ⟨o2, rfl, Lib.hid ⟨?_, H.out.2⟩⟩
  rw [held_one]
  exact H.out.1
/-- the end: the changes are forgotten -/
theorem RS.fin {w0 w wz : World} {p : Nat} {S : Nat → Prop} {cap : Int} {L : Fs} {cs : List Chg} (hw : w0.heap.size ≤ w.heap.size) (hS : ∀ b, S b → w0.heap.size ≤ b ∧ b < w.heap.size) (h : RS w0 wz p (grow S w wz) cap L cs) (t : Tch w wz S) (hp : S p) :
    RS w0 (wz.setCell ⟨p, 2, none⟩ (.slice none 0 0)) p (grow S w (wz.setCell ⟨p, 2, none⟩ (.slice none 0 0))) cap L [] ∧ Tch w (wz.setCell ⟨p, 2, none⟩ (.slice none 0 0)) S := by
  have ts := tch_set wz ⟨p, 2, none⟩ (.slice none 0 0)
  have e : (wz.setCell ⟨p, 2, none⟩ (.slice none 0 0)).heap.size = wz.heap.size := by simp
  refine ⟨h.gone.1.more (fun b hb => hb.imp id (fun k => ⟨k.1, by rw [e]; exact k.2⟩)) (grow_own hS hw (by rw [e]; exact t.size)), t.then ts (fun i _ e2 => ?_)⟩
  have e2 : i = p := e2
  rw [e2]; exact hp
/-- a change more lasts -/
theorem RS.keep {w0 w wr w2 : World} {p : Nat} {S : Nat → Prop} {cap : Int} {L L' : Fs} {cs : List Chg} (hw : w0.heap.size ≤ w.heap.size) (hS : ∀ b, S b → w0.heap.size ≤ b ∧ b < w.heap.size) (h : RS w0 wr p (grow S w wr) cap L cs) (t : Tch w wr S) (hp : S p) (hb : Below wr.heap.size wr w2) {o : Value} (ho : FV wr.heap.size w2 o L') (hs : SrtF L') :
    RS w0 (w2.setCell ⟨p, 1, none⟩ o) p (grow S w (w2.setCell ⟨p, 1, none⟩ o)) cap L' cs ∧ Tch w (w2.setCell ⟨p, 1, none⟩ o) S := by
  obtain ⟨h1, h2⟩ := h.last hb ho hs
  have ht : Tch w (w2.setCell ⟨p, 1, none⟩ o) S := (t.then (tch_below (fun _ => False) hb) (fun _ _ e => e.elim)).then (tch_set w2 ⟨p, 1, none⟩ o) (fun i _ e2 => by
    have e2 : i = p := e2
    rw [e2]; exact hp)
  exact ⟨h1.more (grow_grow t.size h2.size) (grow_own hS hw ht.size), ht⟩
theorem RS.on {w0 w wr wb : World} {p : Nat} {S : Nat → Prop} {cap : Int} {L : Fs} {cs : List Chg} (hw : w0.heap.size ≤ w.heap.size) (hS : ∀ b, S b → w0.heap.size ≤ b ∧ b < w.heap.size) (h : RS w0 wr p (grow S w wr) cap L cs) (t : Tch w wr S) (hb : Below wr.heap.size wr wb) : RS w0 wb p (grow S w wb) cap L cs ∧ Tch w wb S :=
  have t2 : Tch w wb S := t.then (tch_below (fun _ => False) hb) (fun _ _ e => e.elim)
  ⟨(h.below hb).more (fun b k => k.imp id (fun q => ⟨q.1, Nat.lt_of_lt_of_le q.2 hb.size⟩)) (grow_own hS hw t2.size), t2⟩
theorem keep_end {cs : List Chg} {keep : Int} {j : Nat} (hj : j ≤ keepN cs keep) (h : ¬ (j : Int) < keep ∨ j = cs.length) : j = keepN cs keep := by
  have h1 := keepN_int cs keep
  have h2 := keepN_le cs keep
  rcases h with h | h <;> omega
theorem keep_next {cs : List Chg} {keep : Int} {j : Nat} (hj : j < cs.length) (h : (j : Int) < keep) : j + 1 ≤ keepN cs keep := by
  have h1 := keepN_int cs keep
  omega
theorem crash_none {L : Fs} {cs : List Chg} {keep tear : Int} {j : Nat} (hj : j = keepN cs keep) (h : tornC cs[j]? tear = []) : crashL L cs keep tear = held L (cs.take j) := by
  unfold crashL
  rw [← hj, h, List.append_nil]
theorem crash_some {L : Fs} {cs : List Chg} {keep tear : Int} {j : Nat} {c : Chg} (hj : j = keepN cs keep) (h : tornC cs[j]? tear = [c]) : crashL L cs keep tear = held L (cs.take j ++ [c]) := by
  unfold crashL
  rw [← hj, h]
/-- the box of a change -/
structure CBx (w : World) (g : Nat) (k : Int) (n d : ByteArray) : Prop where
  c0 : w.cell? ⟨g, 0, none⟩ = some (.int .i64 k)
  c1 : w.cell? ⟨g, 1, none⟩ = some (.string n)
  c2 : w.cell? ⟨g, 2, none⟩ = some (.string d)
  lt : g < w.heap.size
  fr : ∀ i, w.frozen? ⟨g, i, none⟩ = false
theorem cbx_new (w : World) (k : Int) (n d : ByteArray) : CBx (w.alloc (.cells #[.int .i64 k, .string n, .string d] 80)) w.heap.size k n d := by
  have e : (w.alloc (.cells #[.int .i64 k, .string n, .string d] 80)).heap[w.heap.size]? = some (.cells #[.int .i64 k, .string n, .string d] 80) := Array.getElem?_push_size
  refine ⟨?_, ?_, ?_, ?_, fun i => ?_⟩
  case refine_5 =>
    generalize w.alloc (.cells #[.int .i64 k, .string n, .string d] 80) = w2 at e
    simp [World.frozen?, e]
  all_goals simp
theorem CBx.below {w w' : World} {g : Nat} {k : Int} {n d : ByteArray} (h : CBx w g k n d) (hb : Below w.heap.size w w') : CBx w' g k n d :=
  ⟨(hb.cell (p := ⟨g, 0, none⟩) h.lt).trans h.c0, (hb.cell (p := ⟨g, 1, none⟩) h.lt).trans h.c1, (hb.cell (p := ⟨g, 2, none⟩) h.lt).trans h.c2, Nat.lt_of_lt_of_le h.lt hb.size, fun i => (hb.frozen (p := ⟨g, i, none⟩) h.lt).trans (h.fr i)⟩
set_option maxRecDepth 100000 in
set_option maxHeartbeats 4000000 in
theorem crash_R {w0 w : World} {p : Nat} {S : Nat → Prop} {cap : Int} {L : Fs} {cs : List Chg} (keep tear : Int) (h : Hid (RS w0 w p S cap L cs)) (k : SzK L cs) :
    Calls Try.prog 19 #[.pointer (some ⟨p, 0, none⟩), .int .i64 keep, .int .i64 tear] w fun e w' => e = .returned (.tuple #[]) ∧ Hid (RS w0 w' p (grow S w w') cap (crashL L cs keep tear) [] ∧ Tch w w' S) := by
  have HD := Lib.hid (h.out.dok k)
  have hLi : (cs.length : Int) ≤ 9223372036854775807 := by have := k.len; omega
  clear k
  have HW : Hid (w0.heap.size ≤ w.heap.size ∧ (∀ b, S b → w0.heap.size ≤ b ∧ b < w.heap.size) ∧ S p) := Lib.hid ⟨h.out.bel.size, h.out.own, h.out.hp⟩
  have HS0 : Hid (RS w0 w p (grow S w w) cap (held L (cs.take 0)) cs ∧ Tch w w S) := Lib.hid ⟨h.out.wide (Below.refl _ _), Tch.refl _ _⟩
  clear h
  go_enter Try.func19, Try.ntmps19
  go_wp2
  go_loopw [6] (fun i wr => ∃ j : Nat, j ≤ cs.length ∧ Hid (j ≤ keepN cs keep) ∧ i = .int .i64 j ∧ Hid (RS w0 wr p (grow S w wr) cap (held L (cs.take j)) cs ∧ Tch w wr S)) (fun i _ => cs.length - (intOf i).toNat)
  case atStart => exact ⟨0, Nat.zero_le _, Lib.hid (Nat.zero_le _), rfl, HS0⟩
  case round =>
    obtain ⟨j, hj, HJ, rfl, HB⟩ := hrel
    obtain ⟨v, u, hk, _, _⟩ := HB.out.1.st
    have HK := Lib.hid hk
    have y2 := hk.c2
    clear hk
    by_cases hjn : j < cs.length
    · obtain ⟨x, hx⟩ : ∃ x, cs[j]? = some x := ⟨_, List.getElem?_eq_getElem hjn⟩
      obtain ⟨g, cap2, rfl, d0, d1, d2⟩ := HK.out.cv.cells hx
      have hjn' : (j : Int) < cs.length := by omega
      have HKEEP : Hid (∀ wx, Below wr.heap.size wr wx → Calls Try.prog 38 #[v, .agg #[.int .i64 (kC x), .string (nC x), .string (dC x)]] wx fun e w' => ∃ o2, e = .returned o2 ∧ Hid (FV wr.heap.size w' o2 (held L (cs.take (j + 1))) ∧ Below wr.heap.size wr w')) :=
        Lib.hid (fun wx hb => (do_keep HD.out hx (HK.out.fv.below hb)).mono fun e w' ⟨o, he, hb2⟩ => ⟨o, he, Lib.hid ⟨hb2.out.1.base hb.size, hb.trans (hb2.out.2.mono hb.size)⟩⟩)
      have HX := Lib.hid hx
      by_cases hjk : (j : Int) < keep
      · clear hx
        have HBX := Lib.hid (cbx_new wr (kC x) (nC x) (dC x))
        have HBB : Hid (Below wr.heap.size wr (wr.alloc (.cells #[.int .i64 (kC x), .string (nC x), .string (dC x)] 80))) := Lib.hid ((Below.refl _ wr).alloc (Nat.le_refl _) _)
        go_upto_region 5 with (fail)
        generalize wr.alloc (.cells #[.int .i64 (kC x), .string (nC x), .string (dC x)] 80) = wb at *
        generalize wr.heap.size = g0 at HBX ⊢
        have y1 := (HK.out.below HBB.out).c1
        obtain ⟨x0, x1, x2⟩ := And.intro HBX.out.c0 (And.intro HBX.out.c1 HBX.out.c2)
        have HBD : Hid (Below wr.heap.size wr wb.drew) := Lib.hid HBB.out.drew
        clear y2 d0 d1 d2
        go_region_with (go_at_call 38; refine (HKEEP.out _ HBD.out).mono ?_; rintro e w2 ⟨o2, rfl, H2⟩; obtain ⟨a2, c2, rfl⟩ := H2.out.1.slice; have z1 := (HK.out.below H2.out.2).c1; have f1 := bear_free (HB.out.1.below H2.out.2).ty 1)
        all_goals
          have HF := Lib.hid (RS.keep HW.out.1 HW.out.2.1 HB.out.1 HB.out.2 HW.out.2.2 H2.out.2 H2.out.1 (srt_held HD.out.srt _))
          have HN := Lib.hid (keep_next hjn hjk)
          clear H2 z1 f1 HBX HBB HBD x0 x1 x2
          go_wp2
          go_roundw
          case rel => exact ⟨j + 1, by omega, HN, by simp, HF⟩
          case measure => simp [intOf]; omega
      · have hje := Lib.hid (keep_end HJ.out (.inl hjk))
        have hjk' : decide ((j : Int) < keep) = false := by simpa using hjk
        clear HJ
        cases x with
        | ren a b =>
          change wr.cell? _ = some (.int .i64 2) at d0
          change wr.cell? _ = some (.string a) at d1
          change wr.cell? _ = some (.string b) at d2
          have HE : Hid (RS w0 wr p (grow S w wr) cap (crashL L cs keep tear) cs) := Lib.hid (by rw [crash_none hje.out (by rw [hx]; rfl)]; exact HB.out.1)
          clear hx HKEEP HX
          have HBX := Lib.hid (cbx_new wr 2 a b)
          have HBB : Hid (Below wr.heap.size wr (wr.alloc (.cells #[.int .i64 2, .string a, .string b] 80))) := Lib.hid ((Below.refl _ wr).alloc (Nat.le_refl _) _)
          go_upto_region 6 with (fail)
          generalize wr.alloc (.cells #[.int .i64 2, .string a, .string b] 80) = wb at *
          generalize wr.heap.size = g0 at HBX ⊢
          have HE2 : Hid (RS w0 wb p (grow S w wb) cap (crashL L cs keep tear) cs ∧ Tch w wb S) := Lib.hid (RS.on HW.out.1 HW.out.2.1 HE.out HB.out.2 HBB.out)
          have HF := Lib.hid (RS.fin HW.out.1 HW.out.2.1 HE2.out.1 HE2.out.2 HW.out.2.2)
          have z2 := (HK.out.below HBB.out).c2
          have f2 := bear_free (HB.out.1.below HBB.out).ty 2
          obtain ⟨x0, x1, x2⟩ := And.intro HBX.out.c0 (And.intro HBX.out.c1 HBX.out.c2)
          clear y2 d0 d1 d2 HBB HB HK HE HE2 HBX
          go_wp2
          first
            | (go_end0; exact ⟨rfl, HF⟩)
            | (go_ret; exact ⟨rfl, HF⟩)
            | exact bodyPost_ret (v := .tuple #[]) (results_none rfl _ _ _) rfl ⟨rfl, HF⟩
        | del a =>
          change wr.cell? _ = some (.int .i64 3) at d0
          change wr.cell? _ = some (.string a) at d1
          change wr.cell? _ = some (.string ByteArray.empty) at d2
          have HE : Hid (RS w0 wr p (grow S w wr) cap (crashL L cs keep tear) cs) := Lib.hid (by rw [crash_none hje.out (by rw [hx]; rfl)]; exact HB.out.1)
          clear hx HKEEP HX
          have HBX := Lib.hid (cbx_new wr 3 a ByteArray.empty)
          have HBB : Hid (Below wr.heap.size wr (wr.alloc (.cells #[.int .i64 3, .string a, .string ByteArray.empty] 80))) := Lib.hid ((Below.refl _ wr).alloc (Nat.le_refl _) _)
          go_upto_region 6 with (fail)
          generalize wr.alloc (.cells #[.int .i64 3, .string a, .string ByteArray.empty] 80) = wb at *
          generalize wr.heap.size = g0 at HBX ⊢
          have HE2 : Hid (RS w0 wb p (grow S w wb) cap (crashL L cs keep tear) cs ∧ Tch w wb S) := Lib.hid (RS.on HW.out.1 HW.out.2.1 HE.out HB.out.2 HBB.out)
          have HF := Lib.hid (RS.fin HW.out.1 HW.out.2.1 HE2.out.1 HE2.out.2 HW.out.2.2)
          have z2 := (HK.out.below HBB.out).c2
          have f2 := bear_free (HB.out.1.below HBB.out).ty 2
          obtain ⟨x0, x1, x2⟩ := And.intro HBX.out.c0 (And.intro HBX.out.c1 HBX.out.c2)
          clear y2 d0 d1 d2 HBB HB HK HE HE2 HBX
          go_wp2
          first
            | (go_end0; exact ⟨rfl, HF⟩)
            | (go_ret; exact ⟨rfl, HF⟩)
            | exact bodyPost_ret (v := .tuple #[]) (results_none rfl _ _ _) rfl ⟨rfl, HF⟩
        | app n d =>
          change wr.cell? _ = some (.int .i64 1) at d0
          change wr.cell? _ = some (.string n) at d1
          change wr.cell? _ = some (.string d) at d2
          by_cases ht : 0 < tear
          case neg =>
            have ht' : decide (0 < tear) = false := by simpa using ht
            have HE : Hid (RS w0 wr p (grow S w wr) cap (crashL L cs keep tear) cs) := Lib.hid (by rw [crash_none hje.out (by rw [hx]; exact if_neg ht)]; exact HB.out.1)
            clear hx HKEEP HX
            have HBX := Lib.hid (cbx_new wr 1 n d)
            have HBB : Hid (Below wr.heap.size wr (wr.alloc (.cells #[.int .i64 1, .string n, .string d] 80))) := Lib.hid ((Below.refl _ wr).alloc (Nat.le_refl _) _)
            go_upto_region 6 with (fail)
            generalize wr.alloc (.cells #[.int .i64 1, .string n, .string d] 80) = wb at *
            generalize wr.heap.size = g0 at HBX ⊢
            have HE2 : Hid (RS w0 wb p (grow S w wb) cap (crashL L cs keep tear) cs ∧ Tch w wb S) := Lib.hid (RS.on HW.out.1 HW.out.2.1 HE.out HB.out.2 HBB.out)
            have HF := Lib.hid (RS.fin HW.out.1 HW.out.2.1 HE2.out.1 HE2.out.2 HW.out.2.2)
            have z2 := (HK.out.below HBB.out).c2
            have f2 := bear_free (HB.out.1.below HBB.out).ty 2
            obtain ⟨x0, x1, x2⟩ := And.intro HBX.out.c0 (And.intro HBX.out.c1 HBX.out.c2)
            clear y2 d0 d1 d2 HBB HB HK HE HE2 HBX
            go_wp2
            first
              | (go_end0; exact ⟨rfl, HF⟩)
              | (go_ret; exact ⟨rfl, HF⟩)
              | exact bodyPost_ret (v := .tuple #[]) (results_none rfl _ _ _) rfl ⟨rfl, HF⟩
          case pos =>
            have ht' : decide (0 < tear) = true := by simpa using ht
            obtain ⟨part, hpart⟩ : ∃ part, part = d.extract 0 (min tear.toNat d.size) := ⟨_, rfl⟩
            have hps : part.size ≤ d.size := by rw [hpart, ByteArray.size_extract]; omega
            have htc : tornC cs[j]? tear = [.app n part] := by rw [hx, hpart]; exact if_pos ht
            have HCL := Lib.hid (crash_some (L := L) hje.out htc)
            have HPART : Hid (∀ wx, Below wr.heap.size wr wx → Calls Try.prog 38 #[v, .agg #[.int .i64 1, .string n, .string part]] wx fun e w' => ∃ o2, e = .returned o2 ∧ Hid (FV wr.heap.size w' o2 (crashL L cs keep tear) ∧ Below wr.heap.size wr w')) :=
              Lib.hid (fun wx hb => (do_part HD.out hx hps (HK.out.fv.below hb)).mono fun e w' ⟨o, he, hb2⟩ => ⟨o, he, Lib.hid ⟨by rw [HCL.out]; exact hb2.out.1.base hb.size, hb.trans (hb2.out.2.mono hb.size)⟩⟩)
            have HSR : Hid (SrtF (crashL L cs keep tear)) := Lib.hid (srt_held HD.out.srt _)
            have HBX := Lib.hid (cbx_new wr 1 n d)
            have HBB : Hid (Below wr.heap.size wr (wr.alloc (.cells #[.int .i64 1, .string n, .string d] 80))) := Lib.hid ((Below.refl _ wr).alloc (Nat.le_refl _) _)
            clear hx HKEEP HX htc hps ht
            go_upto_region 6 with (fail)
            generalize wr.alloc (.cells #[.int .i64 1, .string n, .string d] 80) = wb at *
            obtain ⟨g0, hg0⟩ : ∃ g0, g0 = wr.heap.size := ⟨_, rfl⟩
            rw [← hg0] at HBX ⊢
            have HG0 := Lib.hid hg0
            obtain ⟨x0, x1, x2⟩ := And.intro HBX.out.c0 (And.intro HBX.out.c1 HBX.out.c2)
            have xf := HBX.out.fr 2
            clear y2 d0 d1 d2 hg0
            by_cases hc : tear < (d.size : Int)
            · have hc' : decide (tear < (d.size : Int)) = true := by simpa using hc
              have hp2 : d.extract 0 tear.toNat = part := by rw [hpart]; congr 1; omega
              have h0 : 0 ≤ tear := by have := of_decide_eq_true ht'; omega
              have HQ : Hid (CBx (wb.setCell ⟨g0, 2, none⟩ (.string part)) g0 1 n part ∧ Below wr.heap.size wr (wb.setCell ⟨g0, 2, none⟩ (.string part))) := Lib.hid ⟨⟨(World.cell?_setCell_other _ _ _ _ (by simp)).trans HBX.out.c0, (World.cell?_setCell_other _ _ _ _ (by simp)).trans HBX.out.c1, World.cell?_setCell_same _ _ _ HBX.out.c2, by have := HBX.out.lt; simpa using this, fun i => by rw [World.frozen?_setCell]; exact HBX.out.fr i⟩, HBB.out.setCell (by have := HG0.out; simp; omega) _⟩
              clear hpart
              go_upto_region 9 with (fail)
              generalize wb.setCell ⟨g0, 2, none⟩ (.string part) = wc at *
              clear x0 x1 x2 xf hp2 hc' ht'
              obtain ⟨x0, x1, x2⟩ := And.intro HQ.out.1.c0 (And.intro HQ.out.1.c1 HQ.out.1.c2)
              have y1 := (HK.out.below HQ.out.2).c1
              have HBD : Hid (Below wr.heap.size wr wc.drew) := Lib.hid HQ.out.2.drew
              go_region_with (go_at_call 38; refine (HPART.out _ HBD.out).mono ?_; rintro e w2 ⟨o2, rfl, H2⟩; obtain ⟨a2, c2, rfl⟩ := H2.out.1.slice; have z1 := (HK.out.below H2.out.2).c1; have f1 := bear_free (HB.out.1.below H2.out.2).ty 1)
              all_goals
                have HE2 := Lib.hid (RS.keep HW.out.1 HW.out.2.1 HB.out.1 HB.out.2 HW.out.2.2 H2.out.2 H2.out.1 HSR.out)
                generalize w2.setCell ⟨p, 1, none⟩ _ = w3 at *
                obtain ⟨v3, u3, hk3, _, _⟩ := HE2.out.1.st
                have z2 := hk3.c2
                have f2 := bear_free HE2.out.1.ty 2
                have HF := Lib.hid (RS.fin HW.out.1 HW.out.2.1 HE2.out.1 HE2.out.2 HW.out.2.2)
                clear H2 z1 HE2 hk3 HQ HBD
                go_wp2
                first
                  | (go_end0; exact ⟨rfl, HF⟩)
                  | (go_ret; exact ⟨rfl, HF⟩)
                  | exact bodyPost_ret (v := .tuple #[]) (results_none rfl _ _ _) rfl ⟨rfl, HF⟩
            · have hc' : decide (tear < (d.size : Int)) = false := by simpa using hc
              have hp2 : d = part := by rw [hpart, show min tear.toNat d.size = d.size by omega, ByteArray.extract_zero_size]
              have HQ : Hid (CBx wb g0 1 n part ∧ Below wr.heap.size wr wb) := Lib.hid ⟨by rw [← hp2]; exact HBX.out, HBB.out⟩
              clear hpart hp2
              go_upto_region 9 with (fail)
              clear x0 x1 x2 xf hc' ht'
              generalize wb = wc at *
              obtain ⟨x0, x1, x2⟩ := And.intro HQ.out.1.c0 (And.intro HQ.out.1.c1 HQ.out.1.c2)
              have y1 := (HK.out.below HQ.out.2).c1
              have HBD : Hid (Below wr.heap.size wr wc.drew) := Lib.hid HQ.out.2.drew
              go_region_with (go_at_call 38; refine (HPART.out _ HBD.out).mono ?_; rintro e w2 ⟨o2, rfl, H2⟩; obtain ⟨a2, c2, rfl⟩ := H2.out.1.slice; have z1 := (HK.out.below H2.out.2).c1; have f1 := bear_free (HB.out.1.below H2.out.2).ty 1)
              all_goals
                have HE2 := Lib.hid (RS.keep HW.out.1 HW.out.2.1 HB.out.1 HB.out.2 HW.out.2.2 H2.out.2 H2.out.1 HSR.out)
                generalize w2.setCell ⟨p, 1, none⟩ _ = w3 at *
                obtain ⟨v3, u3, hk3, _, _⟩ := HE2.out.1.st
                have z2 := hk3.c2
                have f2 := bear_free HE2.out.1.ty 2
                have HF := Lib.hid (RS.fin HW.out.1 HW.out.2.1 HE2.out.1 HE2.out.2 HW.out.2.2)
                clear H2 z1 HE2 hk3 HQ HBD
                go_wp2
                first
                  | (go_end0; exact ⟨rfl, HF⟩)
                  | (go_ret; exact ⟨rfl, HF⟩)
                  | exact bodyPost_ret (v := .tuple #[]) (results_none rfl _ _ _) rfl ⟨rfl, HF⟩
    · obtain rfl : j = cs.length := by omega
      have hjn' : decide (((cs.length : Nat) : Int) < (cs.length : Int)) = false := by simp
      obtain ⟨ua, uc, rfl⟩ := HK.out.cv.slice
      have f2 := bear_free HB.out.1.ty 2
      have HE : Hid (RS w0 wr p (grow S w wr) cap (crashL L cs keep tear) cs) := Lib.hid (by
        rw [crash_none (keep_end HJ.out (.inr rfl)) (by rw [List.getElem?_eq_none (Nat.le_refl _)]; rfl)]
        exact HB.out.1)
      have HF := Lib.hid (RS.fin HW.out.1 HW.out.2.1 HE.out HB.out.2 HW.out.2.2)
      clear hjn hj
      go_wp2
      first
        | (go_end0; exact ⟨rfl, HF⟩)
        | (go_ret; exact ⟨rfl, HF⟩)
        | exact bodyPost_ret (v := .tuple #[]) (results_none rfl _ _ _) rfl ⟨rfl, HF⟩

theorem u8_xor_of (a b : UInt8) : bits BinOp.xor IntKind.u8 (a.toNat : Int) (b.toNat : Int) = ((a ^^^ b).toNat : Int) := by
  rw [u8_xor_nat _ _ a.toNat_lt b.toNat_lt, UInt8.toNat_xor]
/-- the byte of one bit -/
def bitB (bit : Int) : UInt8 := UInt8.ofNat (2 ^ (bit % 8).toNat)
theorem bitB_nat (b : Nat) : bitB (b : Int) = UInt8.ofNat (2 ^ (b % 8)) := by
  unfold bitB
  rw [show ((b : Int) % 8).toNat = b % 8 by omega]
/-- a text with a bit turned -/
def flipD (d : ByteArray) (bit : Int) : ByteArray := ⟨(d.data.toList.set (bit / 8).toNat ((d.data.toList[(bit / 8).toNat]?.getD 0) ^^^ bitB bit)).toArray⟩
def flR (L : Fs) (a : ByteArray) (bit : Int) : Int := match getF L a with
  | none => 41
  | some d => if bit < 0 ∨ (d.size : Int) ≤ bit / 8 then 2 else 0
def flL (L : Fs) (a : ByteArray) (bit : Int) : Fs := match getF L a with
  | none => L
  | some d => if bit < 0 ∨ (d.size : Int) ≤ bit / 8 then L else putF L a (flipD d bit)
set_option maxRecDepth 100000 in
set_option maxHeartbeats 4000000 in
theorem flip_R {w0 w : World} {p : Nat} {S : Nat → Prop} {cap : Int} {L : Fs} {cs : List Chg} (a : ByteArray) (bit : Int) (hbit : -9223372036854775808 ≤ bit ∧ bit ≤ 9223372036854775807) (h : Hid (RS w0 w p S cap L cs)) (k : SzK L cs) :
    Calls Try.prog 21 #[.pointer (some ⟨p, 0, none⟩), .string a, .int .i64 bit] w fun e w' => e = .returned (.int .i64 (flR L a bit)) ∧ Hid (RS w0 w' p (grow S w w') cap (flL L a bit) cs ∧ Tch w w' S) := by
  obtain ⟨v, u, hk, hvS, huS⟩ := h.out.st
  have HK0 := Lib.hid hk
  have c1 := hk.c1
  have HFD : Hid (∀ wx, Below w.heap.size w wx → Calls Try.prog 37 #[v, .string a] wx fun e w' => e = .returned (.int .i64 (fdI L a)) ∧ Hid (Below w.heap.size w w')) :=
    Lib.hid fun wx hb => (find_any a (hk.fv.below hb) (by have := k.len; omega)).mono fun e w' ⟨he, hb2⟩ => ⟨he, Lib.hid (hb.trans (hb2.mono hb.size))⟩
  clear hk hvS huS
  cases hg : getF L a with
  | none =>
    have e1 : flR L a bit = 41 := by unfold flR; rw [hg]
    have e2 : flL L a bit = L := by unfold flL; rw [hg]
    have e3 := fdI_neg hg
    rw [e1, e2]
    rw [e3] at HFD
    clear e1 e2 e3 hg
    go_enter Try.func21, Try.ntmps21
    go_wp2_with (fail)
    refine (HFD.out _ (Below.refl _ _)).mono ?_
    rintro e w1 ⟨rfl, HB⟩
    have HF : Hid (RS w0 w1 p (grow S w w1) cap L cs ∧ Tch w w1 S) := Lib.hid ⟨h.out.wide HB.out, tch_below S HB.out⟩
    go_wp2
    go_ret
    exact ⟨rfl, HF⟩
  | some d =>
    obtain ⟨e3, hlt⟩ := fd_some hg
    rw [e3] at HFD
    have hge : ¬ (fdN L a : Int) < 0 := by omega
    by_cases hb0 : bit < 0
    · have e1 : flR L a bit = 2 := by unfold flR; rw [hg]; exact if_pos (.inl hb0)
      have e2 : flL L a bit = L := by unfold flL; rw [hg]; exact if_pos (.inl hb0)
      rw [e1, e2]
      have hb1 : decide (bit < 0) = true := by simpa using hb0
      clear e1 e2 e3 hg
      go_enter Try.func21, Try.ntmps21
      go_wp2_with (fail)
      refine (HFD.out _ (Below.refl _ _)).mono ?_
      rintro e w1 ⟨rfl, HB⟩
      have HF : Hid (RS w0 w1 p (grow S w w1) cap L cs ∧ Tch w w1 S) := Lib.hid ⟨h.out.wide HB.out, tch_below S HB.out⟩
      go_wp2
      go_ret
      exact ⟨rfl, HF⟩
    · obtain ⟨b, rfl⟩ : ∃ b : Nat, bit = (b : Int) := ⟨bit.toNat, by omega⟩
      have hb1 : decide ((b : Int) < 0) = false := by simp
      obtain ⟨x, hx, hxn, hxd⟩ := hlt
      obtain ⟨g, cap2, rfl, d0, d1⟩ := HK0.out.fv.cells hx
      have hll : (fdN L a : Int) < (L.length : Int) := by have := (List.getElem?_eq_some_iff.1 hx).1; omega
      subst hxd
      have HX := Lib.hid (And.intro hg hxn)
      clear hg hxn hx e3 hb0
      by_cases hs : (b : Int) / 8 < (x.d.size : Int)
      · have hcv := fun (w : World) => run_bytes_of_string (P := Try.prog) w 9 78 5 x.d Try.underlying9 Try.underlying78 Try.underlying5
        have hgl : g < w.heap.size := (HK0.out.fv.row.lt g rfl).2
        go_enter Try.func21, Try.ntmps21
        go_wp2_with (fail)
        refine (HFD.out _ (Below.refl _ _)).mono ?_
        rintro e w1 ⟨rfl, HB⟩
        have c1 := (HK0.out.below HB.out).c1
        have d1 := (HB.out.cell (p := ⟨g, fdN L a * 2 + 1, none⟩) hgl).trans d1
        go_upto_region 6 with (fail)
        go_cut [8] (fun s8 wx => (∃ cp, s8 = .slice (some ⟨w1.heap.size, 0, none⟩) x.d.size cp) ∧ Hid (Row8 wx w1.heap.size x.d.data.toList ∧ Below w1.heap.size w1 wx ∧ w1.heap.size < wx.heap.size))
        case first =>
          go_wp2
          go_meet
          refine ⟨⟨_, rfl⟩, Lib.hid ⟨?_, ?_, ?_⟩⟩
          · exact (Row8.of_string w1 x.d 5 _).drew
          · exact ((Below.refl _ w1).alloc (Nat.le_refl _) _).drew
          · show w1.heap.size < (w1.alloc _).heap.size
            rw [World.size_alloc]; omega
        case rest =>
          obtain ⟨⟨cp, rfl⟩, HWX⟩ := hcut
          obtain ⟨q, hq⟩ : ∃ q : Nat, q = b / 8 := ⟨_, rfl⟩
          obtain ⟨r, hr⟩ : ∃ r : Nat, r = b % 8 := ⟨_, rfl⟩
          have hqi : (b : Int) / 8 = (q : Int) := by omega
          have hri : (b : Int) % 8 = (r : Int) := by omega
          have hqs : q < x.d.data.toList.length := by simp; omega
          have hqs2 : (q : Int) < (x.d.size : Int) := by omega
          obtain ⟨y, hy⟩ : ∃ y, x.d.data.toList[q]? = some y := ⟨_, List.getElem?_eq_getElem hqs⟩
          have hc1 : wc.cell? ⟨w1.heap.size, q, none⟩ = some (.int .u8 (y.toNat : Int)) := by
            obtain ⟨_, e⟩ := List.getElem?_eq_some_iff.1 hy
            rw [← e]
            exact HWX.out.1.cell hqs
          have hf1 := HWX.out.1.frozen hqs
          have HQ := Lib.hid (And.intro hq (And.intro hr (And.intro hy hqs)))
          have hwq : IntKind.i64.wrap (q : Int) = (q : Int) := IntWalk.i64_in _ (by omega)
          have hwr : IntKind.i64.wrap (r : Int) = (r : Int) := IntWalk.i64_in _ (by omega)
          have hr8 : r = 0 ∨ r = 1 ∨ r = 2 ∨ r = 3 ∨ r = 4 ∨ r = 5 ∨ r = 6 ∨ r = 7 := by omega
          obtain ⟨z, hz⟩ : ∃ z, z = UInt8.ofNat (2 ^ r) := ⟨_, rfl⟩
          have hxo := u8_xor_of y z
          obtain ⟨yz, hyz⟩ : ∃ yz, yz = y ^^^ z := ⟨_, rfl⟩
          rw [← hyz] at hxo
          have HZ := Lib.hid (And.intro hz hyz)
          have HR : Hid (Row8 wc w1.heap.size x.d.data.toList) := Lib.hid HWX.out.1
          clear hyz
          clear hq hr hy hqs hs d1 c1 d0
          go_upto_region 7 with (fail)
          go_cut [8] (fun s8 wx => s8 = .slice (some ⟨w1.heap.size, 0, none⟩) x.d.size cp ∧ Hid (Row8 wx w1.heap.size (x.d.data.toList.set q yz) ∧ Below w1.heap.size w1 wx ∧ w1.heap.size < wx.heap.size))
          case first =>
            have HF : Hid (Row8 ((wc.setCell ⟨w1.heap.size, q, none⟩ (.int .u8 (yz.toNat : Int))).drew) w1.heap.size (x.d.data.toList.set q yz) ∧ Below w1.heap.size w1 ((wc.setCell ⟨w1.heap.size, q, none⟩ (.int .u8 (yz.toNat : Int))).drew) ∧ w1.heap.size < ((wc.setCell ⟨w1.heap.size, q, none⟩ (.int .u8 (yz.toNat : Int))).drew).heap.size) := Lib.hid ⟨(HR.out.set q yz).drew, (HWX.out.2.1.setCell (p := ⟨w1.heap.size, q, none⟩) (Nat.le_refl _) _).drew, by simpa using HWX.out.2.2⟩
            rcases hr8 with rfl | rfl | rfl | rfl | rfl | rfl | rfl | rfl
            all_goals
              rw [hz] at hxo
              clear hz
              go_region
              go_wp2
              go_meet
              refine ⟨rfl, ?_⟩
              first
                | (rw [show bits BinOp.xor IntKind.u8 (y.toNat : Int) 1 = (yz.toNat : Int) from hxo]; exact HF)
                | (rw [show bits BinOp.xor IntKind.u8 (y.toNat : Int) 2 = (yz.toNat : Int) from hxo]; exact HF)
                | (rw [show bits BinOp.xor IntKind.u8 (y.toNat : Int) 4 = (yz.toNat : Int) from hxo]; exact HF)
                | (rw [show bits BinOp.xor IntKind.u8 (y.toNat : Int) 8 = (yz.toNat : Int) from hxo]; exact HF)
                | (rw [show bits BinOp.xor IntKind.u8 (y.toNat : Int) 16 = (yz.toNat : Int) from hxo]; exact HF)
                | (rw [show bits BinOp.xor IntKind.u8 (y.toNat : Int) 32 = (yz.toNat : Int) from hxo]; exact HF)
                | (rw [show bits BinOp.xor IntKind.u8 (y.toNat : Int) 64 = (yz.toNat : Int) from hxo]; exact HF)
                | (rw [show bits BinOp.xor IntKind.u8 (y.toNat : Int) 128 = (yz.toNat : Int) from hxo]; exact HF)
          case rest =>
            obtain ⟨rfl, HWY⟩ := hcut
            obtain ⟨T, hT⟩ : ∃ T, T = flipD x.d (b : Int) := ⟨_, rfl⟩
            have hT2 : T = ⟨(x.d.data.toList.set q yz).toArray⟩ := by
              obtain ⟨q1, q2, q3, q4⟩ := HQ.out
              obtain ⟨z1, z2⟩ := HZ.out
              rw [hT]
              unfold flipD
              rw [show ((b : Int) / 8).toNat = q by omega, q3, bitB_nat, ← q2, z2, z1]
              rfl
            have hlw : (x.d.data.toList.set q yz).length = x.d.size := by rw [List.length_set]; simp
            have hcb : (convert 78 9 (.slice (some ⟨w1.heap.size, 0, none⟩) x.d.size cp)).run Try.prog wc.drew = .ok (.string T) wc.drew := by
              have := (HWY.out.1.drew).back (P := Try.prog) 78 9 5 cp Try.underlying78 Try.underlying5 Try.underlying9
              rw [hlw] at this
              rw [hT2]; exact this
            have HLY : Hid (∀ wx, Below w.heap.size w wx → Calls Try.prog 39 #[.slice (some ⟨g, 0, none⟩) L.length cap2, .agg #[.string a, .string T]] wx fun e w' => ∃ o, e = .returned o ∧ Hid (FV w.heap.size w' o (putF L a T) ∧ Below w.heap.size w w')) :=
              Lib.hid (fun wx hb => (lay_any a T (HK0.out.fv.below hb) h.out.srt (by have := k.len; omega)).mono fun e w' ⟨o, he, hb2⟩ => ⟨o, he, Lib.hid ⟨hb2.out.fv.base hb.size, hb.trans (hb2.out.bel.mono hb.size)⟩⟩)
            have HBW : Hid (Below w.heap.size w wc) := Lib.hid (HB.out.trans (HWY.out.2.1.mono HB.out.size))
            have HBD : Hid (Below w.heap.size w wc.drew) := Lib.hid HBW.out.drew
            have c1 := (HK0.out.below HBW.out).c1
            have HAN : Hid (flR L a (b : Int) = 0 ∧ flL L a (b : Int) = putF L a T) := Lib.hid (by
              unfold flR flL
              rw [HX.out.1, hT]
              have hn : ¬ ((b : Int) < 0 ∨ (x.d.size : Int) ≤ (b : Int) / 8) := by omega
              exact ⟨if_neg hn, if_neg hn⟩)
            clear hT hT2 hlw hz hxo hc1 hf1 hr8 hwq hwr hqi hri hqs2 d1
            go_upto_region 8 with (fail)
            go_region_with (go_at_call 39; refine (HLY.out _ HBD.out).mono ?_; rintro e w2 ⟨o2, rfl, H2⟩; obtain ⟨a2, c2, rfl⟩ := H2.out.1.slice; have z1 := (HK0.out.below H2.out.2).c1; have f1 := bear_free (h.out.below H2.out.2).ty 1)
            all_goals
              have HF := Lib.hid (RS.last h.out H2.out.2 H2.out.1 (srt_putF h.out.srt _ _))
              clear H2 z1 f1
              go_wp2
              go_ret
              exact ⟨by rw [HAN.out.1]; rfl, Lib.hid (by rw [HAN.out.2]; exact HF.out)⟩
      · have e1 : flR L a (b : Int) = 2 := by unfold flR; rw [HX.out.1]; exact if_pos (.inr (by omega))
        have e2 : flL L a (b : Int) = L := by unfold flL; rw [HX.out.1]; exact if_pos (.inr (by omega))
        rw [e1, e2]
        have hgl : g < w.heap.size := (HK0.out.fv.row.lt g rfl).2
        clear e1 e2
        go_enter Try.func21, Try.ntmps21
        go_wp2_with (fail)
        refine (HFD.out _ (Below.refl _ _)).mono ?_
        rintro e w1 ⟨rfl, HB⟩
        have c1 := (HK0.out.below HB.out).c1
        have d1 := (HB.out.cell (p := ⟨g, fdN L a * 2 + 1, none⟩) hgl).trans d1
        have HF : Hid (RS w0 w1 p (grow S w w1) cap L cs ∧ Tch w w1 S) := Lib.hid ⟨h.out.wide HB.out, tch_below S HB.out⟩
        go_wp2
        go_ret
        exact ⟨rfl, HF⟩
end Go.Proofs.Ytjlhnacdfpbchaa
