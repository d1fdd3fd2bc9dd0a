/- The reference's disk: a change is done; all files that are held; their bytes. -/
import Derived.Test.YtjlhnacdfpbchaaDkRefB
namespace Go.Proofs.Ytjlhnacdfpbchaa
open Go.RowKit Go.Maps

/-- a change as the reference spells it -/
def chC : Chg → List Value
  | .app n d => [.int .i64 1, .string n, .string d]
  | .ren a b => [.int .i64 2, .string a, .string b]
  | .del a => [.int .i64 3, .string a, .string ByteArray.empty]
theorem Bf.fv {w wr : World} {o : Value} {O : Fs} (h : Bf w wr o O) : FV w.heap.size wr o O := ⟨h.row⟩
theorem srt_ext : ∀ {L M : Fs}, SrtF L → SrtF M → (∀ q, getF L q = getF M q) → L = M
  | [], [], _, _, _ => rfl
  | [], y :: M, _, _, h => by
    have := h y.n
    rw [getF_cons, if_pos rfl] at this
    cases this
  | x :: L, [], _, _, h => by
    have := h x.n
    rw [getF_cons, if_pos rfl] at this
    cases this
  | x :: L, y :: M, hL, hM, h => by
    obtain ⟨l1, l2⟩ := List.pairwise_cons.1 hL
    obtain ⟨m1, m2⟩ := List.pairwise_cons.1 hM
    have ahead : ∀ {a b : Fl} {A B : Fs}, (∀ z ∈ B, blt b.n z.n = true) → blt a.n b.n = true → getF (a :: A) a.n = getF (b :: B) a.n → False := fun {a b A B} hb hab he => by
      rw [getF_cons, if_pos rfl] at he
      have : getF (b :: B) a.n = none := getF_none.2 fun z hz e => by
        rcases List.mem_cons.1 hz with rfl | hz
        · rw [e, blt_irrefl] at hab; cases hab
        · have := blt_trans hab (hb z hz)
          rw [e, blt_irrefl] at this; cases this
      rw [this] at he
      cases he
    have hn : x.n = y.n := Classical.byContradiction fun hne => by
      cases k : blt x.n y.n
      · exact ahead l1 (blt_total hne k) (h y.n).symm
      · exact ahead m1 k (h x.n)
    have hd : x.d = y.d := by
      have := h x.n
      rw [getF_cons, if_pos rfl, getF_cons, if_pos hn.symm] at this
      exact Option.some.inj this
    have hx : x = y := by cases x; cases y; simp only at hn hd; rw [hn, hd]
    subst hx
    congr 1
    refine srt_ext l2 m2 fun q => ?_
    have := h q
    rw [getF_cons, getF_cons] at this
    by_cases e : x.n = q
    · have hno : ∀ {A : Fs}, (∀ z ∈ A, blt x.n z.n = true) → getF A q = none := fun {A} hA => getF_none.2 fun z hz k => by
        have := hA z hz
        rw [e, k, blt_irrefl] at this
        cases this
      rw [hno l1, hno m1]
    · rwa [if_neg e, if_neg e] at this
theorem ren_same {L : Fs} {a b d : ByteArray} (hs : SrtF L) (hne : ¬ a = b) : putF (delF L a) b d = delF (putF L b d) a := by
  refine srt_ext (srt_putF (srt_delF hs _) _ _) (srt_delF (srt_putF hs _ _) _) fun q => ?_
  rw [getF_putF, getF_delF, getF_delF, getF_putF]
  by_cases e : q = b
  · subst e
    rw [if_pos rfl, if_neg (fun h => hne h.symm), if_pos rfl]
  · by_cases e2 : q = a
    · simp [e, e2, hne]
    · simp [e, e2]
theorem fdI_neg {L : Fs} {q : ByteArray} (h : getF L q = none) : fdI L q = -1 := by unfold fdI; rw [h]; rfl
theorem fd_some {L : Fs} {q d : ByteArray} (h : getF L q = some d) : fdI L q = (fdN L q : Int) ∧ ∃ x, L[fdN L q]? = some x ∧ x.n = q ∧ x.d = d := by
  have hlt : fdN L q < L.length := by
    rcases Nat.lt_or_ge (fdN L q) L.length with k | k
    · exact k
    · rw [fd_end (by have := fd_le L q; omega)] at h
      cases h
  refine ⟨by rw [fd_int, if_pos hlt], _, List.getElem?_eq_getElem hlt, ?_⟩
  have := fd_at q L _ (List.getElem?_eq_getElem hlt)
  rw [h] at this
  exact ⟨this.1, (Option.some.inj this.2).symm⟩
/-- the old bytes, once the file was sought -/
theorem old_at {B : Nat} {w wx : World} {v : Value} {L : Fs} {q : ByteArray} (h : FV B w v L) (hb : Below w.heap.size w wx) : (getF L q = none ∧ fdI L q = -1) ∨ ∃ d g c, getF L q = some d ∧ fdI L q = (fdN L q : Int) ∧ fdN L q < L.length ∧ v = .slice (some ⟨g, 0, none⟩) L.length c ∧ wx.cell? ⟨g, fdN L q * 2 + 1, none⟩ = some (.string d) := by
  cases hg : getF L q with
  | none => exact .inl ⟨rfl, fdI_neg hg⟩
  | some d =>
    obtain ⟨h1, x, h2, h3, h4⟩ := fd_some hg
    obtain ⟨g, c, e, _, d1⟩ := (h.below hb).cells h2
    exact .inr ⟨d, g, c, rfl, h1, (List.getElem?_eq_some_iff.1 h2).1, e, by rw [d1, h4]⟩
/-- the box of a change, and the world behind it -/
structure CB (w wx : World) (g : Nat) (k : Int) (n d : ByteArray) : Prop where
  bel : Below w.heap.size w wx
  lt : g < wx.heap.size
  c0 : wx.cell? ⟨g, 0, none⟩ = some (.int .i64 k)
  c1 : wx.cell? ⟨g, 1, none⟩ = some (.string n)
  c2 : wx.cell? ⟨g, 2, none⟩ = some (.string d)
theorem CB.on {w wx wy : World} {g : Nat} {k : Int} {n d : ByteArray} (h : CB w wx g k n d) (hb : Below wx.heap.size wx wy) : CB w wy g k n d :=
  ⟨h.bel.trans (hb.mono h.bel.size), Nat.lt_of_lt_of_le h.lt hb.size, (hb.cell (p := ⟨g, 0, none⟩) h.lt).trans h.c0, (hb.cell (p := ⟨g, 1, none⟩) h.lt).trans h.c1, (hb.cell (p := ⟨g, 2, none⟩) h.lt).trans h.c2⟩
theorem cb_new (w : World) (k : Int) (n d : ByteArray) : CB w (w.alloc (.cells #[.int .i64 k, .string n, .string d] 80)) w.heap.size k n d :=
  ⟨(Below.refl _ w).alloc (Nat.le_refl _) _, by simp, by simp, by simp, by simp⟩
set_option maxRecDepth 100000 in
set_option maxHeartbeats 4000000 in
theorem do_del_R {B : Nat} {w : World} {v : Value} {L : Fs} (a : ByteArray) (h : FV B w v L) (hL : L.length ≤ 1099511627775) :
    Calls Try.prog 38 #[v, .agg #[.int .i64 3, .string a, .string ByteArray.empty]] w fun e w' => ∃ o, e = .returned o ∧ Hid (FV w.heap.size w' o (delF L a) ∧ Below w.heap.size w w') := by
  have HH := Lib.hid h
  have HWO : Hid (∀ wx, Below w.heap.size w wx → Calls Try.prog 44 #[v, .string a] wx fun e w' => ∃ o, e = .returned o ∧ Hid (FV w.heap.size w' o (delF L a) ∧ Below w.heap.size w w')) := Lib.hid (fun wx hb => (without_any a (h.below hb) (by omega)).mono fun e w' ⟨o, he, hb2⟩ => ⟨o, he, Lib.hid ⟨hb2.out.fv.base hb.size, hb.trans (hb2.out.bel.mono hb.size)⟩⟩)
  have hLi : (L.length : Int) ≤ 9223372036854775807 := by omega
  have HFD : Hid (∀ wx, Below w.heap.size w wx → Calls Try.prog 37 #[v, .string a] wx fun e w' => e = .returned (.int .i64 (fdI L a)) ∧ Below wx.heap.size wx w') := Lib.hid (fun wx hb => find_any a (h.below hb) (by omega))
  clear h hL
  go_enter Try.func38, Try.ntmps38
  go_wp2_with (fail)
  have HC := Lib.hid (cb_new w 3 a ByteArray.empty)
  generalize w.alloc (.cells #[.int .i64 3, .string a, .string ByteArray.empty] 80) = wx at *
  generalize w.heap.size = g at HC ⊢
  refine (HFD.out wx HC.out.bel).mono ?_
  rintro e w1 ⟨rfl, hb1⟩
  have HC1 := Lib.hid (HC.out.on hb1)
  clear hb1 HC
  obtain ⟨x1, x2, x3⟩ := And.intro HC1.out.c0 (And.intro HC1.out.c1 HC1.out.c2)
  have HW := Lib.hid (HWO.out w1 HC1.out.bel)
  rcases old_at HH.out HC1.out.bel (q := a) with ⟨_, hfd⟩ | ⟨d, gg, c, _, hfd, hlt, rfl, hcell⟩
  · rw [hfd]
    clear hfd
    go_wp2_with (fail)
    refine HW.out.mono ?_
    rintro e w2 ⟨o, rfl, H2⟩
    go_wp2
    go_ret
    exact ⟨_, rfl, H2⟩
  · rw [hfd]
    have hlt' : (fdN L a : Int) < (L.length : Int) := by omega
    have hge : ¬ (fdN L a : Int) < 0 := by omega
    clear hfd
    go_wp2_with (fail)
    refine HW.out.mono ?_
    rintro e w2 ⟨o, rfl, H2⟩
    go_wp2
    go_ret
    exact ⟨_, rfl, H2⟩
set_option maxRecDepth 100000 in
set_option maxHeartbeats 4000000 in
theorem do_app_R {B : Nat} {w : World} {v : Value} {L : Fs} (n d : ByteArray) (h : FV B w v L) (hs : SrtF L) (hL : L.length ≤ 1099511627775) (hsz : totF L + d.size ≤ 140737488355328) :
    Calls Try.prog 38 #[v, .agg #[.int .i64 1, .string n, .string d]] w fun e w' => ∃ o, e = .returned o ∧ Hid (FV w.heap.size w' o (putF L n (orE (getF L n) ++ d)) ∧ Below w.heap.size w w') := by
  have HH := Lib.hid h
  have HLY : Hid (∀ x wx, Below w.heap.size w wx → Calls Try.prog 39 #[v, .agg #[.string n, .string x]] wx fun e w' => ∃ o, e = .returned o ∧ Hid (FV w.heap.size w' o (putF L n x) ∧ Below w.heap.size w w')) := Lib.hid (fun x wx hb => (lay_any n x (h.below hb) hs (by omega)).mono fun e w' ⟨o, he, hb2⟩ => ⟨o, he, Lib.hid ⟨hb2.out.fv.base hb.size, hb.trans (hb2.out.bel.mono hb.size)⟩⟩)
  have hLi : (L.length : Int) ≤ 9223372036854775807 := by omega
  have HFD : Hid (∀ wx, Below w.heap.size w wx → Calls Try.prog 37 #[v, .string n] wx fun e w' => e = .returned (.int .i64 (fdI L n)) ∧ Below wx.heap.size wx w') := Lib.hid (fun wx hb => find_any n (h.below hb) (by omega))
  have HSZ := Lib.hid hsz
  clear h hL hs hsz
  go_enter Try.func38, Try.ntmps38
  go_wp2_with (fail)
  have HC := Lib.hid (cb_new w 1 n d)
  generalize w.alloc (.cells #[.int .i64 1, .string n, .string d] 80) = wx at *
  generalize w.heap.size = g at HC ⊢
  refine (HFD.out wx HC.out.bel).mono ?_
  rintro e w1 ⟨rfl, hb1⟩
  have HC1 := Lib.hid (HC.out.on hb1)
  clear hb1 HC
  obtain ⟨x1, x2, x3⟩ := And.intro HC1.out.c0 (And.intro HC1.out.c1 HC1.out.c2)
  rcases old_at HH.out HC1.out.bel (q := n) with ⟨hg, hfd⟩ | ⟨x, gg, c, hg, hfd, hlt, rfl, hcell⟩
  · rw [hfd]
    have hcat : ¬ (9223372036854775807 < ByteArray.empty.size + d.size) := by have := HSZ.out; simp; omega
    have HF := Lib.hid (HLY.out (ByteArray.empty ++ d) w1 HC1.out.bel)
    have HO : Hid (orE (getF L n) = ByteArray.empty) := Lib.hid (by rw [hg]; rfl)
    clear hfd hg
    go_wp2_with (fail)
    refine HF.out.mono ?_
    rintro e w2 ⟨o, rfl, H2⟩
    have H3 : Hid (FV w.heap.size w2 o (putF L n (orE (getF L n) ++ d)) ∧ Below w.heap.size w w2) := Lib.hid (by rw [HO.out]; exact H2.out)
    go_wp2
    go_ret
    exact ⟨_, rfl, H3⟩
  · rw [hfd]
    have hlt' : (fdN L n : Int) < (L.length : Int) := by omega
    have hge : ¬ (fdN L n : Int) < 0 := by omega
    have hxs := size_le_tot hg
    have hcat : ¬ (9223372036854775807 < x.size + d.size) := by have := HSZ.out; omega
    have HF := Lib.hid (HLY.out (x ++ d) w1 HC1.out.bel)
    have HO : Hid (orE (getF L n) = x) := Lib.hid (by rw [hg]; rfl)
    clear hfd hg hxs
    go_wp2_with (fail)
    refine HF.out.mono ?_
    rintro e w2 ⟨o, rfl, H2⟩
    have H3 : Hid (FV w.heap.size w2 o (putF L n (orE (getF L n) ++ d)) ∧ Below w.heap.size w w2) := Lib.hid (by rw [HO.out]; exact H2.out)
    go_wp2
    go_ret
    exact ⟨_, rfl, H3⟩
set_option maxRecDepth 100000 in
set_option maxHeartbeats 4000000 in
theorem do_ren_R {B : Nat} {w : World} {v : Value} {L : Fs} (a b : ByteArray) (h : FV B w v L) (hs : SrtF L) (hne : ¬ a = b) (hL : L.length ≤ 1099511627775) :
    Calls Try.prog 38 #[v, .agg #[.int .i64 2, .string a, .string b]] w fun e w' => ∃ o, e = .returned o ∧ Hid (FV w.heap.size w' o (delF (putF L b (orE (getF L a))) a) ∧ Below w.heap.size w w') := by
  have HH := Lib.hid h
  have HLY : Hid (∀ x wx v', Below w.heap.size w wx → FV w.heap.size wx v' (delF L a) → Calls Try.prog 39 #[v', .agg #[.string b, .string x]] wx fun e w' => ∃ o, e = .returned o ∧ Hid (FV w.heap.size w' o (delF (putF L b x) a) ∧ Below w.heap.size w w')) := Lib.hid (fun x wx v' hb hv => (lay_any b x hv (srt_delF hs _) (by have := len_delF L a; omega)).mono fun e w' ⟨o, he, hb2⟩ => ⟨o, he, Lib.hid ⟨by rw [← ren_same hs hne]; exact hb2.out.fv.base hb.size, hb.trans (hb2.out.bel.mono hb.size)⟩⟩)
  have HWO : Hid (∀ wx, Below w.heap.size w wx → Calls Try.prog 44 #[v, .string a] wx fun e w' => ∃ o, e = .returned o ∧ Hid (FV w.heap.size w' o (delF L a) ∧ Below wx.heap.size wx w')) := Lib.hid (fun wx hb => (without_any a (h.below hb) (by omega)).mono fun e w' ⟨o, he, hb2⟩ => ⟨o, he, Lib.hid ⟨hb2.out.fv.base hb.size, hb2.out.bel⟩⟩)
  have hLi : (L.length : Int) ≤ 9223372036854775807 := by omega
  have HFD : Hid (∀ wx, Below w.heap.size w wx → Calls Try.prog 37 #[v, .string a] wx fun e w' => e = .returned (.int .i64 (fdI L a)) ∧ Below wx.heap.size wx w') := Lib.hid (fun wx hb => find_any a (h.below hb) (by omega))
  clear h hL hs hne
  go_enter Try.func38, Try.ntmps38
  go_wp2_with (fail)
  have HC := Lib.hid (cb_new w 2 a b)
  generalize w.alloc (.cells #[.int .i64 2, .string a, .string b] 80) = wx at *
  generalize w.heap.size = g at HC ⊢
  refine (HFD.out wx HC.out.bel).mono ?_
  rintro e w1 ⟨rfl, hb1⟩
  have HC1 := Lib.hid (HC.out.on hb1)
  clear hb1 HC
  obtain ⟨x1, x2, x3⟩ := And.intro HC1.out.c0 (And.intro HC1.out.c1 HC1.out.c2)
  rcases old_at HH.out HC1.out.bel (q := a) with ⟨hg, hfd⟩ | ⟨x, gg, c, hg, hfd, hlt, rfl, hcell⟩
  · rw [hfd]
    have HO : Hid (orE (getF L a) = ByteArray.empty) := Lib.hid (by rw [hg]; rfl)
    clear hfd hg
    go_wp2_with (fail)
    have HCD : Hid (CB w w1.drew g 2 a b) := Lib.hid (HC1.out.on (Below.refl _ w1).drew)
    go_region_with (first
      | (go_at_call 44; refine (HWO.out _ HCD.out.bel).mono ?_; rintro e w2 ⟨o, rfl, H2⟩; have HC2 := Lib.hid (HCD.out.on H2.out.2); have y2 := HC2.out.c1; have y3 := HC2.out.c2; have HF := Lib.hid (HLY.out ByteArray.empty w2 o HC2.out.bel H2.out.1))
      | (go_at_call 39; refine HF.out.mono ?_; rintro e w3 ⟨o2, rfl, H3⟩))
    all_goals
      have H4 : Hid (FV w.heap.size w3 o2 (delF (putF L b (orE (getF L a))) a) ∧ Below w.heap.size w w3) := Lib.hid (by rw [HO.out]; exact H3.out)
      clear H3
      go_wp2
      go_ret
      exact ⟨_, rfl, H4⟩
  · rw [hfd]
    have hlt' : (fdN L a : Int) < (L.length : Int) := by omega
    have hge : ¬ (fdN L a : Int) < 0 := by omega
    have HO : Hid (orE (getF L a) = x) := Lib.hid (by rw [hg]; rfl)
    clear hfd hg
    go_wp2_with (fail)
    have HCD : Hid (CB w w1.drew g 2 a b) := Lib.hid (HC1.out.on (Below.refl _ w1).drew)
    go_region_with (first
      | (go_at_call 44; refine (HWO.out _ HCD.out.bel).mono ?_; rintro e w2 ⟨o, rfl, H2⟩; have HC2 := Lib.hid (HCD.out.on H2.out.2); have y2 := HC2.out.c1; have y3 := HC2.out.c2; have HF := Lib.hid (HLY.out x w2 o HC2.out.bel H2.out.1))
      | (go_at_call 39; refine HF.out.mono ?_; rintro e w3 ⟨o2, rfl, H3⟩))
    all_goals
      have H4 : Hid (FV w.heap.size w3 o2 (delF (putF L b (orE (getF L a))) a) ∧ Below w.heap.size w w3) := Lib.hid (by rw [HO.out]; exact H3.out)
      clear H3
      go_wp2
      go_ret
      exact ⟨_, rfl, H4⟩
theorem do_any {B : Nat} {w : World} {v : Value} {L : Fs} (c : Chg) (h : FV B w v L) (hs : SrtF L) (hc : okC c) (hL : L.length ≤ 1099511627775) (hsz : totF L + wtC c ≤ 140737488355328) :
    Calls Try.prog 38 #[v, .agg (chC c).toArray] w fun e w' => ∃ o, e = .returned o ∧ Hid (FV w.heap.size w' o (doC L c) ∧ Below w.heap.size w w') := by
  cases c with
  | app n d => exact do_app_R n d h hs hL hsz
  | ren a b => exact do_ren_R a b h hs hc.2.2 hL
  | del a => exact do_del_R a h hL
end Go.Proofs.Ytjlhnacdfpbchaa
