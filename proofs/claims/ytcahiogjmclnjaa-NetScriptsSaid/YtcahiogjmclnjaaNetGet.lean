/- Package net: a letter arrives, or is lost, whatever the net carries. -/
import Derived.Test.YtcahiogjmclnjaaNetSt
import Derived.Test.YtcahiogjmclnjaaNetDlv
namespace Go.Proofs.Ytcahiogjmclnjaa
open Go.RowKit

set_option maxHeartbeats 1000000 in
theorem carries_any (base p : Nat) (N sent : Int) (cut v : Value) (L : List Letr) (k : Int) (w : World) (h : NetL w base p N sent cut v L) :
    Calls Try.prog 25 #[.pointer (some ⟨p, 0, none⟩), .int .i64 k] w fun e w' => e = .returned (.bool (decide (0 ≤ k ∧ k < (L.length : Int)))) ∧ w = w' := by
  obtain ⟨a', c', hv⟩ : ∃ a' c', v = .slice a' L.length c' := by
    rcases h.fly.2 with ⟨h1, h2⟩ | ⟨g, o, cap, h1, _⟩
    · exact ⟨_, _, by rw [h1, h2]⟩
    · exact ⟨_, _, h1⟩
  have c2 := h.at'.c2
  rw [hv] at c2
  clear h
  obtain ⟨n, hn⟩ : ∃ n, n = L.length := ⟨_, rfl⟩
  rw [← hn] at c2 ⊢
  clear hn hv
  by_cases h1 : 0 ≤ k
  · by_cases h2 : k < (n : Int)
    · have hd : (decide (0 ≤ k ∧ k < (n : Int))) = true := by simp [h1, h2]
      rw [hd]
      clear hd
      go_enter Try.func25, Try.ntmps25
      go_wp2
      go_ret
      exact ⟨rfl, rfl⟩
    · have hd : (decide (0 ≤ k ∧ k < (n : Int))) = false := by simp [h2]
      rw [hd]
      clear hd
      go_enter Try.func25, Try.ntmps25
      go_wp2
      go_ret
      exact ⟨rfl, rfl⟩
  · have hd : (decide (0 ≤ k ∧ k < (n : Int))) = false := by simp [h1]
    rw [hd]
    clear hd
    go_enter Try.func25, Try.ntmps25
    go_wp2
    go_ret
    exact ⟨rfl, rfl⟩
abbrev letV (l : Letr) : Value := .agg #[.int .i64 l.id, .int .i64 l.a, .int .i64 l.b, .string l.s]
abbrev noLet : Value := .agg #[.int .i64 0, .int .i64 0, .int .i64 0, .string ⟨#[]⟩]
set_option maxHeartbeats 1000000 in
theorem deliver_arg (base p : Nat) (N sent : Int) (cut v : Value) (L : List Letr) (k : Int) (w : World) (hk : ¬ (0 ≤ k ∧ k < (L.length : Int))) (h : NetL w base p N sent cut v L) :
    Calls Try.prog 9 #[.pointer (some ⟨p, 0, none⟩), .int .i64 k] w fun e w' => e = .returned (.tuple #[noLet, .int .i64 2]) ∧ Below w.heap.size w w' := by
  have hc := carries_any base p N sent cut v L k _ (h.below ((Below.refl _ w).alloc (Nat.le_refl _) (.cells #[.int .i64 0, .int .i64 0, .int .i64 0, .string ⟨#[]⟩] 36)))
  rw [show decide (0 ≤ k ∧ k < (L.length : Int)) = false by simpa using hk] at hc
  clear h hk
  go_enter Try.func9, Try.ntmps9
  go_wp2_with (fail)
  refine hc.mono ?_
  rintro e w' ⟨rfl, rfl⟩
  clear hc
  go_wp2
  refine bodyPost_ret (v := .tuple #[noLet, .int .i64 2]) ?_ rfl ⟨rfl, ?_⟩
  · simp [results, Try.results9, go_sem]
  · exact (Below.refl _ w).alloc (Nat.le_refl _) _
set_option maxHeartbeats 1000000 in
theorem drop_arg (base p : Nat) (N sent : Int) (cut v : Value) (L : List Letr) (k : Int) (w : World) (hk : ¬ (0 ≤ k ∧ k < (L.length : Int))) (h : NetL w base p N sent cut v L) :
    Calls Try.prog 11 #[.pointer (some ⟨p, 0, none⟩), .int .i64 k] w fun e w' => e = .returned (.int .i64 2) ∧ w = w' := by
  have hc := carries_any base p N sent cut v L k w h
  rw [show decide (0 ≤ k ∧ k < (L.length : Int)) = false by simpa using hk] at hc
  clear h hk
  go_enter Try.func11, Try.ntmps11
  go_wp2_with (fail)
  refine hc.mono ?_
  rintro e w' ⟨rfl, rfl⟩
  clear hc
  go_wp2
  go_ret
  exact ⟨rfl, rfl⟩
set_option maxHeartbeats 1000000 in
theorem drop_L (base p k : Nat) (N sent : Int) (cut v : Value) (L : List Letr) (w : World) (hk : k < L.length) (h : NetL w base p N sent cut v L) :
    Calls Try.prog 11 #[.pointer (some ⟨p, 0, none⟩), .int .i64 k] w fun e w' => e = .returned (.int .i64 0) ∧ ∃ v', NetL w' base p N sent cut v' (L.eraseIdx k) ∧ v'.ownBlock = v.ownBlock ∧ Tch w w' (own2 p v) := by
  have hc := carries_any base p N sent cut v L k w h
  rw [show decide (0 ≤ (k : Int) ∧ (k : Int) < (L.length : Int)) = true by simp; omega] at hc
  have hr := remove_any base p k N sent cut v L w hk h
  clear h hk
  go_enter Try.func11, Try.ntmps11
  go_wp2_with (fail)
  refine hc.mono ?_
  rintro e w' ⟨rfl, rfl⟩
  go_wp2_with (fail)
  refine hr.mono ?_
  rintro e w' ⟨rfl, hfin⟩
  have HF := Lib.hid hfin
  clear hc hr hfin
  go_wp2
  go_ret
  exact ⟨rfl, HF.out⟩
/-- the four cells of the k-th letter -/
theorem NetL.cell {w : World} {base p k : Nat} {N sent : Int} {cut v : Value} {L : List Letr} {l : Letr} (h : NetL w base p N sent cut v L) (hk : L[k]? = some l) :
    ∃ g o cap, v = .slice (some ⟨g, o, none⟩) L.length cap ∧ g < w.heap.size ∧ w.cell? ⟨g, o + k * 4, none⟩ = some (.int .i64 l.id) ∧ w.cell? ⟨g, o + k * 4 + 1, none⟩ = some (.int .i64 l.a) ∧ w.cell? ⟨g, o + k * 4 + 2, none⟩ = some (.int .i64 l.b) ∧ w.cell? ⟨g, o + k * 4 + 3, none⟩ = some (.string l.s) := by
  have hkl := (List.getElem?_eq_some_iff.1 hk).1
  rcases h.fly.2 with ⟨_, h2⟩ | ⟨g, o, cap, h1, _, _, _, hr⟩
  · omega
  · refine ⟨g, o, cap, h1, hr.lt, ?_, ?_, ?_, ?_⟩
    · exact hr.cell (k * 4 + 0) _ (cellsOf_get L k l hk 0 (by omega))
    · exact hr.cell (k * 4 + 1) _ (cellsOf_get L k l hk 1 (by omega))
    · exact hr.cell (k * 4 + 2) _ (cellsOf_get L k l hk 2 (by omega))
    · exact hr.cell (k * 4 + 3) _ (cellsOf_get L k l hk 3 (by omega))
set_option maxRecDepth 100000 in
set_option maxHeartbeats 4000000 in
theorem deliver_L (base p k : Nat) (N sent : Int) (cut v : Value) (L : List Letr) (l : Letr) (pt : Bool) (w : World) (hs : l.s.size ≤ 1048576) (hk : L[k]? = some l) (hL : L.length ≤ 65536) (h : NetL w base p N sent cut v L)
    (hpt : ∀ w2, Below w.heap.size w w2 → Calls Try.prog 19 #[.pointer (some ⟨p, 0, none⟩), .int .i64 l.a, .int .i64 l.b] w2 fun e w' => e = .returned (.bool pt) ∧ Below w2.heap.size w2 w') :
    Calls Try.prog 9 #[.pointer (some ⟨p, 0, none⟩), .int .i64 k] w fun e w' =>
      e = .returned (.tuple #[if pt then noLet else letV l, .int .i64 (if pt then 140 else 0)]) ∧ ∃ v', NetL w' base p N sent cut v' (if pt then L else L.eraseIdx k) ∧ v'.ownBlock = v.ownBlock ∧ Tch w w' (own2 p v) := by
  have hkl := (List.getElem?_eq_some_iff.1 hk).1
  have hb1 : Below w.heap.size w (w.alloc (.cells #[.int .i64 0, .int .i64 0, .int .i64 0, .string ⟨#[]⟩] 36)) := (Below.refl _ w).alloc (Nat.le_refl _) _
  have h1 := h.below hb1
  have hcar := carries_any base p N sent cut v L k _ h1
  rw [show decide (0 ≤ (k : Int) ∧ (k : Int) < (L.length : Int)) = true by simp; omega] at hcar
  obtain ⟨g, o, cap, rfl, hgs, e3, e4, e5, e6⟩ := h.cell hk
  have e2 := h.at'.c2
  have q2 := h1.at'.c2
  have q3 := (hb1.cell (p := ⟨g, o + k * 4, none⟩) hgs).trans e3
  have q4 := (hb1.cell (p := ⟨g, o + k * 4 + 1, none⟩) hgs).trans e4
  have q5 := (hb1.cell (p := ⟨g, o + k * 4 + 2, none⟩) hgs).trans e5
  have q6 := (hb1.cell (p := ⟨g, o + k * 4 + 3, none⟩) hgs).trans e6
  have hne1 : ¬ w.heap.size = p := by have := h.ty.lt; omega
  have hne2 : ¬ w.heap.size = g := by omega
  have HH := Lib.hid h
  have HK := Lib.hid hkl
  have HPT := Lib.hid hpt
  have hb2 : Hid (Below w.heap.size w ((w.alloc (.cells #[.int .i64 0, .int .i64 0, .int .i64 0, .string ⟨#[]⟩] 36)).alloc (.cells #[.int .i64 l.id, .int .i64 l.a, .int .i64 l.b, .string l.s] 36))) := Lib.hid (((Below.refl _ w).alloc (Nat.le_refl _) _).alloc (by simp) _)
  have hss := Lib.hid hs
  have k1 : (k : Int) < L.length := by omega
  have HL := Lib.hid hL
  clear h h1 hb1 hpt hk hs hgs
  go_enter Try.func9, Try.ntmps9
  go_wp2_with (fail)
  refine hcar.mono ?_
  rintro e w' ⟨rfl, rfl⟩
  go_upto_region 3 with (fail)
  go_cut [6] (fun s6 wx => (∃ b, s6 = .pointer (some ⟨b, 0, none⟩) ∧ Hid (Boxes wx w.heap.size b l.id l.a l.b l.s ∧ w.heap.size ≤ b)) ∧ Hid (Below w.heap.size w wx))
  case first =>
    clear hcar
    go_wp2
    go_meet
    exact ⟨⟨_, rfl, Lib.hid ⟨boxes_mk w l.id l.a l.b l.s, by omega⟩⟩, hb2⟩
  case rest =>
    obtain ⟨⟨b, rfl, HB⟩, HW⟩ := hcut
    have m1 := HB.out.1.l1
    have m2 := HB.out.1.l2
    have hpt := HPT.out _ HW.out
    clear hcar e2 e3 e4 e5 e6 q2 q3 q4 q5 q6 hb2
    go_wp2_with (fail)
    refine hpt.mono ?_
    rintro e w3 ⟨rfl, hb3⟩
    have HB3 := Lib.hid (HB.out.1.below hb3)
    have HW3 := Lib.hid (HW.out.trans (hb3.mono HW.out.size))
    have HH3 := Lib.hid (HH.out.below HW3.out)
    have HAP := Lib.hid (HH.out.apart g rfl)
    clear m1 m2 hpt hb3 HPT
    cases pt
    · have hrm := remove_any base p k N sent cut _ L w3 HK.out HH3.out
      go_wp2_with (fail)
      refine hrm.mono ?_
      rintro e w4 ⟨rfl, v4, h4, hv4, t4⟩
      have hbl : b < w3.heap.size := HB3.out.ls
      have hrl : w.heap.size < w3.heap.size := HB3.out.rs
      have hlt : p < w.heap.size := HH.out.ty.lt
      have hgl : g < w.heap.size := (HH.out.fly.lt g rfl).2
      have HLT := Lib.hid (And.intro hlt hgl)
      have HB4 : Hid (Boxes w4 w.heap.size b l.id l.a l.b l.s) := Lib.hid (HB3.out.same t4.size
        (t4.block _ hrl (fun h => h.elim (fun e => by omega) (fun e => by simp [Value.ownBlock] at e; omega)))
        (t4.block _ hbl (fun h => h.elim (fun e => by have := HB.out.2; omega) (fun e => by have := HB.out.2; simp [Value.ownBlock] at e; omega))))
      have H4 := Lib.hid (And.intro h4 (And.intro hv4 ((tch_below (own2 p (.slice (some ⟨g, o, none⟩) L.length cap)) HW3.out).then t4 (fun i _ e => e))))
      have m0 := HB4.out.l0
      have m1 := HB4.out.l1
      have m2 := HB4.out.l2
      have m3 := HB4.out.l3
      have hcp := copied_any l.id l.a l.b l.s w4 (by have := hss.out; omega)
      clear hrm h4 hv4 t4 hbl hrl hlt hgl
      go_wp2_with (fail)
      refine hcp.mono ?_
      rintro e w5 ⟨rfl, hb5⟩
      have HB5 := Lib.hid (HB4.out.below hb5)
      have hsz4 : w.heap.size ≤ w4.heap.size := H4.out.2.2.size
      have H5 : Hid (NetL w5 base p N sent cut v4 (L.eraseIdx k) ∧ v4.ownBlock = some g ∧ Tch w w5 (own2 p (.slice (some ⟨g, o, none⟩) L.length cap))) :=
        Lib.hid ⟨H4.out.1.below hb5, H4.out.2.1, H4.out.2.2.then (tch_below (own2 p (.slice (some ⟨g, o, none⟩) L.length cap)) hb5) (fun _ _ e => e)⟩
      have n0 := HB5.out.r0
      have n1 := HB5.out.r1
      have n2 := HB5.out.r2
      have n3 := HB5.out.r3
      have g0 := HB5.out.rf 0
      have g1 := HB5.out.rf 1
      have g2 := HB5.out.rf 2
      have g3 := HB5.out.rf 3
      clear m0 m1 m2 m3 hcp hb5 hsz4
      go_wp2
      refine bodyPost_ret (v := .tuple #[letV l, .int .i64 0]) ?_ rfl ⟨rfl, ?_⟩
      · simp [results, Try.results9, go_sem, n0, n1, n2, n3]
      · have key : ∀ (wa : World) (i : Nat) (x : Value), (NetL wa base p N sent cut v4 (L.eraseIdx k) ∧ v4.ownBlock = some g ∧ Tch w wa (own2 p (.slice (some ⟨g, o, none⟩) L.length cap))) →
            (NetL (wa.setCell ⟨w.heap.size, i, none⟩ x) base p N sent cut v4 (L.eraseIdx k) ∧ v4.ownBlock = some g ∧ Tch w (wa.setCell ⟨w.heap.size, i, none⟩ x) (own2 p (.slice (some ⟨g, o, none⟩) L.length cap))) := by
          intro wa i x ⟨a1, a2, a3⟩
          refine ⟨a1.tch (tch_set _ _ _) (fun e => by have := HLT.out.1; simp at e; omega) (fun c hc e => by rw [a2] at hc; injection hc with hc; have := HLT.out.2; simp at e; omega), a2, a3.then (tch_set _ _ _) (fun c hc e => by simp at e; omega)⟩
        exact ⟨v4, key _ _ _ (key _ _ _ (key _ _ _ (key _ _ _ H5.out)))⟩
    · have n0 := HB3.out.r0
      have n1 := HB3.out.r1
      have n2 := HB3.out.r2
      have n3 := HB3.out.r3
      have g0 := HB3.out.rf 0
      have g1 := HB3.out.rf 1
      have g2 := HB3.out.rf 2
      have g3 := HB3.out.rf 3
      go_wp2
      refine bodyPost_ret (v := .tuple #[noLet, .int .i64 140]) ?_ rfl ⟨rfl, ?_⟩
      · simp [results, Try.results9, go_sem, n0, n1, n2, n3]
      · have hbw := (((HW3.out.setCell (p := ⟨w.heap.size, 0, none⟩) (Nat.le_refl _) (.int .i64 0)).setCell (p := ⟨w.heap.size, 1, none⟩) (Nat.le_refl _) (.int .i64 0)).setCell (p := ⟨w.heap.size, 2, none⟩) (Nat.le_refl _) (.int .i64 0)).setCell (p := ⟨w.heap.size, 3, none⟩) (Nat.le_refl _) (.string ⟨#[]⟩)
        first
          | exact ⟨_, HH.out.below hbw, rfl, tch_below _ hbw⟩
          | exact ⟨_, HH3.out, rfl, tch_below _ HW3.out⟩
end Go.Proofs.Ytcahiogjmclnjaa
