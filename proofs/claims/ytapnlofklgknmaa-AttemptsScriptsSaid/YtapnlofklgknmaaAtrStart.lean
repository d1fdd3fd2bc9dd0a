/- The reference's board of attempts: Start of a task that may begin. -/
import Derived.Test.YtapnlofklgknmaaAtrNew
import Derived.Test.YtapnlofklgknmaaAtmRd
import Derived.Deep.AppendLies
namespace Go.Proofs.Ytapnlofklgknmaa
open Go.RowKit

theorem infoTry : (Try.prog.info? 45).map (fun i => (i.zero, i.size, i.bytes)) = some (some (.agg #[.int .i64 0, .int .i64 0, .int .i64 0, .int .i64 0, .int .i64 0, .bool false]), 6, 48) := by kernel_rfl
/-- what the reference's board leaves alone -/
def RF (w w' : World) : Prop := ∀ b e, Bears w b e → e ≠ 48 → e ≠ 45 → w'.heap[b]? = w.heap[b]?
theorem rows_apart4 {W : World} {b b' sz sz' n n' : Nat} {e e' : TypeId} {v v' : Value} {xs xs' : List Value} (h : W.ownsRow b e sz v n xs) (h' : W.ownsRow b' e' sz' v' n' xs') (hne : e ≠ e') : v'.ownBlock = none ∨ v'.ownBlock ≠ v.ownBlock := by
  rcases h'.2 with ⟨rfl, _⟩ | ⟨g', cap', cur', rfl, _, hg', _⟩
  · exact .inl rfl
  · refine .inr fun e1 => ?_
    rcases h.2 with ⟨rfl, _⟩ | ⟨g, cap, cur, rfl, _, hg, _⟩
    · simp [Value.ownBlock] at e1
    · obtain rfl : g' = g := by simpa [Value.ownBlock] using e1
      have := hg.symm.trans hg'
      simp at this
      exact hne this.2
theorem rb_app {B : Nat} {w w6 : World} {p : Nat} {M R lim pat : Int} {L : List Tr} {a : Option Addr} {c gb cb : Nat} {o : Obj} {t : Tr} (h : RB B w p M R lim pat L (.slice a L.length c)) (hB : B ≤ w.heap.size) (hg : (w.alloc o).grownBy w6 (Value.slice a L.length c).ownBlock)
    (hown : w6.ownsRow B 45 6 (.slice (some ⟨gb, 0, none⟩) (L.length + 1) cb) (L.length + 1) (trC L ++ trV t)) :
    RB B (w6.setCell ⟨p, 4, none⟩ (.slice (some ⟨gb, 0, none⟩) (L.length + 1) cb)) p M R lim pat (L ++ [t]) (.slice (some ⟨gb, 0, none⟩) (L.length + 1) cb) ∧ RF w (w6.setCell ⟨p, 4, none⟩ (.slice (some ⟨gb, 0, none⟩) (L.length + 1) cb)) ∧ Below B w (w6.setCell ⟨p, 4, none⟩ (.slice (some ⟨gb, 0, none⟩) (L.length + 1) cb)) := by
  have hbox := (h.box.alloc o).kept hg (rows_apart4 (h.row.alloc o) (h.box.alloc o) (by decide))
  have hty := own_bears hbox rfl
  have hpw := own_bears h.box rfl
  refine ⟨⟨(hbox.stored 4 _).1, ?_⟩, fun b e hb h1 h2 => ?_, ?_⟩
  · rw [List.length_append, trC_app]
    have e : trC [t] = trV t := by simp [trC]
    rw [e]
    exact own_same hown fun b hb => Below.heap_setCell _ _ _ _ fun eb => by
      subst eb
      exact bears_apart (own_bears hown hb) hty (by decide) rfl
  · have hbp : b ≠ p := fun eb => bears_apart hb hpw h1 eb
    refine (Below.heap_setCell _ _ _ _ hbp).trans ((hg.block b (by have := hb.lt; simp; omega) fun e2 => ?_).trans (heap_alloc_old w o hb.lt))
    exact bears_apart hb (own_bears h.row e2.symm) h2 rfl
  · exact (((Below.refl B w).alloc hB o).grown hg (by simp; omega) fun j ej => ((h.row.alloc o).lt j ej).1).setCell (p := ⟨p, 4, none⟩) (hbox.lt p rfl).1 _
section
variable {B : Nat} {w : World} {p : Nat} {m r : Nat} {lim pat : Int} {L : List Tr} {v : Value}
set_option maxHeartbeats 8000000 in
theorem rstart_yes (h : Hid (RB B w p m r lim pat L v)) (hB : B ≤ w.heap.size) (hl : L.length < 2932031007402) (hm : m ≤ 4096) (hr : r ≤ 4096) (x nd now : Int) (hok : okS m r lim L x = true) :
    Calls Try.prog 12 #[.pointer (some ⟨p, 0, none⟩), .int .i64 x, .int .i64 nd, .int .i64 now] w fun e w' => e = .returned (.int .i64 ((numL x L + 1 : Nat) : Int)) ∧ (∃ v', RB B w' p m r lim pat (L ++ [⟨x, ((numL x L + 1 : Nat) : Int), nd, mom now, 0, false⟩]) v') ∧ RF w w' ∧ Below B w w' := by
  obtain ⟨i0, hi, hz0, hz1, hz2⟩ := info_parts infoTry
  obtain ⟨a, c, rfl⟩ := h.out.form
  obtain ⟨c0, c1, c2, c3, c4⟩ := h.out.cells
  have hw1 : IntKind.i64.wrap ((m : Int) + (r : Int)) = (m : Int) + (r : Int) := IntWalk.i64_in _ (by omega)
  have hD : ∀ q, Calls Try.prog 25 #[.pointer (some ⟨p, 0, none⟩)] (w.drewN q) fun e w'' => e = .returned (.bool (deadL m r lim L)) ∧ ∃ n, w'' = w.drewN n := fun q => (rdead_any (Lib.hid (h.out.below (bel_drew w q))) (by omega) hm hr).mono fun e w'' ⟨a, n, b⟩ => ⟨a, q + n, by rw [b, World.drewN_drewN]⟩
  have hM : ∀ q, Calls Try.prog 35 #[.pointer (some ⟨p, 0, none⟩), .int .i64 x] (w.drewN q) fun e w'' => e = .returned (.bool (mayL m L x)) ∧ ∃ n, w'' = w.drewN n := fun q => (rmay_any (Lib.hid (h.out.below (bel_drew w q))) (by omega) hm x).mono fun e w'' ⟨a, b⟩ => ⟨a, q, b.symm⟩
  unfold okS at hok
  simp only [Bool.and_eq_true, decide_eq_true_eq, Bool.not_eq_true'] at hok
  obtain ⟨h0, h1, hd, hy⟩ := hok
  rw [hd] at hD
  rw [hy] at hM
  have HD := Lib.hid hD
  have HM := Lib.hid hM
  have h00 : ¬ x < 0 := by omega
  have h11 : ¬ (m : Int) + (r : Int) ≤ x := by omega
  obtain ⟨N, hN⟩ : ∃ N, N = L.length := ⟨_, rfl⟩
  have HN := Lib.hid hN
  rw [← hN] at c4 hl
  clear hd hy hD hM hN
  go_enter Try.func12, Try.ntmps12
  go_wp2_with (fail)
  go_quiet (first | exact HD.out _ | exact HM.out _)
  go_wp2
  clear h0 h1 h00 h11 hw1
  go_loopw [9, 10] (fun nv iv wr => ∃ i : Nat, i ≤ N ∧ iv = .int .i64 (i : Int) ∧ nv = .int .i64 ((numL x (L.take i) + 1 : Nat) : Int) ∧ Hid (∃ q, wr = w.drewN q)) (fun _ iv _ => N - (intOf iv).toNat)
  case atStart => exact ⟨0, Nat.zero_le _, rfl, rfl, Lib.hid ⟨_, rfl⟩⟩
  case round =>
    obtain ⟨i, hi1, rfl, rfl, HW⟩ := hrel
    obtain ⟨q2, rfl⟩ := HW.out
    clear HW
    by_cases hil : i < N
    · have hiL : i < L.length := by have := HN.out; omega
      obtain ⟨g, rfl, t0, _, _, _, _, _⟩ := h.out.try' i hiL
      have hft := num_take x L i hiL
      have hfb : numL x (L.take i) ≤ i := Nat.le_trans (num_le _ _) (by rw [List.length_take]; omega)
      obtain ⟨tt, htt⟩ : ∃ tt, tt = L[i].t := ⟨_, rfl⟩
      have hP : ofP x L[i] = decide (tt = x) := by unfold ofP; rw [htt]
      rw [hP] at hft
      rw [← htt] at t0
      obtain ⟨fl, hfl⟩ : ∃ fl, fl = numL x (L.take i) := ⟨_, rfl⟩
      rw [← hfl] at hft hfb ⊢
      have hi2 : i + 1 ≤ N := hil
      clear htt hP hfl
      by_cases e1 : tt = x
      · have HFT := Lib.hid (show numL x (L.take (i + 1)) = fl + 1 by rw [hft, decide_eq_true e1]; first | done | rfl)
        clear hft
        subst e1
        go_wp2
        go_roundw
        case rel => exact ⟨i + 1, hi2, by first | rfl | go_num, by first | (rw [HFT.out]; done) | (rw [HFT.out]; first | rfl | go_num), Lib.hid ⟨_, rfl⟩⟩
        case measure => simp [intOf]; omega
      · have HFT := Lib.hid (show numL x (L.take (i + 1)) = fl by rw [hft, decide_eq_false e1]; first | done | rfl)
        have e3 : (tt == x) = false := by simpa using e1
        clear hft
        go_wp2
        go_roundw
        case rel => exact ⟨i + 1, hi2, by first | rfl | go_num, by first | (rw [HFT.out]; done) | (rw [HFT.out]; first | rfl | go_num), Lib.hid ⟨_, rfl⟩⟩
        case measure => simp [intOf]; omega
    · obtain rfl : i = N := by omega
      have hall : numL x (L.take i) = numL x L := by rw [HN.out, List.take_length]
      rw [hall]
      have hfb : numL x L ≤ i := by rw [HN.out]; exact num_le _ _
      obtain ⟨n, hn⟩ : ∃ n, n = numL x L + 1 := ⟨_, rfl⟩
      rw [← hn]
      have HNN := Lib.hid hn
      have hnb : n ≤ i + 1 := by omega
      clear hall hn hfb
      obtain ⟨W4, hW4⟩ : ∃ W4, W4 = w.drewN q2 := ⟨_, rfl⟩
      have hx4 : Hid (RB B W4.drew p m r lim pat L (.slice a L.length c) ∧ B ≤ W4.heap.size ∧ i = L.length ∧ Below B w W4.drew ∧ RF w W4.drew) := Lib.hid (by
        rw [hW4]
        exact ⟨(h.out.below (bel_drew w q2)).below (bel_drew (w.drewN q2) 1), hB, HN.out, ⟨rfl, rfl, rfl, Nat.le_refl _, fun _ _ => rfl⟩, fun _ _ _ _ _ => rfl⟩)
      rw [← hW4]
      clear hW4
      have g1 : W4.cell? ⟨p, 4, none⟩ = some (.slice a i c) := by rw [hx4.out.2.2.1]; exact hx4.out.1.cells.2.2.2.2
      have g1' : W4.drew.cell? ⟨p, 4, none⟩ = some (.slice a i c) := g1
      have g5 := (cell_al g1).1
      have hB4 := hx4.out.2.1
      have hrw : ((W4.alloc (.cells #[.int .i64 x, .int .i64 (n : Int), .int .i64 nd, .int .i64 (mom now), .int .i64 0, .bool false] 45)).drew).ownsRow B 45 6 (.slice a i c) i (trC L) := by
        have h9 := hx4.out.1.row.alloc (.cells #[.int .i64 x, .int .i64 (n : Int), .int .i64 nd, .int .i64 (mom now), .int .i64 0, .bool false] 45)
        rw [← hx4.out.2.2.1] at h9
        exact h9
      have hnw : ∀ j v, [Value.int .i64 x, .int .i64 (n : Int), .int .i64 nd, .int .i64 (mom now), .int .i64 0, .bool false][j]? = some v → ((W4.alloc (.cells #[.int .i64 x, .int .i64 (n : Int), .int .i64 nd, .int .i64 (mom now), .int .i64 0, .bool false] 45)).drew).cell? ((⟨W4.heap.size, 0, none⟩ : Addr).add j) = some v := World.news_of_block (heap_alloc_new W4.drew _)
      have hone : ∀ y ∈ [Value.int .i64 x, .int .i64 (n : Int), .int .i64 nd, .int .i64 (mom now), .int .i64 0, .bool false], y.oneCell' = true := by
        intro y hy
        simp only [List.mem_cons, List.not_mem_nil, or_false] at hy
        rcases hy with rfl | rfl | rfl | rfl | rfl | rfl <;> rfl
      have k7 : i + 1 ≤ maxLen := by unfold maxLen; omega
      have k8 : (i + 1) * 48 ≤ 140737488355328 := by omega
      have HCL := Lib.hid (show ∀ W, Calls Try.prog 32 #[.int .i64 now, .int .i64 0, .int .i64 1099511627776] W fun e w' => e = .returned (.int .i64 (mom now)) ∧ W = w' from fun W => rclamp_any now 0 1099511627776 (by decide) W)
      go_upto_region 9 with (fail)
      go_region_law (first
        | (refine step_append_lies _ (by rfl) (.tmp 61) (.tmp 68) 46 (by rfl) B 45 i0 _ 6 48 Try.underlying46 hi hz0 hz1 hz2 rfl (by decide) _ i (trC L) (by rfl) hrw ⟨W4.heap.size, 0, none⟩ 1 1 [.int .i64 x, .int .i64 (n : Int), .int .i64 nd, .int .i64 (mom now), .int .i64 0, .bool false] (by rfl) rfl hnw hone (by decide) k7 k8 (by simp; omega) (W4.heap.size + 1) (by simp) ?_
           intro gb cb w6 hown' hg6 hat6 _
           have HM0 := Lib.hid (And.intro hown' hg6)
           have hbx0 : ((W4.alloc (.cells #[.int .i64 x, .int .i64 (n : Int), .int .i64 nd, .int .i64 (mom now), .int .i64 0, .bool false] 45)).drew).ownsRow B 48 5 (.slice (some ⟨p, 0, none⟩) 1 1) 1 _ := hx4.out.1.box.alloc _
           have hgk := hbx0.kept hg6 (rows_apart4 hrw hbx0 (by decide))
           have z1 : w6.cell? ⟨p, 4, none⟩ = some (.slice a L.length c) := hgk.cellAt 4 (by decide)
           have z2 : w6.frozen? ⟨p, 4, none⟩ = false := hgk.frozenAt 4
           clear hgk hbx0 hown' hg6 hat6)
        | (go_simp; go_at_call 32; with_reducible refine (HCL.out _).mono ?_; rintro e wa ⟨rfl, rfl⟩))
      all_goals
        have HM := Lib.hid (show (∃ v', RB B (w6.setCell ⟨p, 4, none⟩ (.slice (some ⟨gb, 0, none⟩) (i + 1) cb)) p m r lim pat (L ++ [⟨x, (n : Int), nd, mom now, 0, false⟩]) v') ∧ RF w (w6.setCell ⟨p, 4, none⟩ (.slice (some ⟨gb, 0, none⟩) (i + 1) cb)) ∧ Below B w (w6.setCell ⟨p, 4, none⟩ (.slice (some ⟨gb, 0, none⟩) (i + 1) cb)) from by
          obtain ⟨m1, m2⟩ := HM0.out
          have e := hx4.out.2.2.1
          rw [e] at m1 m2 ⊢
          have m2 : (W4.drew.alloc (.cells #[.int .i64 x, .int .i64 (n : Int), .int .i64 nd, .int .i64 (mom now), .int .i64 0, .bool false] 45)).grownBy w6 (Value.slice a L.length c).ownBlock := m2
          obtain ⟨r1, r2, r3⟩ := rb_app (t := ⟨x, (n : Int), nd, mom now, 0, false⟩) hx4.out.1 hx4.out.2.1 m2 m1
          refine ⟨⟨_, r1⟩, fun b e hb h1 h2 => ?_, hx4.out.2.2.2.1.trans r3⟩
          have q1 := hx4.out.2.2.2.2 b e hb h1 h2
          exact (r2 b e (by obtain ⟨cs, q⟩ := hb; exact ⟨cs, q1.trans q⟩) h1 h2).trans q1)
        clear z1 z2 HM0 g1 g1' g5 hone hrw hnw
        go_wp2
        go_ret
        rw [← HNN.out]
        exact ⟨rfl, HM.out⟩
end
end Go.Proofs.Ytapnlofklgknmaa
