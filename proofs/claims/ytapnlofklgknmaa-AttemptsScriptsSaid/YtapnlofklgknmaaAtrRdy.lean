/- The reference's board of attempts: Ready. -/
import Derived.Test.YtapnlofklgknmaaAtrLost
import Derived.Test.YtapnlofklgknmaaAtmKT
import Derived.Deep.AppendLies
namespace Go.Proofs.Ytapnlofklgknmaa
open Go.RowKit

def runP (x : Int) (u : Tr) : Bool := decide (u.t = x) && decide (u.st = 0)
/-- how many run, and the last one's place -/
def runN (x : Int) (L : List Tr) : Nat := L.countP (runP x)
def lastR (x : Int) : List Tr → Nat → Nat
  | _, 0 => 0
  | L, k + 1 => match L[k]? with | some u => if runP x u then k else lastR x L k | none => lastR x L k
theorem run_take (x : Int) (L : List Tr) (i : Nat) (hi : i < L.length) : runN x (L.take (i + 1)) = runN x (L.take i) + (if runP x L[i] = true then 1 else 0) := by
  unfold runN
  rw [List.take_add_one, List.getElem?_eq_getElem hi, List.countP_append]
  simp [List.countP_cons]
theorem last_succ (x : Int) (L : List Tr) (k : Nat) (hk : k < L.length) : lastR x L (k + 1) = if runP x L[k] = true then k else lastR x L k := by
  show (match L[k]? with | some u => if runP x u then k else lastR x L k | none => lastR x L k) = _
  rw [List.getElem?_eq_getElem hk]
theorem last_le (x : Int) (L : List Tr) : ∀ k, k ≤ L.length → lastR x L k ≤ k
  | 0, _ => Nat.le_refl _
  | k + 1, h => by
    rw [last_succ x L k (by omega)]
    have := last_le x L k (by omega)
    split <;> omega
theorem last_lt (x : Int) (L : List Tr) : ∀ k, k ≤ L.length → 0 < runN x (L.take k) → lastR x L k < k
  | 0, _, h => by simp [runN] at h
  | k + 1, hk, h => by
    rw [last_succ x L k (by omega)]
    by_cases e : runP x (L[k]'(by omega)) = true
    · rw [if_pos e]; omega
    · rw [if_neg e]
      rw [run_take x L k (by omega), if_neg e] at h
      have := last_lt x L k (by omega) (by omega)
      omega
def idleP (m : Nat) (L : List Tr) (t : Nat) : Bool := mayL m L (t : Int) && decide (runN (t : Int) L = 0)
def slowP (m : Nat) (pat : Int) (L : List Tr) (nd now : Int) (t : Nat) : Bool := mayL m L (t : Int) && (decide (runN (t : Int) L = 1) && (match L[lastR (t : Int) L L.length]? with | some u => !decide (u.nd = nd) && decide (u.bg ≤ mom now - pat) | none => false))
def rdyL (m r : Nat) (lim pat : Int) (L : List Tr) (nd now : Int) : List Nat := if deadL m r lim L then [] else if (thK (idleP m L) (m + r)).length > 0 then thK (idleP m L) (m + r) else thK (slowP m pat L nd now) (m + r)
theorem own_slice_int {W : World} {B n sz : Nat} {e : TypeId} {v : Value} {xs : List Value} (h : W.ownsRow B e sz v n xs) : ∃ A c, v = .slice A n c := by
  rcases h.2 with ⟨rfl, h0⟩ | ⟨g, cap, cur, rfl, _⟩
  · exact ⟨none, 0, by rw [h0]⟩
  · exact ⟨_, _, rfl⟩
section
variable {B : Nat} {w : World} {p : Nat} {m r : Nat} {lim pat : Int} {L : List Tr} {v : Value}
set_option maxRecDepth 100000 in
set_option maxHeartbeats 8000000 in
theorem rready_any (h : Hid (RB B w p m r lim pat L v)) (hl : L.length ≤ 4398046511104) (hm : m ≤ 4096) (hr : r ≤ 4096) (hp : 1 ≤ pat ∧ pat ≤ 1099511627776) (nd now : Int) :
    Calls Try.prog 22 #[.pointer (some ⟨p, 0, none⟩), .int .i64 nd, .int .i64 now] w fun e w' => ∃ u, e = .returned u ∧ w'.ownsRow w.heap.size 3 1 u (rdyL m r lim pat L nd now).length (intL (rdyL m r lim pat L nd now)) ∧ Below w.heap.size w w' := by
  obtain ⟨ad, c, rfl⟩ := h.out.form
  obtain ⟨N, hN⟩ : ∃ N, N = L.length := ⟨_, rfl⟩
  have HN := Lib.hid hN
  obtain ⟨c0, c1, c2, c3, c4⟩ := h.out.cells
  rw [← hN] at c4
  clear hN
  have hdd := rdead_any h hl hm hr
  by_cases hd : deadL m r lim L = true
  · rw [show rdyL m r lim pat L nd now = [] by unfold rdyL; rw [if_pos hd]]
    rw [hd] at hdd
    have HDD := Lib.hid hdd
    clear hdd hd
    go_enter Try.func22, Try.ntmps22
    go_wp2_with (fail)
    refine HDD.out.mono ?_
    rintro e w' ⟨rfl, q0, rfl⟩
    go_wp2
    go_ret
    exact ⟨_, rfl, World.ownsRow_nil _ _ _ _, bel_drew w q0⟩
  · have hd : deadL m r lim L = false := by simpa using hd
    obtain ⟨Z, hZ⟩ : ∃ Z, Z = rdyL m r lim pat L nd now := ⟨_, rfl⟩
    have HZ := Lib.hid (show Z = if (thK (idleP m L) (m + r)).length > 0 then thK (idleP m L) (m + r) else thK (slowP m pat L nd now) (m + r) by rw [hZ]; unfold rdyL; rw [if_neg (by rw [hd]; decide)])
    rw [← hZ]
    rw [hd] at hdd
    have HDD := Lib.hid hdd
    clear hdd hd hZ
    go_enter Try.func22, Try.ntmps22
    go_wp2_with (fail)
    refine HDD.out.mono ?_
    rintro e w' ⟨rfl, q0, rfl⟩
    obtain ⟨B0, hB0⟩ : ∃ B0, B0 = w.heap.size := ⟨_, rfl⟩
    have HB0 := Lib.hid hB0
    clear hB0
    obtain ⟨i0, hi, hz0, hz1, hz2⟩ := info_parts infoInt
    go_wp2
    go_loopw [7, 8, 9] (fun vi vs tv wr => ∃ t : Nat, t ≤ m + r ∧ tv = .int .i64 (t : Int) ∧ Hid (wr.ownsRow B0 3 1 vi (thK (idleP m L) t).length (intL (thK (idleP m L) t)) ∧ wr.ownsRow B0 3 1 vs (thK (slowP m pat L nd now) t).length (intL (thK (slowP m pat L nd now) t)) ∧ (∀ k, vi.ownBlock = some k → vs.ownBlock ≠ some k) ∧ Below B0 w wr)) (fun _ _ tv _ => m + r - (intOf tv).toNat)
    case atStart => exact ⟨0, Nat.zero_le _, rfl, Lib.hid ⟨World.ownsRow_nil _ _ _ _, World.ownsRow_nil _ _ _ _, fun k e => by simp [Value.ownBlock] at e, by rw [HB0.out]; exact bel_drew w q0⟩⟩
    case round =>
      obtain ⟨t, ht, rfl, HI⟩ := hrel
      have hw1 : IntKind.i64.wrap ((m : Int) + (r : Int)) = (m : Int) + (r : Int) := IntWalk.i64_in _ (by omega)
      have hbel : Below w.heap.size w wr := by rw [← HB0.out]; exact HI.out.2.2.2
      have hrb := h.out.below hbel
      have HRB := Lib.hid hrb
      have c0' := hrb.cells.1
      have c1' := hrb.cells.2.1
      by_cases hlt : t < m + r
      · have hw2 : (t : Int) < (m : Int) + (r : Int) := by omega
        have ht1 : t + 1 ≤ m + r := hlt
        clear hbel hrb
        go_wp2_with (fail)
        go_quiet (fail)
        obtain ⟨W2, hW2⟩ : ∃ W2, W2 = wr.drewN nq := ⟨_, rfl⟩
        have HI2 := Lib.hid (show W2.ownsRow B0 3 1 u7 (thK (idleP m L) t).length (intL (thK (idleP m L) t)) ∧ W2.ownsRow B0 3 1 u8 (thK (slowP m pat L nd now) t).length (intL (thK (slowP m pat L nd now) t)) ∧ (∀ k, u7.ownBlock = some k → u8.ownBlock ≠ some k) ∧ Below B0 w W2 from by
          rw [hW2]
          obtain ⟨q1, q2, q3, q4⟩ := HI.out
          exact ⟨own_same q1 fun _ _ => rfl, own_same q2 fun _ _ => rfl, q3, q4.os, q4.tape, q4.output, q4.size, q4.block⟩)
        have HR2 := Lib.hid (show RB B W2 p m r lim pat L (.slice ad L.length c) by rw [hW2]; exact HRB.out.below (bel_drew wr nq))
        rw [← hW2]
        clear hW2 HI HRB c0' c1'
        go_wp2_with (fail)
        have hmy := rmay_any HR2 hl hm (t : Int)
        cases hmk : mayL m L (t : Int)
        · rw [hmk] at hmy
          have e1 : thK (idleP m L) (t + 1) = thK (idleP m L) t := by simp [thK, List.range_succ, idleP, hmk]
          have e2 : thK (slowP m pat L nd now) (t + 1) = thK (slowP m pat L nd now) t := by simp [thK, List.range_succ, slowP, hmk]
          have HN2 := Lib.hid (show W2.ownsRow B0 3 1 u7 (thK (idleP m L) (t + 1)).length (intL (thK (idleP m L) (t + 1))) ∧ W2.ownsRow B0 3 1 u8 (thK (slowP m pat L nd now) (t + 1)).length (intL (thK (slowP m pat L nd now) (t + 1))) ∧ (∀ k, u7.ownBlock = some k → u8.ownBlock ≠ some k) ∧ Below B0 w W2 by rw [e1, e2]; exact HI2.out)
          clear e1 e2 HI2
          refine hmy.mono ?_
          rintro e w' ⟨rfl, rfl⟩
          go_wp2
          go_roundw
          case rel => exact ⟨t + 1, ht1, by first | rfl | go_num, HN2⟩
          case measure => simp [intOf]; omega
        · rw [hmk] at hmy
          have HMK := Lib.hid hmk
          clear hmk
          refine hmy.mono ?_
          rintro e w' ⟨rfl, rfl⟩
          have c42 := HR2.out.cells.2.2.2.2
          rw [← HN.out] at c42
          go_wp2
          go_loopw [10, 11, 12] (fun nv lv iv wr => ∃ i : Nat, i ≤ N ∧ iv = .int .i64 (i : Int) ∧ nv = .int .i64 ((runN (t : Int) (L.take i) : Nat) : Int) ∧ lv = .int .i64 ((lastR (t : Int) L i : Nat) : Int) ∧ wr = W2) (fun _ _ iv _ => N - (intOf iv).toNat)
          case atStart => exact ⟨0, Nat.zero_le _, rfl, rfl, rfl, rfl⟩
          case round =>
            obtain ⟨i, hi1, rfl, rfl, rfl, rfl⟩ := hrel
            by_cases hil : i < N
            · have hiL : i < L.length := by have := HN.out; omega
              obtain ⟨g, rfl, t0, _, _, _, t4, _⟩ := HR2.out.try' i hiL
              have hrt := run_take (t : Int) L i hiL
              have hls := last_succ (t : Int) L i hiL
              have hrb := Nat.le_trans (List.countP_le_length (p := runP (t : Int)) (l := L.take i)) (show (L.take i).length ≤ i by rw [List.length_take]; omega)
              obtain ⟨X, hX⟩ : ∃ X, X = L[i].t := ⟨_, rfl⟩
              obtain ⟨S, hS⟩ : ∃ S, S = L[i].st := ⟨_, rfl⟩
              have hP : runP (t : Int) L[i] = (decide (X = (t : Int)) && decide (S = 0)) := by unfold runP; rw [hX, hS]
              rw [hP] at hrt hls
              rw [← hX] at t0
              rw [← hS] at t4
              obtain ⟨fl, hfl⟩ : ∃ fl, fl = runN (t : Int) (L.take i) := ⟨_, rfl⟩
              obtain ⟨la, hla⟩ : ∃ la, la = lastR (t : Int) L i := ⟨_, rfl⟩
              have hfb : fl ≤ i := by rw [hfl]; exact hrb
              rw [← hfl] at hrt ⊢
              rw [← hla] at hls ⊢
              have hi2 : i + 1 ≤ N := hil
              clear hrb hX hS hP hfl hla
              by_cases e1 : X = (t : Int)
              · by_cases e2 : S = 0
                · rw [decide_eq_true e1, decide_eq_true e2] at hrt hls
                  have HRT := Lib.hid (show runN (t : Int) (L.take (i + 1)) = fl + 1 from hrt)
                  have HLS := Lib.hid (show lastR (t : Int) L (i + 1) = i from hls)
                  clear hrt hls
                  subst e1 e2
                  go_wp2
                  go_roundw
                  case rel => exact ⟨i + 1, hi2, by first | rfl | go_num, by first | (rw [HRT.out]; done) | (rw [HRT.out]; first | rfl | go_num), by rw [HLS.out], by first | rfl | trivial⟩
                  case measure => simp [intOf]; omega
                · rw [decide_eq_true e1, decide_eq_false e2] at hrt hls
                  have HRT := Lib.hid (show runN (t : Int) (L.take (i + 1)) = fl from hrt)
                  have HLS := Lib.hid (show lastR (t : Int) L (i + 1) = la from hls)
                  have e3 : (S == 0) = false := by simpa using e2
                  clear hrt hls
                  subst e1
                  go_wp2
                  go_roundw
                  case rel => exact ⟨i + 1, hi2, by first | rfl | go_num, by rw [HRT.out], by rw [HLS.out], by first | rfl | trivial⟩
                  case measure => simp [intOf]; omega
              · rw [decide_eq_false e1] at hrt hls
                have HRT := Lib.hid (show runN (t : Int) (L.take (i + 1)) = fl from hrt)
                have HLS := Lib.hid (show lastR (t : Int) L (i + 1) = la from hls)
                have e3 : (X == (t : Int)) = false := by simpa using e1
                clear hrt hls
                go_wp2
                go_roundw
                case rel => exact ⟨i + 1, hi2, by first | rfl | go_num, by rw [HRT.out], by rw [HLS.out], by first | rfl | trivial⟩
                case measure => simp [intOf]; omega
            · obtain rfl : i = N := by omega
              have htk : L.take i = L := by rw [HN.out, List.take_length]
              rw [htk]
              obtain ⟨la, hla⟩ : ∃ la, la = lastR (t : Int) L i := ⟨_, rfl⟩
              have hls : la = lastR (t : Int) L L.length := by rw [hla, HN.out]
              rw [← hla]
              have HLA := Lib.hid hls
              obtain ⟨R, hR⟩ : ∃ R, R = runN (t : Int) L := ⟨_, rfl⟩
              rw [← hR]
              have HRN := Lib.hid hR
              have hRb : R ≤ i := by rw [hR, HN.out]; exact List.countP_le_length
              have hB2 : B0 ≤ wr.heap.size := by have := HI2.out.2.2.2.size; have := HB0.out; omega
              clear hla hls hR htk
              by_cases hR0 : R = 0
              · have e1 : thK (idleP m L) (t + 1) = thK (idleP m L) t ++ [t] := by
                  have : idleP m L t = true := by unfold idleP; rw [HMK.out, ← HRN.out, hR0]; rfl
                  simp [thK, List.range_succ, this]
                have e2 : thK (slowP m pat L nd now) (t + 1) = thK (slowP m pat L nd now) t := by
                  have : slowP m pat L nd now t = false := by unfold slowP; rw [← HRN.out, hR0]; simp
                  simp [thK, List.range_succ, this]
                have HE1 := Lib.hid e1
                have HE2 := Lib.hid e2
                clear e1 e2
                subst hR0
                obtain ⟨k, hk⟩ : ∃ k, k = (thK (idleP m L) t).length := ⟨_, rfl⟩
                have hkb : k ≤ t := by rw [hk]; exact thK_len _ _
                have HKK := Lib.hid hk
                have hown : wr.ownsRow B0 3 1 u7 k (intL (thK (idleP m L) t)) := by rw [hk]; exact HI2.out.1
                have k3 : k + 1 ≤ maxLen := by unfold maxLen; omega
                have k4 : (k + 1) * 8 ≤ 140737488355328 := by omega
                have hnw : ∀ j v, [Value.int .i64 (t : Int)][j]? = some v → (wr.alloc (.cells #[.int .i64 (t : Int)] 3)).cell? ((⟨wr.heap.size, 0, none⟩ : Addr).add j) = some v := World.news_of_block (heap_alloc_new wr _)
                clear hk
                go_wp2_with (at_builtin; refine wpList_append_lies _ rfl _ _ 27 rfl B0 3 i0 _ 1 8 Try.underlying27 hi hz0 hz1 hz2 rfl (by decide) _ _ _ rfl (hown.alloc _) ⟨wr.heap.size, 0, none⟩ 1 1 [.int .i64 (t : Int)] rfl rfl hnw (by simp [Value.oneCell']) (by decide) k3 k4 (by simp; omega) (wr.heap.size + 1) (by simp) ?_)
                intro gb cb w6 hown' hg6 hat6 _
                have HF : Hid (w6.ownsRow B0 3 1 (.slice (some ⟨gb, 0, none⟩) (k + 1) cb) (thK (idleP m L) (t + 1)).length (intL (thK (idleP m L) (t + 1))) ∧ w6.ownsRow B0 3 1 u8 (thK (slowP m pat L nd now) (t + 1)).length (intL (thK (slowP m pat L nd now) (t + 1))) ∧ (∀ j, (Value.slice (some ⟨gb, 0, none⟩) (k + 1) cb).ownBlock = some j → u8.ownBlock ≠ some j) ∧ Below B0 w w6) := Lib.hid (by
                  obtain ⟨q1, q2, q3, q4⟩ := HI2.out
                  have q2a := q2.alloc (.cells #[.int .i64 (t : Int)] 3)
                  have hne : u8.ownBlock = none ∨ u8.ownBlock ≠ u7.ownBlock := by
                    cases hv : u8.ownBlock with
                    | none => exact .inl rfl
                    | some j => exact .inr fun e => q3 j e.symm hv
                  refine ⟨?_, ?_, ?_, ?_⟩
                  · rw [HE1.out]
                    have el : (thK (idleP m L) t ++ [t]).length = k + 1 := by rw [HKK.out]; simp
                    rw [el]
                    have eil : intL (thK (idleP m L) t ++ [t]) = intL (thK (idleP m L) t) ++ [.int .i64 (t : Int)] := by simp [intL]
                    rw [eil]
                    exact hown'
                  · rw [HE2.out]
                    exact q2a.kept hg6 hne
                  · intro j hj hu
                    obtain rfl : gb = j := by simpa [Value.ownBlock] using hj
                    rcases hat6 with h | h
                    · exact q3 gb h hu
                    · have := (World.ownsRow.lt q2 gb hu).2
                      omega
                  · refine (q4.alloc hB2 _).grown hg6 (by simp; omega) (fun j ej => (World.ownsRow.lt hown j ej).1))
                clear hown hown' hg6 hat6 HI2
                go_wp2
                go_roundw
                case rel => exact ⟨t + 1, ht1, by first | rfl | go_num, HF⟩
                case measure => simp [intOf]; omega
              · have HE1 := Lib.hid (show thK (idleP m L) (t + 1) = thK (idleP m L) t by
                  have : idleP m L t = false := by unfold idleP; rw [← HRN.out]; simp [hR0]
                  simp [thK, List.range_succ, this])
                have hrr0 : ((R : Int) == 0) = false := by simp; omega
                by_cases hR1 : R = 1
                · have hla : la < i := by
                    have h := last_lt (t : Int) L i (by rw [HN.out]; exact Nat.le_refl _) (by rw [HN.out, List.take_length, ← HRN.out]; omega)
                    rw [HLA.out, ← HN.out]; exact h
                  have hlaL : la < L.length := by have := HN.out; omega
                  obtain ⟨g, rfl, _, _, x2, x3, _, _⟩ := HR2.out.try' la hlaL
                  have c3 := HR2.out.cells.2.2.2.1
                  obtain ⟨nd', hnd'⟩ : ∃ nd', nd' = L[la].nd := ⟨_, rfl⟩
                  obtain ⟨bg, hbg⟩ : ∃ bg, bg = L[la].bg := ⟨_, rfl⟩
                  rw [← hnd'] at x2
                  rw [← hbg] at x3
                  have hslow : slowP m pat L nd now t = (!decide (nd' = nd) && decide (bg ≤ mom now - pat)) := by
                    unfold slowP
                    rw [HMK.out, ← HRN.out, hR1, ← HLA.out, List.getElem?_eq_getElem hlaL, hnd', hbg]
                    simp
                  have HSL := Lib.hid hslow
                  have hmb := mom_b now
                  have HCL := Lib.hid (show ∀ q, Calls Try.prog 32 #[.int .i64 now, .int .i64 0, .int .i64 1099511627776] (wr.drewN q) fun e w' => e = .returned (.int .i64 (mom now)) ∧ ∃ n, w' = wr.drewN n from fun q => (rclamp_any now 0 1099511627776 (by decide) (wr.drewN q)).mono fun _ _ ⟨he, hw⟩ => ⟨he, q, hw.symm⟩)
                  clear hnd' hbg hslow hR0
                  subst hR1
                  by_cases e1 : nd' = nd
                  · have HE2 := Lib.hid (show thK (slowP m pat L nd now) (t + 1) = thK (slowP m pat L nd now) t by
                      have : slowP m pat L nd now t = false := by rw [HSL.out, decide_eq_true e1]; rfl
                      simp [thK, List.range_succ, this])
                    have e3 : (nd' == nd) = true := by simpa using e1
                    have e4 : (nd' != nd) = false := by simp [e1]
                    clear e1
                    have HN2 := Lib.hid (show wr.ownsRow B0 3 1 u7 (thK (idleP m L) (t + 1)).length (intL (thK (idleP m L) (t + 1))) ∧ wr.ownsRow B0 3 1 u8 (thK (slowP m pat L nd now) (t + 1)).length (intL (thK (slowP m pat L nd now) (t + 1))) ∧ (∀ k, u7.ownBlock = some k → u8.ownBlock ≠ some k) ∧ Below B0 w wr by rw [HE1.out, HE2.out]; exact HI2.out)
                    have HND := Lib.hid (show ∀ q, (wr.drewN q).ownsRow B0 3 1 u7 (thK (idleP m L) (t + 1)).length (intL (thK (idleP m L) (t + 1))) ∧ (wr.drewN q).ownsRow B0 3 1 u8 (thK (slowP m pat L nd now) (t + 1)).length (intL (thK (slowP m pat L nd now) (t + 1))) ∧ (∀ k, u7.ownBlock = some k → u8.ownBlock ≠ some k) ∧ Below B0 w (wr.drewN q) from fun q => by
                      obtain ⟨q1, q2, q3, q4⟩ := HN2.out
                      exact ⟨own_same q1 fun _ _ => rfl, own_same q2 fun _ _ => rfl, q3, q4.os, q4.tape, q4.output, q4.size, q4.block⟩)
                    clear HI2 HN2
                    go_wp2_with (fail)
                    go_quiet (exact HCL.out _)
                    go_wp2
                    go_roundw
                    case rel => exact ⟨t + 1, ht1, by first | rfl | go_num, Lib.hid (HND.out _)⟩
                    case measure => simp [intOf]; omega
                  · have e3 : (nd' == nd) = false := by simpa using e1
                    have e4 : (nd' != nd) = true := by simpa using e1
                    by_cases e2 : bg ≤ mom now - pat
                    · have e5 : decide (bg ≤ mom now - pat) = true := decide_eq_true e2
                      have hsl : slowP m pat L nd now t = true := by rw [HSL.out, decide_eq_false e1, decide_eq_true e2]; rfl
                      have HE2 := Lib.hid (show thK (slowP m pat L nd now) (t + 1) = thK (slowP m pat L nd now) t ++ [t] by simp [thK, List.range_succ, hsl])
                      clear e1 e2 hsl
                      obtain ⟨k, hk⟩ : ∃ k, k = (thK (slowP m pat L nd now) t).length := ⟨_, rfl⟩
                      have hkb : k ≤ t := by rw [hk]; exact thK_len _ _
                      have HKK := Lib.hid hk
                      have k3 : k + 1 ≤ maxLen := by unfold maxLen; omega
                      have k4 : (k + 1) * 8 ≤ 140737488355328 := by omega
                      clear hk
                      go_wp2_with (fail)
                      go_quiet (exact HCL.out _)
                      obtain ⟨W3, hW3⟩ : ∃ W3, W3 = wr.drewN nq := ⟨_, rfl⟩
                      have HI3 := Lib.hid (show W3.ownsRow B0 3 1 u7 (thK (idleP m L) t).length (intL (thK (idleP m L) t)) ∧ W3.ownsRow B0 3 1 u8 k (intL (thK (slowP m pat L nd now) t)) ∧ (∀ k, u7.ownBlock = some k → u8.ownBlock ≠ some k) ∧ Below B0 w W3 ∧ B0 ≤ W3.heap.size from by
                        rw [hW3]
                        obtain ⟨q1, q2, q3, q4⟩ := HI2.out
                        rw [← HKK.out] at q2
                        exact ⟨own_same q1 fun _ _ => rfl, own_same q2 fun _ _ => rfl, q3, ⟨q4.os, q4.tape, q4.output, q4.size, q4.block⟩, hB2⟩)
                      rw [← hW3]
                      have hown := HI3.out.2.1
                      have hB3 := HI3.out.2.2.2.2
                      have hnw : ∀ j v, [Value.int .i64 (t : Int)][j]? = some v → (W3.alloc (.cells #[.int .i64 (t : Int)] 3)).cell? ((⟨W3.heap.size, 0, none⟩ : Addr).add j) = some v := World.news_of_block (heap_alloc_new W3 _)
                      clear hW3 HI2 x2 x3 c3 hB2
                      go_wp2_with (at_builtin; refine wpList_append_lies _ rfl _ _ 27 rfl B0 3 i0 _ 1 8 Try.underlying27 hi hz0 hz1 hz2 rfl (by decide) _ _ _ rfl (hown.alloc _) ⟨W3.heap.size, 0, none⟩ 1 1 [.int .i64 (t : Int)] rfl rfl hnw (by simp [Value.oneCell']) (by decide) k3 k4 (by simp; omega) (W3.heap.size + 1) (by simp) ?_)
                      intro gb cb w6 hown' hg6 hat6 _
                      have HF : Hid (w6.ownsRow B0 3 1 u7 (thK (idleP m L) (t + 1)).length (intL (thK (idleP m L) (t + 1))) ∧ w6.ownsRow B0 3 1 (.slice (some ⟨gb, 0, none⟩) (k + 1) cb) (thK (slowP m pat L nd now) (t + 1)).length (intL (thK (slowP m pat L nd now) (t + 1))) ∧ (∀ j, u7.ownBlock = some j → (Value.slice (some ⟨gb, 0, none⟩) (k + 1) cb).ownBlock ≠ some j) ∧ Below B0 w w6) := Lib.hid (by
                        obtain ⟨q1, q2, q3, q4, _⟩ := HI3.out
                        have q1a := q1.alloc (.cells #[.int .i64 (t : Int)] 3)
                        have hne : u7.ownBlock = none ∨ u7.ownBlock ≠ u8.ownBlock := by
                          cases hv : u7.ownBlock with
                          | none => exact .inl rfl
                          | some j => exact .inr fun e => q3 j hv e.symm
                        refine ⟨?_, ?_, ?_, ?_⟩
                        · rw [HE1.out]
                          exact q1a.kept hg6 hne
                        · rw [HE2.out]
                          have el : (thK (slowP m pat L nd now) t ++ [t]).length = k + 1 := by rw [HKK.out]; simp
                          rw [el]
                          have eil : intL (thK (slowP m pat L nd now) t ++ [t]) = intL (thK (slowP m pat L nd now) t) ++ [.int .i64 (t : Int)] := by simp [intL]
                          rw [eil]
                          exact hown'
                        · intro j hj hu
                          obtain rfl : gb = j := by simpa [Value.ownBlock] using hu
                          rcases hat6 with h | h
                          · exact q3 gb hj h
                          · have := (World.ownsRow.lt q1 gb hj).2
                            omega
                        · refine (q4.alloc hB3 _).grown hg6 (by simp; omega) (fun j ej => (World.ownsRow.lt hown j ej).1))
                      clear hown hown' hg6 hat6 HI3
                      go_wp2
                      go_roundw
                      case rel => exact ⟨t + 1, ht1, by first | rfl | go_num, HF⟩
                      case measure => simp [intOf]; omega
                    · have e5 : decide (bg ≤ mom now - pat) = false := decide_eq_false e2
                      have HE2 := Lib.hid (show thK (slowP m pat L nd now) (t + 1) = thK (slowP m pat L nd now) t by
                        have : slowP m pat L nd now t = false := by rw [HSL.out, decide_eq_false e2]; simp
                        simp [thK, List.range_succ, this])
                      clear e1 e2
                      have HN2 := Lib.hid (show wr.ownsRow B0 3 1 u7 (thK (idleP m L) (t + 1)).length (intL (thK (idleP m L) (t + 1))) ∧ wr.ownsRow B0 3 1 u8 (thK (slowP m pat L nd now) (t + 1)).length (intL (thK (slowP m pat L nd now) (t + 1))) ∧ (∀ k, u7.ownBlock = some k → u8.ownBlock ≠ some k) ∧ Below B0 w wr by rw [HE1.out, HE2.out]; exact HI2.out)
                      have HND := Lib.hid (show ∀ q, (wr.drewN q).ownsRow B0 3 1 u7 (thK (idleP m L) (t + 1)).length (intL (thK (idleP m L) (t + 1))) ∧ (wr.drewN q).ownsRow B0 3 1 u8 (thK (slowP m pat L nd now) (t + 1)).length (intL (thK (slowP m pat L nd now) (t + 1))) ∧ (∀ k, u7.ownBlock = some k → u8.ownBlock ≠ some k) ∧ Below B0 w (wr.drewN q) from fun q => by
                        obtain ⟨q1, q2, q3, q4⟩ := HN2.out
                        exact ⟨own_same q1 fun _ _ => rfl, own_same q2 fun _ _ => rfl, q3, q4.os, q4.tape, q4.output, q4.size, q4.block⟩)
                      clear HI2 HN2
                      go_wp2_with (fail)
                      go_quiet (exact HCL.out _)
                      go_wp2
                      go_roundw
                      case rel => exact ⟨t + 1, ht1, by first | rfl | go_num, Lib.hid (HND.out _)⟩
                      case measure => simp [intOf]; omega
                · have hrr1 : ((R : Int) == 1) = false := by simp; omega
                  have HE2 := Lib.hid (show thK (slowP m pat L nd now) (t + 1) = thK (slowP m pat L nd now) t by
                    have : slowP m pat L nd now t = false := by unfold slowP; rw [← HRN.out]; simp [hR1]
                    simp [thK, List.range_succ, this])
                  have HN2 := Lib.hid (show wr.ownsRow B0 3 1 u7 (thK (idleP m L) (t + 1)).length (intL (thK (idleP m L) (t + 1))) ∧ wr.ownsRow B0 3 1 u8 (thK (slowP m pat L nd now) (t + 1)).length (intL (thK (slowP m pat L nd now) (t + 1))) ∧ (∀ k, u7.ownBlock = some k → u8.ownBlock ≠ some k) ∧ Below B0 w wr by rw [HE1.out, HE2.out]; exact HI2.out)
                  have HND := Lib.hid (show ∀ q, (wr.drewN q).ownsRow B0 3 1 u7 (thK (idleP m L) (t + 1)).length (intL (thK (idleP m L) (t + 1))) ∧ (wr.drewN q).ownsRow B0 3 1 u8 (thK (slowP m pat L nd now) (t + 1)).length (intL (thK (slowP m pat L nd now) (t + 1))) ∧ (∀ k, u7.ownBlock = some k → u8.ownBlock ≠ some k) ∧ Below B0 w (wr.drewN q) from fun q => by
                    obtain ⟨q1, q2, q3, q4⟩ := HN2.out
                    exact ⟨own_same q1 fun _ _ => rfl, own_same q2 fun _ _ => rfl, q3, q4.os, q4.tape, q4.output, q4.size, q4.block⟩)
                  clear HI2 HN2
                  go_wp2_with (fail)
                  go_quiet (fail)
                  go_wp2
                  go_roundw
                  case rel => exact ⟨t + 1, ht1, by first | rfl | go_num, Lib.hid (HND.out _)⟩
                  case measure => simp [intOf]; omega
      · obtain rfl : t = m + r := by omega
        have hw2 : ¬ (((m + r : Nat) : Int)) < (m : Int) + (r : Int) := by omega
        obtain ⟨ai, ci, hvi⟩ := own_slice_int HI.out.1
        clear hbel hrb
        obtain ⟨asl, csl, hvs⟩ := own_slice_int HI.out.2.1
        subst hvi hvs
        have hrd := HZ.out
        have HBW := Lib.hid (show Below w.heap.size w wr by rw [← HB0.out]; exact HI.out.2.2.2)
        by_cases hz : (thK (idleP m L) (m + r)).length > 0
        · rw [if_pos hz] at hrd
          have HF := Lib.hid (show wr.ownsRow w.heap.size 3 1 (.slice ai (thK (idleP m L) (m + r)).length ci) Z.length (intL Z) by rw [hrd, ← HB0.out]; exact HI.out.1)
          obtain ⟨k, hk⟩ : ∃ k, k = (thK (idleP m L) (m + r)).length := ⟨_, rfl⟩
          rw [← hk] at HF hz ⊢
          have hzi : (0 : Int) < (k : Int) := by omega
          clear hrd hk HI
          go_wp2_with (fail)
          go_quiet (fail)
          go_wp2
          go_ret
          exact ⟨_, rfl, own_same HF.out fun _ _ => rfl, ⟨HBW.out.os, HBW.out.tape, HBW.out.output, HBW.out.size, HBW.out.block⟩⟩
        · rw [if_neg hz] at hrd
          have HF := Lib.hid (show wr.ownsRow w.heap.size 3 1 (.slice asl (thK (slowP m pat L nd now) (m + r)).length csl) Z.length (intL Z) by rw [hrd, ← HB0.out]; exact HI.out.2.1)
          obtain ⟨k, hk⟩ : ∃ k, k = (thK (idleP m L) (m + r)).length := ⟨_, rfl⟩
          rw [← hk] at hz ⊢
          obtain rfl : k = 0 := by omega
          clear hrd hk HI
          go_wp2_with (fail)
          go_quiet (fail)
          go_wp2
          go_ret
          exact ⟨_, rfl, own_same HF.out fun _ _ => rfl, ⟨HBW.out.os, HBW.out.tape, HBW.out.output, HBW.out.size, HBW.out.block⟩⟩
end
end Go.Proofs.Ytapnlofklgknmaa
