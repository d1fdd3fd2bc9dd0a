/- Package net: a letter is sent, or doubled, whatever the net carries. -/
import Derived.Test.YtcahiogjmclnjaaNetGet
import Derived.Test.YtcahiogjmclnjaaStepFn
namespace Go.Proofs.Ytcahiogjmclnjaa
open Go.RowKit

set_option maxHeartbeats 1000000 in
theorem full_any (base p : Nat) (N sent : Int) (cut v : Value) (L : List Letr) (w : World) (h : NetL w base p N sent cut v L) :
    Calls Try.prog 22 #[.pointer (some ⟨p, 0, none⟩)] w fun e w' => e = .returned (.bool (decide ((65536 : Int) ≤ (L.length : Int)))) ∧ w = w' := by
  obtain ⟨a', c', hv⟩ : ∃ a' c', v = .slice a' L.length c' := by
    rcases h.fly.2 with ⟨h1, h2⟩ | ⟨g, o, cap, h1, _⟩
    · exact ⟨_, _, by rw [h1, h2]⟩
    · exact ⟨_, _, h1⟩
  have c2 := h.at'.c2
  rw [hv] at c2
  clear h
  obtain ⟨n, hn⟩ : ∃ n, n = L.length := ⟨_, rfl⟩
  rw [← hn] at c2 ⊢
  clear hn hv
  go_enter Try.func22, Try.ntmps22
  go_wp2
  go_ret
  exact ⟨rfl, rfl⟩
theorem cells_more (L : List Letr) (l : Letr) : cellsOf L ++ cellsL l = cellsOf (L ++ [l]) := by rw [cellsOf_append]; simp [cellsOf]
/-- behind an append to the letters: what lies in the net's cells, and what the store then makes -/
theorem put_fin {w w1 w' : World} {base p : Nat} {N sent : Int} {cut v : Value} {L : List Letr} {l : Letr} {a' : Option Addr} {c' : Nat} (h : NetL w base p N sent cut v L) (hb : Below w.heap.size w w1)
    (hf : Fly w' 36 4 base (.slice a' (L.length + 1) c') (L.length + 1) (cellsOf L ++ cellsL l)) (hg : w1.grownBy w' v.ownBlock) (ho : ∀ b, (Value.slice a' (L.length + 1) c').ownBlock = some b → v.ownBlock = some b ∨ w1.heap.size ≤ b) :
    NetAt w' p N sent v cut ∧ Hid (NetL (w'.setCell ⟨p, 2, none⟩ (.slice a' (L.length + 1) c')) base p N sent cut (.slice a' (L.length + 1) c') (L ++ [l]) ∧ (∀ b, (Value.slice a' (L.length + 1) c').ownBlock = some b → v.ownBlock = some b ∨ w.heap.size ≤ b) ∧
      Tch w (w'.setCell ⟨p, 2, none⟩ (.slice a' (L.length + 1) c')) (own2 p v)) := by
  have t1 : Tch w w' (fun i => some i = v.ownBlock) := (tch_below _ hb).then (tch_grown hg) (fun _ _ e => e)
  have hap := h.apart
  have ha := h.at'.same (t1.block p h.ty.lt (fun e => hap p e.symm rfl))
  have ht := h.ty.tch t1 (fun e => hap p e.symm rfl)
  have hf' : Fly w' 36 4 base (.slice a' (L.length + 1) c') (L ++ [l]).length (cellsOf (L ++ [l])) := by
    rw [← cells_more]
    simpa using hf
  exact ⟨ha, Lib.hid ⟨NetL.store ha ht hf', fun b hb' => (ho b hb').imp id (fun h => Nat.le_trans hb.size h), (t1.mono (fun _ _ e => .inr e)).then (tch_set _ _ _) (fun _ _ e => .inl e)⟩⟩
set_option maxRecDepth 100000 in
set_option maxHeartbeats 4000000 in
theorem double_L (base p k : Nat) (N sent : Int) (cut v : Value) (L : List Letr) (l : Letr) (w : World) (hk : L[k]? = some l) (hL : L.length < 65536) (hbase : base ≤ w.heap.size) (h : NetL w base p N sent cut v L) :
    Calls Try.prog 13 #[.pointer (some ⟨p, 0, none⟩), .int .i64 k] w fun e w' => e = .returned (.int .i64 0) ∧ ∃ v', NetL w' base p N sent cut v' (L ++ [l]) ∧ (∀ b, v'.ownBlock = some b → v.ownBlock = some b ∨ w.heap.size ≤ b) ∧ Tch w w' (own2 p v) := by
  have hkl := (List.getElem?_eq_some_iff.1 hk).1
  obtain ⟨i0, hi, hz0, hz1, hz2⟩ := info_parts infoLetter
  have hcar := carries_any base p N sent cut v L k w h
  rw [show decide (0 ≤ (k : Int) ∧ (k : Int) < (L.length : Int)) = true by simp; omega] at hcar
  have hfu := full_any base p N sent cut v L w h
  rw [show decide ((65536 : Int) ≤ (L.length : Int)) = false by simp; omega] at hfu
  obtain ⟨g, o, cap, rfl, hgs, e3, e4, e5, e6⟩ := h.cell hk
  have e2 := h.at'.c2
  have f2 := h.at'.f2
  have HH := Lib.hid h
  have k1 : (k : Int) < L.length := by omega
  have hpl := h.ty.lt
  have hpn : ¬ p = w.heap.size := by omega
  have hpn' : ¬ w.heap.size = p := by omega
  have HS := Lib.hid (And.intro hL hbase)
  clear h hk hkl hL hbase
  go_enter Try.func13, Try.ntmps13
  go_wp2_with (fail)
  refine hcar.mono ?_
  rintro e w' ⟨rfl, rfl⟩
  go_wp2_with (fail)
  refine hfu.mono ?_
  rintro e w' ⟨rfl, rfl⟩
  clear hcar hfu
  go_upto_region 5 with (fail)
  have hf1 : Fly (w.drew.alloc (.cells #[.int .i64 l.id, .int .i64 l.a, .int .i64 l.b, .string l.s] 36)) 36 4 base (.slice (some ⟨g, o, none⟩) L.length cap) L.length (cellsOf L) :=
    HH.out.fly.same (fun b hb => Below.heap_alloc w.drew _ b (HH.out.fly.lt b hb).2)
  go_region_law (refine step_append_fly rfl (.tmp 17) (.tmp 25) 46 rfl 36 i0 (.agg #[.int .i64 0, .int .i64 0, .int .i64 0, .string ⟨#[]⟩]) 4 40 base L.length Try.underlying46 hi hz0 hz1 hz2 rfl (by decide) (.slice (some ⟨g, o, none⟩) L.length cap) (cellsOf L) rfl hf1 ⟨w.heap.size, 0, none⟩ 1 (cellsL l) rfl rfl (by
      intro j u hj
      match j, hj with
      | 0, hj => simp [cellsL] at hj; subst hj; simp [Addr.add]
      | 1, hj => simp [cellsL] at hj; subst hj; simp [Addr.add]
      | 2, hj => simp [cellsL] at hj; subst hj; simp [Addr.add]
      | 3, hj => simp [cellsL] at hj; subst hj; simp [Addr.add]) (by intro u hu; simp [cellsL] at hu; rcases hu with rfl | rfl | rfl | rfl <;> rfl) (by have := HS.out.1; unfold maxLen; omega) (by have := HS.out.1; omega) (by have := HS.out.2; simp; omega) ?_; intro a' c' w' hf2 hg2 ho2; obtain ⟨ha2, HF⟩ := put_fin HH.out ((Below.refl _ w).drew.alloc (Nat.le_refl _) _) hf2 hg2 ho2; have d2 := ha2.c2; have d3 := ha2.f2; clear ha2 hf2 hg2 ho2)
  all_goals (go_wp2; go_ret; exact ⟨rfl, _, HF.out⟩)
theorem send_fin {w wc wx : World} {base p : Nat} {N sent : Int} {cut v : Value} {L : List Letr} (t : Tch w wc (fun i => i = p))
    (h : ∃ v', NetL wx base p N sent cut v' L ∧ (∀ b, v'.ownBlock = some b → v.ownBlock = some b ∨ wc.heap.size ≤ b) ∧ Tch wc wx (own2 p v)) : ∃ v', NetL wx base p N sent cut v' L ∧ (∀ b, v'.ownBlock = some b → v.ownBlock = some b ∨ w.heap.size ≤ b) ∧ Tch w wx (own2 p v) := by
  obtain ⟨v', h1, h2, h3⟩ := h
  exact ⟨v', h1, fun b hb => (h2 b hb).imp id (fun h => Nat.le_trans t.size h), (t.mono (fun _ _ e => .inl e)).then h3 (fun _ _ e => e)⟩
theorem call_copied (vs : Array Value) (w : World) : (callFunc 23 vs).run Try.prog w = .ok (.enter 23 vs) w := by
  kernel_rfl
set_option maxRecDepth 100000 in
set_option maxHeartbeats 4000000 in
theorem send_L (base p : Nat) (N sent a b : Int) (cut v : Value) (s : ByteArray) (L : List Letr) (w : World) (hs : s.size ≤ 1048576) (hL : L.length < 65536) (hsn : 0 ≤ sent ∧ sent ≤ 9223372036854775806) (ha : nodeB N a = true) (hb : nodeB N b = true) (hbase : base ≤ w.heap.size) (h : NetL w base p N sent cut v L) :
    Calls Try.prog 7 #[.pointer (some ⟨p, 0, none⟩), .int .i64 a, .int .i64 b, .string s] w fun e w' => e = .returned (.tuple #[.int .i64 (sent + 1), .int .i64 0]) ∧
      ∃ v', NetL w' base p N (sent + 1) cut v' (L ++ [⟨sent + 1, a, b, s⟩]) ∧ (∀ b, v'.ownBlock = some b → v.ownBlock = some b ∨ w.heap.size ≤ b) ∧ Tch w w' (own2 p v) := by
  have HN := Lib.hid h
  have hpw := h.ty.lt
  obtain ⟨i0, hi, hz0, hz1, hz2⟩ := info_parts infoLetter
  have HT : Hid ((nodeB N a && nodeB N b) = true) := Lib.hid (by rw [ha, hb]; rfl)
  have hne : ¬ w.heap.size = p := by omega
  have hb1 : Below w.heap.size w (w.alloc (.cells #[.int .i64 a, .int .i64 b] 3)) := (Below.refl _ w).alloc (Nat.le_refl _) _
  have h1 := h.below hb1
  obtain ⟨c0, c1, c2, c3, f1, f2, f3⟩ := h1.at'
  have HB1 := Lib.hid hb1
  have hh := has_two p w.heap.size N a b _ c0 (by simp) (by simp)
  rw [HT.out] at hh
  have hfu := full_any base p N sent cut v L _ h1
  rw [show decide ((65536 : Int) ≤ (L.length : Int)) = false by simp; omega] at hfu
  have hss := Lib.hid hs
  have HLb := Lib.hid (And.intro hL hbase)
  have hw1 : wrap64 (sent + 1) = sent + 1 := IntWalk.wrap64_in _ ⟨by omega, by omega⟩
  have hsz : ¬ (1048576 : Int) < (s.size : Int) := by omega
  clear ha hb hb1 h h1 hL hbase hsn hs
  go_enter Try.func7, Try.ntmps7
  go_upto_region 7 with (first | (go_at_call 21; refine hh.mono ?_; rintro e w' ⟨rfl, rfl⟩) | (go_at_call 22; refine hfu.mono ?_; rintro e w' ⟨rfl, rfl⟩) | go_in)
  go_cut [8] (fun _ wx => Hid (NetL wx base p N (sent + 1) cut v L ∧ Tch w wx (fun i => i = p)))
  case first =>
    clear hh hfu
    go_wp2
    go_meet
    have hN1 := HN.out
    have ts := tch_set w ⟨p, 1, none⟩ (.int .i64 (sent + 1))
    have hap := HN.out.apart
    have h2 : NetL (w.setCell ⟨p, 1, none⟩ (.int .i64 (sent + 1))) base p N (sent + 1) cut v L :=
      ⟨hN1.at'.sent (sent + 1), bears_set _ hN1.ty, hN1.fly.same (fun b hb => ts.block b (hN1.fly.lt b hb).2 (fun e => hap b hb e))⟩
    exact Lib.hid ⟨h2.below ((Below.refl _ _).alloc (Nat.le_refl _) _), ts.then (tch_below (fun i => i = p) ((Below.refl _ _).alloc (Nat.le_refl _) _)) (fun _ _ e => e)⟩
  case rest =>
    rename_i wc
    have HC := hcut
    have d1 := HC.out.1.at'.c1
    have d2 := HC.out.1.at'.c2
    have d3 := HC.out.1.at'.f2
    have hpc := HC.out.1.ty.lt
    have hcp := copied_any (sent + 1) a b s wc.drew (by have := hss.out; omega)
    have hbc : base ≤ wc.heap.size := Nat.le_trans HLb.out.2 HC.out.2.size
    have HBC := Lib.hid hbc
    clear c0 c1 c2 c3 f1 f2 f3 hh hfu hne hpw hbc
    go_upto_region 8 with (fail)
    go_cut [48] (fun _ wx => ∃ v', Hid (NetL wx base p N (sent + 1) cut v' (L ++ [⟨sent + 1, a, b, s⟩]) ∧ (∀ b, v'.ownBlock = some b → v.ownBlock = some b ∨ wc.heap.size ≤ b) ∧ Tch wc wx (own2 p v)))
    case first =>
      go_region_law (first
        | (refine step_fn rfl 23 call_copied #[.tmp 43] #[36] rfl #[.agg #[.int .i64 (sent + 1), .int .i64 a, .int .i64 b, .string s]] (by simp [Act.eval, Act.put]) (.agg #[.int .i64 (sent + 1), .int .i64 a, .int .i64 b, .string s]) (fun w' => Below wc.heap.size wc w') (hcp.mono (fun e w' h => ⟨h.1, ⟨h.2.os, h.2.tape, h.2.output, h.2.size, h.2.block⟩⟩)) ?_
           intro w2 hb2
           have H2 := Lib.hid (And.intro (HC.out.1.below hb2) hb2)
           have k2 := H2.out.1.at'.c2
           have k3 : ∀ o1, (w2.alloc o1).cell? ⟨p, 2, none⟩ = some v := fun o1 => (((Below.refl _ w2).alloc (Nat.le_refl _) o1).cell (p := ⟨p, 2, none⟩) H2.out.1.ty.lt).trans k2
           clear hb2)
        | (refine step_append_fly rfl (.tmp 35) (.tmp 45) 46 rfl 36 i0 (.agg #[.int .i64 0, .int .i64 0, .int .i64 0, .string ⟨#[]⟩]) 4 40 base L.length Try.underlying46 hi hz0 hz1 hz2 rfl (by decide) v (cellsOf L) rfl
             ((H2.out.1.below ((Below.refl _ w2).alloc (Nat.le_refl _) (.cells #[.int .i64 (sent + 1), .int .i64 a, .int .i64 b, .string s] 36))).fly) ⟨w2.heap.size, 0, none⟩ 1 (cellsL ⟨sent + 1, a, b, s⟩) rfl rfl (by
            intro j u hj
            match j, hj with
            | 0, hj => simp [cellsL] at hj; subst hj; simp [Addr.add]
            | 1, hj => simp [cellsL] at hj; subst hj; simp [Addr.add]
            | 2, hj => simp [cellsL] at hj; subst hj; simp [Addr.add]
            | 3, hj => simp [cellsL] at hj; subst hj; simp [Addr.add]) (by intro u hu; simp [cellsL] at hu; rcases hu with rfl | rfl | rfl | rfl <;> rfl) (by have := HLb.out.1; unfold maxLen; omega) (by have := HLb.out.1; omega) (by have := HBC.out; have := H2.out.2.size; simp; omega) ?_
           intro a' c' w' hf2 hg2 ho2
           obtain ⟨ha2, HF⟩ := put_fin HC.out.1 (H2.out.2.alloc H2.out.2.size _) hf2 hg2 ho2
           have d2 := ha2.c2
           have d3 := ha2.f2
           clear ha2 hf2 hg2 ho2))
      all_goals
        first | go_meet | (go_wp2; go_meet)
        exact ⟨_, HF⟩
    case rest =>
      obtain ⟨v', HX⟩ := hcut
      have e1 := HX.out.1.at'.c1
      have HFI := Lib.hid (send_fin HC.out.2 ⟨v', HX.out⟩)
      clear d1 d2 d3 hcp
      go_wp2
      go_ret2
      exact ⟨rfl, HFI.out⟩
end Go.Proofs.Ytcahiogjmclnjaa
