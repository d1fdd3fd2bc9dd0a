/- Merging: a source is laid on the heap. -/
import Derived.Test.YtcgilgihmapipaaMrgRise
import Derived.Deep.AppendLies
import Derived.Laws.MakeOwn
namespace Go.Proofs.Ytcgilgihmapipaa
open Go.RowKit

theorem infoSrc : (Try.prog.info? 67).map (fun i => (i.zero, i.size, i.bytes)) = some (some (.agg #[.slice none 0 0, .int .i64 0]), 2, 32) := by kernel_rfl
theorem kp_grown {B : Nat} {w w' : World} {v : Value} {n : Nat} {xs : List Value} (ho : w.ownsRow B 67 2 v n xs) (h : w.grownBy w' v.ownBlock) : Kp B w w' :=
  ⟨h.os, h.tape, h.output, h.size, fun k hk hn => h.block k hk (fun e => by
    rcases ho.2 with ⟨rfl, _⟩ | ⟨g, cap, cur, rfl, hb, hg, _⟩
    · simp [Value.ownBlock] at e
    · simp [Value.ownBlock] at e
      subst e
      rcases hn with hn | ⟨_, n2⟩
      · omega
      · exact n2 ⟨cur, hg⟩)⟩
theorem rnAt_kp {R : Rn} {B : Nat} {w w' : World} (h : RnAt R B w) (hB : B ≤ w.heap.size) (hk : Kp B w w') : RnAt R B w' := fun i hi p hq => by
  obtain ⟨h1, h2, h3⟩ := h i hi p hq
  have hb := hk.below hB
  exact ⟨h1, (hb.cell (p := ⟨R.bk i, _, none⟩) h1).trans h2, (hb.cell (p := ⟨R.bk i, _, none⟩) h1).trans h3⟩
theorem up_app (ord : It → Int) (l : List It) (x : It) (h : HeapO l.length (ordL ord l)) : UpO (l.length + 1) (ordL ord (l ++ [x])) l.length := by
  have e : ∀ i, i < l.length → ordL ord (l ++ [x]) i = ordL ord l i := fun i hi => by
    unfold ordL
    rw [List.getD_eq_getElem?_getD, List.getD_eq_getElem?_getD, List.getElem?_append_left hi]
  refine ⟨fun i h0 hi hne => ?_, fun i h0 hi hp _ => ?_⟩
  · have := par_lt h0
    rw [e i (by omega), e (par i) (by omega)]
    exact h i h0 (by omega)
  · have := par_lt h0
    omega
theorem item_new (w : World) (u1 u2 : Value) (t : TypeId) : ∀ j y, [u1, u2][j]? = some y → (w.alloc (.cells #[u1, u2] t)).cell? ((⟨w.heap.size, 0, none⟩ : Addr).add j) = some y := by
  intro j y hj
  match j, hj with
  | 0, hj => simp at hj; subst hj; simp [Addr.add]
  | 1, hj => simp at hj; subst hj; simp [Addr.add]
theorem itCs_app (R : Rn) (l : List It) (x : It) : itCs R l ++ itC R x = itCs R (l ++ [x]) := by simp [itCs]
theorem step_app_own2 {P : Program} {ops : Array Oper} {o : Oper} {a : Act} {w : World} {K : Act → World → Prop} {Q : Exit → Act → World → Prop} {E : Prop}
    (hg : o.guard = none) (s x : Operand) (t : TypeId) (hop : o.op = Op.call { callee := Callee.builtin Builtin.append, args := #[s, x], argTypes := #[t, t] })
    (base : Nat) (e : TypeId) (i : TypeInfo) (z : Value) (bytes : Nat) (ht : P.underlying t = some (.slice e)) (hi : P.info? e = some i) (hz : i.zero = some z) (hsz : i.size = 2) (hby : i.bytes = bytes) (hzs : z.cells.size = 2)
    (v : Value) (n : Nat) (xs : List Value) (hs : a.eval s = v) (hown : w.ownsRow base e 2 v n xs) (ad : Addr) (c : Nat) (u1 u2 : Value) (hx : a.eval x = .slice (some ad) 1 c) (hc : ∀ j y, [u1, u2][j]? = some y → w.cell? (ad.add j) = some y) (hu1 : u1.oneCell' = true) (hu2 : u2.oneCell' = true)
    (b1 : n + 1 ≤ maxLen) (b2 : (n + 1) * bytes ≤ 140737488355328) (b3 : base ≤ w.heap.size)
    (hK : ∀ v' w', w'.ownsRow base e 2 v' (n + 1) (xs ++ [u1, u2]) → w.grownBy w' v.ownBlock → K (a.put o.dst v') w') :
    if Region.wanted o (yielded ops a.tmps) = true then Oper.wp P o a w K Q else E := by
  have hw : Region.wanted o (yielded ops a.tmps) = true := by simp [Region.wanted, hg]
  rw [if_pos hw]
  refine wp_append_own w s x t hop base e i z 2 bytes ht hi hz hsz hby hzs (by decide) v n xs hs hown ad 1 c [u1, u2] hx rfl hc ?_ b1 b2 b3 ?_
  · intro y hy
    simp at hy
    rcases hy with rfl | rfl
    · exact hu1
    · exact hu2
  · intro v' w' h1 h2 _
    exact hK v' w' h1 h2
theorem hp_row_apart {W : World} {B hp n n' : Nat} {u v' : Value} {f : Value} {xs : List Value} (h1 : W.heap[hp]? = some (.cells #[u, f] 65 (0, 0))) (h2 : W.ownsRow B 67 n' v' n xs) : some hp ≠ v'.ownBlock := by
  intro e
  rcases h2.2 with ⟨rfl, _⟩ | ⟨g, cap, cur, rfl, _, hg, _⟩
  · simp [Value.ownBlock] at e
  · simp [Value.ownBlock] at e
    subst e
    rw [h1] at hg
    simp at hg
/-- one more item, at the row's end -/
theorem hp_app {R : Rn} {B hp : Nat} {l : List It} {x : It} {w w2 w' : World} {v v' : Value} (hle : B ≤ hp) (h1 : w.heap[hp]? = some (.cells #[v, .func (.func 31) #[] #[]] 65 (0, 0))) (h2 : w.ownsRow B 67 2 v l.length (itCs R l)) (hb : Below w.heap.size w w2)
    (hown' : w'.ownsRow B 67 2 v' (l.length + 1) (itCs R l ++ itC R x)) (hg : w2.grownBy w' v.ownBlock) :
    w'.cell? ⟨hp, 0, none⟩ = some v ∧ w'.frozen? ⟨hp, 0, none⟩ = false ∧ HpAt R B hp (l ++ [x]) (w'.setCell ⟨hp, 0, none⟩ v') ∧ Kp B w (w'.setCell ⟨hp, 0, none⟩ v') := by
  have hlt : hp < w.heap.size := (Array.getElem?_eq_some_iff.1 h1).1
  have e2 : w2.heap[hp]? = some (.cells #[v, .func (.func 31) #[] #[]] 65 (0, 0)) := (hb.block hp hlt).trans h1
  have h22 := h2.kept (row := none) ⟨hb.os, hb.tape, hb.output, hb.size, fun k hk _ => hb.block k hk⟩ (by
    rcases h2.2 with ⟨rfl, _⟩ | ⟨g, cap, cur, rfl, _, _, _⟩
    · exact .inl rfl
    · exact .inr (by simp [Value.ownBlock]))
  have e3 : w'.heap[hp]? = some (.cells #[v, .func (.func 31) #[] #[]] 65 (0, 0)) := (hg.block hp (Nat.lt_of_lt_of_le hlt hb.size) (hp_row_apart e2 h22)).trans e2
  refine ⟨by simp [World.cell?, e3], by simp [World.frozen?, e3], ⟨hle, v', by simp [World.setCell, Array.getElem?_modify, e3], ?_⟩, ?_⟩
  · rw [← itCs_app, List.length_append, List.length_singleton]
    refine hown'.kept (row := some hp) ⟨rfl, rfl, rfl, by simp [World.setCell], fun k _ hne => Below.heap_setCell _ _ _ _ (fun e => hne (by rw [e]))⟩ ?_
    have := hp_row_apart e3 hown'
    cases hv : v'.ownBlock with
    | none => exact .inl rfl
    | some k => refine .inr (fun e => this ?_); rw [hv]; exact e.symm
  · exact ((kp_below hb).trans (kp_grown h22 hg)).trans (kp_set (a := ⟨hp, 0, none⟩) hle (.inl ⟨_, e3⟩))
set_option maxRecDepth 100000 in
set_option maxHeartbeats 8000000 in
theorem push_any (R : Rn) (B hp : Nat) (ord : It → Int) (HO : Hid (OrdOk R ord)) (hln : Hid (∀ i, i < R.n → R.ln i ≤ 4398046511104)) (l : List It) (x : It) (w : World) (hl : l.length < 1099511627776) (hx : VIt R x) (hv : VIts R l) (hB : B ≤ w.heap.size) (hR : RnAt R B w) (H : HpAt R B hp l w) (hU : HeapO l.length (ordL ord l)) :
    Calls Try.prog 32 #[.pointer (some ⟨hp, 0, none⟩), .agg #[.slice (some ⟨R.bk x.1, R.of x.1 + x.2 * 2, none⟩) (R.ln x.1 - x.2) (R.cp x.1 - x.2), .int .i64 (x.1 : Int)]] w fun e w' => e = .returned (.tuple #[]) ∧ ∃ l', l'.Perm (x :: l) ∧ HeapO l'.length (ordL ord l') ∧ HpAt R B hp l' w' ∧ Kp B w w' := by
  have mixed : Try.prog.follows Departure.mixedOrders = true := by kernel_rfl
  obtain ⟨i0, hi, hz0, hz1, hz2⟩ := info_parts infoSrc
  obtain ⟨v, h1, h2⟩ := H.row
  have hhp := H.lt
  have hBh := H.le
  have c0 : w.cell? ⟨hp, 0, none⟩ = some v := by simp [World.cell?, h1]
  have hlen : l.length + 1 ≤ maxLen := by unfold maxLen; omega
  have hby : (l.length + 1) * 32 ≤ 140737488355328 := by omega
  have HH := Lib.hid (And.intro h1 (And.intro h2 hBh))
  have HI := Lib.hid (And.intro hi (And.intro hz0 (And.intro hz1 hz2)))
  have HVV := Lib.hid (And.intro hx (And.intro hv (And.intro hB (And.intro hR hU))))
  obtain ⟨V1, hV1⟩ : ∃ v, v = Value.slice (some ⟨R.bk x.1, R.of x.1 + x.2 * 2, none⟩) (R.ln x.1 - x.2) (R.cp x.1 - x.2) := ⟨_, rfl⟩
  have HV1 := Lib.hid hV1
  rw [← hV1]
  have hB1 : B ≤ w.heap.size := hB
  have hone : V1.oneCell' = true := by rw [hV1]; rfl
  clear h1 h2 hi hz0 hz1 hz2 hx hv hR hU hV1 H
  go_enter Try.func32, Try.ntmps32
  go_wp2_with (fail)
  obtain ⟨W1, hW1⟩ : ∃ W1, W1 = w.alloc (.cells #[V1, .int .i64 (x.1 : Int)] 67) := ⟨_, rfl⟩
  have hb1 : Below w.heap.size w W1 := by rw [hW1]; exact (Below.refl _ _).alloc (Nat.le_refl _) _
  have p0 : W1.cell? ⟨w.heap.size, 0, none⟩ = some V1 := by rw [hW1]; simp
  have p1 : W1.cell? ⟨w.heap.size, 1, none⟩ = some (.int .i64 (x.1 : Int)) := by rw [hW1]; simp
  have c1 : W1.cell? ⟨hp, 0, none⟩ = some v := (hb1.cell (p := ⟨hp, 0, none⟩) hhp).trans c0
  have HB1 := Lib.hid hb1
  have c2 : ∀ o, (W1.alloc o).cell? ⟨hp, 0, none⟩ = some v := fun o => (((Below.refl W1.heap.size W1).alloc (Nat.le_refl _) o).cell (p := ⟨hp, 0, none⟩) (Nat.lt_of_lt_of_le hhp hb1.size)).trans c1
  rw [← hW1]
  obtain ⟨nb, hnb⟩ : ∃ nb, nb = w.heap.size := ⟨_, rfl⟩
  rw [← hnb] at p0 p1 ⊢
  have hB2 : B ≤ W1.heap.size := Nat.le_trans hB1 HB1.out.size
  have ho2 : W1.drew.ownsRow B 67 2 v l.length (itCs R l) := by
    have h2 := HH.out.2.1
    exact h2.kept (row := none) (w' := W1.drew) ⟨HB1.out.os, HB1.out.tape, HB1.out.output, HB1.out.size, fun k hk _ => HB1.out.block k hk⟩ (by
      rcases h2.2 with ⟨rfl, _⟩ | ⟨g, cap, cur, rfl, _, _, _⟩
      · exact .inl rfl
      · exact .inr (by simp [Value.ownBlock]))
  have HO2 := Lib.hid ho2
  clear hW1 hb1 hnb c0 ho2
  go_region_law (first
    | (refine step_app_own2 (by rfl) (.tmp 8) (.tmp 10) 62 (by rfl) B 67 i0 _ 32 Try.underlying62 HI.out.1 HI.out.2.1 HI.out.2.2.1 HI.out.2.2.2 rfl _ l.length (itCs R l) (by rfl) (HO2.out.alloc _) ⟨W1.drew.heap.size, 0, none⟩ 1 V1 (.int .i64 (x.1 : Int)) (by rfl) (item_new _ _ _ _) hone rfl hlen hby (by simp; omega) ?_
       intro v' w3 hown' hgrow'
       obtain ⟨g9, c9, rfl, _, _⟩ := hown'.form (by omega)
       have HA := Lib.hid (hp_app HH.out.2.2 HH.out.1 HH.out.2.1 (w2 := W1.drew.alloc (.cells #[V1, .int .i64 (x.1 : Int)] 67)) (HB1.out.trans ((show Below W1.heap.size W1 (W1.drew.alloc (.cells #[V1, .int .i64 (x.1 : Int)] 67)) from (show Below W1.heap.size W1 W1.drew from ⟨rfl, rfl, rfl, Nat.le_refl _, fun _ _ => rfl⟩).alloc (Nat.le_refl _) _).mono HB1.out.size)) (x := x) (by rw [HV1.out] at hown'; exact hown') hgrow')
       have d0 := HA.out.1
       have d1 := HA.out.2.1
       clear hown' hgrow'))
  all_goals
    clear d0 d1 p0 p1 c1 c2
    obtain ⟨w4, hw4⟩ : ∃ w4, w4 = w3.setCell ⟨hp, 0, none⟩ (.slice (some ⟨g9, 0, none⟩) (l.length + 1) c9) := ⟨_, rfl⟩
    have hat : HpAt R B hp (l ++ [x]) w4 ∧ Kp B w w4 := by rw [hw4]; exact HA.out.2.2
    rw [← hw4]
    have d2 : w4.cell? ⟨hp, 0, none⟩ = some (.slice (some ⟨g9, 0, none⟩) (l.length + 1) c9) := by rw [hw4]; exact World.cell?_setCell_same' _ _ _ (by rw [HA.out.1]; rfl)
    have HAT := Lib.hid hat
    clear hw4 hat HA
    have hrise := rise_any R B hp ord HO hln (l ++ [x]) l.length w4 (by simp) (by simp; omega) (fun y hy => by
        rcases List.mem_append.1 hy with h | h
        · exact HVV.out.2.1 y h
        · rw [show y = x by simpa using h]; exact HVV.out.1) (Nat.le_trans HVV.out.2.2.1 HAT.out.2.size) (rnAt_kp HVV.out.2.2.2.1 HVV.out.2.2.1 HAT.out.2) HAT.out.1 (by rw [List.length_append, List.length_singleton]; exact up_app ord l x HVV.out.2.2.2.2)
    have hw : wrap64 (((l.length + 1 : Nat) : Int) - 1) = ((l.length : Nat) : Int) := by
      rw [show ((l.length + 1 : Nat) : Int) - 1 = ((l.length : Nat) : Int) by omega]
      exact IntWalk.wrap64_in _ (by omega)
    go_wp2_with (fail)
    refine hrise.mono ?_
    rintro e w5 ⟨rfl, l', hp', hh', ha', hk'⟩
    have HF := Lib.hid (And.intro hp' (And.intro hh' (And.intro ha' hk')))
    clear hrise hp' hh' ha' hk'
    go_wp2
    first
      | (go_end0; exact ⟨rfl, l', HF.out.1.trans (List.perm_append_comm (l₁ := l) (l₂ := [x])), HF.out.2.1, HF.out.2.2.1, HAT.out.2.trans HF.out.2.2.2⟩)
      | (go_ret; exact ⟨rfl, l', HF.out.1.trans (List.perm_append_comm (l₁ := l) (l₂ := [x])), HF.out.2.1, HF.out.2.2.1, HAT.out.2.trans HF.out.2.2.2⟩)
end Go.Proofs.Ytcgilgihmapipaa
