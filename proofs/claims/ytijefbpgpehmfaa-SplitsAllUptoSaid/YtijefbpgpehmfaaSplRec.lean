/- The contract of splits.Records. -/
import Derived.Test.YtijefbpgpehmfaaSplIter
import Derived.Test.YtijefbpgpehmfaaSplPlan
namespace Go.Proofs.Ytijefbpgpehmfaa
open Go.RowKit Go.Shelf
attribute [local go_sem] Oper.semAt_some

theorem lines_stops (n : Nat) (hn : 1 ≤ n) (Bs Bz n₀ : Nat) (s : ByteArray) (hs : s.size ≤ 140737488351232) (c : Int) (hc0 : -9223372036854775808 ≤ c) (hc : c ≤ 9223372036854775807) (w : World)
    (hBs : Bs < w.heap.size) (hBz : Bz < w.heap.size) (hcs : w.cell? ⟨Bs, 0, none⟩ = some (.string s)) (hcz : w.cell? ⟨Bz, 0, none⟩ = some (.int .i64 c)) (xs : List (Nat × Nat)) (hxs : xs = linesFrom s.data.toList (begL s.data.toList c)) :
    SeqStopsK Fence.wide n Try.prog 14 #[.pointer (some ⟨Bs, 0, none⟩), .pointer (some ⟨Bz, 0, none⟩)] (lnEnc s) (KpL n₀ Bs) (fun ys => ys = xs) (fun pre => pre <+: xs) xs.length w := fun l J Jx W hW hJ _ hY h0 =>
  lines1_in n hn l Bs Bz n₀ s hs c hc0 hc xs hxs J Jx hY (fun pre W k h => hJ pre W (W.drewN k) none h ⟨rfl, rfl, rfl, Nat.le_refl _, fun _ _ _ => rfl⟩ (fun _ e => by cases e)) W ((hW.cell (p := ⟨Bs, 0, none⟩) hBs).trans hcs) ((hW.cell (p := ⟨Bz, 0, none⟩) hBz).trans hcz) h0
theorem infoRec : (Try.prog.info? 36).map (fun i => (i.zero, i.size, i.bytes)) = some (some (.agg #[.int .i64 0, .string ⟨#[]⟩]), 2, 24) := by kernel_rfl
/-- the cells of records -/
def recCells (s : ByteArray) (xs : List (Nat × Nat)) : List Value := xs.flatMap fun x => [.int .i64 (x.1 : Int), .string (s.extract x.1 x.2)]
def RecPost (w : World) (s : ByteArray) (xs : List (Nat × Nat)) (e : Ending) (W' : World) : Prop :=
  ∃ v, e = .returned v ∧ W'.ownsRow w.heap.size 36 2 v xs.length (recCells s xs) ∧ Below w.heap.size w W'
/-- a variable of two cells in its box -/
def Box2 (W : World) (B : Nat) (t : TypeId) (u v : Value) : Prop := W.heap[B]? = some (.cells #[u, v] t (0, 0))
theorem Box2.lt {W : World} {B : Nat} {t : TypeId} {u v : Value} (h : Box2 W B t u v) : B < W.heap.size := (Array.getElem?_eq_some_iff.1 h).1
theorem Box2.second {W : World} {B : Nat} {t : TypeId} {u v : Value} (h : Box2 W B t u v) : W.cell? ⟨B, 1, none⟩ = some v := by simp [World.cell?, show W.heap[B]? = _ from h]
theorem Box2.kept {W W' : World} {row : Option Nat} {B : Nat} {t : TypeId} {u v : Value} (h : Box2 W B t u v) (hg : W.grownBy W' row) (hne : some B ≠ row) : Box2 W' B t u v := (hg.block B h.lt hne).trans h
theorem Box2.not_row {W : World} {B : Nat} {t e : TypeId} {u u' : Value} (h : Box2 W B t u u') (hte : t ≠ e) {base size k : Nat} {v : Value} {xs : List Value} (hr : W.ownsRow base e size v k xs) : some B ≠ v.ownBlock := by
  rcases hr.2 with ⟨rfl, _⟩ | ⟨g, cap, cur, rfl, _, hgb, _⟩
  · simp [Value.ownBlock]
  · intro e'
    obtain rfl : B = g := by simpa [Value.ownBlock] using e'
    have := (show W.heap[B]? = _ from h).symm.trans hgb
    simp at this
    exact hte this.2
theorem box2_own {β : Type} (B : Nat) (t : TypeId) (u v : Value) : Own (fun (_ : β) W => Box2 W B t u v) := fun _ X _ _ hs hg hrow =>
  hs.kept hg (fun e' => by obtain ⟨o, ho, hc⟩ := hrow B e'.symm; rw [show X.heap[B]? = _ from hs] at ho; cases ho; cases hc)
theorem below_grown {W w2 : World} (h : Below W.heap.size W w2) : W.grownBy w2 none := ⟨h.os, h.tape, h.output, h.size, fun k hk _ => h.block k hk⟩
/-- what the body of a round leaves: the boxes and the row, one record longer -/
theorem rec_tail {W w2 w1 : World} {n₀ B Bs B2 : Nat} {T e tS t2 : TypeId} {v v' c d z : Value} {k m : Nat} {xs ys : List Value} {tmp : Obj}
    (hcl : Below W.heap.size W w2) (hv : Boxed W B T v) (hz : Boxed W Bs tS z) (h2 : Box2 W B2 t2 c d) (hT : T ≠ e) (hS : tS ≠ e) (h3 : t2 ≠ e) (hne : Bs ≠ B) (hne2 : B2 ≠ B)
    (hrow : W.ownsRow n₀ e 2 v k xs) (hn₀ : n₀ ≤ W.heap.size) (hB : n₀ ≤ B) (hown' : w1.ownsRow n₀ e 2 v' m ys) (hgrow : (w2.alloc tmp).grownBy w1 v.ownBlock) :
    Boxed w1 B T v ∧ KeepsOthers W (w1.setCell ⟨B, 0, none⟩ v') ∧ Below n₀ W (w1.setCell ⟨B, 0, none⟩ v') ∧ Boxed (w1.setCell ⟨B, 0, none⟩ v') B T v' ∧ (w1.setCell ⟨B, 0, none⟩ v').ownsRow n₀ e 2 v' m ys ∧ Boxed (w1.setCell ⟨B, 0, none⟩ v') Bs tS z ∧ Box2 (w1.setCell ⟨B, 0, none⟩ v') B2 t2 c d := by
  have hg := below_grown hcl
  have hv2 := hv.kept hg (by simp)
  have hz2 := hz.kept hg (by simp)
  have h22 := h2.kept hg (by simp)
  have hr2 := hrow.kept hg (by
    rcases hrow.2 with ⟨rfl, _⟩ | ⟨g, cap, cur, rfl, _, _, _⟩
    · exact .inl rfl
    · exact .inr (by simp [Value.ownBlock]))
  obtain ⟨a1, a2, a3, a4, a5⟩ := hv2.appended hT hr2 (Nat.le_trans hn₀ hcl.size) hB hown' hgrow
  refine ⟨a1, ?_, ?_, a2, a3, ?_, ?_⟩
  · exact (KeepsOthers.of_grownBy hg (fun _ _ e => by cases e)).trans a4
  · exact (hcl.mono hn₀).trans a5
  · exact ((hz2.alloc _).kept hgrow (hz2.not_row hS hr2)).other hne v'
  · refine (((h22.kept (World.grownBy_alloc w2 tmp none) (by simp)).kept hgrow (h22.not_row h3 hr2))).kept (grownBy_setCell' w1 B v') (fun e => hne2 (by cases e; rfl))
theorem own_below {W w2 : World} {n₀ k : Nat} {e : TypeId} {v : Value} {xs : List Value} (hcl : Below W.heap.size W w2) (hrow : W.ownsRow n₀ e 2 v k xs) : w2.ownsRow n₀ e 2 v k xs :=
  hrow.kept (below_grown hcl) (by
    rcases hrow.2 with ⟨rfl, _⟩ | ⟨g, cap, cur, rfl, _, _, _⟩
    · exact .inl rfl
    · exact .inr (by simp [Value.ownBlock]))
theorem below_undrew {W w2 : World} (h : Below W.drew.heap.size W.drew w2) : Below W.heap.size W w2 := ⟨h.os, h.tape, h.output, h.size, h.block⟩
theorem stepIn_app18 {F : Fence} {n : Nat} {P : Program} {w : World} {ops : Array Oper} {o : Oper} {a : Act} {K : Act → World → Prop} {Q : Exit → Act → World → Prop} {E : Prop}
    (hg : o.guard = none) (s x : Operand) (t : TypeId) (hop : o.op = Op.call { callee := Callee.builtin Builtin.append, args := #[s, x], argTypes := #[t, t] })
    (base : Nat) (e : TypeId) (i : TypeInfo) (z : Value) (size bytes : Nat) (h1 : P.underlying t = some (.slice e)) (h2 : P.info? e = some i) (h3 : i.zero = some z) (h4 : i.size = size) (h5 : i.bytes = bytes) (h6 : z.cells.size = size) (h7 : 0 < size)
    (v : Value) (k : Nat) (xs : List Value) (hs : a.eval s = v) (hown : w.ownsRow base e size v k xs) (ad : Addr) (m c : Nat) (news : List Value) (hx : a.eval x = .slice (some ad) m c) (hn : news.length = m * size)
    (hc : ∀ j u, news[j]? = some u → w.cell? (ad.add j) = some u) (h1c : ∀ u ∈ news, u.oneCell' = true) (b1 : k + m ≤ maxLen) (b2 : (k + m) * bytes ≤ 140737488355328) (b3 : base ≤ w.heap.size)
    (hK : ∀ v' w', w'.ownsRow base e size v' (k + m) (xs ++ news) → w.grownBy w' v.ownBlock → (v' = .slice none 0 0 ↔ v = .slice none 0 0 ∧ m = 0) → K (a.put o.dst v') w') :
    if Region.wanted o (yielded ops a.tmps) = true then Oper.wpIn F n P o a w K Q else E := by
  have hw : Region.wanted o (yielded ops a.tmps) = true := by simp [Region.wanted, hg]
  rw [if_pos hw]
  obtain ⟨v', w', hrun, r1, r2, r3⟩ := run_append_own (P := P) w base t o.type e i z size bytes h1 h2 h3 h4 h5 h6 h7 v k xs hown ad m c news hn hc h1c b1 b2 b3
  unfold Oper.wpIn
  refine ⟨?_, ?_⟩
  · simp [Oper.about, hop, resolve, Target.leads, Sem.run_pure]
  · rw [Oper.semAt_plain F _ _ (by rw [hop]; intro c hc'; cases hc')]
    simp [execOp, hop, resolve, invoke, builtin, hs, hx, hrun, Result.andThen]
    exact hK v' w' r1 r2 r3
theorem takeWhile_all {α : Type} {p : α → Bool} {l : List α} (h : ∀ y ∈ l, p y = true) : l.takeWhile p = l := by
  induction l with
  | nil => rfl
  | cons a l ih => rw [List.takeWhile_cons_of_pos (h a (by simp)), ih (fun y hy => h y (by simp [hy]))]
theorem takeWhile_stop {α : Type} {p : α → Bool} {x : α} {q tl : List α} (h : ∀ y ∈ q, p y = true) (hx : p x = false) : (q ++ ([x] ++ tl)).takeWhile p = q := by
  induction q with
  | nil => simp [List.takeWhile_cons, hx]
  | cons a q ih => rw [List.cons_append, List.takeWhile_cons_of_pos (h a (by simp)), ih (fun y hy => h y (by simp [hy]))]
theorem recCells_snoc (s : ByteArray) (pre : List (Nat × Nat)) (x : Nat × Nat) : recCells s (pre ++ [x]) = recCells s pre ++ [.int .i64 (x.1 : Int), .string (s.extract x.1 x.2)] := by simp [recCells]
theorem rec_new (w2 : World) (u v : Value) (t : TypeId) : ∀ j y, [u, v][j]? = some y → (w2.alloc (.cells #[u, v] t)).cell? ((⟨w2.heap.size, 0, none⟩ : Addr).add j) = some y := by
  intro j y hj
  match j, hj with
  | 0, hj => simp at hj; subst hj; simp [Addr.add]
  | 1, hj => simp at hj; subst hj; simp [Addr.add]
set_option maxRecDepth 100000 in
set_option maxHeartbeats 4000000 in
theorem records_any (s : ByteArray) (hsz : s.size ≤ 1099511627776) (c d : Int) (hc0 : -9223372036854775808 ≤ c) (hc : c ≤ 9223372036854775807) (w : World) :
    Calls Try.prog 10 #[.string s, .agg #[.int .i64 c, .int .i64 d]] w (RecPost w s (recL s.data.toList c d)) := by
  obtain ⟨i0, hi, hz0, hz1, hz2⟩ := info_parts infoRec
  have hs : s.size ≤ 140737488351232 := by omega
  obtain ⟨xs, hxs⟩ : ∃ xs, xs = linesFrom s.data.toList (begL s.data.toList c) := ⟨_, rfl⟩
  have hrl : recL s.data.toList c d = xs.takeWhile fun x => decide ((x.1 : Int) < d) := by rw [hxs]; rfl
  rw [hrl]
  refine (callsIn_wide (n := 3)).1 ?_
  refine callsIn_of_wp_marks Try.func10 rfl trivial ?_ rfl
  simp only [Try.ntmps10, List.size_toArray, List.length_cons, List.length_nil, Nat.reduceAdd, Nat.reduceSub, Array.replicate_succ, Array.replicate_zero, List.push_toArray, List.append_toArray, List.nil_append, List.cons_append]
  gi_wp2
  refine ⟨trivial, ?_⟩
  refine (lines_in Fence.wide (3 - 1) trivial rfl _ _ _).mono ?_
  rintro e w' ⟨rfl, rfl⟩
  gi_wp2
  have b2 : Box2 (w.alloc (.cells #[.int .i64 c, .int .i64 d] 28)) w.heap.size 28 (.int .i64 c) (.int .i64 d) := World.alloc_heap_new w _
  have bO := Boxed.new (w.alloc (.cells #[.int .i64 c, .int .i64 d] 28)) 30 (.slice none 0 0)
  rw [World.size_alloc] at bO
  have bS := Boxed.new ((w.alloc (.cells #[.int .i64 c, .int .i64 d] 28)).alloc (.cells #[.slice none 0 0] 30)) 9 (.string s)
  rw [World.size_alloc, World.size_alloc] at bS
  have bZ := Boxed.new (((w.alloc (.cells #[.int .i64 c, .int .i64 d] 28)).alloc (.cells #[.slice none 0 0] 30)).alloc (.cells #[.string s] 9)) 3 (.int .i64 c)
  rw [World.size_alloc, World.size_alloc, World.size_alloc] at bZ
  have hB0 : Below w.heap.size w ((((w.alloc (.cells #[.int .i64 c, .int .i64 d] 28)).alloc (.cells #[.slice none 0 0] 30)).alloc (.cells #[.string s] 9)).alloc (.cells #[.int .i64 c] 3)) :=
    ((((Below.refl _ w).alloc (Nat.le_refl _) _).alloc (by simp) _).alloc (by first | (simp; done) | (simp; omega)) _).alloc (by first | (simp; done) | (simp; omega)) _
  have h1 : 1 ≤ 3 := by omega
  have ga := fun (W : World) (o : Obj) => World.grownBy_alloc W o none
  refine wpIn_rangeFunc_ownG rfl h1 (gf := 14) (lb := #[.pointer (some ⟨w.heap.size + 1 + 1, 0, none⟩), .pointer (some ⟨w.heap.size + 1 + 1 + 1, 0, none⟩)]) rfl trivial (enters_of Try.func14 (by kernel_rfl) rfl)
    (lines_stops (3 - 1) (by omega) (w.heap.size + 1 + 1) (w.heap.size + 1 + 1 + 1) w.heap.size s hs c hc0 hc _ (by first | (simp; done) | (simp; omega)) (by first | (simp; done) | (simp; omega)) (bS.alloc _).cell bZ.cell xs hxs) kpL_t (kpL_b (by first | (simp; done) | (simp; omega)) (by first | (simp; done) | (simp; omega))) (Below.refl _ _) (fun _ => rfl)
    (fun pre W => (∃ v, Boxed W (w.heap.size + 1) 30 v ∧ W.ownsRow w.heap.size 36 2 v pre.length (recCells s pre) ∧ True) ∧ Boxed W (w.heap.size + 1 + 1) 9 (.string s) ∧ Box2 W w.heap.size 28 (.int .i64 c) (.int .i64 d) ∧ (∀ y ∈ pre, (y.1 : Int) < d) ∧ Below w.heap.size w W)
    (fun co pre W => (co = .exit 0 ∧ ∃ q x, pre = q ++ [x] ∧ (∀ y ∈ q, (y.1 : Int) < d) ∧ ¬ (x.1 : Int) < d) ∧ (∃ v, Boxed W (w.heap.size + 1) 30 v ∧ W.ownsRow w.heap.size 36 2 v (pre.length - 1) (recCells s pre.dropLast) ∧ True) ∧ Below w.heap.size w W)
    (OwnFrom.and (Own.from (holdsRow_own w.heap.size (w.heap.size + 1) 30 36 2 (fun pre : List (Nat × Nat) => pre.length) (fun pre => recCells s pre) (fun (_ : List (Nat × Nat)) _ => True)) _) (OwnFrom.and (Own.from (boxed_own (w.heap.size + 1 + 1) 9 (fun _ : List (Nat × Nat) => Value.string s)) _) (OwnFrom.and (Own.from (box2_own w.heap.size _ _ _) _) (OwnFrom.and (ownFrom_pure _ _) (ownFrom_below (Nat.le_refl _) (by first | (simp; done) | (simp; omega)))))))
    (fun co => OwnFrom.and (ownFrom_pure _ _) (OwnFrom.and (Own.from (holdsRow_own w.heap.size (w.heap.size + 1) 30 36 2 (fun pre : List (Nat × Nat) => pre.length - 1) (fun pre => recCells s pre.dropLast) (fun (_ : List (Nat × Nat)) _ => True)) _) (ownFrom_below (Nat.le_refl _) (by first | (simp; done) | (simp; omega)))))
    ⟨⟨_, (bO.alloc _).alloc _, World.ownsRow_nil _ _ _ _, trivial⟩, bS.alloc _, ((b2.kept (ga _ _) (by simp)).kept (ga _ _) (by simp)).kept (ga _ _) (by simp), by simp, hB0⟩
    (fun x => { tmps := #[.string s, .agg #[.int .i64 c, .int .i64 d], undef, .pointer (some ⟨w.heap.size, 0, none⟩), .slice none 0 0, .pointer (some ⟨w.heap.size + 1, 0, none⟩), .int .i64 (x.1 : Int), .string (s.extract x.1 x.2), .string s, .pointer (some ⟨w.heap.size, 0, none⟩), .int .i64 c, .func (.func 14) #[] #[.pointer (some ⟨w.heap.size + 1 + 1, 0, none⟩), .pointer (some ⟨w.heap.size + 1 + 1 + 1, 0, none⟩)], .int .i64 (x.1 : Int), .string (s.extract x.1 x.2), undef, undef, undef, undef, undef, undef, undef, undef, undef, undef, undef, undef], defers := [] }) ?assign ?body ?done ?stop
  case assign =>
    intro l x W K hK
    simp only [lnEnc]
    gi_wp2
    exact hK
  case body =>
    rintro l pre x W ⟨⟨v, hv, hrow, _⟩, hbs, hb2, hpre, hB⟩ hlt2
    have hd1 := hb2.second
    have hvc := hv.cell
    have hxz : (s.extract x.1 x.2).size ≤ 140737488351232 := by rw [ByteArray.size_extract]; omega
    have hxl : xs.length ≤ s.size := by
      have := lf_len (l := s.data.toList) (a := begL s.data.toList c)
      rw [← hxs, size_list] at this
      omega
    have k3 : pre.length + 1 ≤ maxLen := by unfold maxLen; omega
    have k4 : (pre.length + 1) * 24 ≤ 140737488355328 := by omega
    by_cases hx : (x.1 : Int) < d
    · skip
      gi_wp2
      have hpre2 : ∀ y ∈ pre ++ [x], (y.1 : Int) < d := by
        intro y hy
        rcases List.mem_append.1 hy with hy | hy
        · exact hpre y hy
        · rw [List.mem_singleton.1 hy]; exact hx
      refine wpIn_region_any (by kernel_rfl) ?_
      change wpAnyIn _ _ _ _ _ _ _ _ _ (World.drew _)
      refine wpAnyIn_ready (rs := [0,1,2]) (by kernel_rfl) (by simp) ?_
      refine AllReadyIn.cons rfl (fun K hK => ?_) (AllReadyIn.cons rfl (fun K hK => ?_) (AllReadyIn.cons rfl (fun K hK => ?_) AllReadyIn.nil))
      · go_simp
        refine hK _ _ ?_
        clear hK K
        refine wpAnyIn_ready (rs := [1,2]) (by kernel_rfl) (by simp) ?_
        refine AllReadyIn.cons rfl (fun K hK => ?_) (AllReadyIn.cons rfl (fun K hK => ?_) AllReadyIn.nil)
        · go_simp
          refine hK _ _ ?_
          clear hK K
          refine wpAnyIn_ready (rs := [2]) (by kernel_rfl) (by simp) ?_
          refine AllReadyIn.cons rfl (fun K hK => ?_) AllReadyIn.nil
          go_simp
          refine hK _ _ ?_
          clear hK K
          refine wpAnyIn_ready (rs := [3]) (by kernel_rfl) (by simp) ?_
          refine AllReadyIn.cons rfl (fun K hK => ?_) AllReadyIn.nil
          go_simp
          refine ⟨trivial, ?_⟩
          refine (CallsIn.inRound l (callsIn_wide.2 (clone_any _ hxz _))).mono ?_
          rintro e w2 ⟨rfl, hcl0⟩
          have hcl := below_undrew hcl0
          refine hK _ _ ?_
          clear hK K
          have hvc2 := (hv.kept (below_grown (show Below W.heap.size W w2 from hcl)) (by simp)).cell
          have hvc3 := ((hv.kept (below_grown (show Below W.heap.size W w2 from hcl)) (by simp)).alloc (.cells #[.int .i64 (x.1 : Int), .string (s.extract x.1 x.2)] 36)).cell
          refine wpAnyIn_ready (rs := [4]) (by kernel_rfl) (by simp) ?_
          refine AllReadyIn.cons rfl (fun K hK => ?_) AllReadyIn.nil
          go_simp
          refine hK _ _ ?_
          clear hK K
          refine wpAnyIn_ready (rs := [5]) (by kernel_rfl) (by simp) ?_
          refine AllReadyIn.cons rfl (fun K hK => ?_) AllReadyIn.nil
          go_simp
          refine hK _ _ ?_
          clear hK K
          refine wpAnyIn_ready (rs := [6]) (by kernel_rfl) (by simp) ?_
          refine AllReadyIn.cons rfl (fun K hK => ?_) AllReadyIn.nil
          have hcl' : Below W.heap.size W w2 := hcl
          have hrow2 := own_below hcl' hrow
          refine stepIn_app18 rfl (.tmp 18) (.tmp 23) 30 rfl w.heap.size 36 i0 _ 2 24 Try.underlying30 hi hz0 hz1 hz2 rfl (by decide) v pre.length _ rfl (hrow2.alloc _) ⟨w2.heap.size, 0, none⟩ 1 1 [.int .i64 (x.1 : Int), .string (s.extract x.1 x.2)] rfl rfl (rec_new _ _ _ _) (by simp [Value.oneCell']) k3 k4 (by have := hB.size; have := hcl.size; simp at this ⊢; omega) ?_
          intro v' w1 hown' hgrow _
          obtain ⟨g', cap', rfl⟩ := ownsRow_succ hown'
          obtain ⟨hv1, t1, t2, t3, t4, t5, t6⟩ := rec_tail hcl' hv hbs hb2 (by decide) (by decide) (by decide) (by omega) (by omega) hrow hB.size (Nat.le_succ _) hown' hgrow
          have hc1 := hv1.cell
          have hf1 := hv1.frozen
          refine hK _ _ ?_
          clear hK K
          refine wpAnyIn_ready (rs := [7]) (by kernel_rfl) (by simp) ?_
          refine AllReadyIn.cons rfl (fun K hK => ?_) AllReadyIn.nil
          go_simp
          refine hK _ _ ?_
          clear hK K
          refine wpAnyIn_done (by kernel_rfl) ?_ _
          exact ⟨t1.from _, ⟨t2, t5.cell.trans hbs.cell.symm⟩, ⟨_, t3, by rw [List.length_append, recCells_snoc]; exact t4, trivial⟩, t5, t6, hpre2, hB.trans t2⟩
        · go_simp
          refine hK _ _ ?_
          clear hK K
          refine wpAnyIn_ready (rs := [1,3]) (by kernel_rfl) (by simp) ?_
          refine AllReadyIn.cons rfl (fun K hK => ?_) (AllReadyIn.cons rfl (fun K hK => ?_) AllReadyIn.nil)
          · go_simp
            refine hK _ _ ?_
            clear hK K
            refine wpAnyIn_ready (rs := [3]) (by kernel_rfl) (by simp) ?_
            refine AllReadyIn.cons rfl (fun K hK => ?_) AllReadyIn.nil
            go_simp
            refine ⟨trivial, ?_⟩
            refine (CallsIn.inRound l (callsIn_wide.2 (clone_any _ hxz _))).mono ?_
            rintro e w2 ⟨rfl, hcl0⟩
            have hcl := below_undrew hcl0
            refine hK _ _ ?_
            clear hK K
            have hvc2 := (hv.kept (below_grown (show Below W.heap.size W w2 from hcl)) (by simp)).cell
            have hvc3 := ((hv.kept (below_grown (show Below W.heap.size W w2 from hcl)) (by simp)).alloc (.cells #[.int .i64 (x.1 : Int), .string (s.extract x.1 x.2)] 36)).cell
            refine wpAnyIn_ready (rs := [4]) (by kernel_rfl) (by simp) ?_
            refine AllReadyIn.cons rfl (fun K hK => ?_) AllReadyIn.nil
            go_simp
            refine hK _ _ ?_
            clear hK K
            refine wpAnyIn_ready (rs := [5]) (by kernel_rfl) (by simp) ?_
            refine AllReadyIn.cons rfl (fun K hK => ?_) AllReadyIn.nil
            go_simp
            refine hK _ _ ?_
            clear hK K
            refine wpAnyIn_ready (rs := [6]) (by kernel_rfl) (by simp) ?_
            refine AllReadyIn.cons rfl (fun K hK => ?_) AllReadyIn.nil
            have hcl' : Below W.heap.size W w2 := hcl
            have hrow2 := own_below hcl' hrow
            refine stepIn_app18 rfl (.tmp 18) (.tmp 23) 30 rfl w.heap.size 36 i0 _ 2 24 Try.underlying30 hi hz0 hz1 hz2 rfl (by decide) v pre.length _ rfl (hrow2.alloc _) ⟨w2.heap.size, 0, none⟩ 1 1 [.int .i64 (x.1 : Int), .string (s.extract x.1 x.2)] rfl rfl (rec_new _ _ _ _) (by simp [Value.oneCell']) k3 k4 (by have := hB.size; have := hcl.size; simp at this ⊢; omega) ?_
            intro v' w1 hown' hgrow _
            obtain ⟨g', cap', rfl⟩ := ownsRow_succ hown'
            obtain ⟨hv1, t1, t2, t3, t4, t5, t6⟩ := rec_tail hcl' hv hbs hb2 (by decide) (by decide) (by decide) (by omega) (by omega) hrow hB.size (Nat.le_succ _) hown' hgrow
            have hc1 := hv1.cell
            have hf1 := hv1.frozen
            refine hK _ _ ?_
            clear hK K
            refine wpAnyIn_ready (rs := [7]) (by kernel_rfl) (by simp) ?_
            refine AllReadyIn.cons rfl (fun K hK => ?_) AllReadyIn.nil
            go_simp
            refine hK _ _ ?_
            clear hK K
            refine wpAnyIn_done (by kernel_rfl) ?_ _
            exact ⟨t1.from _, ⟨t2, t5.cell.trans hbs.cell.symm⟩, ⟨_, t3, by rw [List.length_append, recCells_snoc]; exact t4, trivial⟩, t5, t6, hpre2, hB.trans t2⟩
          · go_simp
            refine ⟨trivial, ?_⟩
            refine (CallsIn.inRound l (callsIn_wide.2 (clone_any _ hxz _))).mono ?_
            rintro e w2 ⟨rfl, hcl0⟩
            have hcl := below_undrew hcl0
            refine hK _ _ ?_
            clear hK K
            have hvc2 := (hv.kept (below_grown (show Below W.heap.size W w2 from hcl)) (by simp)).cell
            have hvc3 := ((hv.kept (below_grown (show Below W.heap.size W w2 from hcl)) (by simp)).alloc (.cells #[.int .i64 (x.1 : Int), .string (s.extract x.1 x.2)] 36)).cell
            refine wpAnyIn_ready (rs := [1]) (by kernel_rfl) (by simp) ?_
            refine AllReadyIn.cons rfl (fun K hK => ?_) AllReadyIn.nil
            go_simp
            refine hK _ _ ?_
            clear hK K
            refine wpAnyIn_ready (rs := [4]) (by kernel_rfl) (by simp) ?_
            refine AllReadyIn.cons rfl (fun K hK => ?_) AllReadyIn.nil
            go_simp
            refine hK _ _ ?_
            clear hK K
            refine wpAnyIn_ready (rs := [5]) (by kernel_rfl) (by simp) ?_
            refine AllReadyIn.cons rfl (fun K hK => ?_) AllReadyIn.nil
            go_simp
            refine hK _ _ ?_
            clear hK K
            refine wpAnyIn_ready (rs := [6]) (by kernel_rfl) (by simp) ?_
            refine AllReadyIn.cons rfl (fun K hK => ?_) AllReadyIn.nil
            have hcl' : Below W.heap.size W w2 := hcl
            have hrow2 := own_below hcl' hrow
            refine stepIn_app18 rfl (.tmp 18) (.tmp 23) 30 rfl w.heap.size 36 i0 _ 2 24 Try.underlying30 hi hz0 hz1 hz2 rfl (by decide) v pre.length _ rfl (hrow2.alloc _) ⟨w2.heap.size, 0, none⟩ 1 1 [.int .i64 (x.1 : Int), .string (s.extract x.1 x.2)] rfl rfl (rec_new _ _ _ _) (by simp [Value.oneCell']) k3 k4 (by have := hB.size; have := hcl.size; simp at this ⊢; omega) ?_
            intro v' w1 hown' hgrow _
            obtain ⟨g', cap', rfl⟩ := ownsRow_succ hown'
            obtain ⟨hv1, t1, t2, t3, t4, t5, t6⟩ := rec_tail hcl' hv hbs hb2 (by decide) (by decide) (by decide) (by omega) (by omega) hrow hB.size (Nat.le_succ _) hown' hgrow
            have hc1 := hv1.cell
            have hf1 := hv1.frozen
            refine hK _ _ ?_
            clear hK K
            refine wpAnyIn_ready (rs := [7]) (by kernel_rfl) (by simp) ?_
            refine AllReadyIn.cons rfl (fun K hK => ?_) AllReadyIn.nil
            go_simp
            refine hK _ _ ?_
            clear hK K
            refine wpAnyIn_done (by kernel_rfl) ?_ _
            exact ⟨t1.from _, ⟨t2, t5.cell.trans hbs.cell.symm⟩, ⟨_, t3, by rw [List.length_append, recCells_snoc]; exact t4, trivial⟩, t5, t6, hpre2, hB.trans t2⟩
      · go_simp
        refine hK _ _ ?_
        clear hK K
        refine wpAnyIn_ready (rs := [0,2]) (by kernel_rfl) (by simp) ?_
        refine AllReadyIn.cons rfl (fun K hK => ?_) (AllReadyIn.cons rfl (fun K hK => ?_) AllReadyIn.nil)
        · go_simp
          refine hK _ _ ?_
          clear hK K
          refine wpAnyIn_ready (rs := [2]) (by kernel_rfl) (by simp) ?_
          refine AllReadyIn.cons rfl (fun K hK => ?_) AllReadyIn.nil
          go_simp
          refine hK _ _ ?_
          clear hK K
          refine wpAnyIn_ready (rs := [3]) (by kernel_rfl) (by simp) ?_
          refine AllReadyIn.cons rfl (fun K hK => ?_) AllReadyIn.nil
          go_simp
          refine ⟨trivial, ?_⟩
          refine (CallsIn.inRound l (callsIn_wide.2 (clone_any _ hxz _))).mono ?_
          rintro e w2 ⟨rfl, hcl0⟩
          have hcl := below_undrew hcl0
          refine hK _ _ ?_
          clear hK K
          have hvc2 := (hv.kept (below_grown (show Below W.heap.size W w2 from hcl)) (by simp)).cell
          have hvc3 := ((hv.kept (below_grown (show Below W.heap.size W w2 from hcl)) (by simp)).alloc (.cells #[.int .i64 (x.1 : Int), .string (s.extract x.1 x.2)] 36)).cell
          refine wpAnyIn_ready (rs := [4]) (by kernel_rfl) (by simp) ?_
          refine AllReadyIn.cons rfl (fun K hK => ?_) AllReadyIn.nil
          go_simp
          refine hK _ _ ?_
          clear hK K
          refine wpAnyIn_ready (rs := [5]) (by kernel_rfl) (by simp) ?_
          refine AllReadyIn.cons rfl (fun K hK => ?_) AllReadyIn.nil
          go_simp
          refine hK _ _ ?_
          clear hK K
          refine wpAnyIn_ready (rs := [6]) (by kernel_rfl) (by simp) ?_
          refine AllReadyIn.cons rfl (fun K hK => ?_) AllReadyIn.nil
          have hcl' : Below W.heap.size W w2 := hcl
          have hrow2 := own_below hcl' hrow
          refine stepIn_app18 rfl (.tmp 18) (.tmp 23) 30 rfl w.heap.size 36 i0 _ 2 24 Try.underlying30 hi hz0 hz1 hz2 rfl (by decide) v pre.length _ rfl (hrow2.alloc _) ⟨w2.heap.size, 0, none⟩ 1 1 [.int .i64 (x.1 : Int), .string (s.extract x.1 x.2)] rfl rfl (rec_new _ _ _ _) (by simp [Value.oneCell']) k3 k4 (by have := hB.size; have := hcl.size; simp at this ⊢; omega) ?_
          intro v' w1 hown' hgrow _
          obtain ⟨g', cap', rfl⟩ := ownsRow_succ hown'
          obtain ⟨hv1, t1, t2, t3, t4, t5, t6⟩ := rec_tail hcl' hv hbs hb2 (by decide) (by decide) (by decide) (by omega) (by omega) hrow hB.size (Nat.le_succ _) hown' hgrow
          have hc1 := hv1.cell
          have hf1 := hv1.frozen
          refine hK _ _ ?_
          clear hK K
          refine wpAnyIn_ready (rs := [7]) (by kernel_rfl) (by simp) ?_
          refine AllReadyIn.cons rfl (fun K hK => ?_) AllReadyIn.nil
          go_simp
          refine hK _ _ ?_
          clear hK K
          refine wpAnyIn_done (by kernel_rfl) ?_ _
          exact ⟨t1.from _, ⟨t2, t5.cell.trans hbs.cell.symm⟩, ⟨_, t3, by rw [List.length_append, recCells_snoc]; exact t4, trivial⟩, t5, t6, hpre2, hB.trans t2⟩
        · go_simp
          refine hK _ _ ?_
          clear hK K
          refine wpAnyIn_ready (rs := [0,3]) (by kernel_rfl) (by simp) ?_
          refine AllReadyIn.cons rfl (fun K hK => ?_) (AllReadyIn.cons rfl (fun K hK => ?_) AllReadyIn.nil)
          · go_simp
            refine hK _ _ ?_
            clear hK K
            refine wpAnyIn_ready (rs := [3]) (by kernel_rfl) (by simp) ?_
            refine AllReadyIn.cons rfl (fun K hK => ?_) AllReadyIn.nil
            go_simp
            refine ⟨trivial, ?_⟩
            refine (CallsIn.inRound l (callsIn_wide.2 (clone_any _ hxz _))).mono ?_
            rintro e w2 ⟨rfl, hcl0⟩
            have hcl := below_undrew hcl0
            refine hK _ _ ?_
            clear hK K
            have hvc2 := (hv.kept (below_grown (show Below W.heap.size W w2 from hcl)) (by simp)).cell
            have hvc3 := ((hv.kept (below_grown (show Below W.heap.size W w2 from hcl)) (by simp)).alloc (.cells #[.int .i64 (x.1 : Int), .string (s.extract x.1 x.2)] 36)).cell
            refine wpAnyIn_ready (rs := [4]) (by kernel_rfl) (by simp) ?_
            refine AllReadyIn.cons rfl (fun K hK => ?_) AllReadyIn.nil
            go_simp
            refine hK _ _ ?_
            clear hK K
            refine wpAnyIn_ready (rs := [5]) (by kernel_rfl) (by simp) ?_
            refine AllReadyIn.cons rfl (fun K hK => ?_) AllReadyIn.nil
            go_simp
            refine hK _ _ ?_
            clear hK K
            refine wpAnyIn_ready (rs := [6]) (by kernel_rfl) (by simp) ?_
            refine AllReadyIn.cons rfl (fun K hK => ?_) AllReadyIn.nil
            have hcl' : Below W.heap.size W w2 := hcl
            have hrow2 := own_below hcl' hrow
            refine stepIn_app18 rfl (.tmp 18) (.tmp 23) 30 rfl w.heap.size 36 i0 _ 2 24 Try.underlying30 hi hz0 hz1 hz2 rfl (by decide) v pre.length _ rfl (hrow2.alloc _) ⟨w2.heap.size, 0, none⟩ 1 1 [.int .i64 (x.1 : Int), .string (s.extract x.1 x.2)] rfl rfl (rec_new _ _ _ _) (by simp [Value.oneCell']) k3 k4 (by have := hB.size; have := hcl.size; simp at this ⊢; omega) ?_
            intro v' w1 hown' hgrow _
            obtain ⟨g', cap', rfl⟩ := ownsRow_succ hown'
            obtain ⟨hv1, t1, t2, t3, t4, t5, t6⟩ := rec_tail hcl' hv hbs hb2 (by decide) (by decide) (by decide) (by omega) (by omega) hrow hB.size (Nat.le_succ _) hown' hgrow
            have hc1 := hv1.cell
            have hf1 := hv1.frozen
            refine hK _ _ ?_
            clear hK K
            refine wpAnyIn_ready (rs := [7]) (by kernel_rfl) (by simp) ?_
            refine AllReadyIn.cons rfl (fun K hK => ?_) AllReadyIn.nil
            go_simp
            refine hK _ _ ?_
            clear hK K
            refine wpAnyIn_done (by kernel_rfl) ?_ _
            exact ⟨t1.from _, ⟨t2, t5.cell.trans hbs.cell.symm⟩, ⟨_, t3, by rw [List.length_append, recCells_snoc]; exact t4, trivial⟩, t5, t6, hpre2, hB.trans t2⟩
          · go_simp
            refine ⟨trivial, ?_⟩
            refine (CallsIn.inRound l (callsIn_wide.2 (clone_any _ hxz _))).mono ?_
            rintro e w2 ⟨rfl, hcl0⟩
            have hcl := below_undrew hcl0
            refine hK _ _ ?_
            clear hK K
            have hvc2 := (hv.kept (below_grown (show Below W.heap.size W w2 from hcl)) (by simp)).cell
            have hvc3 := ((hv.kept (below_grown (show Below W.heap.size W w2 from hcl)) (by simp)).alloc (.cells #[.int .i64 (x.1 : Int), .string (s.extract x.1 x.2)] 36)).cell
            refine wpAnyIn_ready (rs := [0,4]) (by kernel_rfl) (by simp) ?_
            refine AllReadyIn.cons rfl (fun K hK => ?_) (AllReadyIn.cons rfl (fun K hK => ?_) AllReadyIn.nil)
            · go_simp
              refine hK _ _ ?_
              clear hK K
              refine wpAnyIn_ready (rs := [4]) (by kernel_rfl) (by simp) ?_
              refine AllReadyIn.cons rfl (fun K hK => ?_) AllReadyIn.nil
              go_simp
              refine hK _ _ ?_
              clear hK K
              refine wpAnyIn_ready (rs := [5]) (by kernel_rfl) (by simp) ?_
              refine AllReadyIn.cons rfl (fun K hK => ?_) AllReadyIn.nil
              go_simp
              refine hK _ _ ?_
              clear hK K
              refine wpAnyIn_ready (rs := [6]) (by kernel_rfl) (by simp) ?_
              refine AllReadyIn.cons rfl (fun K hK => ?_) AllReadyIn.nil
              have hcl' : Below W.heap.size W w2 := hcl
              have hrow2 := own_below hcl' hrow
              refine stepIn_app18 rfl (.tmp 18) (.tmp 23) 30 rfl w.heap.size 36 i0 _ 2 24 Try.underlying30 hi hz0 hz1 hz2 rfl (by decide) v pre.length _ rfl (hrow2.alloc _) ⟨w2.heap.size, 0, none⟩ 1 1 [.int .i64 (x.1 : Int), .string (s.extract x.1 x.2)] rfl rfl (rec_new _ _ _ _) (by simp [Value.oneCell']) k3 k4 (by have := hB.size; have := hcl.size; simp at this ⊢; omega) ?_
              intro v' w1 hown' hgrow _
              obtain ⟨g', cap', rfl⟩ := ownsRow_succ hown'
              obtain ⟨hv1, t1, t2, t3, t4, t5, t6⟩ := rec_tail hcl' hv hbs hb2 (by decide) (by decide) (by decide) (by omega) (by omega) hrow hB.size (Nat.le_succ _) hown' hgrow
              have hc1 := hv1.cell
              have hf1 := hv1.frozen
              refine hK _ _ ?_
              clear hK K
              refine wpAnyIn_ready (rs := [7]) (by kernel_rfl) (by simp) ?_
              refine AllReadyIn.cons rfl (fun K hK => ?_) AllReadyIn.nil
              go_simp
              refine hK _ _ ?_
              clear hK K
              refine wpAnyIn_done (by kernel_rfl) ?_ _
              exact ⟨t1.from _, ⟨t2, t5.cell.trans hbs.cell.symm⟩, ⟨_, t3, by rw [List.length_append, recCells_snoc]; exact t4, trivial⟩, t5, t6, hpre2, hB.trans t2⟩
            · go_simp
              refine hK _ _ ?_
              clear hK K
              refine wpAnyIn_ready (rs := [0,5]) (by kernel_rfl) (by simp) ?_
              refine AllReadyIn.cons rfl (fun K hK => ?_) (AllReadyIn.cons rfl (fun K hK => ?_) AllReadyIn.nil)
              · go_simp
                refine hK _ _ ?_
                clear hK K
                refine wpAnyIn_ready (rs := [5]) (by kernel_rfl) (by simp) ?_
                refine AllReadyIn.cons rfl (fun K hK => ?_) AllReadyIn.nil
                go_simp
                refine hK _ _ ?_
                clear hK K
                refine wpAnyIn_ready (rs := [6]) (by kernel_rfl) (by simp) ?_
                refine AllReadyIn.cons rfl (fun K hK => ?_) AllReadyIn.nil
                have hcl' : Below W.heap.size W w2 := hcl
                have hrow2 := own_below hcl' hrow
                refine stepIn_app18 rfl (.tmp 18) (.tmp 23) 30 rfl w.heap.size 36 i0 _ 2 24 Try.underlying30 hi hz0 hz1 hz2 rfl (by decide) v pre.length _ rfl (hrow2.alloc _) ⟨w2.heap.size, 0, none⟩ 1 1 [.int .i64 (x.1 : Int), .string (s.extract x.1 x.2)] rfl rfl (rec_new _ _ _ _) (by simp [Value.oneCell']) k3 k4 (by have := hB.size; have := hcl.size; simp at this ⊢; omega) ?_
                intro v' w1 hown' hgrow _
                obtain ⟨g', cap', rfl⟩ := ownsRow_succ hown'
                obtain ⟨hv1, t1, t2, t3, t4, t5, t6⟩ := rec_tail hcl' hv hbs hb2 (by decide) (by decide) (by decide) (by omega) (by omega) hrow hB.size (Nat.le_succ _) hown' hgrow
                have hc1 := hv1.cell
                have hf1 := hv1.frozen
                refine hK _ _ ?_
                clear hK K
                refine wpAnyIn_ready (rs := [7]) (by kernel_rfl) (by simp) ?_
                refine AllReadyIn.cons rfl (fun K hK => ?_) AllReadyIn.nil
                go_simp
                refine hK _ _ ?_
                clear hK K
                refine wpAnyIn_done (by kernel_rfl) ?_ _
                exact ⟨t1.from _, ⟨t2, t5.cell.trans hbs.cell.symm⟩, ⟨_, t3, by rw [List.length_append, recCells_snoc]; exact t4, trivial⟩, t5, t6, hpre2, hB.trans t2⟩
              · go_simp
                refine hK _ _ ?_
                clear hK K
                refine wpAnyIn_ready (rs := [0]) (by kernel_rfl) (by simp) ?_
                refine AllReadyIn.cons rfl (fun K hK => ?_) AllReadyIn.nil
                go_simp
                refine hK _ _ ?_
                clear hK K
                refine wpAnyIn_ready (rs := [6]) (by kernel_rfl) (by simp) ?_
                refine AllReadyIn.cons rfl (fun K hK => ?_) AllReadyIn.nil
                have hcl' : Below W.heap.size W w2 := hcl
                have hrow2 := own_below hcl' hrow
                refine stepIn_app18 rfl (.tmp 18) (.tmp 23) 30 rfl w.heap.size 36 i0 _ 2 24 Try.underlying30 hi hz0 hz1 hz2 rfl (by decide) v pre.length _ rfl (hrow2.alloc _) ⟨w2.heap.size, 0, none⟩ 1 1 [.int .i64 (x.1 : Int), .string (s.extract x.1 x.2)] rfl rfl (rec_new _ _ _ _) (by simp [Value.oneCell']) k3 k4 (by have := hB.size; have := hcl.size; simp at this ⊢; omega) ?_
                intro v' w1 hown' hgrow _
                obtain ⟨g', cap', rfl⟩ := ownsRow_succ hown'
                obtain ⟨hv1, t1, t2, t3, t4, t5, t6⟩ := rec_tail hcl' hv hbs hb2 (by decide) (by decide) (by decide) (by omega) (by omega) hrow hB.size (Nat.le_succ _) hown' hgrow
                have hc1 := hv1.cell
                have hf1 := hv1.frozen
                refine hK _ _ ?_
                clear hK K
                refine wpAnyIn_ready (rs := [7]) (by kernel_rfl) (by simp) ?_
                refine AllReadyIn.cons rfl (fun K hK => ?_) AllReadyIn.nil
                go_simp
                refine hK _ _ ?_
                clear hK K
                refine wpAnyIn_done (by kernel_rfl) ?_ _
                exact ⟨t1.from _, ⟨t2, t5.cell.trans hbs.cell.symm⟩, ⟨_, t3, by rw [List.length_append, recCells_snoc]; exact t4, trivial⟩, t5, t6, hpre2, hB.trans t2⟩
      · go_simp
        refine hK _ _ ?_
        clear hK K
        refine wpAnyIn_ready (rs := [0,1,3]) (by kernel_rfl) (by simp) ?_
        refine AllReadyIn.cons rfl (fun K hK => ?_) (AllReadyIn.cons rfl (fun K hK => ?_) (AllReadyIn.cons rfl (fun K hK => ?_) AllReadyIn.nil))
        · go_simp
          refine hK _ _ ?_
          clear hK K
          refine wpAnyIn_ready (rs := [1,3]) (by kernel_rfl) (by simp) ?_
          refine AllReadyIn.cons rfl (fun K hK => ?_) (AllReadyIn.cons rfl (fun K hK => ?_) AllReadyIn.nil)
          · go_simp
            refine hK _ _ ?_
            clear hK K
            refine wpAnyIn_ready (rs := [3]) (by kernel_rfl) (by simp) ?_
            refine AllReadyIn.cons rfl (fun K hK => ?_) AllReadyIn.nil
            go_simp
            refine ⟨trivial, ?_⟩
            refine (CallsIn.inRound l (callsIn_wide.2 (clone_any _ hxz _))).mono ?_
            rintro e w2 ⟨rfl, hcl0⟩
            have hcl := below_undrew hcl0
            refine hK _ _ ?_
            clear hK K
            have hvc2 := (hv.kept (below_grown (show Below W.heap.size W w2 from hcl)) (by simp)).cell
            have hvc3 := ((hv.kept (below_grown (show Below W.heap.size W w2 from hcl)) (by simp)).alloc (.cells #[.int .i64 (x.1 : Int), .string (s.extract x.1 x.2)] 36)).cell
            refine wpAnyIn_ready (rs := [4]) (by kernel_rfl) (by simp) ?_
            refine AllReadyIn.cons rfl (fun K hK => ?_) AllReadyIn.nil
            go_simp
            refine hK _ _ ?_
            clear hK K
            refine wpAnyIn_ready (rs := [5]) (by kernel_rfl) (by simp) ?_
            refine AllReadyIn.cons rfl (fun K hK => ?_) AllReadyIn.nil
            go_simp
            refine hK _ _ ?_
            clear hK K
            refine wpAnyIn_ready (rs := [6]) (by kernel_rfl) (by simp) ?_
            refine AllReadyIn.cons rfl (fun K hK => ?_) AllReadyIn.nil
            have hcl' : Below W.heap.size W w2 := hcl
            have hrow2 := own_below hcl' hrow
            refine stepIn_app18 rfl (.tmp 18) (.tmp 23) 30 rfl w.heap.size 36 i0 _ 2 24 Try.underlying30 hi hz0 hz1 hz2 rfl (by decide) v pre.length _ rfl (hrow2.alloc _) ⟨w2.heap.size, 0, none⟩ 1 1 [.int .i64 (x.1 : Int), .string (s.extract x.1 x.2)] rfl rfl (rec_new _ _ _ _) (by simp [Value.oneCell']) k3 k4 (by have := hB.size; have := hcl.size; simp at this ⊢; omega) ?_
            intro v' w1 hown' hgrow _
            obtain ⟨g', cap', rfl⟩ := ownsRow_succ hown'
            obtain ⟨hv1, t1, t2, t3, t4, t5, t6⟩ := rec_tail hcl' hv hbs hb2 (by decide) (by decide) (by decide) (by omega) (by omega) hrow hB.size (Nat.le_succ _) hown' hgrow
            have hc1 := hv1.cell
            have hf1 := hv1.frozen
            refine hK _ _ ?_
            clear hK K
            refine wpAnyIn_ready (rs := [7]) (by kernel_rfl) (by simp) ?_
            refine AllReadyIn.cons rfl (fun K hK => ?_) AllReadyIn.nil
            go_simp
            refine hK _ _ ?_
            clear hK K
            refine wpAnyIn_done (by kernel_rfl) ?_ _
            exact ⟨t1.from _, ⟨t2, t5.cell.trans hbs.cell.symm⟩, ⟨_, t3, by rw [List.length_append, recCells_snoc]; exact t4, trivial⟩, t5, t6, hpre2, hB.trans t2⟩
          · go_simp
            refine ⟨trivial, ?_⟩
            refine (CallsIn.inRound l (callsIn_wide.2 (clone_any _ hxz _))).mono ?_
            rintro e w2 ⟨rfl, hcl0⟩
            have hcl := below_undrew hcl0
            refine hK _ _ ?_
            clear hK K
            have hvc2 := (hv.kept (below_grown (show Below W.heap.size W w2 from hcl)) (by simp)).cell
            have hvc3 := ((hv.kept (below_grown (show Below W.heap.size W w2 from hcl)) (by simp)).alloc (.cells #[.int .i64 (x.1 : Int), .string (s.extract x.1 x.2)] 36)).cell
            refine wpAnyIn_ready (rs := [1]) (by kernel_rfl) (by simp) ?_
            refine AllReadyIn.cons rfl (fun K hK => ?_) AllReadyIn.nil
            go_simp
            refine hK _ _ ?_
            clear hK K
            refine wpAnyIn_ready (rs := [4]) (by kernel_rfl) (by simp) ?_
            refine AllReadyIn.cons rfl (fun K hK => ?_) AllReadyIn.nil
            go_simp
            refine hK _ _ ?_
            clear hK K
            refine wpAnyIn_ready (rs := [5]) (by kernel_rfl) (by simp) ?_
            refine AllReadyIn.cons rfl (fun K hK => ?_) AllReadyIn.nil
            go_simp
            refine hK _ _ ?_
            clear hK K
            refine wpAnyIn_ready (rs := [6]) (by kernel_rfl) (by simp) ?_
            refine AllReadyIn.cons rfl (fun K hK => ?_) AllReadyIn.nil
            have hcl' : Below W.heap.size W w2 := hcl
            have hrow2 := own_below hcl' hrow
            refine stepIn_app18 rfl (.tmp 18) (.tmp 23) 30 rfl w.heap.size 36 i0 _ 2 24 Try.underlying30 hi hz0 hz1 hz2 rfl (by decide) v pre.length _ rfl (hrow2.alloc _) ⟨w2.heap.size, 0, none⟩ 1 1 [.int .i64 (x.1 : Int), .string (s.extract x.1 x.2)] rfl rfl (rec_new _ _ _ _) (by simp [Value.oneCell']) k3 k4 (by have := hB.size; have := hcl.size; simp at this ⊢; omega) ?_
            intro v' w1 hown' hgrow _
            obtain ⟨g', cap', rfl⟩ := ownsRow_succ hown'
            obtain ⟨hv1, t1, t2, t3, t4, t5, t6⟩ := rec_tail hcl' hv hbs hb2 (by decide) (by decide) (by decide) (by omega) (by omega) hrow hB.size (Nat.le_succ _) hown' hgrow
            have hc1 := hv1.cell
            have hf1 := hv1.frozen
            refine hK _ _ ?_
            clear hK K
            refine wpAnyIn_ready (rs := [7]) (by kernel_rfl) (by simp) ?_
            refine AllReadyIn.cons rfl (fun K hK => ?_) AllReadyIn.nil
            go_simp
            refine hK _ _ ?_
            clear hK K
            refine wpAnyIn_done (by kernel_rfl) ?_ _
            exact ⟨t1.from _, ⟨t2, t5.cell.trans hbs.cell.symm⟩, ⟨_, t3, by rw [List.length_append, recCells_snoc]; exact t4, trivial⟩, t5, t6, hpre2, hB.trans t2⟩
        · go_simp
          refine hK _ _ ?_
          clear hK K
          refine wpAnyIn_ready (rs := [0,3]) (by kernel_rfl) (by simp) ?_
          refine AllReadyIn.cons rfl (fun K hK => ?_) (AllReadyIn.cons rfl (fun K hK => ?_) AllReadyIn.nil)
          · go_simp
            refine hK _ _ ?_
            clear hK K
            refine wpAnyIn_ready (rs := [3]) (by kernel_rfl) (by simp) ?_
            refine AllReadyIn.cons rfl (fun K hK => ?_) AllReadyIn.nil
            go_simp
            refine ⟨trivial, ?_⟩
            refine (CallsIn.inRound l (callsIn_wide.2 (clone_any _ hxz _))).mono ?_
            rintro e w2 ⟨rfl, hcl0⟩
            have hcl := below_undrew hcl0
            refine hK _ _ ?_
            clear hK K
            have hvc2 := (hv.kept (below_grown (show Below W.heap.size W w2 from hcl)) (by simp)).cell
            have hvc3 := ((hv.kept (below_grown (show Below W.heap.size W w2 from hcl)) (by simp)).alloc (.cells #[.int .i64 (x.1 : Int), .string (s.extract x.1 x.2)] 36)).cell
            refine wpAnyIn_ready (rs := [4]) (by kernel_rfl) (by simp) ?_
            refine AllReadyIn.cons rfl (fun K hK => ?_) AllReadyIn.nil
            go_simp
            refine hK _ _ ?_
            clear hK K
            refine wpAnyIn_ready (rs := [5]) (by kernel_rfl) (by simp) ?_
            refine AllReadyIn.cons rfl (fun K hK => ?_) AllReadyIn.nil
            go_simp
            refine hK _ _ ?_
            clear hK K
            refine wpAnyIn_ready (rs := [6]) (by kernel_rfl) (by simp) ?_
            refine AllReadyIn.cons rfl (fun K hK => ?_) AllReadyIn.nil
            have hcl' : Below W.heap.size W w2 := hcl
            have hrow2 := own_below hcl' hrow
            refine stepIn_app18 rfl (.tmp 18) (.tmp 23) 30 rfl w.heap.size 36 i0 _ 2 24 Try.underlying30 hi hz0 hz1 hz2 rfl (by decide) v pre.length _ rfl (hrow2.alloc _) ⟨w2.heap.size, 0, none⟩ 1 1 [.int .i64 (x.1 : Int), .string (s.extract x.1 x.2)] rfl rfl (rec_new _ _ _ _) (by simp [Value.oneCell']) k3 k4 (by have := hB.size; have := hcl.size; simp at this ⊢; omega) ?_
            intro v' w1 hown' hgrow _
            obtain ⟨g', cap', rfl⟩ := ownsRow_succ hown'
            obtain ⟨hv1, t1, t2, t3, t4, t5, t6⟩ := rec_tail hcl' hv hbs hb2 (by decide) (by decide) (by decide) (by omega) (by omega) hrow hB.size (Nat.le_succ _) hown' hgrow
            have hc1 := hv1.cell
            have hf1 := hv1.frozen
            refine hK _ _ ?_
            clear hK K
            refine wpAnyIn_ready (rs := [7]) (by kernel_rfl) (by simp) ?_
            refine AllReadyIn.cons rfl (fun K hK => ?_) AllReadyIn.nil
            go_simp
            refine hK _ _ ?_
            clear hK K
            refine wpAnyIn_done (by kernel_rfl) ?_ _
            exact ⟨t1.from _, ⟨t2, t5.cell.trans hbs.cell.symm⟩, ⟨_, t3, by rw [List.length_append, recCells_snoc]; exact t4, trivial⟩, t5, t6, hpre2, hB.trans t2⟩
          · go_simp
            refine ⟨trivial, ?_⟩
            refine (CallsIn.inRound l (callsIn_wide.2 (clone_any _ hxz _))).mono ?_
            rintro e w2 ⟨rfl, hcl0⟩
            have hcl := below_undrew hcl0
            refine hK _ _ ?_
            clear hK K
            have hvc2 := (hv.kept (below_grown (show Below W.heap.size W w2 from hcl)) (by simp)).cell
            have hvc3 := ((hv.kept (below_grown (show Below W.heap.size W w2 from hcl)) (by simp)).alloc (.cells #[.int .i64 (x.1 : Int), .string (s.extract x.1 x.2)] 36)).cell
            refine wpAnyIn_ready (rs := [0,4]) (by kernel_rfl) (by simp) ?_
            refine AllReadyIn.cons rfl (fun K hK => ?_) (AllReadyIn.cons rfl (fun K hK => ?_) AllReadyIn.nil)
            · go_simp
              refine hK _ _ ?_
              clear hK K
              refine wpAnyIn_ready (rs := [4]) (by kernel_rfl) (by simp) ?_
              refine AllReadyIn.cons rfl (fun K hK => ?_) AllReadyIn.nil
              go_simp
              refine hK _ _ ?_
              clear hK K
              refine wpAnyIn_ready (rs := [5]) (by kernel_rfl) (by simp) ?_
              refine AllReadyIn.cons rfl (fun K hK => ?_) AllReadyIn.nil
              go_simp
              refine hK _ _ ?_
              clear hK K
              refine wpAnyIn_ready (rs := [6]) (by kernel_rfl) (by simp) ?_
              refine AllReadyIn.cons rfl (fun K hK => ?_) AllReadyIn.nil
              have hcl' : Below W.heap.size W w2 := hcl
              have hrow2 := own_below hcl' hrow
              refine stepIn_app18 rfl (.tmp 18) (.tmp 23) 30 rfl w.heap.size 36 i0 _ 2 24 Try.underlying30 hi hz0 hz1 hz2 rfl (by decide) v pre.length _ rfl (hrow2.alloc _) ⟨w2.heap.size, 0, none⟩ 1 1 [.int .i64 (x.1 : Int), .string (s.extract x.1 x.2)] rfl rfl (rec_new _ _ _ _) (by simp [Value.oneCell']) k3 k4 (by have := hB.size; have := hcl.size; simp at this ⊢; omega) ?_
              intro v' w1 hown' hgrow _
              obtain ⟨g', cap', rfl⟩ := ownsRow_succ hown'
              obtain ⟨hv1, t1, t2, t3, t4, t5, t6⟩ := rec_tail hcl' hv hbs hb2 (by decide) (by decide) (by decide) (by omega) (by omega) hrow hB.size (Nat.le_succ _) hown' hgrow
              have hc1 := hv1.cell
              have hf1 := hv1.frozen
              refine hK _ _ ?_
              clear hK K
              refine wpAnyIn_ready (rs := [7]) (by kernel_rfl) (by simp) ?_
              refine AllReadyIn.cons rfl (fun K hK => ?_) AllReadyIn.nil
              go_simp
              refine hK _ _ ?_
              clear hK K
              refine wpAnyIn_done (by kernel_rfl) ?_ _
              exact ⟨t1.from _, ⟨t2, t5.cell.trans hbs.cell.symm⟩, ⟨_, t3, by rw [List.length_append, recCells_snoc]; exact t4, trivial⟩, t5, t6, hpre2, hB.trans t2⟩
            · go_simp
              refine hK _ _ ?_
              clear hK K
              refine wpAnyIn_ready (rs := [0,5]) (by kernel_rfl) (by simp) ?_
              refine AllReadyIn.cons rfl (fun K hK => ?_) (AllReadyIn.cons rfl (fun K hK => ?_) AllReadyIn.nil)
              · go_simp
                refine hK _ _ ?_
                clear hK K
                refine wpAnyIn_ready (rs := [5]) (by kernel_rfl) (by simp) ?_
                refine AllReadyIn.cons rfl (fun K hK => ?_) AllReadyIn.nil
                go_simp
                refine hK _ _ ?_
                clear hK K
                refine wpAnyIn_ready (rs := [6]) (by kernel_rfl) (by simp) ?_
                refine AllReadyIn.cons rfl (fun K hK => ?_) AllReadyIn.nil
                have hcl' : Below W.heap.size W w2 := hcl
                have hrow2 := own_below hcl' hrow
                refine stepIn_app18 rfl (.tmp 18) (.tmp 23) 30 rfl w.heap.size 36 i0 _ 2 24 Try.underlying30 hi hz0 hz1 hz2 rfl (by decide) v pre.length _ rfl (hrow2.alloc _) ⟨w2.heap.size, 0, none⟩ 1 1 [.int .i64 (x.1 : Int), .string (s.extract x.1 x.2)] rfl rfl (rec_new _ _ _ _) (by simp [Value.oneCell']) k3 k4 (by have := hB.size; have := hcl.size; simp at this ⊢; omega) ?_
                intro v' w1 hown' hgrow _
                obtain ⟨g', cap', rfl⟩ := ownsRow_succ hown'
                obtain ⟨hv1, t1, t2, t3, t4, t5, t6⟩ := rec_tail hcl' hv hbs hb2 (by decide) (by decide) (by decide) (by omega) (by omega) hrow hB.size (Nat.le_succ _) hown' hgrow
                have hc1 := hv1.cell
                have hf1 := hv1.frozen
                refine hK _ _ ?_
                clear hK K
                refine wpAnyIn_ready (rs := [7]) (by kernel_rfl) (by simp) ?_
                refine AllReadyIn.cons rfl (fun K hK => ?_) AllReadyIn.nil
                go_simp
                refine hK _ _ ?_
                clear hK K
                refine wpAnyIn_done (by kernel_rfl) ?_ _
                exact ⟨t1.from _, ⟨t2, t5.cell.trans hbs.cell.symm⟩, ⟨_, t3, by rw [List.length_append, recCells_snoc]; exact t4, trivial⟩, t5, t6, hpre2, hB.trans t2⟩
              · go_simp
                refine hK _ _ ?_
                clear hK K
                refine wpAnyIn_ready (rs := [0]) (by kernel_rfl) (by simp) ?_
                refine AllReadyIn.cons rfl (fun K hK => ?_) AllReadyIn.nil
                go_simp
                refine hK _ _ ?_
                clear hK K
                refine wpAnyIn_ready (rs := [6]) (by kernel_rfl) (by simp) ?_
                refine AllReadyIn.cons rfl (fun K hK => ?_) AllReadyIn.nil
                have hcl' : Below W.heap.size W w2 := hcl
                have hrow2 := own_below hcl' hrow
                refine stepIn_app18 rfl (.tmp 18) (.tmp 23) 30 rfl w.heap.size 36 i0 _ 2 24 Try.underlying30 hi hz0 hz1 hz2 rfl (by decide) v pre.length _ rfl (hrow2.alloc _) ⟨w2.heap.size, 0, none⟩ 1 1 [.int .i64 (x.1 : Int), .string (s.extract x.1 x.2)] rfl rfl (rec_new _ _ _ _) (by simp [Value.oneCell']) k3 k4 (by have := hB.size; have := hcl.size; simp at this ⊢; omega) ?_
                intro v' w1 hown' hgrow _
                obtain ⟨g', cap', rfl⟩ := ownsRow_succ hown'
                obtain ⟨hv1, t1, t2, t3, t4, t5, t6⟩ := rec_tail hcl' hv hbs hb2 (by decide) (by decide) (by decide) (by omega) (by omega) hrow hB.size (Nat.le_succ _) hown' hgrow
                have hc1 := hv1.cell
                have hf1 := hv1.frozen
                refine hK _ _ ?_
                clear hK K
                refine wpAnyIn_ready (rs := [7]) (by kernel_rfl) (by simp) ?_
                refine AllReadyIn.cons rfl (fun K hK => ?_) AllReadyIn.nil
                go_simp
                refine hK _ _ ?_
                clear hK K
                refine wpAnyIn_done (by kernel_rfl) ?_ _
                exact ⟨t1.from _, ⟨t2, t5.cell.trans hbs.cell.symm⟩, ⟨_, t3, by rw [List.length_append, recCells_snoc]; exact t4, trivial⟩, t5, t6, hpre2, hB.trans t2⟩
        · go_simp
          refine ⟨trivial, ?_⟩
          refine (CallsIn.inRound l (callsIn_wide.2 (clone_any _ hxz _))).mono ?_
          rintro e w2 ⟨rfl, hcl0⟩
          have hcl := below_undrew hcl0
          refine hK _ _ ?_
          clear hK K
          have hvc2 := (hv.kept (below_grown (show Below W.heap.size W w2 from hcl)) (by simp)).cell
          have hvc3 := ((hv.kept (below_grown (show Below W.heap.size W w2 from hcl)) (by simp)).alloc (.cells #[.int .i64 (x.1 : Int), .string (s.extract x.1 x.2)] 36)).cell
          refine wpAnyIn_ready (rs := [0,1]) (by kernel_rfl) (by simp) ?_
          refine AllReadyIn.cons rfl (fun K hK => ?_) (AllReadyIn.cons rfl (fun K hK => ?_) AllReadyIn.nil)
          · go_simp
            refine hK _ _ ?_
            clear hK K
            refine wpAnyIn_ready (rs := [1]) (by kernel_rfl) (by simp) ?_
            refine AllReadyIn.cons rfl (fun K hK => ?_) AllReadyIn.nil
            go_simp
            refine hK _ _ ?_
            clear hK K
            refine wpAnyIn_ready (rs := [4]) (by kernel_rfl) (by simp) ?_
            refine AllReadyIn.cons rfl (fun K hK => ?_) AllReadyIn.nil
            go_simp
            refine hK _ _ ?_
            clear hK K
            refine wpAnyIn_ready (rs := [5]) (by kernel_rfl) (by simp) ?_
            refine AllReadyIn.cons rfl (fun K hK => ?_) AllReadyIn.nil
            go_simp
            refine hK _ _ ?_
            clear hK K
            refine wpAnyIn_ready (rs := [6]) (by kernel_rfl) (by simp) ?_
            refine AllReadyIn.cons rfl (fun K hK => ?_) AllReadyIn.nil
            have hcl' : Below W.heap.size W w2 := hcl
            have hrow2 := own_below hcl' hrow
            refine stepIn_app18 rfl (.tmp 18) (.tmp 23) 30 rfl w.heap.size 36 i0 _ 2 24 Try.underlying30 hi hz0 hz1 hz2 rfl (by decide) v pre.length _ rfl (hrow2.alloc _) ⟨w2.heap.size, 0, none⟩ 1 1 [.int .i64 (x.1 : Int), .string (s.extract x.1 x.2)] rfl rfl (rec_new _ _ _ _) (by simp [Value.oneCell']) k3 k4 (by have := hB.size; have := hcl.size; simp at this ⊢; omega) ?_
            intro v' w1 hown' hgrow _
            obtain ⟨g', cap', rfl⟩ := ownsRow_succ hown'
            obtain ⟨hv1, t1, t2, t3, t4, t5, t6⟩ := rec_tail hcl' hv hbs hb2 (by decide) (by decide) (by decide) (by omega) (by omega) hrow hB.size (Nat.le_succ _) hown' hgrow
            have hc1 := hv1.cell
            have hf1 := hv1.frozen
            refine hK _ _ ?_
            clear hK K
            refine wpAnyIn_ready (rs := [7]) (by kernel_rfl) (by simp) ?_
            refine AllReadyIn.cons rfl (fun K hK => ?_) AllReadyIn.nil
            go_simp
            refine hK _ _ ?_
            clear hK K
            refine wpAnyIn_done (by kernel_rfl) ?_ _
            exact ⟨t1.from _, ⟨t2, t5.cell.trans hbs.cell.symm⟩, ⟨_, t3, by rw [List.length_append, recCells_snoc]; exact t4, trivial⟩, t5, t6, hpre2, hB.trans t2⟩
          · go_simp
            refine hK _ _ ?_
            clear hK K
            refine wpAnyIn_ready (rs := [0,4]) (by kernel_rfl) (by simp) ?_
            refine AllReadyIn.cons rfl (fun K hK => ?_) (AllReadyIn.cons rfl (fun K hK => ?_) AllReadyIn.nil)
            · go_simp
              refine hK _ _ ?_
              clear hK K
              refine wpAnyIn_ready (rs := [4]) (by kernel_rfl) (by simp) ?_
              refine AllReadyIn.cons rfl (fun K hK => ?_) AllReadyIn.nil
              go_simp
              refine hK _ _ ?_
              clear hK K
              refine wpAnyIn_ready (rs := [5]) (by kernel_rfl) (by simp) ?_
              refine AllReadyIn.cons rfl (fun K hK => ?_) AllReadyIn.nil
              go_simp
              refine hK _ _ ?_
              clear hK K
              refine wpAnyIn_ready (rs := [6]) (by kernel_rfl) (by simp) ?_
              refine AllReadyIn.cons rfl (fun K hK => ?_) AllReadyIn.nil
              have hcl' : Below W.heap.size W w2 := hcl
              have hrow2 := own_below hcl' hrow
              refine stepIn_app18 rfl (.tmp 18) (.tmp 23) 30 rfl w.heap.size 36 i0 _ 2 24 Try.underlying30 hi hz0 hz1 hz2 rfl (by decide) v pre.length _ rfl (hrow2.alloc _) ⟨w2.heap.size, 0, none⟩ 1 1 [.int .i64 (x.1 : Int), .string (s.extract x.1 x.2)] rfl rfl (rec_new _ _ _ _) (by simp [Value.oneCell']) k3 k4 (by have := hB.size; have := hcl.size; simp at this ⊢; omega) ?_
              intro v' w1 hown' hgrow _
              obtain ⟨g', cap', rfl⟩ := ownsRow_succ hown'
              obtain ⟨hv1, t1, t2, t3, t4, t5, t6⟩ := rec_tail hcl' hv hbs hb2 (by decide) (by decide) (by decide) (by omega) (by omega) hrow hB.size (Nat.le_succ _) hown' hgrow
              have hc1 := hv1.cell
              have hf1 := hv1.frozen
              refine hK _ _ ?_
              clear hK K
              refine wpAnyIn_ready (rs := [7]) (by kernel_rfl) (by simp) ?_
              refine AllReadyIn.cons rfl (fun K hK => ?_) AllReadyIn.nil
              go_simp
              refine hK _ _ ?_
              clear hK K
              refine wpAnyIn_done (by kernel_rfl) ?_ _
              exact ⟨t1.from _, ⟨t2, t5.cell.trans hbs.cell.symm⟩, ⟨_, t3, by rw [List.length_append, recCells_snoc]; exact t4, trivial⟩, t5, t6, hpre2, hB.trans t2⟩
            · go_simp
              refine hK _ _ ?_
              clear hK K
              refine wpAnyIn_ready (rs := [0,5]) (by kernel_rfl) (by simp) ?_
              refine AllReadyIn.cons rfl (fun K hK => ?_) (AllReadyIn.cons rfl (fun K hK => ?_) AllReadyIn.nil)
              · go_simp
                refine hK _ _ ?_
                clear hK K
                refine wpAnyIn_ready (rs := [5]) (by kernel_rfl) (by simp) ?_
                refine AllReadyIn.cons rfl (fun K hK => ?_) AllReadyIn.nil
                go_simp
                refine hK _ _ ?_
                clear hK K
                refine wpAnyIn_ready (rs := [6]) (by kernel_rfl) (by simp) ?_
                refine AllReadyIn.cons rfl (fun K hK => ?_) AllReadyIn.nil
                have hcl' : Below W.heap.size W w2 := hcl
                have hrow2 := own_below hcl' hrow
                refine stepIn_app18 rfl (.tmp 18) (.tmp 23) 30 rfl w.heap.size 36 i0 _ 2 24 Try.underlying30 hi hz0 hz1 hz2 rfl (by decide) v pre.length _ rfl (hrow2.alloc _) ⟨w2.heap.size, 0, none⟩ 1 1 [.int .i64 (x.1 : Int), .string (s.extract x.1 x.2)] rfl rfl (rec_new _ _ _ _) (by simp [Value.oneCell']) k3 k4 (by have := hB.size; have := hcl.size; simp at this ⊢; omega) ?_
                intro v' w1 hown' hgrow _
                obtain ⟨g', cap', rfl⟩ := ownsRow_succ hown'
                obtain ⟨hv1, t1, t2, t3, t4, t5, t6⟩ := rec_tail hcl' hv hbs hb2 (by decide) (by decide) (by decide) (by omega) (by omega) hrow hB.size (Nat.le_succ _) hown' hgrow
                have hc1 := hv1.cell
                have hf1 := hv1.frozen
                refine hK _ _ ?_
                clear hK K
                refine wpAnyIn_ready (rs := [7]) (by kernel_rfl) (by simp) ?_
                refine AllReadyIn.cons rfl (fun K hK => ?_) AllReadyIn.nil
                go_simp
                refine hK _ _ ?_
                clear hK K
                refine wpAnyIn_done (by kernel_rfl) ?_ _
                exact ⟨t1.from _, ⟨t2, t5.cell.trans hbs.cell.symm⟩, ⟨_, t3, by rw [List.length_append, recCells_snoc]; exact t4, trivial⟩, t5, t6, hpre2, hB.trans t2⟩
              · go_simp
                refine hK _ _ ?_
                clear hK K
                refine wpAnyIn_ready (rs := [0]) (by kernel_rfl) (by simp) ?_
                refine AllReadyIn.cons rfl (fun K hK => ?_) AllReadyIn.nil
                go_simp
                refine hK _ _ ?_
                clear hK K
                refine wpAnyIn_ready (rs := [6]) (by kernel_rfl) (by simp) ?_
                refine AllReadyIn.cons rfl (fun K hK => ?_) AllReadyIn.nil
                have hcl' : Below W.heap.size W w2 := hcl
                have hrow2 := own_below hcl' hrow
                refine stepIn_app18 rfl (.tmp 18) (.tmp 23) 30 rfl w.heap.size 36 i0 _ 2 24 Try.underlying30 hi hz0 hz1 hz2 rfl (by decide) v pre.length _ rfl (hrow2.alloc _) ⟨w2.heap.size, 0, none⟩ 1 1 [.int .i64 (x.1 : Int), .string (s.extract x.1 x.2)] rfl rfl (rec_new _ _ _ _) (by simp [Value.oneCell']) k3 k4 (by have := hB.size; have := hcl.size; simp at this ⊢; omega) ?_
                intro v' w1 hown' hgrow _
                obtain ⟨g', cap', rfl⟩ := ownsRow_succ hown'
                obtain ⟨hv1, t1, t2, t3, t4, t5, t6⟩ := rec_tail hcl' hv hbs hb2 (by decide) (by decide) (by decide) (by omega) (by omega) hrow hB.size (Nat.le_succ _) hown' hgrow
                have hc1 := hv1.cell
                have hf1 := hv1.frozen
                refine hK _ _ ?_
                clear hK K
                refine wpAnyIn_ready (rs := [7]) (by kernel_rfl) (by simp) ?_
                refine AllReadyIn.cons rfl (fun K hK => ?_) AllReadyIn.nil
                go_simp
                refine hK _ _ ?_
                clear hK K
                refine wpAnyIn_done (by kernel_rfl) ?_ _
                exact ⟨t1.from _, ⟨t2, t5.cell.trans hbs.cell.symm⟩, ⟨_, t3, by rw [List.length_append, recCells_snoc]; exact t4, trivial⟩, t5, t6, hpre2, hB.trans t2⟩
    · gi_wp2
      exact ⟨KeepsFrom.refl _ _, ⟨rfl, pre, x.1, ⟨x.2, rfl⟩, fun a b h => hpre (a, b) h, by omega⟩, ⟨v, hv, by rw [List.length_append, List.dropLast_concat]; exact hrow⟩, hB⟩
  case done =>
    rintro D ys W hD rfl ⟨⟨v, hv, hrow, _⟩, hbs, hb2, hpre, hB⟩ hK2
    have hc := hv.cell
    have htw : ys.takeWhile (fun x => decide ((x.1 : Int) < d)) = ys := takeWhile_all (fun y hy => by simpa using hpre y hy)
    have hrow' : W.ownsRow w.heap.size 36 2 v (ys.takeWhile fun x => decide ((x.1 : Int) < d)).length (recCells s (ys.takeWhile fun x => decide ((x.1 : Int) < d))) := by rw [htw]; exact hrow
    clear htw
    gi_wp2
    refine ⟨by simp, .inl ⟨_, _, rfl, run_takeDeferred hK2, ?_⟩⟩
    exact ⟨_, results_tmp rfl _ _ _, v, rfl, ownsRow_putObj hrow' _ hK2 rfl, hB.trans (belowK_b (w := w) (Nat.le_refl _) W D _ _ (by simp at hD; omega) hK2 rfl rfl)⟩
  case stop =>
    rintro D co pre W hD ⟨tl, htl⟩ ⟨⟨rfl, q, x, rfl, hq, hx⟩, ⟨v, hv, hrow, _⟩, hB⟩ hK2
    have hc := hv.cell
    have htw : xs.takeWhile (fun x => decide ((x.1 : Int) < d)) = q := by rw [← htl, List.append_assoc]; exact takeWhile_stop (fun y hy => by simpa using hq y hy) (by simpa using hx)
    rw [List.length_append, List.dropLast_concat] at hrow
    have hrow' : W.ownsRow w.heap.size 36 2 v (xs.takeWhile fun x => decide ((x.1 : Int) < d)).length (recCells s (xs.takeWhile fun x => decide ((x.1 : Int) < d))) := by rw [htw]; exact hrow
    clear htw htl
    rw [hxs] at hrow'
    gi_wp2
    refine ⟨by simp, .inl ⟨_, _, rfl, run_takeDeferred hK2, ?_⟩⟩
    exact ⟨_, results_tmp rfl _ _ _, v, rfl, ownsRow_putObj hrow' _ hK2 rfl, hB.trans (belowK_b (w := w) (Nat.le_refl _) W D _ _ (by simp at hD; omega) hK2 rfl rfl)⟩
end Go.Proofs.Ytijefbpgpehmfaa
