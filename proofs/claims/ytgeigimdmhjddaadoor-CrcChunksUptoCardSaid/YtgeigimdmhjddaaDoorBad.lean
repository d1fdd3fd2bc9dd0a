/- The contract of crc.Bad. -/
import Derived.Test.YtgeigimdmhjddaaDoorChunks
import Derived.Test.YtgeigimdmhjddaaDoorQuietRound
namespace Go.Proofs.YtgeigimdmhjddaaDoor
open Go.RowKit Go.Shelf
attribute [local go_sem] Oper.semAt_some

/-- a slice of sums -/
def SumsAt (w : World) (B : Nat) (A : Option Addr) (len : Nat) (f : Nat → BitVec 32) : Prop :=
  ∀ i, i < len → ∃ b off, A = some ⟨b, off, none⟩ ∧ b < B ∧ w.cell? ⟨b, off + i, none⟩ = some (.int .u32 (U (f i)))
theorem SumsAt.below {w w' : World} {B : Nat} {A : Option Addr} {len : Nat} {f : Nat → BitVec 32} (h : SumsAt w B A len f) (hb : Below B w w') : SumsAt w' B A len f := fun i hi => by
  obtain ⟨b, off, e, hB, hc⟩ := h i hi
  exact ⟨b, off, e, hB, (hb.cell (p := ⟨b, _, none⟩) hB).trans hc⟩
def sumB (x : Txt) : BitVec 32 := Crc.sum x.1.data.toList
/-- the first that isn't right -/
def badG (f : Nat → BitVec 32) (len : Nat) : Nat → List Txt → Int
  | i, [] => if i < len then (i : Int) else -1
  | i, c :: cs => if i = len ∨ sumB c ≠ f i then (i : Int) else badG f len (i + 1) cs
def Match (f : Nat → BitVec 32) (len : Nat) (pre : List Txt) : Prop := pre.length ≤ len ∧ ∀ i (h : i < pre.length), sumB pre[i] = f i
theorem Match.snoc {f : Nat → BitVec 32} {len : Nat} {pre : List Txt} {x : Txt} (h : Match f len pre) (h1 : pre.length < len) (h2 : sumB x = f pre.length) : Match f len (pre ++ [x]) := by
  refine ⟨by simp; omega, fun i hi => ?_⟩
  simp only [List.length_append, List.length_cons, List.length_nil] at hi
  by_cases hlt : i < pre.length
  · rw [List.getElem_append_left hlt]; exact h.2 i hlt
  · obtain rfl : i = pre.length := by omega
    simpa using h2
theorem badG_skip {f : Nat → BitVec 32} {len : Nat} : ∀ (pre rest : List Txt) (k : Nat), (∀ i (h : i < pre.length), sumB pre[i] = f (k + i)) → k + pre.length ≤ len → badG f len k (pre ++ rest) = badG f len (k + pre.length) rest
  | [], rest, k, _, _ => rfl
  | c :: pre, rest, k, h, hl => by
    have h0 : sumB c = f k := h 0 (by simp)
    simp only [List.length_cons] at hl
    show (if k = len ∨ sumB c ≠ f k then (k : Int) else badG f len (k + 1) (pre ++ rest)) = _
    rw [if_neg (by rintro (e | e); omega; exact e h0), badG_skip pre rest (k + 1) (fun i hi => by
      have := h (i + 1) (by simpa using hi)
      rw [List.getElem_cons_succ] at this
      rw [this, show k + (i + 1) = k + 1 + i by omega]) (by omega)]
    simp only [List.length_cons]
    rw [show k + 1 + pre.length = k + (pre.length + 1) by omega]
theorem Match.bad {f : Nat → BitVec 32} {len : Nat} {pre : List Txt} (h : Match f len pre) (rest : List Txt) : badG f len 0 (pre ++ rest) = badG f len pre.length rest := by
  have := badG_skip (f := f) (len := len) pre rest 0 (fun i hi => by rw [Nat.zero_add]; exact h.2 i hi) (by have := h.1; omega)
  rwa [Nat.zero_add] at this
/-- the last of these is not right, all ahead of it are -/
def Wrong (f : Nat → BitVec 32) (len : Nat) (pre : List Txt) : Prop := ∃ q x, pre = q ++ [x] ∧ Match f len q ∧ (q.length = len ∨ sumB x ≠ f q.length)
theorem Wrong.bad {f : Nat → BitVec 32} {len : Nat} {pre : List Txt} (h : Wrong f len pre) (rest : List Txt) : badG f len 0 (pre ++ rest) = ((pre.length - 1 : Nat) : Int) := by
  obtain ⟨q, x, rfl, hq, hx⟩ := h
  rw [List.append_assoc, hq.bad]
  show (if q.length = len ∨ sumB x ≠ f q.length then (q.length : Int) else _) = _
  rw [if_pos hx]
  simp
theorem sum_quiet (x : ByteArray) (w : World) (l n : Nat) (h : Half w) (hx : x.size ≤ 140737488351232) (v : BitVec 32) (hv : v = Crc.sum x.data.toList) (m : Nat) :
    CallsIn (Fence.wide.inRound l) m Tryd.prog 18 #[.string x] (w.drewN n) fun e w'' => e = .returned (.int .u32 (U v)) ∧ ∃ m, w'' = w.drewN m :=
  CallsIn.quiet_of_same (CallsIn.inRound l (callsIn_wide.2 ((sum_any x (w.drewN n) (fun y => h y) (by unfold maxLen; omega)).mono fun e w' ⟨h1, h2⟩ => ⟨by rw [hv]; exact h1, h2.symm⟩)))
def BadPost (w : World) (r : Int) (e : Ending) (W' : World) : Prop := e = .returned (.int .i64 r) ∧ Below w.heap.size w W'
theorem badRes (tmps : Array Value) (W : World) (a : Addr) (v : Int) (h6 : tmps.getD 6 undef = .pointer (some a)) (hc : W.cell? a = some (.int .i64 v)) : (results Tryd.f9 tmps).run Tryd.prog W = .ok (.int .i64 v) W := by
  have hres : Tryd.f9.results = #[.cell 6 3] := by kernel_rfl
  have h6' : tmps[6]?.getD undef = .pointer (some a) := by simpa using h6
  simp only [results, hres]
  go_simp
theorem badLeave (w W : World) (B D : Nat) (hBw : w.heap.size = B) (r : Int) (hr : Boxed W (B + 1) 3 (.int .i64 r)) (hB : Below B w W) (hD : B + 5 ≤ D) (hK2 : W.heap[D]? = some (.deferred (some []))) (tmps : Array Value)
    (h6 : tmps.getD 6 undef = .pointer (some ⟨B + 1, 0, none⟩)) (n : Nat) : LeavesInM Fence.wide n Tryd.prog Tryd.f9 tmps (BadPost w r) [{ target := .collected D, args := #[] }] .returning W := by
  refine ⟨by simp, .inl ⟨_, _, rfl, run_takeDeferred hK2, ?_⟩⟩
  refine ⟨_, badRes _ _ _ r h6 (hr.kept (grownBy_putObj' W D _) (fun e => by cases e; omega)).cell, rfl, ?_⟩
  rw [hBw]
  exact hB.trans ⟨(grownBy_putObj' W D _).os, (grownBy_putObj' W D _).tape, (grownBy_putObj' W D _).output, (grownBy_putObj' W D _).size, fun j hj => (grownBy_putObj' W D _).block j (by have := (Array.getElem?_eq_some_iff.1 hK2).1; omega) (fun e => by cases e; omega)⟩
theorem grown_drewN (w : World) (n : Nat) (row : Option Nat) : w.grownBy (w.drewN n) row := ⟨rfl, rfl, rfl, Nat.le_refl _, fun _ _ _ => rfl⟩
theorem keeps_set (W : World) (nq : Nat) (a : Addr) (v : Value) (B : Nat) : KeepsFrom B W ((W.drewN nq).setCell a v) := ((show KeepsOthers W (W.drewN nq) from ⟨Nat.le_refl _, fun _ _ h _ => h⟩).trans (KeepsOthers.setCell _ _ _)).from B
theorem below_set {W : World} (nq b : Nat) (v : Value) {B : Nat} (h : B ≤ b) : Below B W ((W.drewN nq).setCell ⟨b, 0, none⟩ v) := (below_drewN (Below.refl B W) nq).setCell (p := ⟨b, 0, none⟩) h v
set_option maxHeartbeats 1000000 in
theorem bad_no (s : ByteArray) (k : Int) (A : Option Addr) (len cap : Nat) (w : World) (hk : k < 1) :
    Calls Tryd.prog 9 #[.string s, .int .i64 k, .slice A len cap] w fun e w' => e = .returned (.int .i64 0) ∧ Below w.heap.size w w' := by
  refine (callsIn_wide (n := 3)).1 ?_
  refine callsIn_of_wp_marks Tryd.func9 rfl trivial ?_ rfl
  simp only [Tryd.ntmps9, List.size_toArray, List.length_cons, List.length_nil, Nat.reduceAdd, Nat.reduceSub, Array.replicate_succ, Array.replicate_zero, List.push_toArray, List.append_toArray, List.nil_append, List.cons_append]
  gi_wp2
  refine ⟨_, badRes _ _ _ 0 rfl ?_, rfl, ?_⟩
  · have h2 := Boxed.new (w.alloc (.cells #[.slice A len cap] 22)) 3 (.int .i64 0)
    rw [World.size_alloc] at h2
    exact h2.cell
  · exact ((Below.refl _ w).alloc (Nat.le_refl _) _).alloc (by simp) _
set_option maxRecDepth 100000 in
set_option maxHeartbeats 4000000 in
theorem bad_any (s : Txt) (k : Int) (K : Nat) (hK : k.toNat = K) (hk0 : 1 ≤ k) (hk1 : k ≤ 9223372036854775807) (hsz : s.1.size ≤ 1099511627776) (A : Option Addr) (len cap : Nat) (hlen2 : len ≤ 1099511627776) (f : Nat → BitVec 32) (w : World) (hh : Half w)
    (hS : SumsAt w w.heap.size A len f) :
    Calls Tryd.prog 9 #[.string s.1, .int .i64 k, .slice A len cap] w (BadPost w (badG f len 0 (chA K s))) := by
  have hlen := chA_len K s.1.size s (Nat.le_refl _)
  have hlt := hh.lt
  have HH := Lib.hid hh
  have HS := Lib.hid hS
  clear hh hS
  refine (callsIn_wide (n := 3)).1 ?_
  refine callsIn_of_wp_marks Tryd.func9 rfl trivial ?_ rfl
  simp only [Tryd.ntmps9, List.size_toArray, List.length_cons, List.length_nil, Nat.reduceAdd, Nat.reduceSub, Array.replicate_succ, Array.replicate_zero, List.push_toArray, List.append_toArray, List.nil_append, List.cons_append]
  gi_wp2
  refine ⟨trivial, ?_⟩
  refine (chunks_in Fence.wide (3 - 1) trivial rfl _ _ _).mono ?_
  rintro e w' ⟨rfl, rfl⟩
  gi_wp2
  obtain ⟨B, hBe⟩ : ∃ B, w.heap.size = B := ⟨_, rfl⟩
  have bS := Boxed.new w 22 (.slice A len cap)
  have bR := Boxed.new (w.alloc (.cells #[.slice A len cap] 22)) 3 (.int .i64 0)
  have bN := Boxed.new ((w.alloc (.cells #[.slice A len cap] 22)).alloc (.cells #[.int .i64 0] 3)) 3 (.int .i64 0)
  have bT := Boxed.new (((w.alloc (.cells #[.slice A len cap] 22)).alloc (.cells #[.int .i64 0] 3)).alloc (.cells #[.int .i64 0] 3)) 9 (.string s.1)
  have bZ := Boxed.new ((((w.alloc (.cells #[.slice A len cap] 22)).alloc (.cells #[.int .i64 0] 3)).alloc (.cells #[.int .i64 0] 3)).alloc (.cells #[.string s.1] 9)) 3 (.int .i64 k)
  simp only [World.size_alloc, hBe] at bS bR bN bT bZ
  simp only [hBe] at HS ⊢
  have hB0 : Below B w (((((w.alloc (.cells #[.slice A len cap] 22)).alloc (.cells #[.int .i64 0] 3)).alloc (.cells #[.int .i64 0] 3)).alloc (.cells #[.string s.1] 9)).alloc (.cells #[.int .i64 k] 3)) :=
    (((((Below.refl _ w).alloc (by omega) _).alloc (by simp; omega) _).alloc (by simp; omega) _).alloc (by simp; omega) _).alloc (by simp; omega) _
  have h1 : 1 ≤ 3 := by omega
  refine wpIn_rangeFunc_ownG rfl h1 (gf := 33) (lb := #[.pointer (some ⟨B + 1 + 1 + 1, 0, none⟩), .pointer (some ⟨B + 1 + 1 + 1 + 1, 0, none⟩)]) rfl trivial (enters_of Tryd.func33 (by kernel_rfl) rfl)
    (chunks_stops Fence.wide (3 - 1) trivial rfl (by omega) (B + 1 + 1 + 1) (B + 1 + 1 + 1 + 1) B s k K hK hk1 _ (by simp; omega) (by simp; omega) (bT.alloc _).cell bZ.cell) kpZ_t (kpZ_b (by simp; omega) (by simp; omega)) (Below.refl _ _) (fun _ => rfl)
    (fun pre W => Match f len pre ∧ Boxed W (B + 1 + 1) 3 (.int .i64 (pre.length : Int)) ∧ Boxed W (B + 1) 3 (.int .i64 0) ∧ Boxed W B 22 (.slice A len cap) ∧ Boxed W (B + 1 + 1 + 1 + 1) 3 (.int .i64 k) ∧ Below B w W)
    (fun c pre W => (c = .ret ∧ Wrong f len pre) ∧ Boxed W (B + 1) 3 (.int .i64 ((pre.length - 1 : Nat) : Int)) ∧ Below B w W)
    (OwnFrom.and (ownFrom_pure _ _) (OwnFrom.and (Own.from (boxed_own (B + 1 + 1) 3 (fun pre : List Txt => Value.int .i64 (pre.length : Int))) _) (OwnFrom.and (Own.from (boxed_own (B + 1) 3 (fun _ : List Txt => Value.int .i64 0)) _) (OwnFrom.and (Own.from (boxed_own B 22 (fun _ : List Txt => Value.slice A len cap)) _) (OwnFrom.and (Own.from (boxed_own (B + 1 + 1 + 1 + 1) 3 (fun _ : List Txt => Value.int .i64 k)) _) (ownFrom_below (by omega) (by simp; omega)))))))
    (fun c => OwnFrom.and (ownFrom_pure _ _) (OwnFrom.and (Own.from (boxed_own (B + 1) 3 (fun pre : List Txt => Value.int .i64 ((pre.length - 1 : Nat) : Int))) _) (ownFrom_below (by omega) (by simp; omega))))
    ⟨⟨Nat.zero_le _, fun i h => absurd h (Nat.not_lt_zero _)⟩, (bN.alloc _).alloc _, ((bR.alloc _).alloc _).alloc _, (((bS.alloc _).alloc _).alloc _).alloc _, bZ, hB0⟩
    (fun x => { tmps := #[.string s.1, .int .i64 k, .slice A len cap, undef, undef, .pointer (some ⟨B, 0, none⟩), .pointer (some ⟨B + 1, 0, none⟩), .pointer (some ⟨B + 1 + 1, 0, none⟩), .string x.1, .int .i64 k, .bool (decide (k < 1)), .string s.1, .int .i64 k, .func (.func 33) #[] #[.pointer (some ⟨B + 1 + 1 + 1, 0, none⟩), .pointer (some ⟨B + 1 + 1 + 1 + 1, 0, none⟩)], .string x.1, undef, undef, undef, undef, undef, undef, undef, undef, undef, undef, undef, undef, undef, undef, undef, undef, undef, undef, undef, undef, undef], defers := [] }) ?assign ?body ?done ?stop
  case assign =>
    intro l x W K hK
    gi_wp2
    exact hK
  case body =>
    rintro l pre x W ⟨hm, hn, hr, hs, hz, hB⟩ hlt2
    have hnc := hn.cell
    have hnf := hn.frozen
    have hrc := hr.cell
    have hrf := hr.frozen
    have hsc := hs.cell
    have hpl := hm.1
    have hd : 1 ≤ 3 - 1 - 1 := by omega
    have hHW := HH.out.below (by rw [hBe]; exact hB) hlt
    have hx := x.2
    have HM := Lib.hid hm
    clear hm
    rcases Nat.lt_or_ge pre.length len with hl | hl
    · obtain ⟨b, off, rfl, hb, hc⟩ := (HS.out.below hB) pre.length hl
      have t0 : ((pre.length : Int) == (len : Int)) = false := beq_eq_false_iff_ne.2 (by omega)
      by_cases hq : sumB x = f pre.length
      · have t1 : (U (Crc.sum x.1.data.toList) == U (f pre.length)) = true := beq_iff_eq.2 (congrArg U hq)
        gi_wp2
        refine region_round rfl (by kernel_rfl) (by kernel_rfl) ?_
        repeat (refine wpQuietIn_step (fun _ _ _ _ => trivial) (fun K hK => ?_); go_simp; first | (refine hK _ ?_; clear hK K) | (apply Exists.intro; refine ⟨fun _ => ?_, hK _ ?_⟩; exact sum_quiet _ _ _ _ hHW hx _ rfl _; clear hK K))
        refine wpQuietIn_nil ?_
        intro _ hw'
        obtain ⟨nq, hw''⟩ := hw'
        subst hw''
        gi_wp2
        refine ⟨keeps_set _ _ _ _ _, ⟨below_set _ _ _ (by omega), (hz.kept (grown_drewN W nq none) (by simp) |>.other (by omega) _).cell.trans hz.cell.symm⟩, HM.out.snoc hl hq, ?_, ?_, ?_, ?_, hB.trans (below_set _ _ _ (by omega))⟩
        · have h2 := Boxed.set (.int .i64 ((pre.length : Int) + 1)) (W := W.drewN nq) hn
          rw [List.length_append]
          exact h2
        · exact Boxed.other (W := W.drewN nq) hr (by omega) _
        · exact Boxed.other (W := W.drewN nq) hs (by omega) _
        · exact Boxed.other (W := W.drewN nq) hz (by omega) _
      · have t1 : (U (Crc.sum x.1.data.toList) == U (f pre.length)) = false := beq_eq_false_iff_ne.2 (fun e => hq (BitVec.eq_of_toNat_eq (Int.ofNat.inj e)))
        gi_wp2
        refine region_round rfl (by kernel_rfl) (by kernel_rfl) ?_
        repeat (refine wpQuietIn_step (fun _ _ _ _ => trivial) (fun K hK => ?_); go_simp; first | (refine hK _ ?_; clear hK K) | (apply Exists.intro; refine ⟨fun _ => ?_, hK _ ?_⟩; exact sum_quiet _ _ _ _ hHW hx _ rfl _; clear hK K))
        refine wpQuietIn_nil ?_
        intro _ hw'
        obtain ⟨nq, hw''⟩ := hw'
        subst hw''
        gi_wp2
        refine ⟨keeps_set _ _ _ _ _, ⟨rfl, ⟨pre, x, rfl, HM.out, .inr hq⟩⟩, ?_, hB.trans (below_set _ _ _ (by omega))⟩
        rw [show (pre ++ [x]).length - 1 = pre.length by simp]
        exact Boxed.set _ (W := W.drewN nq) hr
    · have t0 : ((pre.length : Int) == (len : Int)) = true := beq_iff_eq.2 (by omega)
      gi_wp2
      refine region_round rfl (by kernel_rfl) (by kernel_rfl) ?_
      repeat (refine wpQuietIn_step (fun _ _ _ _ => trivial) (fun K hK => ?_); go_simp; first | (refine hK _ ?_; clear hK K) | (apply Exists.intro; refine ⟨fun _ => ?_, hK _ ?_⟩; exact sum_quiet _ _ _ _ hHW hx _ rfl _; clear hK K))
      refine wpQuietIn_nil ?_
      intro _ hw'
      obtain ⟨nq, hw''⟩ := hw'
      subst hw''
      gi_wp2
      refine ⟨keeps_set _ _ _ _ _, ⟨rfl, ⟨pre, x, rfl, HM.out, .inl (by omega)⟩⟩, ?_, hB.trans (below_set _ _ _ (by omega))⟩
      rw [show (pre ++ [x]).length - 1 = pre.length by simp]
      exact Boxed.set _ (W := W.drewN nq) hr
  case done =>
    rintro D ys W hD rfl ⟨hm, hn, hr, hs, hz, hB⟩ hK2
    have hnc := hn.cell
    have hrc := hr.cell
    have hrf := hr.frozen
    have hsc := hs.cell
    simp only [World.size_alloc, hBe] at hD
    have hbad := hm.bad []
    rw [List.append_nil] at hbad
    have HM := Lib.hid hm
    have HBd := Lib.hid hbad
    clear hm hbad
    rcases Nat.lt_or_ge (chA K s).length len with hl | hl
    · gi_wp2
      rw [HBd.out]
      show LeavesInM _ _ _ _ _ (BadPost w (if (chA K s).length < len then ((chA K s).length : Int) else -1)) _ _ _
      rw [if_pos hl]
      exact badLeave w _ B D hBe _ (hr.set _) (hB.setCell (p := ⟨B + 1, 0, none⟩) (by show B ≤ B + 1; omega) _) (by omega) ((Below.heap_setCell _ ⟨B + 1, 0, none⟩ _ D (fun e => by simp at e; omega)).trans hK2) _ rfl _
    · gi_wp2
      rw [HBd.out]
      show LeavesInM _ _ _ _ _ (BadPost w (if (chA K s).length < len then ((chA K s).length : Int) else -1)) _ _ _
      rw [if_neg (by omega)]
      exact badLeave w _ B D hBe _ (hr.set _) (hB.setCell (p := ⟨B + 1, 0, none⟩) (by show B ≤ B + 1; omega) _) (by omega) ((Below.heap_setCell _ ⟨B + 1, 0, none⟩ _ D (fun e => by simp at e; omega)).trans hK2) _ rfl _
  case stop =>
    rintro D c pre W hD ⟨rest, hpre⟩ ⟨⟨rfl, hw⟩, hr, hB⟩ hK2
    simp only [World.size_alloc, hBe] at hD
    have hbad := hw.bad rest
    rw [hpre] at hbad
    have HBd := Lib.hid hbad
    clear hbad hw
    gi_wp2
    rw [HBd.out]
    exact badLeave w _ B D hBe _ hr hB (by omega) hK2 _ rfl _
end Go.Proofs.YtgeigimdmhjddaaDoor
