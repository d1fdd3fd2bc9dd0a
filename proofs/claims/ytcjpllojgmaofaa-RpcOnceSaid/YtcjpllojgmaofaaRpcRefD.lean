/- The reference's desk: a list of clients, and what each of its calls makes of it. -/
import Derived.Test.YtcjpllojgmaofaaRpcActs
import Derived.Deep.CutBlock
namespace Go.Proofs.Ytcjpllojgmaofaa
open Go.RowKit

abbrev Ent := Int × LCall
abbrev entCells (e : Ent) : List Value := [.int .i64 e.1, .int .i64 e.2.n, .bool e.2.r, .string e.2.s]
def cellsR : List Ent → List Value
  | [] => []
  | e :: r => entCells e ++ cellsR r
theorem cellsR_length : ∀ L : List Ent, (cellsR L).length = L.length * 4
  | [] => rfl
  | e :: r => by simp [cellsR, cellsR_length r]; omega
theorem cellsR_append : ∀ L M : List Ent, cellsR (L ++ M) = cellsR L ++ cellsR M
  | [], _ => rfl
  | e :: r, M => by simp [cellsR, cellsR_append r M]
theorem cellsR_get : ∀ (L : List Ent) (i : Nat) (e : Ent), L[i]? = some e → ∀ j, j < 4 → (cellsR L)[i * 4 + j]? = (entCells e)[j]?
  | [], i, e, h, _, _ => by simp at h
  | a :: r, 0, e, h, j, hj => by
    simp at h
    subst h
    rw [Nat.zero_mul, Nat.zero_add]
    exact List.getElem?_append_left hj
  | a :: r, i + 1, e, h, j, hj => by
    have := cellsR_get r i e (by simpa using h) j hj
    rw [show (i + 1) * 4 + j = (i * 4 + j) + 4 by omega]
    show (entCells a ++ cellsR r)[_]? = _
    rw [List.getElem?_append_right (by simp)]
    simpa using this
theorem cellsR_set : ∀ (L : List Ent) (i : Nat) (e : Ent), i < L.length → cellsR (L.set i e) = ((((cellsR L).set (i * 4) (.int .i64 e.1)).set (i * 4 + 1) (.int .i64 e.2.n)).set (i * 4 + 2) (.bool e.2.r)).set (i * 4 + 3) (.string e.2.s)
  | [], i, e, h => by simp at h
  | a :: r, 0, e, h => by simp [cellsR]
  | a :: r, i + 1, e, h => by
    have := cellsR_set r i e (by simpa using h)
    rw [List.set_cons_succ]
    show entCells a ++ cellsR (r.set i e) = _
    rw [this, show (i + 1) * 4 = i * 4 + 4 by omega]
    simp [cellsR, Nat.add_right_comm]
/-- what the list knows of a client -/
def knownOf (L : List Ent) : Known := fun k => (L.find? (fun e => e.1 == k)).map (·.2)
def fidx (L : List Ent) (k : Int) : Int := match L.findIdx? (fun e => e.1 == k) with | some i => (i : Int) | none => -1
theorem known_snoc {L : List Ent} {k : Int} {c : LCall} (h : knownOf L k = none) : knownOf (L ++ [(k, c)]) = upd (knownOf L) k c := by
  funext x
  unfold knownOf upd at *
  rw [List.find?_append]
  by_cases e : x = k
  · subst e
    rw [if_pos rfl]
    have h2 : L.find? (fun e => e.1 == x) = none := by simpa using h
    rw [h2]
    simp
  · rw [if_neg e]
    cases hf : L.find? (fun e => e.1 == x) with
    | none => simpa [hf] using (fun h : k = x => e h.symm)
    | some y => simp [hf]
theorem known_set : ∀ {L : List Ent} {k : Int} {i : Nat} {c : LCall}, (∀ j e, j < i → L[j]? = some e → ¬ e.1 = k) → (∃ e, L[i]? = some e ∧ e.1 = k) → knownOf (L.set i (k, c)) = upd (knownOf L) k c
  | [], k, i, c, _, h => by obtain ⟨e, h, _⟩ := h; simp at h
  | a :: r, k, 0, c, _, h => by
    obtain ⟨e, h, he⟩ := h
    simp at h
    subst h
    funext x
    unfold knownOf upd
    by_cases ex : x = k
    · subst ex
      simp
    · have h1 : ¬ k = x := fun h => ex h.symm
      simp [he, h1, ex]
  | a :: r, k, i + 1, c, h1, h2 => by
    have ih := known_set (L := r) (k := k) (i := i) (c := c) (fun j e hj he => h1 (j + 1) e (by omega) (by simpa using he)) (by obtain ⟨e, q1, q2⟩ := h2; exact ⟨e, by simpa using q1, q2⟩)
    have ha : ¬ a.1 = k := h1 0 a (by omega) rfl
    funext x
    have ihx := congrFun ih x
    rw [List.set_cons_succ]
    unfold knownOf upd at *
    simp only [List.find?_cons]
    by_cases ex : a.1 = x
    · have : ¬ x = k := fun h => ha (ex.trans h)
      have hb : (a.1 == x) = true := by simpa using ex
      rw [hb, if_neg this]
    · have hb : (a.1 == x) = false := by simpa using ex
      rw [hb]
      exact ihx
theorem known_at : ∀ {L : List Ent} {k : Int} {i : Nat} {e : Ent}, (∀ j e, j < i → L[j]? = some e → ¬ e.1 = k) → L[i]? = some e → e.1 = k → knownOf L k = some e.2
  | [], k, i, e, _, h, _ => by simp at h
  | a :: r, k, 0, e, _, h, he => by
    simp at h
    subst h
    simp [knownOf, he]
  | a :: r, k, i + 1, e, h1, h2, h3 => by
    have ih := known_at (L := r) (k := k) (i := i) (e := e) (fun j e hj he => h1 (j + 1) e (by omega) (by simpa using he)) (by simpa using h2) h3
    have ha : ¬ a.1 = k := h1 0 a (by omega) rfl
    have hb : (a.1 == k) = false := by simpa using ha
    unfold knownOf at *
    rw [List.find?_cons, hb]
    exact ih
theorem fidx_none {L : List Ent} {k : Int} (h : ∀ (j : Nat) (e : Ent), L[j]? = some e → ¬ e.1 = k) : fidx L k = -1 ∧ knownOf L k = none := by
  have h2 : L.findIdx? (fun e => e.1 == k) = none := by
    rw [List.findIdx?_eq_none_iff]
    intro e he
    obtain ⟨j, hj⟩ := List.getElem?_of_mem he
    simpa using h j e hj
  have h3 : L.find? (fun e => e.1 == k) = none := by
    rw [List.find?_eq_none]
    intro e he
    obtain ⟨j, hj⟩ := List.getElem?_of_mem he
    simpa using h j e hj
  exact ⟨by unfold fidx; rw [h2], by unfold knownOf; rw [h3]; rfl⟩
theorem fidx_some {L : List Ent} {k : Int} {i : Nat} {e : Ent} (h1 : ∀ (j : Nat) (e : Ent), j < i → L[j]? = some e → ¬ e.1 = k) (h2 : L[i]? = some e) (h3 : e.1 = k) : fidx L k = (i : Int) := by
  have : L.findIdx? (fun e => e.1 == k) = some i := by
    obtain ⟨hi, he⟩ := List.getElem?_eq_some_iff.1 h2
    rw [List.findIdx?_eq_some_iff_getElem]
    refine ⟨hi, by simp [he, h3], fun j hj => ?_⟩
    simpa using h1 j _ hj (List.getElem?_eq_getElem (by omega))
  unfold fidx
  rw [this]
theorem fidx_cases (L : List Ent) (k : Int) : (fidx L k = -1 ∧ knownOf L k = none) ∨ ∃ i c, i < L.length ∧ fidx L k = (i : Int) ∧ L[i]? = some (k, c) ∧ knownOf L k = some c ∧ ∀ d, knownOf (L.set i (k, d)) = upd (knownOf L) k d := by
  by_cases h : ∀ (j : Nat) (e : Ent), L[j]? = some e → ¬ e.1 = k
  · exact .inl (fidx_none h)
  · have hex : ∃ j : Nat, ∃ e : Ent, L[j]? = some e ∧ e.1 = k := by
      simp only [Classical.not_forall, Classical.not_not] at h
      obtain ⟨j, e, h1, h2⟩ := h
      exact ⟨j, e, h1, h2⟩
    -- the first one
    have hfirst : ∃ j : Nat, (∃ e : Ent, L[j]? = some e ∧ e.1 = k) ∧ ∀ i : Nat, i < j → ¬ ∃ e : Ent, L[i]? = some e ∧ e.1 = k := by
      obtain ⟨j, hj⟩ := hex
      induction j using Nat.strongRecOn with
      | ind j ih =>
        by_cases hm : ∃ i, i < j ∧ ∃ e : Ent, L[i]? = some e ∧ e.1 = k
        · obtain ⟨i, hi, hq⟩ := hm
          exact ih i hi hq
        · exact ⟨j, hj, fun i hi hq => hm ⟨i, hi, hq⟩⟩
    obtain ⟨i, ⟨e, h1, h2⟩, h3⟩ := hfirst
    have h4 : ∀ j e, j < i → L[j]? = some e → ¬ e.1 = k := fun j e hj he hk => h3 j hj ⟨e, he, hk⟩
    obtain ⟨ek, ec⟩ := e
    simp only at h2
    subst h2
    exact .inr ⟨i, ec, (List.getElem?_eq_some_iff.1 h1).1, fidx_some h4 h1 rfl, h1, known_at h4 h1 rfl, fun d => known_set h4 ⟨_, h1, rfl⟩⟩
/-- a cell inside a row is set -/
theorem RowAt.setIn {w : World} {e : TypeId} {sz g o cap : Nat} {xs : List Value} (h : RowAt w e sz g o cap xs) (i : Nat) (hi : i < xs.length) (v : Value) : RowAt (w.setCell ⟨g, o + i, none⟩ v) e sz g o cap (xs.set i v) := by
  obtain ⟨cur, hg, h1, h2⟩ := h.blk
  have hl := h.le
  have hcl : cur.toList.length = o + cap * sz := by simpa using h1
  refine ⟨by rw [List.length_set]; exact hl, cur.setIfInBounds (o + i) v, by simp [World.setCell, Array.getElem?_modify, hg], by simpa using h1, ?_⟩
  rw [List.length_set, Array.toList_setIfInBounds]
  conv => rhs; rw [← h2]
  apply List.ext_getElem?
  intro j
  by_cases hj : j < xs.length
  · by_cases e : j = i
    · subst e
      rw [List.getElem?_take_of_lt hj, List.getElem?_drop, List.getElem?_set_self (by omega), List.getElem?_set_self (by rw [List.length_take, List.length_drop]; omega)]
    · rw [List.getElem?_take_of_lt hj, List.getElem?_drop, List.getElem?_set_ne (by omega), List.getElem?_set_ne (by omega), List.getElem?_take_of_lt hj, List.getElem?_drop]
  · rw [List.getElem?_eq_none (by rw [List.length_take]; omega), List.getElem?_eq_none (by rw [List.length_set, List.length_take]; omega)]
/-- an append of one element to a slice that may begin inside its block -/
theorem wpList_append_fly {P : Program} (w : World) {ops : Array Oper} {rest : List Oper} {o : Oper} {a : Act} {Q : Exit → Act → World → Prop}
    (hg : o.guard = none) (s x : Operand) (t : TypeId) (hop : o.op = Op.call { callee := Callee.builtin Builtin.append, args := #[s, x], argTypes := #[t, t] })
    (e : TypeId) (i : TypeInfo) (z : Value) (sz bytes base n : Nat) (h1 : P.underlying t = some (.slice e)) (h2 : P.info? e = some i) (h3 : i.zero = some z) (h4 : i.size = sz) (h5 : i.bytes = bytes) (h6 : z.cells.size = sz) (h7 : 0 < sz)
    (v : Value) (xs : List Value) (hs : a.eval s = v) (h : Fly w e sz base v n xs)
    (ad : Addr) (c : Nat) (news : List Value) (hx : a.eval x = .slice (some ad) 1 c) (hn : news.length = 1 * sz) (hc : ∀ j u, news[j]? = some u → w.cell? (ad.add j) = some u) (h1c : ∀ u ∈ news, u.oneCell' = true)
    (b1 : n + 1 ≤ maxLen) (b2 : (n + 1) * bytes ≤ 140737488355328) (b3 : base ≤ w.heap.size)
    (hK : ∀ a' c' w', Fly w' e sz base (.slice a' (n + 1) c') (n + 1) (xs ++ news) → w.grownBy w' v.ownBlock → (∀ b, (Value.slice a' (n + 1) c').ownBlock = some b → v.ownBlock = some b ∨ w.heap.size ≤ b) → wpList P ops Q rest (a.put o.dst (.slice a' (n + 1) c')) w') :
    wpList P ops Q (o :: rest) a w := by
  refine wpList_plain hg fun K' hK' => ?_
  obtain ⟨v', w', hrun, r1, r2, r3⟩ := run_append_fly (P := P) t o.type i z bytes h1 h2 h3 h4 h5 h6 h7 h ad c news hn hc h1c b1 b2 b3
  obtain ⟨a', c', rfl⟩ : ∃ a' c', v' = .slice a' (n + 1) c' := by
    rcases r1.2 with ⟨_, h0⟩ | ⟨g, o, cap, h1, _⟩
    · omega
    · exact ⟨_, _, h1⟩
  unfold Oper.wp
  simp [execOp, hop, resolve, invoke, builtin, hs, hx, hrun, Result.andThen]
  exact hK' _ _ (hK a' c' w' r1 r2 r3)
/-- the reference's desk at q: its list L, the list's value v -/
structure RefAt (w : World) (base q : Nat) (v : Value) (L : List Ent) : Prop where
  lo : base ≤ q
  ty : Bears w q 30
  c0 : w.cell? ⟨q, 0, none⟩ = some v
  fly : Fly w 71 4 base v L.length (cellsR L)
theorem infoLast : (Try.prog.info? 71).map (fun i => (i.zero, i.size, i.bytes)) = some (some (.agg #[.int .i64 0, .int .i64 0, .bool false, .string ⟨#[]⟩]), 4, 40) := by kernel_rfl
section
variable {w w' : World} {base q : Nat} {v : Value} {L : List Ent}
theorem RefAt.same (h : RefAt w base q v L) (e : w'.heap[q]? = w.heap[q]?) (hb : ∀ b, v.ownBlock = some b → w'.heap[b]? = w.heap[b]?) : RefAt w' base q v L :=
  ⟨h.lo, by obtain ⟨cs, k⟩ := h.ty; exact ⟨cs, e.trans k⟩, (cell_eq e 0).trans h.c0, h.fly.same hb⟩
theorem RefAt.is_slice (h : RefAt w base q v L) : ∃ a c, v = .slice a L.length c := by
  rcases h.fly.2 with ⟨h1, h2⟩ | ⟨g, o, cap, h1, _⟩
  · exact ⟨_, _, by rw [h1, h2]⟩
  · exact ⟨_, _, h1⟩
theorem RefAt.cell (h : RefAt w base q v L) {i : Nat} {e : Ent} (hi : L[i]? = some e) : ∃ g o cap, v = .slice (some ⟨g, o, none⟩) L.length cap ∧ L.length ≤ cap ∧ base ≤ g ∧ Bears w g 71 ∧ RowAt w 71 4 g o cap (cellsR L) ∧
    w.cell? ⟨g, o + i * 4, none⟩ = some (.int .i64 e.1) ∧ w.cell? ⟨g, o + i * 4 + 1, none⟩ = some (.int .i64 e.2.n) ∧ w.cell? ⟨g, o + i * 4 + 2, none⟩ = some (.bool e.2.r) ∧ w.cell? ⟨g, o + i * 4 + 3, none⟩ = some (.string e.2.s) := by
  have hlt : i < L.length := (List.getElem?_eq_some_iff.1 hi).1
  rcases h.fly.2 with ⟨_, h2⟩ | ⟨g, o, cap, h1, h2, h3, h4, h5⟩
  · omega
  · have hc := fun j hj => cellsR_get L i e hi j hj
    refine ⟨g, o, cap, h1, h4, h2, h.fly.ty g (by rw [h1]; rfl), h5, ?_, ?_, ?_, ?_⟩
    · have := h5.cell (i * 4 + 0) _ (hc 0 (by omega))
      simpa using this
    · have := h5.cell (i * 4 + 1) _ (hc 1 (by omega))
      rwa [← Nat.add_assoc] at this
    · have := h5.cell (i * 4 + 2) _ (hc 2 (by omega))
      rwa [← Nat.add_assoc] at this
    · have := h5.cell (i * 4 + 3) _ (hc 3 (by omega))
      rwa [← Nat.add_assoc] at this
end
set_option maxHeartbeats 2000000 in
set_option maxRecDepth 100000 in
theorem find_any {base : Nat} (q : Nat) (v : Value) (L : List Ent) (k : Int) (w : World) (hL : L.length ≤ maxLen) (h : Hid (RefAt w base q v L)) :
    Calls Try.prog 25 #[.pointer (some ⟨q, 0, none⟩), .int .i64 k] w fun e w' => e = .returned (.int .i64 (fidx L k)) ∧ w = w' := by
  obtain ⟨a', c', hv⟩ := h.out.is_slice
  subst hv
  have c0 := h.out.c0
  obtain ⟨n, hn⟩ : ∃ n, n = L.length := ⟨_, rfl⟩
  have HN := Lib.hid hn
  rw [← hn] at c0 hL
  have hL' : (n : Int) ≤ 9223372036854775807 := by unfold maxLen at hL; omega
  clear hL hn
  go_enter Try.func25, Try.ntmps25
  go_wp2
  go_loop [5] (fun i => ∃ j : Nat, j ≤ n ∧ i = .int .i64 j ∧ Hid (∀ i e, i < j → L[i]? = some e → ¬ e.1 = k)) (fun i => n - (intOf i).toNat)
  case atStart => exact ⟨0, by omega, rfl, Lib.hid (fun i e hi => absurd hi (by omega))⟩
  case round =>
    obtain ⟨j, hj, rfl, HR⟩ := hrel
    by_cases hjn : j < n
    · have hjn' : (j : Int) < n := by omega
      obtain ⟨e, he⟩ : ∃ e, L[j]? = some e := ⟨_, List.getElem?_eq_getElem (by rw [← HN.out]; exact hjn)⟩
      obtain ⟨g, o, cap, hav, _, _, _, _, e0, _, _, _⟩ := h.out.cell he
      have hav2 : a' = some ⟨g, o, none⟩ := by injection hav
      clear hav
      subst hav2
      have HE := Lib.hid he
      clear he
      by_cases hk : e.1 = k
      · have hk1 : (e.1 == k) = true := by simpa using hk
        have HF := Lib.hid (fidx_some HR.out HE.out hk)
        clear hk
        go_wp2
        go_ret
        exact ⟨by rw [HF.out]; rfl, rfl⟩
      · have hk1 : (e.1 == k) = false := by simpa using hk
        have HK := Lib.hid hk
        clear hk
        go_wp2
        go_round
        case rel =>
          refine ⟨j + 1, by omega, by go_num, Lib.hid (fun i e' hi he' => ?_)⟩
          by_cases hij : i = j
          · subst hij
            rw [HE.out] at he'
            injection he' with he'
            subst he'
            exact HK.out
          · exact HR.out i e' (by omega) he'
        case measure => simp [intOf]; omega
    · have HF := Lib.hid (fidx_none (L := L) (k := k) (fun i e he => HR.out i e (by have := (List.getElem?_eq_some_iff.1 he).1; have := HN.out; omega) he)).1
      go_wp2
      go_ret
      exact ⟨by rw [HF.out]; rfl, rfl⟩
/-- the reference's desk as the laws see it: of at most n clients it knows M -/
structure RD (w0 w : World) (q n : Nat) (M : Known) : Prop where
  ex : ∃ v L, RefAt w w0.heap.size q v L ∧ L.length ≤ n ∧ M = knownOf L
/-- all blocks that were there stay but those of the reference's desk -/
def RF (w w' : World) : Prop := ∀ b, b < w.heap.size → ¬ Bears w b 30 → ¬ Bears w b 71 → w'.heap[b]? = w.heap[b]?
/-- the post of a call that makes the reference's desk know M' -/
def RPost (w0 w : World) (q n : Nat) (M' : Known) (v : Value) (e : Ending) (w' : World) : Prop := e = .returned v ∧ Hid (RD w0 w' q n M' ∧ RF w w' ∧ Below w0.heap.size w0 w')
theorem rpost_same {w0 w : World} {q n n' : Nat} {M : Known} {v : Value} (hn : n ≤ n') (hb : Below w0.heap.size w0 w) (h : Hid (RD w0 w q n M)) : RPost w0 w q n' M v (.returned v) w := by
  obtain ⟨v0, L, h1, h2, h3⟩ := h.out.ex
  exact ⟨rfl, Lib.hid ⟨⟨v0, L, h1, by omega, h3⟩, fun _ _ _ _ => rfl, hb⟩⟩
theorem rpost_drewN {w0 w : World} {q n n' : Nat} {M : Known} {v : Value} (k : Nat) (hn : n ≤ n') (hb : Below w0.heap.size w0 w) (h : Hid (RD w0 w q n M)) : RPost w0 w q n' M v (.returned v) (w.drewN k) := by
  obtain ⟨v0, L, h1, h2, h3⟩ := h.out.ex
  exact ⟨rfl, Lib.hid ⟨⟨v0, L, h1.same rfl (fun _ _ => rfl), by omega, h3⟩, fun _ _ _ _ => rfl, ⟨hb.os, hb.tape, hb.output, hb.size, hb.block⟩⟩⟩
/-- the world behind new cells of a row of the desk's own -/
theorem rpost_set {w0 w w' : World} {q n : Nat} {g o cap : Nat} {L L' : List Ent} {v : Value} (hb : Below w0.heap.size w0 w) (h : RefAt w w0.heap.size q (.slice (some ⟨g, o, none⟩) L.length cap) L) (hs : Sole w w' g)
    (hr : RowAt w' 71 4 g o cap (cellsR L')) (hl : L'.length = L.length) (hn : L.length ≤ n) : RPost w0 w q n (knownOf L') v (.returned v) w' := by
  have hty := h.fly.ty g rfl
  have hg := (h.fly.lt g rfl).1
  have hgq : ¬ q = g := bears_apart h.ty hty (by decide)
  have hqb := hs.block q hgq
  obtain ⟨cap1, hc1, hc2⟩ : ∃ x : Nat, cap = x ∧ cap ≤ maxLen ∧ L.length ≤ cap := by
    rcases h.fly.2 with ⟨h1, _⟩ | ⟨g1, o1, c1, h1, _, h3, h4, _⟩
    · cases h1
    · injection h1 with _ _ e
      exact ⟨cap, rfl, by rw [e]; exact h3, by rw [e]; exact h4⟩
  refine ⟨rfl, Lib.hid ⟨⟨.slice (some ⟨g, o, none⟩) L.length cap, L', ⟨h.lo, by obtain ⟨cs, k⟩ := h.ty; exact ⟨cs, hqb.trans k⟩, (cell_eq hqb 0).trans h.c0, ?_⟩, by omega, rfl⟩, fun b _ _ hnl => hs.block b (fun e => hnl (by rw [e]; exact hty)), ?_⟩⟩
  · exact ⟨cellsR_length L', .inr ⟨g, o, cap, by rw [hl], hg, hc2.1, by rw [hl]; exact hc2.2, hr⟩⟩
  · exact ⟨hs.os.trans hb.os, hs.tape.trans hb.tape, hs.output.trans hb.output, by rw [hs.size]; exact hb.size, fun b hb' => (hs.block b (by omega)).trans (hb.block b hb')⟩
/-- the world behind an append to the desk's list -/
theorem ref_app {w0 w w1 w2 : World} {q : Nat} {L : List Ent} {v v' : Value} {e : Ent} (hb : Below w0.heap.size w0 w) (h : RefAt w w0.heap.size q v L) (h1 : Below w.heap.size w w1) (hf : Fly w2 71 4 w0.heap.size v' (L.length + 1) (cellsR L ++ entCells e))
    (hg : w1.grownBy w2 v.ownBlock) : RefAt (w2.setCell ⟨q, 0, none⟩ v') w0.heap.size q v' (L ++ [e]) ∧ RF w (w2.setCell ⟨q, 0, none⟩ v') ∧ Below w0.heap.size w0 (w2.setCell ⟨q, 0, none⟩ v') := by
  have hqv : ∀ b, v.ownBlock = some b → ¬ q = b := fun b hv => bears_apart h.ty (h.fly.ty b hv) (by decide)
  have hq1 : q < w1.heap.size := Nat.lt_of_lt_of_le h.ty.lt h1.size
  have hq2 : w2.heap[q]? = w.heap[q]? := (hg.block q hq1 (fun e' => hqv q e'.symm rfl)).trans (h1.block q h.ty.lt)
  have hty2 : Bears w2 q 30 := by obtain ⟨cs, k⟩ := h.ty; exact ⟨cs, hq2.trans k⟩
  have hqv' : ∀ b, v'.ownBlock = some b → ¬ b = q := fun b hv => bears_apart (hf.ty b hv) hty2 (by decide)
  refine ⟨⟨h.lo, bears_set _ hty2, World.cell?_setCell_same _ _ _ ((cell_eq hq2 0).trans h.c0), ?_⟩, fun b hbl hnd hnl => ?_, ?_⟩
  · have e1 : (L ++ [e]).length = L.length + 1 := by simp
    have e2 : cellsR (L ++ [e]) = cellsR L ++ entCells e := by rw [cellsR_append]; simp [cellsR]
    rw [e1, e2]
    exact hf.same (fun b hv => Below.heap_setCell _ _ _ _ (hqv' b hv))
  · have hbq : ¬ b = q := fun e => hnd (by rw [e]; exact h.ty)
    exact (Below.heap_setCell _ _ _ _ hbq).trans ((hg.block b (Nat.lt_of_lt_of_le hbl h1.size) (fun e' => hnl (h.fly.ty b e'.symm))).trans (h1.block b hbl))
  · have hlo := h.lo
    have hs0 := hb.size
    refine ⟨hg.os.trans (h1.os.trans hb.os), hg.tape.trans (h1.tape.trans hb.tape), hg.output.trans (h1.output.trans hb.output), by simp [World.setCell]; have := hg.size; have := h1.size; omega, fun b hbl => ?_⟩
    have hbv : some b ≠ v.ownBlock := fun e' => by have := (h.fly.lt b e'.symm).1; omega
    have h1s := h1.size
    exact (Below.heap_setCell _ _ _ _ (show ¬ b = q by omega)).trans ((hg.block b (by omega) hbv).trans ((h1.block b (by omega)).trans (hb.block b hbl)))
theorem rpost_app {w0 w w1 w2 : World} {q n : Nat} {L : List Ent} {v v' : Value} {e : Ent} {r : Value} (hb : Below w0.heap.size w0 w) (h : RefAt w w0.heap.size q v L) (h1 : Below w.heap.size w w1) (hf : Fly w2 71 4 w0.heap.size v' (L.length + 1) (cellsR L ++ entCells e))
    (hg : w1.grownBy w2 v.ownBlock) (hn : L.length + 1 ≤ n) : RPost w0 w q n (knownOf (L ++ [e])) r (.returned r) (w2.setCell ⟨q, 0, none⟩ v') := by
  obtain ⟨h3, h4, h5⟩ := ref_app hb h h1 hf hg
  exact ⟨rfl, Lib.hid ⟨⟨v', L ++ [e], h3, by simpa using hn, rfl⟩, h4, h5⟩⟩
theorem set_there {α : Type} : ∀ {l : List α} {i : Nat} {v : α}, l[i]? = some v → l.set i v = l
  | [], i, v, h => by simp at h
  | a :: r, 0, v, h => by simp at h; subst h; rfl
  | a :: r, i + 1, v, h => by rw [List.set_cons_succ, set_there (by simpa using h)]
/-- one entry of a row is written anew -/
theorem row_set {w : World} {g o cap : Nat} {L : List Ent} {i : Nat} (e : Ent) (hi : i < L.length) (h : RowAt w 71 4 g o cap (cellsR L)) :
    RowAt ((((w.setCell ⟨g, o + i * 4, none⟩ (.int .i64 e.1)).setCell ⟨g, o + i * 4 + 1, none⟩ (.int .i64 e.2.n)).setCell ⟨g, o + i * 4 + 2, none⟩ (.bool e.2.r)).setCell ⟨g, o + i * 4 + 3, none⟩ (.string e.2.s)) 71 4 g o cap (cellsR (L.set i e)) ∧
      Sole w ((((w.setCell ⟨g, o + i * 4, none⟩ (.int .i64 e.1)).setCell ⟨g, o + i * 4 + 1, none⟩ (.int .i64 e.2.n)).setCell ⟨g, o + i * 4 + 2, none⟩ (.bool e.2.r)).setCell ⟨g, o + i * 4 + 3, none⟩ (.string e.2.s)) g := by
  have hl := cellsR_length L
  refine ⟨?_, (((sole_setCell _ _ _ _).trans (sole_setCell _ _ _ _)).trans (sole_setCell _ _ _ _)).trans (sole_setCell _ _ _ _)⟩
  rw [cellsR_set L i e hi]
  have h0 := h.setIn (i * 4) (by omega) (.int .i64 e.1)
  have h1 := h0.setIn (i * 4 + 1) (by rw [List.length_set]; omega) (.int .i64 e.2.n)
  have h2 := h1.setIn (i * 4 + 2) (by rw [List.length_set, List.length_set]; omega) (.bool e.2.r)
  have h3 := h2.setIn (i * 4 + 3) (by rw [List.length_set, List.length_set, List.length_set]; omega) (.string e.2.s)
  exact h3
/-- .. and the desk knows it -/
theorem rpost_entry {w0 w : World} {q n : Nat} {g o cap : Nat} {L : List Ent} {i : Nat} {k : Int} {c : LCall} {v : Value} {K : Known} (hb : Below w0.heap.size w0 w) (h : RefAt w w0.heap.size q (.slice (some ⟨g, o, none⟩) L.length cap) L) (hi : i < L.length) (hn : L.length ≤ n)
    (hr : RowAt w 71 4 g o cap (cellsR L)) (hk : knownOf (L.set i (k, c)) = K) :
    RPost w0 w q n K v (.returned v) ((((w.setCell ⟨g, o + i * 4, none⟩ (.int .i64 k)).setCell ⟨g, o + i * 4 + 1, none⟩ (.int .i64 c.n)).setCell ⟨g, o + i * 4 + 2, none⟩ (.bool c.r)).setCell ⟨g, o + i * 4 + 3, none⟩ (.string c.s)) := by
  rw [← hk]
  have := row_set (k, c) hi hr
  exact rpost_set hb h this.2 this.1 (by simp) hn
set_option maxHeartbeats 4000000 in
set_option maxRecDepth 100000 in
theorem rask_any {w0 : World} (q n : Nat) (M : Known) (k call : Int) (w : World) (hn : (n + 1) * 40 ≤ 140737488351232) (hb : Hid (Below w0.heap.size w0 w)) (h : Hid (RD w0 w q n M)) :
    Calls Try.prog 10 #[.pointer (some ⟨q, 0, none⟩), .int .i64 k, .int .i64 call] w (RPost w0 w q (n + 1) (askM M k call) (.tuple #[.int .i64 (askN (M k) call), .string (askS (M k) call)])) := by
  obtain ⟨i0, hi, hz0, hz1, hz2⟩ := info_parts infoLast
  obtain ⟨v, L, hR, hLn, rfl⟩ := h.out.ex
  have HR := Lib.hid hR
  have HFI := Lib.hid (And.intro hi (And.intro hz0 (And.intro hz1 hz2)))
  have hLm : L.length ≤ maxLen := by unfold maxLen; omega
  clear hi hz0 hz1 hz2
  rcases fidx_cases L k with ⟨f1, f2⟩ | ⟨i, c, hil, f1, hic, f2, f3⟩
  · rw [f2]
    have hM : askM (knownOf L) k call = knownOf (L ++ [(k, ⟨call, false, ⟨#[]⟩⟩)]) := by rw [known_snoc f2]; unfold askM; rw [f2]; rfl
    rw [hM, show askN none call = 0 from rfl, show askS none call = ⟨#[]⟩ from rfl]
    have hA : Below w.heap.size w (w.alloc (.cells #[.int .i64 k, .int .i64 call, .bool false, .string ⟨#[]⟩] 71)) := (Below.refl _ w).alloc (Nat.le_refl _) _
    have hfly : Fly (w.alloc (.cells #[.int .i64 k, .int .i64 call, .bool false, .string ⟨#[]⟩] 71)) 71 4 w0.heap.size v L.length (cellsR L) := hR.fly.same (fun b hv => hA.block b (hR.fly.lt b hv).2)
    have HA := Lib.hid hA
    have HFL := Lib.hid hfly
    have c0 := hR.c0
    have ff := bears_free hR.ty 0
    clear hM f2 hA hfly hR
    go_enter Try.func10, Try.ntmps10
    go_wp2_with (fail)
    refine (find_any q v L k w hLm HR).mono ?_
    rintro e w1 ⟨rfl, rfl⟩
    rw [f1]
    clear f1
    go_wp2_with (at_builtin; refine wpList_append_fly _ rfl _ _ 28 rfl 71 i0 (.agg #[.int .i64 0, .int .i64 0, .bool false, .string ⟨#[]⟩]) 4 40 w0.heap.size L.length Try.underlying28 HFI.out.1 HFI.out.2.1 HFI.out.2.2.1 HFI.out.2.2.2 rfl (by decide) v (cellsR L) rfl HFL.out ⟨w.heap.size, 0, none⟩ 1 (entCells (k, ⟨call, false, ⟨#[]⟩⟩)) rfl rfl ?c1 ?c2 ?c3 ?c4 ?c5 ?_)
    case c1 =>
      intro j u hj
      match j, hj with
      | 0, hj => simp at hj; subst hj; simp [Addr.add]
      | 1, hj => simp at hj; subst hj; simp [Addr.add]
      | 2, hj => simp at hj; subst hj; simp [Addr.add]
      | 3, hj => simp at hj; subst hj; simp [Addr.add]
    case c2 => intro u hu; simp at hu; rcases hu with rfl | rfl | rfl | rfl <;> rfl
    case c3 => unfold maxLen; omega
    case c4 => omega
    case c5 => have := hb.out.size; simp; omega
    intro a' c' w2 hf2 hg2 _
    have HP : Hid (RPost w0 w q (n + 1) (knownOf (L ++ [(k, ⟨call, false, ⟨#[]⟩⟩)])) (.tuple #[.int .i64 0, .string ⟨#[]⟩]) (.returned (.tuple #[.int .i64 0, .string ⟨#[]⟩])) (w2.setCell ⟨q, 0, none⟩ (.slice a' (L.length + 1) c'))) :=
      Lib.hid (rpost_app hb.out HR.out HA.out hf2 hg2 (by omega))
    have hq2 : w2.heap[q]? = (w.alloc (.cells #[.int .i64 k, .int .i64 call, .bool false, .string ⟨#[]⟩] 71)).heap[q]? := hg2.block q (by have := HR.out.ty.lt; simp; omega) (fun e' => bears_apart HR.out.ty (HR.out.fly.ty q e'.symm) (by decide) rfl)
    have hq3 := hq2.trans (HA.out.block q HR.out.ty.lt)
    have d0 := (cell_eq hq3 0).trans c0
    have e0 := (frozen_eq hq3 0).trans ff
    clear hf2 hg2 hq2 hq3 c0 ff
    go_wp2
    go_ret2
    exact HP.out
  · rw [f2]
    obtain ⟨g, o, cap, rfl, hcap, _, hgty, hrow, e0, e1, e2, e3⟩ := hR.cell hic
    have c0 := hR.c0
    have zf := bears_free hgty
    have z0 := zf (o + i * 4)
    have z1 := zf (o + i * 4 + 1)
    have z2 := zf (o + i * 4 + 2)
    have z3 := zf (o + i * 4 + 3)
    obtain ⟨m, hm⟩ : ∃ m, m = L.length := ⟨_, rfl⟩
    have HM := Lib.hid hm
    have him : i < m := by omega
    have him' : (i : Int) < (m : Int) := by omega
    have hi9 : (i : Int) ≤ 9223372036854775807 := by unfold maxLen at hLm; omega
    have HP := fun c v (hv : knownOf (L.set i (k, c)) = upd (knownOf L) k c) => rpost_entry (n := n + 1) (k := k) (c := c) (v := v) hb.out hR hil (by omega) hrow hv
    have HPH : Hid (∀ c v, RPost w0 w q (n + 1) (upd (knownOf L) k c) v (.returned v) ((((w.setCell ⟨g, o + i * 4, none⟩ (.int .i64 k)).setCell ⟨g, o + i * 4 + 1, none⟩ (.int .i64 c.n)).setCell ⟨g, o + i * 4 + 2, none⟩ (.bool c.r)).setCell ⟨g, o + i * 4 + 3, none⟩ (.string c.s))) := Lib.hid (fun c v => HP c v (f3 c))
    rw [← hm] at c0
    have hlm : m ≤ maxLen := by rw [hm]; exact hLm
    have HN1 : Hid (n ≤ n + 1) := Lib.hid (by omega)
    clear HP zf hrow hgty hm hR hic f3 hil hcap hLn HFI
    obtain ⟨cn, cr, cs⟩ := c
    simp only at e1 e2 e3
    by_cases h1 : cn < call
    · have hA : askN (some ⟨cn, cr, cs⟩) call = 0 := by simp [askN, h1]
      have hM : askM (knownOf L) k call = upd (knownOf L) k ⟨call, false, ⟨#[]⟩⟩ := by unfold askM; rw [f2, hA]; rfl
      have hs : askS (some ⟨cn, cr, cs⟩) call = ⟨#[]⟩ := by unfold askS; rw [hA]; rfl
      have HE := Lib.hid (HPH.out ⟨call, false, ⟨#[]⟩⟩ (.tuple #[.int .i64 0, .string ⟨#[]⟩]))
      rw [hA, hM, hs]
      have h2 : decide (cn < call) = true := by simpa using h1
      clear hA hM hs f2 HPH
      go_enter Try.func10, Try.ntmps10
      go_wp2_with (fail)
      refine (find_any q _ L k w hLm HR).mono ?_
      rintro e w1 ⟨rfl, rfl⟩
      rw [f1]
      clear f1
      go_wp2
      go_ret2
      exact HE.out
    · have h2 : decide (cn < call) = false := by simpa using h1
      by_cases h3 : call < cn
      · have hA : askN (some ⟨cn, cr, cs⟩) call = 3 := by simp [askN, h1, h3]
        have hM : askM (knownOf L) k call = knownOf L := by unfold askM; rw [f2, hA]; rfl
        have hs : askS (some ⟨cn, cr, cs⟩) call = ⟨#[]⟩ := by unfold askS; rw [hA]; rfl
        rw [hA, hM, hs]
        have h4 : decide (call < cn) = true := by simpa using h3
        clear hA hM hs f2 HPH
        go_enter Try.func10, Try.ntmps10
        go_wp2_with (fail)
        refine (find_any q _ L k w hLm HR).mono ?_
        rintro e w1 ⟨rfl, rfl⟩
        rw [f1]
        clear f1
        go_wp2
        go_ret2
        exact rpost_same HN1.out hb.out h
      · have h4 : decide (call < cn) = false := by simpa using h3
        cases cr
        · have hA : askN (some ⟨cn, false, cs⟩) call = 1 := by simp [askN, h1, h3]
          have hM : askM (knownOf L) k call = knownOf L := by unfold askM; rw [f2, hA]; rfl
          have hs : askS (some ⟨cn, false, cs⟩) call = ⟨#[]⟩ := by unfold askS; rw [hA]; rfl
          rw [hA, hM, hs]
          clear hA hM hs f2 HPH
          go_enter Try.func10, Try.ntmps10
          go_wp2_with (fail)
          refine (find_any q _ L k w hLm HR).mono ?_
          rintro e w1 ⟨rfl, rfl⟩
          rw [f1]
          clear f1
          go_wp2
          go_ret2
          exact rpost_same HN1.out hb.out h
        · have hA : askN (some ⟨cn, true, cs⟩) call = 2 := by simp [askN, h1, h3]
          have hM : askM (knownOf L) k call = knownOf L := by unfold askM; rw [f2, hA]; rfl
          have hs : askS (some ⟨cn, true, cs⟩) call = cs := by unfold askS; rw [hA]; rfl
          rw [hA, hM, hs]
          clear hA hM hs f2 HPH
          go_enter Try.func10, Try.ntmps10
          go_wp2_with (fail)
          refine (find_any q _ L k w hLm HR).mono ?_
          rintro e w1 ⟨rfl, rfl⟩
          rw [f1]
          clear f1
          go_wp2_with (fail)
          go_quiet (fail)
          go_wp2
          go_ret2
          exact rpost_drewN _ HN1.out hb.out h
/-- an entry gets its reply -/
theorem rpost_reply {w0 w : World} {q n : Nat} {g o cap : Nat} {L : List Ent} {i : Nat} {k : Int} {c : LCall} {s : ByteArray} {v : Value} {K : Known} (hb : Below w0.heap.size w0 w) (h : RefAt w w0.heap.size q (.slice (some ⟨g, o, none⟩) L.length cap) L) (hi : L[i]? = some (k, c)) (hn : L.length ≤ n)
    (hr : RowAt w 71 4 g o cap (cellsR L)) (hk : knownOf (L.set i (k, ⟨c.n, true, s⟩)) = K) :
    RPost w0 w q n K v (.returned v) ((w.setCell ⟨g, o + i * 4 + 2, none⟩ (.bool true)).setCell ⟨g, o + i * 4 + 3, none⟩ (.string s)) := by
  rw [← hk]
  have hlt : i < L.length := (List.getElem?_eq_some_iff.1 hi).1
  have hl := cellsR_length L
  have g0 := cellsR_get L i _ hi 0 (by omega)
  have g1 := cellsR_get L i _ hi 1 (by omega)
  rw [Nat.add_zero] at g0
  refine rpost_set hb h ((sole_setCell _ _ _ _).trans (sole_setCell _ _ _ _)) ?_ (by simp) hn
  rw [cellsR_set L i _ hlt]
  show RowAt _ _ 4 g o cap (((((cellsR L).set (i * 4) (.int .i64 k)).set (i * 4 + 1) (.int .i64 c.n)).set (i * 4 + 2) (.bool true)).set (i * 4 + 3) (.string s))
  have s0 : (cellsR L).set (i * 4) (.int .i64 k) = cellsR L := set_there g0
  have s1 : (cellsR L).set (i * 4 + 1) (.int .i64 c.n) = cellsR L := set_there g1
  rw [s0, s1]
  have h2 := hr.setIn (i * 4 + 2) (by omega) (.bool true)
  exact h2.setIn (i * 4 + 3) (by rw [List.length_set]; omega) (.string s)
set_option maxHeartbeats 4000000 in
set_option maxRecDepth 100000 in
theorem rreply_any {w0 : World} (q n : Nat) (M : Known) (k call : Int) (s : ByteArray) (w : World) (hn : (n + 1) * 40 ≤ 140737488351232) (hb : Hid (Below w0.heap.size w0 w)) (h : Hid (RD w0 w q n M)) :
    Calls Try.prog 12 #[.pointer (some ⟨q, 0, none⟩), .int .i64 k, .int .i64 call, .string s] w (RPost w0 w q (n + 1) (repM M k call s) (.bool (repB (M k) call))) := by
  obtain ⟨v, L, hR, hLn, rfl⟩ := h.out.ex
  have HR := Lib.hid hR
  have hLm : L.length ≤ maxLen := by unfold maxLen; omega
  rcases fidx_cases L k with ⟨f1, f2⟩ | ⟨i, c, hil, f1, hic, f2, f3⟩
  · rw [f2]
    have hM : repM (knownOf L) k call s = knownOf L := by unfold repM; rw [f2]; rfl
    rw [hM, show repB none call = false from rfl]
    clear hM f2 hR
    go_enter Try.func12, Try.ntmps12
    go_wp2_with (fail)
    refine (find_any q v L k w hLm HR).mono ?_
    rintro e w1 ⟨rfl, rfl⟩
    rw [f1]
    clear f1
    go_wp2
    go_ret
    exact rpost_same (by omega) hb.out h
  · rw [f2]
    obtain ⟨g, o, cap, rfl, hcap, _, hgty, hrow, e0, e1, e2, e3⟩ := hR.cell hic
    have c0 := hR.c0
    have zf := bears_free hgty
    have z2 := zf (o + i * 4 + 2)
    have z3 := zf (o + i * 4 + 3)
    obtain ⟨m, hm⟩ : ∃ m, m = L.length := ⟨_, rfl⟩
    have him : i < m := by omega
    have him' : (i : Int) < (m : Int) := by omega
    have hi9 : (i : Int) ≤ 9223372036854775807 := by unfold maxLen at hLm; omega
    have HP := fun v (hv : knownOf (L.set i (k, ⟨c.n, true, s⟩)) = upd (knownOf L) k ⟨c.n, true, s⟩) => rpost_reply (n := n + 1) (v := v) hb.out hR hic (by omega) hrow hv
    have HPH := Lib.hid (fun v => HP v (f3 _))
    rw [← hm] at c0
    have hlm : m ≤ maxLen := by rw [hm]; exact hLm
    have HN1 : Hid (n ≤ n + 1) := Lib.hid (by omega)
    clear HP zf hrow hgty hm hR hic f3 hil hcap hLn
    obtain ⟨cn, cr, cs⟩ := c
    simp only at e1 e2 e3 HPH
    by_cases h1 : cn = call
    · have h2 : (cn != call) = false := by simpa using h1
      cases cr
      · have hA : repB (some ⟨cn, false, cs⟩) call = true := by simp [repB, h1]
        have hM : repM (knownOf L) k call s = upd (knownOf L) k ⟨cn, true, s⟩ := by unfold repM; rw [f2, hA, h1]; rfl
        have HE := Lib.hid (HPH.out (.bool true))
        rw [hA, hM]
        clear hA hM f2 HPH h1
        go_enter Try.func12, Try.ntmps12
        go_wp2_with (fail)
        refine (find_any q _ L k w hLm HR).mono ?_
        rintro e w1 ⟨rfl, rfl⟩
        rw [f1]
        clear f1
        go_wp2
        go_ret
        exact HE.out
      · have hA : repB (some ⟨cn, true, cs⟩) call = false := by simp [repB]
        have hM : repM (knownOf L) k call s = knownOf L := by unfold repM; rw [f2, hA]; rfl
        rw [hA, hM]
        clear hA hM f2 HPH h1
        go_enter Try.func12, Try.ntmps12
        go_wp2_with (fail)
        refine (find_any q _ L k w hLm HR).mono ?_
        rintro e w1 ⟨rfl, rfl⟩
        rw [f1]
        clear f1
        go_wp2
        go_ret
        exact rpost_same HN1.out hb.out h
    · have h2 : (cn != call) = true := by simpa using h1
      have hA : repB (some ⟨cn, cr, cs⟩) call = false := by simp [repB, h1]
      have hM : repM (knownOf L) k call s = knownOf L := by unfold repM; rw [f2, hA]; rfl
      rw [hA, hM]
      clear hA hM f2 HPH h1
      go_enter Try.func12, Try.ntmps12
      go_wp2_with (fail)
      refine (find_any q _ L k w hLm HR).mono ?_
      rintro e w1 ⟨rfl, rfl⟩
      rw [f1]
      clear f1
      go_wp2
      go_ret
      exact rpost_same HN1.out hb.out h
theorem rf_trans {w w1 w2 : World} (hs : w.heap.size ≤ w1.heap.size) (h : RF w w1) (hty : ∀ b, b < w.heap.size → ¬ Bears w b 30 → ¬ Bears w b 71 → ¬ Bears w1 b 30 ∧ ¬ Bears w1 b 71) (k : RF w1 w2) : RF w w2 :=
  fun b hb h1 h2 => (k b (by omega) (hty b hb h1 h2).1 (hty b hb h1 h2).2).trans (h b hb h1 h2)
theorem rf_ty {w w1 : World} (h : RF w w1) (b : Nat) (hb : b < w.heap.size) (h1 : ¬ Bears w b 30) (h2 : ¬ Bears w b 71) : ¬ Bears w1 b 30 ∧ ¬ Bears w1 b 71 := by
  have e := h b hb h1 h2
  exact ⟨fun ⟨cs, q⟩ => h1 ⟨cs, e.symm.trans q⟩, fun ⟨cs, q⟩ => h2 ⟨cs, e.symm.trans q⟩⟩
set_option maxHeartbeats 4000000 in
set_option maxRecDepth 100000 in
theorem rset_any {w0 : World} (q n : Nat) (M : Known) (k call : Int) (s : ByteArray) (w : World) (hn : (n + 1) * 40 ≤ 140737488351232) (hb : Hid (Below w0.heap.size w0 w)) (h : Hid (RD w0 w q n M)) :
    Calls Try.prog 14 #[.pointer (some ⟨q, 0, none⟩), .int .i64 k, .int .i64 call, .string s] w (RPost w0 w q (n + 1) (upd M k ⟨call, true, s⟩) (.tuple #[])) := by
  obtain ⟨i0, hi, hz0, hz1, hz2⟩ := info_parts infoLast
  obtain ⟨v, L, hR, hLn, rfl⟩ := h.out.ex
  have HR := Lib.hid hR
  have HFI := Lib.hid (And.intro hi (And.intro hz0 (And.intro hz1 hz2)))
  have hLm : L.length ≤ maxLen := by unfold maxLen; omega
  clear hi hz0 hz1 hz2
  rcases fidx_cases L k with ⟨f1, f2⟩ | ⟨i, c, hil, f1, hic, f2, f3⟩
  · have hA : Below w.heap.size w (w.alloc (.cells #[.int .i64 0, .int .i64 0, .bool false, .string ⟨#[]⟩] 71)) := (Below.refl _ w).alloc (Nat.le_refl _) _
    have hfly : Fly (w.alloc (.cells #[.int .i64 0, .int .i64 0, .bool false, .string ⟨#[]⟩] 71)) 71 4 w0.heap.size v L.length (cellsR L) := hR.fly.same (fun b hv => hA.block b (hR.fly.lt b hv).2)
    have HA := Lib.hid hA
    have HFL := Lib.hid hfly
    have c0 := hR.c0
    have ff := bears_free hR.ty 0
    have HK := Lib.hid f2
    clear f2 hA hfly hR
    go_enter Try.func14, Try.ntmps14
    go_wp2_with (fail)
    refine (find_any q v L k w hLm HR).mono ?_
    rintro e w1 ⟨rfl, rfl⟩
    rw [f1]
    clear f1
    go_wp2_with (at_builtin; refine wpList_append_fly _ rfl _ _ 28 rfl 71 i0 (.agg #[.int .i64 0, .int .i64 0, .bool false, .string ⟨#[]⟩]) 4 40 w0.heap.size L.length Try.underlying28 HFI.out.1 HFI.out.2.1 HFI.out.2.2.1 HFI.out.2.2.2 rfl (by decide) v (cellsR L) rfl HFL.out ⟨w.heap.size, 0, none⟩ 1 (entCells (0, lc0)) rfl rfl ?c1 ?c2 ?c3 ?c4 ?c5 ?_)
    case c1 =>
      intro j u hj
      match j, hj with
      | 0, hj => simp at hj; subst hj; simp [Addr.add]
      | 1, hj => simp at hj; subst hj; simp [Addr.add, lc0]
      | 2, hj => simp at hj; subst hj; simp [Addr.add, lc0]
      | 3, hj => simp at hj; subst hj; simp [Addr.add, lc0]
    case c2 => intro u hu; simp at hu; rcases hu with rfl | rfl | rfl | rfl <;> rfl
    case c3 => unfold maxLen; omega
    case c4 => omega
    case c5 => have := hb.out.size; simp; omega
    intro a' c' w2 hf2 hg2 _
    obtain ⟨p1, p2, p3⟩ := ref_app hb.out HR.out HA.out hf2 hg2
    have hL1 : (L ++ [((0 : Int), lc0)]).length = L.length + 1 := by simp
    obtain ⟨g, o, cap, hav, hcap, _, hgty, hrow, e0, e1, e2, e3⟩ := p1.cell (i := L.length) (e := ((0 : Int), lc0)) (by simp)
    rw [hL1] at hav
    injection hav with hav1 _ hav3
    subst hav1 hav3
    have p1' : RefAt (w2.setCell ⟨q, 0, none⟩ (.slice (some ⟨g, o, none⟩) (L.length + 1) c')) w0.heap.size q (.slice (some ⟨g, o, none⟩) (L ++ [((0 : Int), lc0)]).length c') (L ++ [((0 : Int), lc0)]) := by rw [hL1]; exact p1
    have hkn : knownOf ((L ++ [((0 : Int), lc0)]).set L.length (k, ⟨call, true, s⟩)) = upd (knownOf L) k ⟨call, true, s⟩ := by
      rw [← known_snoc HK.out]
      congr 1
      simp
    have hpe := rpost_entry (n := n + 1) (v := .tuple #[]) p3 p1' (by rw [hL1]; omega) (by rw [hL1]; omega) hrow hkn
    have hsz2 : w.heap.size ≤ (w2.setCell ⟨q, 0, none⟩ (.slice (some ⟨g, o, none⟩) (L.length + 1) c')).heap.size := by have := hg2.size; simp at this; simp [World.setCell]; omega
    have HP : Hid (RPost w0 w q (n + 1) (upd (knownOf L) k ⟨call, true, s⟩) (.tuple #[]) (.returned (.tuple #[])) _) := Lib.hid ⟨rfl, Lib.hid ⟨hpe.2.out.1, rf_trans hsz2 p2 (rf_ty p2) hpe.2.out.2.1, hpe.2.out.2.2⟩⟩
    have hq2 : w2.heap[q]? = (w.alloc (.cells #[.int .i64 0, .int .i64 0, .bool false, .string ⟨#[]⟩] 71)).heap[q]? := hg2.block q (by have := HR.out.ty.lt; simp; omega) (fun e' => bears_apart HR.out.ty (HR.out.fly.ty q e'.symm) (by decide) rfl)
    have hq3 := hq2.trans (HA.out.block q HR.out.ty.lt)
    have d0 := (cell_eq hq3 0).trans c0
    have k0 := (frozen_eq hq3 0).trans ff
    have hgq : ¬ g = q := bears_apart hgty p1.ty (by decide)
    have zf := bears_free hgty
    have z0 := zf (o + L.length * 4)
    have z1 := zf (o + L.length * 4 + 1)
    have z2 := zf (o + L.length * 4 + 2)
    have z3 := zf (o + L.length * 4 + 3)
    rw [World.frozen?_setCell] at z0 z1 z2 z3
    rw [World.cell?_setCell_other _ _ _ _ (by intro h; injection h with h; exact hgq h.symm)] at e0 e1 e2 e3
    have hlm9 : (L.length : Int) ≤ 9223372036854775806 := by omega
    have hw1 : wrap64 ((L.length : Int) + 1 - 1) = (L.length : Int) := by rw [show (L.length : Int) + 1 - 1 = L.length by omega]; exact IntWalk.wrap64_in _ ⟨by omega, by omega⟩
    clear hf2 hg2 hq2 hq3 c0 ff zf p1 p2 p3 p1' hpe hkn hrow hgty hcap hsz2 hL1
    obtain ⟨m, hm⟩ : ∃ m, m = L.length := ⟨_, rfl⟩
    rw [← hm] at HP e0 e1 e2 e3 z0 z1 z2 z3 hw1 hlm9 ⊢
    have hmq : m < m + 1 := by omega
    clear hm HA HFL
    go_wp2
    first
      | (go_ret; exact HP.out)
      | exact bodyPost_ret (v := .tuple #[]) (results_none rfl _ _ _) rfl HP.out
  · obtain ⟨g, o, cap, rfl, hcap, _, hgty, hrow, e0, e1, e2, e3⟩ := hR.cell hic
    have c0 := hR.c0
    have zf := bears_free hgty
    have z0 := zf (o + i * 4)
    have z1 := zf (o + i * 4 + 1)
    have z2 := zf (o + i * 4 + 2)
    have z3 := zf (o + i * 4 + 3)
    obtain ⟨m, hm⟩ : ∃ m, m = L.length := ⟨_, rfl⟩
    have him : i < m := by omega
    have him' : (i : Int) < (m : Int) := by omega
    have hi9 : (i : Int) ≤ 9223372036854775807 := by unfold maxLen at hLm; omega
    have HE := Lib.hid (rpost_entry (n := n + 1) (k := k) (c := ⟨call, true, s⟩) (v := .tuple #[]) hb.out hR hil (by omega) hrow (f3 _))
    rw [← hm] at c0
    have hlm : m ≤ maxLen := by rw [hm]; exact hLm
    clear zf hrow hgty hm hR hic f3 hil hcap hLn HFI f2
    go_enter Try.func14, Try.ntmps14
    go_wp2_with (fail)
    refine (find_any q _ L k w hLm HR).mono ?_
    rintro e w1 ⟨rfl, rfl⟩
    rw [f1]
    clear f1
    go_wp2
    first
      | (go_ret; exact HE.out)
      | exact bodyPost_ret (v := .tuple #[]) (results_none rfl _ _ _) rfl HE.out
end Go.Proofs.Ytcjpllojgmaofaa
