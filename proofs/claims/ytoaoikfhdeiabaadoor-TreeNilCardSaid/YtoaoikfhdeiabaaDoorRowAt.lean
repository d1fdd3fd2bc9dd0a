/- A slice that may begin inside its block: its elements' cells, and what append, copy and clear make of them. Over any program. -/
import Derived.ArgAppend
import Derived.Below
import Derived.Lib.Hide
import Derived.Laws.MakeOwn
namespace Go.Proofs.YtoaoikfhdeiabaaDoor
open Go.RowKit

/-- the cells xs of a slice that begins at cell o of block g and has room for cap elements of sz cells -/
structure RowAt (w : World) (e : TypeId) (sz g o cap : Nat) (xs : List Value) : Prop where
  le : xs.length ≤ cap * sz
  blk : ∃ cur, w.heap[g]? = some (.cells cur e (0, 0)) ∧ cur.size = o + cap * sz ∧ (cur.toList.drop o).take xs.length = xs
/-- nothing has turned but one block's cells -/
structure Sole (w w' : World) (g : Nat) : Prop where
  os : w'.os = w.os
  tape : w'.tape = w.tape
  output : w'.output = w.output
  size : w'.heap.size = w.heap.size
  block : ∀ k, ¬ k = g → w'.heap[k]? = w.heap[k]?
theorem Sole.refl (w : World) (g : Nat) : Sole w w g := ⟨rfl, rfl, rfl, rfl, fun _ _ => rfl⟩
theorem Sole.trans {w w1 w2 : World} {g : Nat} (h : Sole w w1 g) (k : Sole w1 w2 g) : Sole w w2 g := ⟨k.os.trans h.os, k.tape.trans h.tape, k.output.trans h.output, k.size.trans h.size, fun i hi => (k.block i hi).trans (h.block i hi)⟩
theorem Sole.drew {w w1 : World} {g : Nat} (h : Sole w w1 g) : Sole w w1.drew g := ⟨h.os, h.tape, h.output, h.size, h.block⟩
theorem sole_setRow (w : World) (g : Nat) (cs : Array Value) : Sole w (w.setRow g cs) g := ⟨rfl, rfl, rfl, by simp [World.setRow], fun k hk => setRow_other w g k cs hk⟩
theorem sole_setCell (w : World) (g i : Nat) (v : Value) : Sole w (w.setCell ⟨g, i, none⟩ v) g := ⟨rfl, rfl, rfl, by simp, fun k hk => by
  simp only [World.setCell, Array.getElem?_modify]
  rw [if_neg (fun e => hk e.symm)]⟩
theorem get3 {A B C : List Value} {a b : Nat} (hA : A.length = a) (hB : B.length = b) (j : Nat) : (A ++ B ++ C)[j]? = if j < a then A[j]? else if j < a + b then B[j - a]? else C[j - (a + b)]? := by
  subst hA
  subst hB
  by_cases h1 : j < A.length
  · rw [if_pos h1, List.append_assoc, List.getElem?_append_left h1]
  · rw [if_neg h1]
    by_cases h2 : j < A.length + B.length
    · rw [if_pos h2, List.append_assoc, List.getElem?_append_right (by omega), List.getElem?_append_left (by omega)]
    · rw [if_neg h2, List.getElem?_append_right (by rw [List.length_append]; omega), List.length_append]
section
variable {w w' : World} {e : TypeId} {sz g o cap : Nat} {xs : List Value}
theorem RowAt.lt (h : RowAt w e sz g o cap xs) : g < w.heap.size := by
  obtain ⟨cur, hg, _⟩ := h.blk
  exact (Array.getElem?_eq_some_iff.1 hg).1
theorem RowAt.same (h : RowAt w e sz g o cap xs) (hb : w'.heap[g]? = w.heap[g]?) : RowAt w' e sz g o cap xs := by
  obtain ⟨cur, hg, h1, h2⟩ := h.blk
  exact ⟨h.le, cur, hb.trans hg, h1, h2⟩
theorem RowAt.cell (h : RowAt w e sz g o cap xs) (j : Nat) (u : Value) (hu : xs[j]? = some u) : w.cell? ⟨g, o + j, none⟩ = some u := by
  obtain ⟨cur, hg, h1, h2⟩ := h.blk
  have hj : j < xs.length := (List.getElem?_eq_some_iff.1 hu).1
  have : ((cur.toList.drop o).take xs.length)[j]? = some u := by rw [h2]; exact hu
  rw [List.getElem?_take_of_lt hj, List.getElem?_drop] at this
  simp [World.cell?, hg]
  simpa using this
theorem RowAt.frozen (h : RowAt w e sz g o cap xs) (i : Nat) : w.frozen? ⟨g, i, none⟩ = false := by
  obtain ⟨cur, hg, h1, h2⟩ := h.blk
  simp [World.frozen?, hg]
theorem RowAt.isSome (h : RowAt w e sz g o cap xs) (j : Nat) (hj : j < cap * sz) : (w.cell? ⟨g, o + j, none⟩).isSome = true := by
  obtain ⟨cur, hg, h1, h2⟩ := h.blk
  simp [World.cell?, hg]
  omega
theorem RowAt.shorten (h : RowAt w e sz g o cap xs) (n : Nat) : RowAt w e sz g o cap (xs.take n) := by
  obtain ⟨cur, hg, h1, h2⟩ := h.blk
  have hl := h.le
  refine ⟨by rw [List.length_take]; omega, cur, hg, h1, ?_⟩
  rw [List.length_take]
  conv => rhs; rw [← h2, List.take_take]
theorem RowAt.behind (h : RowAt w e sz g o cap xs) (k : Nat) (hk : k * sz ≤ xs.length) (hkc : k ≤ cap) : RowAt w e sz g (o + k * sz) (cap - k) (xs.drop (k * sz)) := by
  obtain ⟨cur, hg, h1, h2⟩ := h.blk
  have hl := h.le
  have e1 : (cap - k) * sz = cap * sz - k * sz := Nat.sub_mul ..
  refine ⟨by rw [List.length_drop, e1]; omega, cur, hg, by rw [e1, h1]; have : k * sz ≤ cap * sz := Nat.mul_le_mul_right _ hkc; omega, ?_⟩
  rw [List.length_drop, ← List.drop_drop, ← List.drop_take, h2]
/-- cells are stored, from cell i of the slice on, with no gap behind what is there -/
theorem RowAt.store {P : Program} (h : RowAt w e sz g o cap xs) (i : Nat) (vs : List Value) (hi : i ≤ xs.length) (hfit : i + vs.length ≤ cap * sz) (h1c : ∀ v ∈ vs, v.oneCell' = true) :
    ∃ w', (storeCells ⟨g, o + i, none⟩ vs 0).run P w = .ok () w' ∧ RowAt w' e sz g o cap (xs.take i ++ vs ++ xs.drop (i + vs.length)) ∧ Sole w w' g := by
  obtain ⟨cur, hg, h1, h2⟩ := h.blk
  have hl := h.le
  refine ⟨_, run_storeCells_at P g (o + i) e vs 0 cur w hg (by omega) h1c, ?_, sole_setRow _ _ _⟩
  have hcl : cur.toList.length = o + cap * sz := by simpa using h1
  have hln : (xs.take i ++ vs ++ xs.drop (i + vs.length)).length = max xs.length (i + vs.length) := by
    simp only [List.length_append, List.length_take, List.length_drop]
    omega
  refine ⟨by rw [hln]; omega, _, setRow_heap w g cur _ e (0, 0) hg, ?_, ?_⟩
  · simp only [List.size_toArray, List.length_append, List.length_take, List.length_drop, hcl]
    omega
  · rw [hln]
    simp only [Nat.add_zero]
    apply List.ext_getElem?
    intro j
    have hx : ∀ j, j < xs.length → xs[j]? = cur.toList[o + j]? := fun j hj => by
      conv => lhs; rw [← h2]
      rw [List.getElem?_take_of_lt hj, List.getElem?_drop]
    by_cases hj : j < max xs.length (i + vs.length)
    · rw [List.getElem?_take_of_lt hj, List.getElem?_drop, get3 (a := o + i) (b := vs.length) (by rw [List.length_take]; omega) rfl, get3 (a := i) (b := vs.length) (by rw [List.length_take]; omega) rfl]
      by_cases hji : j < i
      · rw [if_pos (by omega), if_pos hji, List.getElem?_take_of_lt (by omega), List.getElem?_take_of_lt hji]
        exact (hx j (by omega)).symm
      · by_cases hjv : j < i + vs.length
        · rw [if_neg (by omega), if_pos (by omega), if_neg hji, if_pos hjv]
          congr 1
          omega
        · rw [if_neg (by omega), if_neg (by omega), if_neg hji, if_neg hjv, List.getElem?_drop, List.getElem?_drop]
          rw [show i + vs.length + (j - (i + vs.length)) = j by omega, hx j (by omega)]
          congr 1
          omega
    · rw [List.getElem?_eq_none (by rw [List.length_take]; omega), List.getElem?_eq_none (by rw [hln]; omega)]
end
/-- a slice value with its elements' cells: nil and empty, or a row of its own somewhere in a block -/
def Fly (w : World) (e : TypeId) (sz base : Nat) (v : Value) (n : Nat) (xs : List Value) : Prop :=
  xs.length = n * sz ∧ ((v = .slice none 0 0 ∧ n = 0) ∨ ∃ g o cap, v = .slice (some ⟨g, o, none⟩) n cap ∧ base ≤ g ∧ cap ≤ maxLen ∧ n ≤ cap ∧ RowAt w e sz g o cap xs)
section
variable {w w' : World} {e : TypeId} {sz base n : Nat} {v : Value} {xs : List Value}
theorem Fly.same (h : Fly w e sz base v n xs) (hb : ∀ b, v.ownBlock = some b → w'.heap[b]? = w.heap[b]?) : Fly w' e sz base v n xs := by
  refine ⟨h.1, h.2.imp id ?_⟩
  rintro ⟨g, o, cap, rfl, h1, h2, h3, h4⟩
  exact ⟨g, o, cap, rfl, h1, h2, h3, h4.same (hb g rfl)⟩
theorem Fly.lt (h : Fly w e sz base v n xs) (b : Nat) (hb : v.ownBlock = some b) : base ≤ b ∧ b < w.heap.size := by
  rcases h.2 with ⟨rfl, _⟩ | ⟨g, o, cap, rfl, h1, h2, h3, h4⟩
  · simp [Value.ownBlock] at hb
  · simp [Value.ownBlock] at hb
    subst hb
    exact ⟨h1, h4.lt⟩
theorem Fly.ty (h : Fly w e sz base v n xs) (b : Nat) (hb : v.ownBlock = some b) : ∃ cs, w.heap[b]? = some (.cells cs e (0, 0)) := by
  rcases h.2 with ⟨rfl, _⟩ | ⟨g, o, cap, rfl, h1, h2, h3, h4⟩
  · simp [Value.ownBlock] at hb
  · simp [Value.ownBlock] at hb
    subst hb
    obtain ⟨cur, hg, _⟩ := h4.blk
    exact ⟨cur, hg⟩
theorem fly_of_row (h : w.ownsRow base e sz v n xs) : Fly w e sz base v n xs := by
  refine ⟨h.1, ?_⟩
  rcases h.2 with h2 | ⟨g, cap, cur, rfl, hb, hg, hn, hc, hcs, hx⟩
  · exact .inl h2
  · refine .inr ⟨g, 0, cap, rfl, hb, hc, hn, ?_, cur, hg, by omega, ?_⟩
    · rw [h.1]
      exact Nat.mul_le_mul_right _ hn
    · rw [h.1, List.drop_zero]
      exact hx
/-- one element more -/
theorem run_append_fly {P : Program} (t ty : TypeId) (i : TypeInfo) (z : Value) (bytes : Nat) (ht : P.underlying t = some (.slice e)) (hi : P.info? e = some i) (hz : i.zero = some z)
    (hsize : i.size = sz) (hby : i.bytes = bytes) (hzs : z.cells.size = sz) (hsz : 0 < sz) (h : Fly w e sz base v n xs)
    (a : Addr) (c : Nat) (news : List Value) (hl : news.length = 1 * sz) (hnews : ∀ j u, news[j]? = some u → w.cell? (a.add j) = some u) (h1 : ∀ u ∈ news, u.oneCell' = true)
    (h63 : n + 1 ≤ maxLen) (hbytes : (n + 1) * bytes ≤ 140737488355328) (hbase : base ≤ w.heap.size) :
    ∃ v' w', (Builtin.append_ #[t, t] ty #[v, .slice (some a) 1 c]).run P w = .ok v' w' ∧ Fly w' e sz base v' (n + 1) (xs ++ news) ∧ w.grownBy w' v.ownBlock ∧ (∀ b, v'.ownBlock = some b → v.ownBlock = some b ∨ w.heap.size ≤ b) := by
  subst hsize
  have hlen := h.1
  rcases h.2 with ⟨rfl, rfl⟩ | ⟨g, o, cap, rfl, hb, hcm, hnc, hr⟩
  · have hxs : xs = [] := List.eq_nil_of_length_eq_zero (by simpa using hlen)
    subst hxs
    obtain ⟨v', w', hrun, hrow, hg, _⟩ := run_append_own (P := P) w w.heap.size t ty e i z i.size bytes ht hi hz rfl hby hzs hsz (.slice none 0 0) 0 [] ⟨by simp, .inl ⟨rfl, rfl⟩⟩ a 1 c news hl hnews h1 h63 hbytes (Nat.le_refl _)
    have hf := fly_of_row hrow
    refine ⟨v', w', hrun, ?_, hg, fun b hb => .inr (hf.lt b hb).1⟩
    refine ⟨by simpa using hf.1, hf.2.imp id ?_⟩
    rintro ⟨g, o, cap, rfl, h2, h3, h4, h5⟩
    exact ⟨g, o, cap, rfl, by omega, h3, h4, h5⟩
  · by_cases hroom : n + 1 ≤ cap
    · have hroom' : (n + 1) * i.size ≤ cap * i.size := Nat.mul_le_mul_right _ hroom
      rw [Nat.add_mul] at hroom'
      obtain ⟨w', hst, hr', hs⟩ := hr.store (P := P) (n * i.size) news (by omega) (by omega) h1
      have hfc := run_firstCells_some (P := P) w i.size 1 a 1 c news hl hnews
      rw [List.take_of_length_le (by omega), List.drop_of_length_le (by omega), List.append_nil] at hr'
      refine ⟨_, w', ?_, ⟨by rw [List.length_append, hlen, hl, Nat.add_mul], .inr ⟨g, o, cap, rfl, hb, hcm, hroom, hr'⟩⟩, ⟨hs.os, hs.tape, hs.output, by rw [hs.size]; exact Nat.le_refl _, fun k _ hk => hs.block k (fun e => hk (by rw [e]; rfl))⟩, fun b hb => .inl hb⟩
      simp [Builtin.append_, run_underlying ht, sizeOf, typeInfo, hi, Builtin.lenOf, hroom, hfc, Addr.add_lit, hst]
    · obtain ⟨v', w', hrun, hrow, hg⟩ := run_append_arg_grows (P := P) w t ty e i z i.size bytes ht hi hz rfl hby hzs hsz ⟨g, o, none⟩ n cap xs hlen (fun j u hj => by rw [Addr.add_lit]; exact hr.cell j u hj) a 1 c news hl hnews (by omega) h63 hbytes
      have hf := fly_of_row hrow
      refine ⟨v', w', hrun, ?_, ⟨hg.os, hg.tape, hg.output, hg.size, fun k hk _ => hg.block k hk (by simp)⟩, fun b hb => .inr (hf.lt b hb).1⟩
      refine ⟨hf.1, hf.2.imp id ?_⟩
      rintro ⟨g', o', cap', rfl, h2, h3, h4, h5⟩
      exact ⟨g', o', cap', rfl, by omega, h3, h4, h5⟩
end
/-- 'append(s[:k], s[k+1:]...)': the rest moves up by one element -/
theorem run_close_up {P : Program} {w : World} {e : TypeId} {g o cap n k : Nat} {xs : List Value} (t ty : TypeId) (i : TypeInfo) (ht : P.underlying t = some (.slice e)) (hi : P.info? e = some i)
    (hlen : xs.length = n * i.size) (hn : n ≤ cap) (hk : k < n) (h1 : ∀ v ∈ xs, v.oneCell' = true) (h : RowAt w e i.size g o cap xs) (a : Addr) (ha : k + 1 < n → a = ⟨g, o + (k + 1) * i.size, none⟩) (c : Nat) :
    ∃ w', (Builtin.append_ #[t, t] ty #[.slice (some ⟨g, o, none⟩) k cap, .slice (some a) (n - (k + 1)) c]).run P w = .ok (.slice (some ⟨g, o, none⟩) (n - 1) cap) w' ∧
      RowAt w' e i.size g o cap (xs.take (k * i.size) ++ xs.drop ((k + 1) * i.size) ++ xs.drop ((n - 1) * i.size)) ∧ Sole w w' g := by
  have hnc : n * i.size ≤ cap * i.size := Nat.mul_le_mul_right _ hn
  have hk1 : (k + 1) * i.size ≤ n * i.size := Nat.mul_le_mul_right _ hk
  have hkk : k * i.size ≤ (k + 1) * i.size := Nat.mul_le_mul_right _ (by omega)
  have hks : (k + 1) * i.size = k * i.size + i.size := by rw [Nat.add_mul]; omega
  have hn1 : (n - 1) * i.size = n * i.size - i.size := by rw [Nat.sub_mul]; omega
  have hnk : (n - (k + 1)) * i.size = n * i.size - (k + 1) * i.size := Nat.sub_mul ..
  have hln : (xs.drop ((k + 1) * i.size)).length = (n - (k + 1)) * i.size := by rw [List.length_drop, hlen, hnk]
  obtain ⟨w', hst, hr', hs⟩ := h.store (P := P) (k * i.size) (xs.drop ((k + 1) * i.size)) (by omega) (by rw [hln, hnk]; omega) (fun v hv => h1 v (List.mem_of_mem_drop hv))
  have hfc := run_firstCells_some (P := P) w i.size (n - (k + 1)) a (n - (k + 1)) c (xs.drop ((k + 1) * i.size)) hln (fun j u hj => by
    have hjl := (List.getElem?_eq_some_iff.1 hj).1
    rw [hln] at hjl
    have hkn : k + 1 < n := by
      rcases Nat.lt_or_ge (k + 1) n with h | h
      · exact h
      · rw [show n - (k + 1) = 0 by omega] at hjl; omega
    rw [ha hkn, Addr.add_lit, Nat.add_assoc]
    rw [List.getElem?_drop] at hj
    exact h.cell _ u hj)
  have hroom : k + (n - (k + 1)) ≤ cap := by omega
  refine ⟨w', ?_, ?_, hs⟩
  · simp [Builtin.append_, run_underlying ht, sizeOf, typeInfo, hi, Builtin.lenOf, hroom, hfc, Addr.add_lit, hst]
    omega
  · rw [hln] at hr'
    rw [show (n - 1) * i.size = k * i.size + (n - (k + 1)) * i.size by rw [hn1, hnk]; omega]
    exact hr'
/-- 'copy(s[1:], s[:k])': the first k elements move down by one -/
theorem run_move_down {P : Program} {w : World} {e : TypeId} {g o cap n k : Nat} {xs : List Value} (t ty : TypeId) (i : TypeInfo) (ht : P.underlying t = some (.slice e)) (hi : P.info? e = some i)
    (hlen : xs.length = n * i.size) (hn : n ≤ cap) (hk : k < n) (h1 : ∀ v ∈ xs, v.oneCell' = true) (h : RowAt w e i.size g o cap xs) (c c' : Nat) :
    ∃ w', (Builtin.copy_ #[t, t] ty #[.slice (some ⟨g, o + i.size, none⟩) (n - 1) c, .slice (some ⟨g, o, none⟩) k c']).run P w = .ok (goInt k) w' ∧
      RowAt w' e i.size g o cap (xs.take i.size ++ xs.take (k * i.size) ++ xs.drop ((k + 1) * i.size)) ∧ Sole w w' g := by
  have hnc : n * i.size ≤ cap * i.size := Nat.mul_le_mul_right _ hn
  have hk1 : (k + 1) * i.size ≤ n * i.size := Nat.mul_le_mul_right _ hk
  have hks : (k + 1) * i.size = k * i.size + i.size := by rw [Nat.add_mul]; omega
  have hln : (xs.take (k * i.size)).length = k * i.size := by rw [List.length_take]; omega
  obtain ⟨w', hst, hr', hs⟩ := h.store (P := P) i.size (xs.take (k * i.size)) (by omega) (by rw [hln]; omega) (fun v hv => h1 v (List.mem_of_mem_take hv))
  have hfc := run_firstCells_some (P := P) w i.size k ⟨g, o, none⟩ k c' (xs.take (k * i.size)) hln (fun j u hj => by
    rw [Addr.add_lit]
    have hjl := (List.getElem?_eq_some_iff.1 hj).1
    rw [hln] at hjl
    rw [List.getElem?_take_of_lt hjl] at hj
    exact h.cell _ u hj)
  refine ⟨w', ?_, ?_, hs⟩
  · have hmin : Nat.min k (n - 1) = k := Nat.min_eq_left (by omega)
    simp [Builtin.copy_, run_underlying ht, sizeOf, typeInfo, hi, Builtin.lenOf, hmin, hfc, hst]
  · rw [hln] at hr'
    rw [hks, Nat.add_comm (k * i.size)]
    exact hr'
/-- 'clear' on the elements from the m-th on -/
theorem run_clear_row {P : Program} {w : World} {e : TypeId} {g o cap m : Nat} {xs : List Value} (t ty : TypeId) (i : TypeInfo) (z : Value) (ht : P.underlying t = some (.slice e)) (hz : (zeroValue e).run P w = .ok z w)
    (hzs : z.cells.size = i.size) (hsz : 0 < i.size) (hz1 : ∀ v ∈ z.cells.toList, v.oneCell' = true) (hm : (m + 1) * i.size ≤ xs.length) (h : RowAt w e i.size g o cap xs) (c : Nat) :
    ∃ w', (Builtin.clear_ #[t] ty #[.slice (some ⟨g, o + m * i.size, none⟩) 1 c]).run P w = .ok (.tuple #[]) w' ∧
      RowAt w' e i.size g o cap (xs.take (m * i.size) ++ z.cells.toList ++ xs.drop ((m + 1) * i.size)) ∧ Sole w w' g := by
  have hms : (m + 1) * i.size = m * i.size + i.size := by rw [Nat.add_mul]; omega
  have hzl : z.cells.toList.length = i.size := by simpa using hzs
  have hle := h.le
  obtain ⟨w', hst, hr', hs⟩ := h.store (P := P) (m * i.size) z.cells.toList (by omega) (by omega) hz1
  have hzc : (Builtin.zeroCells z.cells 1).toList = z.cells.toList := by
    apply List.ext_getElem?
    intro j
    simp only [Builtin.zeroCells, Nat.one_mul, Array.toList_map, Array.toList_range, List.getElem?_map]
    by_cases hj : j < z.cells.size
    · rw [List.getElem?_range hj]
      simp only [Option.map_some, Nat.mod_eq_of_lt hj]
      rw [getElem!_pos z.cells j hj, List.getElem?_eq_getElem (by simpa using hj)]
      simp
    · rw [List.getElem?_eq_none (by simpa using hj), List.getElem?_eq_none (by simpa using hj)]
      rfl
  refine ⟨w', ?_, ?_, hs⟩
  · simp [Builtin.clear_, run_underlying ht, hz, hzc, hst, Result.andThen]
  · rw [hzl] at hr'
    rw [hms]
    exact hr'
end Go.Proofs.YtoaoikfhdeiabaaDoor
