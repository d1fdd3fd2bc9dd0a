/- The reference's disk: its lists of files: find, without, lay. -/
import Derived.Test.YtjlhnacdfpbchaaDkThree
namespace Go.Proofs.Ytjlhnacdfpbchaa
open Go.RowKit Go.Maps

abbrev flC (x : Fl) : List Value := [.string x.n, .string x.d]
def cellsF (L : Fs) : List Value := L.flatMap flC
theorem cellsF_len (L : Fs) : (cellsF L).length = L.length * 2 := by
  induction L with
  | nil => rfl
  | cons x L ih => rw [cellsF, List.flatMap_cons, List.length_append, ← cellsF, ih]; simp; omega
theorem cellsF_get : ∀ (L : Fs) (i : Nat) (x : Fl), L[i]? = some x → ∀ j u, (flC x)[j]? = some u → (cellsF L)[i * 2 + j]? = some u
  | [], i, x, h => by simp at h
  | y :: L, 0, x, h => fun j u hj => by
    simp only [List.getElem?_cons_zero, Option.some.injEq] at h
    subst h
    have hj3 : j < 2 := by have := (List.getElem?_eq_some_iff.1 hj).1; simpa using this
    rw [cellsF, List.flatMap_cons, List.getElem?_append_left (by simp; omega), Nat.zero_mul, Nat.zero_add]
    exact hj
  | y :: L, i + 1, x, h => fun j u hj => by
    rw [cellsF, List.flatMap_cons, List.getElem?_append_right (by simp; omega), ← cellsF]
    rw [show (i + 1) * 2 + j - (flC y).length = i * 2 + j by simp; omega]
    exact cellsF_get L i x (by simpa using h) j u hj
theorem cellsF_app (L M : Fs) : cellsF (L ++ M) = cellsF L ++ cellsF M := List.flatMap_append ..
theorem infoFile : (Try.prog.info? 66).map (fun i => (i.zero, i.size, i.bytes)) = some (some (.agg #[.string ⟨#[]⟩, .string ⟨#[]⟩]), 2, 32) := by kernel_rfl
/-- a list of files that lies there, in a block that is new since B -/
structure FV (B : Nat) (w : World) (v : Value) (L : Fs) : Prop where
  row : w.ownsRow B 66 2 v L.length (cellsF L)
theorem FV.below {B : Nat} {w w' : World} {v : Value} {L : Fs} (h : FV B w v L) (hb : Below w.heap.size w w') : FV B w' v L := ⟨below_row h.row hb⟩
theorem FV.base {B B' : Nat} {w : World} {v : Value} {L : Fs} (h : FV B w v L) (hB : B' ≤ B) : FV B' w v L :=
  ⟨h.row.1, h.row.2.imp id fun ⟨g, cap, cur, q1, q2, q3⟩ => ⟨g, cap, cur, q1, Nat.le_trans hB q2, q3⟩⟩
theorem FV.slice {B : Nat} {w : World} {v : Value} {L : Fs} (h : FV B w v L) : ∃ a c, v = .slice a L.length c := by
  rcases h.row.2 with ⟨h1, h0⟩ | ⟨g, cap, cur, rfl, _⟩
  · exact ⟨none, 0, by rw [h0, h1]⟩
  · exact ⟨_, _, rfl⟩
theorem FV.cells {B : Nat} {w : World} {v : Value} {L : Fs} (h : FV B w v L) {k : Nat} {x : Fl} (hk : L[k]? = some x) :
    ∃ g cap, v = .slice (some ⟨g, 0, none⟩) L.length cap ∧ w.cell? ⟨g, k * 2, none⟩ = some (.string x.n) ∧ w.cell? ⟨g, k * 2 + 1, none⟩ = some (.string x.d) := by
  have hkl := (List.getElem?_eq_some_iff.1 hk).1
  rcases h.row.2 with ⟨_, h0⟩ | ⟨g, cap, cur, rfl, h2, h3⟩
  · omega
  · have hc := fun j u hj => cellsF_get L k x hk j u hj
    refine ⟨g, cap, rfl, ?_, ?_⟩
    · rw [h.row.cellAt (k * 2) (by omega)]; exact hc 0 _ rfl
    · rw [h.row.cellAt (k * 2 + 1) (by omega)]; exact hc 1 _ rfl
theorem fv_nil (B : Nat) (w : World) : FV B w nilS [] := ⟨World.ownsRow_nil _ _ _ _⟩
/-- where a name stands; -1 where it doesn't -/
def fdI (L : Fs) (q : ByteArray) : Int := if (getF L q).isSome then ((L.takeWhile fun x => !decide (x.n = q)).length : Int) else -1
def fdN (L : Fs) (q : ByteArray) : Nat := (L.takeWhile fun x => !decide (x.n = q)).length
theorem fd_below (q : ByteArray) : ∀ (L : Fs) (k : Nat) (x : Fl), L[k]? = some x → k < fdN L q → ¬ x.n = q
  | y :: L, 0, x, h, hk => by
    simp only [List.getElem?_cons_zero, Option.some.injEq] at h
    subst h
    intro e
    simp [fdN, e] at hk
  | y :: L, k + 1, x, h, hk => by
    by_cases e : y.n = q
    · simp [fdN, e] at hk
    · exact fd_below q L k x (by simpa using h) (by simpa [fdN, e] using hk)
theorem fd_at (q : ByteArray) : ∀ (L : Fs) (x : Fl), L[fdN L q]? = some x → x.n = q ∧ getF L q = some x.d
  | y :: L, x, h => by
    by_cases e : y.n = q
    · simp [fdN, e] at h
      rw [← h, getF_cons, if_pos e]
      exact ⟨e, rfl⟩
    · simp only [fdN, List.takeWhile_cons, e, decide_false, Bool.not_false, if_true, List.length_cons, List.getElem?_cons_succ] at h
      rw [getF_cons, if_neg e]
      exact fd_at q L x h
theorem fd_le (L : Fs) (q : ByteArray) : fdN L q ≤ L.length := (List.takeWhile_sublist _).length_le
theorem fd_end {L : Fs} {q : ByteArray} (h : fdN L q = L.length) : getF L q = none := by
  refine getF_none.2 fun x hx => ?_
  obtain ⟨k, hk, rfl⟩ := List.mem_iff_getElem.1 hx
  exact fd_below q L k _ (List.getElem?_eq_getElem hk) (by omega)
theorem fd_int {L : Fs} {q : ByteArray} : fdI L q = if fdN L q < L.length then (fdN L q : Int) else -1 := by
  unfold fdI
  by_cases h : fdN L q < L.length
  · rw [if_pos h]
    have := (fd_at q L _ (List.getElem?_eq_getElem h)).2
    rw [this]
    rfl
  · rw [if_neg h, fd_end (by have := fd_le L q; omega)]
    rfl
theorem str_eq (a : ByteArray) : (a.toList == a.toList) = true := by simp
theorem str_ne {a b : ByteArray} (h : ¬ a = b) : (a.toList == b.toList) = false := by
  rw [Lib.toList_data, Lib.toList_data, beq_eq_false_iff_ne]
  exact fun e => h (ByteArray.ext (Array.toList_inj.1 e))
theorem below_dn' (w : World) (n : Nat) : Below w.heap.size w (w.drewN n) := ⟨rfl, rfl, rfl, Nat.le_refl _, fun _ _ => rfl⟩
set_option maxRecDepth 100000 in
set_option maxHeartbeats 4000000 in
theorem find_any {B : Nat} {w : World} {v : Value} {L : Fs} (q : ByteArray) (h : FV B w v L) (hL : L.length ≤ 4398046510000) :
    Calls Try.prog 37 #[v, .string q] w fun e w' => e = .returned (.int .i64 (fdI L q)) ∧ Below w.heap.size w w' := by
  have HH := Lib.hid h
  obtain ⟨a, c, rfl⟩ := h.slice
  have hLi : (L.length : Int) ≤ 9223372036854775807 := by omega
  have HF := Lib.hid (fd_int (L := L) (q := q))
  have HLE := Lib.hid (fd_le L q)
  obtain ⟨m, hm⟩ : ∃ m, m = fdN L q := ⟨_, rfl⟩
  have HM := Lib.hid hm
  rw [← hm] at HF HLE
  clear h hm
  go_enter Try.func37, Try.ntmps37
  go_wp2
  go_loopw [5] (fun i wr => ∃ k : Nat, k ≤ m ∧ i = .int .i64 k ∧ Hid (Below w.heap.size w wr)) (fun i _ => L.length - (intOf i).toNat)
  case atStart => exact ⟨0, Nat.zero_le _, rfl, Lib.hid (Below.refl _ _)⟩
  case round =>
    obtain ⟨k, hk, rfl, HB⟩ := hrel
    by_cases hkn : k < L.length
    · obtain ⟨x, hx⟩ : ∃ x, L[k]? = some x := ⟨_, List.getElem?_eq_getElem hkn⟩
      obtain ⟨g, cap, e, d0, d1⟩ := (HH.out.below HB.out).cells hx
      injection e with e1 _ e3
      subst e1
      subst e3
      have hkn' : (k : Int) < L.length := by omega
      by_cases hkm : k < m
      · have hne := str_ne (fd_below q L k x hx (by rw [← HM.out]; exact hkm))
        clear hx
        go_wp2
        go_roundw
        case rel => exact ⟨k + 1, by omega, by simp, HB⟩
        case measure => simp [intOf]; omega
      · obtain rfl : k = m := by omega
        have hq : x.n = q := (fd_at q L x (by rw [← HM.out]; exact hx)).1
        subst hq
        have hse := str_eq x.n
        have HV : Hid (fdI L x.n = (k : Int)) := Lib.hid (by rw [HF.out, if_pos hkn])
        clear hx hkm
        go_wp2
        go_ret
        exact ⟨by rw [HV.out]; rfl, HB.out⟩
    · obtain rfl : k = L.length := by have := HLE.out; omega
      obtain rfl : m = L.length := by have := HLE.out; omega
      have HV : Hid (fdI L q = -1) := Lib.hid (by rw [HF.out, if_neg (Nat.lt_irrefl _)])
      have hk3 : decide (((L.length : Nat) : Int) < (L.length : Int)) = false := by simp
      clear hkn hk HF HLE HM
      go_wp2
      go_ret
      exact ⟨by rw [HV.out]; rfl, HB.out⟩
/-- what has been gathered so far, in new memory -/
structure Bf (w wr : World) (o : Value) (O : Fs) : Prop where
  bel : Below w.heap.size w wr
  row : wr.ownsRow w.heap.size 66 2 o O.length (cellsF O)
theorem Bf.put {w wr w2 : World} {o o' : Value} {O : Fs} {x : Fl} (h : Bf w wr o O) {ob : Obj} (hr : w2.ownsRow w.heap.size 66 2 o' (O.length + 1) (cellsF O ++ flC x)) (hg : (wr.alloc ob).grownBy w2 o.ownBlock) : Bf w w2 o' (O ++ [x]) :=
  ⟨(h.bel.alloc h.bel.size ob).grown hg (h.bel.alloc h.bel.size ob).size (fun j hj => (h.row.lt j hj).1), by rw [List.length_append, cellsF_app]; simpa [cellsF] using hr⟩
theorem bf_nil (w : World) : Bf w w nilS [] := ⟨Below.refl _ _, World.ownsRow_nil _ _ _ _⟩
theorem Bf.slice {w wr : World} {o : Value} {O : Fs} (h : Bf w wr o O) : ∃ a c, o = .slice a O.length c := by
  rcases h.row.2 with ⟨h1, h0⟩ | ⟨g, cap, cur, rfl, _⟩
  · exact ⟨none, 0, by rw [h0, h1]⟩
  · exact ⟨_, _, rfl⟩
theorem delF_take {L : Fs} {q : ByteArray} {k : Nat} {x : Fl} (h : L[k]? = some x) : delF (L.take (k + 1)) q = delF (L.take k) q ++ (if x.n = q then [] else [x]) := by
  unfold delF
  rw [List.take_add_one, h, List.filter_append]
  by_cases e : x.n = q <;> simp [e]
theorem len_delF (L : Fs) (q : ByteArray) : (delF L q).length ≤ L.length := List.length_filter_le _ _
set_option maxRecDepth 100000 in
set_option maxHeartbeats 4000000 in
theorem without_any {B : Nat} {w : World} {v : Value} {L : Fs} (q : ByteArray) (h : FV B w v L) (hL : L.length ≤ 4398046510000) :
    Calls Try.prog 44 #[v, .string q] w fun e w' => ∃ o, e = .returned o ∧ Hid (Bf w w' o (delF L q)) := by
  have HH := Lib.hid h
  obtain ⟨a, c, rfl⟩ := h.slice
  have hLi : (L.length : Int) ≤ 9223372036854775807 := by omega
  have HL := Lib.hid hL
  obtain ⟨i0, hi, hz0, hz1, hz2⟩ := info_parts infoFile
  have HI := Lib.hid (And.intro hi (And.intro hz0 (And.intro hz1 hz2)))
  clear h hL hi hz0 hz1 hz2
  go_enter Try.func44, Try.ntmps44
  go_wp2
  go_loopw [5, 6] (fun o i wr => ∃ k : Nat, k ≤ L.length ∧ i = .int .i64 k ∧ Hid (Bf w wr o (delF (L.take k) q))) (fun _ i _ => L.length - (intOf i).toNat)
  case atStart => exact ⟨0, Nat.zero_le _, rfl, Lib.hid (bf_nil w)⟩
  case round =>
    obtain ⟨k, hk, rfl, HB⟩ := hrel
    by_cases hkn : k < L.length
    · obtain ⟨x, hx⟩ : ∃ x, L[k]? = some x := ⟨_, List.getElem?_eq_getElem hkn⟩
      obtain ⟨g, cap, e, d0, d1⟩ := (HH.out.below HB.out.bel).cells hx
      injection e with e1 _ e3
      subst e1
      subst e3
      have hkn' : (k : Int) < L.length := by omega
      have hnx := delF_take (q := q) hx
      by_cases hq : x.n = q
      · subst hq
        have hse := str_eq x.n
        rw [if_pos rfl, List.append_nil] at hnx
        have HN := Lib.hid hnx
        clear hx hnx
        go_wp2
        go_roundw
        case rel => exact ⟨k + 1, by omega, by simp, by rw [HN.out]; exact HB⟩
        case measure => simp [intOf]; omega
      · have hne := str_ne hq
        rw [if_neg hq] at hnx
        have HN := Lib.hid hnx
        have hlen : (delF (L.take k) q).length ≤ L.length := Nat.le_trans (len_delF _ _) (by simp; omega)
        have HLN := Lib.hid hlen
        clear hx hnx hq hlen
        go_wp2_with (first
          | (at_builtin; refine wpList_append_own _ rfl _ _ 47 rfl w.heap.size 66 i0 (.agg #[.string ⟨#[]⟩, .string ⟨#[]⟩]) 2 32 Try.underlying47 HI.out.1 HI.out.2.1 HI.out.2.2.1 HI.out.2.2.2 rfl (by decide) _ _ _ rfl (HB.out.row.alloc _) ⟨wr.heap.size, 0, none⟩ 1 1 (flC x) rfl rfl ?c1 ?c2 ?c3 ?c4 ?c5 ?_)
          | go_in)
        case c2 => exact ⟨rfl, rfl⟩
        case c3 => have := HLN.out; have := HL.out; unfold maxLen; omega
        case c4 => have := HLN.out; have := HL.out; omega
        case c5 => have := HB.out.bel.size; simp; omega
        intro o' w2 hown' hgrow' _
        have HB2 := Lib.hid (HB.out.put hown' hgrow')
        clear hown' hgrow'
        go_wp2
        go_roundw
        case rel => exact ⟨k + 1, by omega, by simp, by rw [HN.out]; exact HB2⟩
        case measure => simp [intOf]; omega
    · obtain rfl : k = L.length := by omega
      rw [List.take_length] at HB
      obtain ⟨a2, c2, rfl⟩ := HB.out.slice
      clear hkn hk
      go_wp2
      go_ret
      exact ⟨_, rfl, HB⟩
theorem insF_split (l : Fl) : ∀ L : Fs, insF l L = (L.takeWhile fun x => blt x.n l.n) ++ l :: (L.dropWhile fun x => blt x.n l.n)
  | [] => rfl
  | x :: L => by
    unfold insF
    cases h : blt x.n l.n
    · simp [h]
    · simp [h, insF_split l L]
/-- how many stand ahead of a name -/
def ctF (q : ByteArray) (L : Fs) : Nat := (L.takeWhile fun x => blt x.n q).length
theorem ct_below (q : ByteArray) : ∀ (L : Fs) (k : Nat) (x : Fl), L[k]? = some x → k < ctF q L → blt x.n q = true
  | y :: L, 0, x, h, hk => by
    simp only [List.getElem?_cons_zero, Option.some.injEq] at h
    subst h
    cases e : blt y.n q
    · simp [ctF, e] at hk
    · rfl
  | y :: L, k + 1, x, h, hk => by
    cases e : blt y.n q
    · simp [ctF, e] at hk
    · exact ct_below q L k x (by simpa using h) (by simpa [ctF, e] using hk)
theorem ct_at (q : ByteArray) : ∀ (L : Fs) (x : Fl), L[ctF q L]? = some x → blt x.n q = false
  | y :: L, x, h => by
    cases e : blt y.n q
    · simp [ctF, e] at h
      rw [← h]; exact e
    · simp only [ctF, List.takeWhile_cons, e, if_true, List.length_cons, List.getElem?_cons_succ] at h
      exact ct_at q L x h
theorem ct_le (q : ByteArray) (L : Fs) : ctF q L ≤ L.length := (List.takeWhile_sublist _).length_le
/-- where the rest begins: the file of the name itself is passed by -/
def rsF (q : ByteArray) (L : Fs) : Nat := ctF q L + (match L[ctF q L]? with | some x => if x.n = q then 1 else 0 | none => 0)
/-- laying in is taking the head, the file and the rest -/
theorem putF_cut : ∀ (L : Fs) (q d : ByteArray), SrtF L → putF L q d = L.take (ctF q L) ++ ⟨q, d⟩ :: L.drop (rsF q L)
  | [], q, d, _ => rfl
  | x :: L, q, d, hs => by
    obtain ⟨h1, h2⟩ := List.pairwise_cons.1 hs
    have ih := putF_cut L q d h2
    cases e : blt x.n q with
    | true =>
      have hne : ¬ x.n = q := fun h => by rw [h, blt_irrefl] at e; cases e
      have hc : ctF q (x :: L) = ctF q L + 1 := by simp [ctF, e]
      have hr : rsF q (x :: L) = rsF q L + 1 := by unfold rsF; rw [hc]; simp only [List.getElem?_cons_succ]; omega
      rw [hc, hr, List.take_succ_cons, List.drop_succ_cons, List.cons_append, ← ih]
      unfold putF delF
      rw [List.filter_cons_of_pos (by simp [hne])]
      rw [insF.eq_2, if_pos e]
    | false =>
      have hc : ctF q (x :: L) = 0 := by simp [ctF, e]
      have hall : ∀ y ∈ L, blt y.n q = false := fun y hy => by
        cases k : blt y.n q
        · rfl
        · have := blt_trans (h1 y hy) k
          rw [e] at this
          cases this
      have hins : ∀ M : Fs, (∀ y ∈ M, blt y.n q = false) → insF ⟨q, d⟩ M = ⟨q, d⟩ :: M := fun M hM => by
        cases M with
        | nil => rfl
        | cons y M =>
          unfold insF
          have := hM y (by simp)
          simp [this]
      have hdel : ∀ y ∈ delF (x :: L) q, blt y.n q = false := fun y hy => by
        obtain ⟨hy, _⟩ := (mem_delF _ _ _).1 hy
        rcases List.mem_cons.1 hy with rfl | hy
        · exact e
        · exact hall y hy
      unfold putF
      rw [hins _ hdel, hc, List.take_zero, List.nil_append]
      congr 1
      by_cases hq : x.n = q
      · have hr : rsF q (x :: L) = 1 := by unfold rsF; rw [hc]; simp [hq]
        rw [hr, List.drop_succ_cons, List.drop_zero]
        unfold delF
        rw [List.filter_cons_of_neg (by simp [hq]), List.filter_eq_self]
        intro y hy
        have : ¬ y.n = q := fun k => by
          have := h1 y hy
          rw [hq, k, blt_irrefl] at this
          cases this
        simp [this]
      · have hr : rsF q (x :: L) = 0 := by unfold rsF; rw [hc]; simp [hq]
        rw [hr, List.drop_zero]
        unfold delF
        rw [List.filter_eq_self]
        intro y hy
        have : ¬ y.n = q := fun k => by
          rcases List.mem_cons.1 hy with rfl | hy
          · exact hq k
          · have h3 := h1 y hy
            rw [k, e] at h3
            cases h3
        simp [this]
theorem bytesLess_lt (x y : List UInt8) : Go.Op.bytesLess x y = decide (x < y) := by
  induction x generalizing y with
  | nil => cases y <;> simp [Go.Op.bytesLess]
  | cons a x ih =>
    cases y with
    | nil => simp [Go.Op.bytesLess]
    | cons b y =>
      rw [Go.Op.bytesLess, ih]
      by_cases h1 : a < b
      · simp [h1, List.cons_lt_cons_iff]
      · by_cases h2 : a = b
        · subst h2
          simp [h1, List.cons_lt_cons_iff]
        · simp [h1, h2, List.cons_lt_cons_iff]
end Go.Proofs.Ytjlhnacdfpbchaa
