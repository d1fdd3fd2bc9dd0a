/- Paths over lists of bytes: a part, cutting at slashes, joining; the order of paths. No program. -/
import Derived.Lib.SplitLaws
import Derived.Lib.Join
import Derived.Lib.Strings
import Derived.Laws.Strings
namespace Go.Proofs.YtoaoikfhdeiabaaDoor.Path
abbrev Bs := List UInt8
def ch (b : UInt8) : Bool := !(decide (b.toNat < 33)) && (!(decide (126 < b.toNat)) && !(b == 47))
def part (s : Bs) : Bool := decide (1 ≤ s.length) && (decide (s.length ≤ 64) && (!(s == [46]) && (!(s == [46, 46]) && s.all ch)))
def consHd (b : UInt8) : List Bs → List Bs
  | [] => [[b]]
  | x :: xs => (b :: x) :: xs
def cuts : Bs → List Bs
  | [] => [[]]
  | b :: l => if b = 47 then [] :: cuts l else consHd b (cuts l)
def glue : List Bs → Bs
  | [] => []
  | x :: xs => 47 :: (x ++ glue xs)
def path (xs : List Bs) : Bs := if xs = [] then [47] else glue xs
def good (xs : List Bs) : Bool := decide (xs.length ≤ 16) && (xs.all part && decide ((glue xs).length ≤ 256))
/-- the parts of a path -/
def pp (p : Bs) : Option (List Bs) :=
  if p = [47] then some [] else if p.length ≤ 256 ∧ p.head? = some 47 ∧ good (cuts p.tail) = true then some (cuts p.tail) else none

theorem cuts_ne (l : Bs) : cuts l ≠ [] := by
  cases l with
  | nil => simp [cuts]
  | cons b l =>
    unfold cuts
    split
    · simp
    · cases h : cuts l <;> simp [consHd]
theorem glue_consHd (b : UInt8) (xs : List Bs) (h : xs ≠ []) : glue (consHd b xs) = 47 :: b :: (glue xs).tail := by
  cases xs with
  | nil => exact absurd rfl h
  | cons x xs => simp [consHd, glue]
theorem glue_cuts (l : Bs) : glue (cuts l) = 47 :: l := by
  induction l with
  | nil => simp [cuts, glue]
  | cons b l ih =>
    unfold cuts
    split
    · next h => subst h; simp [glue, ih]
    · rw [glue_consHd _ _ (cuts_ne l), ih]; rfl
def clean (x : Bs) : Prop := ∀ b ∈ x, b ≠ 47
theorem cuts_clean {x : Bs} (h : clean x) : cuts x = [x] := by
  induction x with
  | nil => rfl
  | cons b l ih =>
    unfold cuts
    rw [if_neg (h b (by simp)), ih (fun c hc => h c (by simp [hc]))]
    rfl
theorem cuts_slash {x : Bs} (h : clean x) (r : Bs) : cuts (x ++ 47 :: r) = x :: cuts r := by
  induction x with
  | nil => simp [cuts]
  | cons b l ih =>
    rw [List.cons_append, cuts, if_neg (h b (by simp)), ih (fun c hc => h c (by simp [hc]))]
    rfl
theorem part_clean {x : Bs} (h : part x = true) : clean x := by
  intro b hb e
  simp only [part, Bool.and_eq_true, List.all_eq_true] at h
  have := h.2.2.2.2 b hb
  simp [ch, e] at this
theorem cuts_glue : ∀ {xs : List Bs}, (∀ x ∈ xs, clean x) → xs ≠ [] → cuts (glue xs).tail = xs
  | [], _, h => absurd rfl h
  | [x], h, _ => by simp [glue, cuts_clean (h x (by simp))]
  | x :: y :: ys, h, _ => by
    have ih := cuts_glue (xs := y :: ys) (fun z hz => h z (by simp [hz])) (by simp)
    have e : (glue (x :: y :: ys)).tail = x ++ 47 :: (glue (y :: ys)).tail := by simp [glue]
    rw [e, cuts_slash (h x (by simp)), ih]
theorem good_parts {xs : List Bs} (h : good xs = true) : xs.length ≤ 16 ∧ (∀ x ∈ xs, part x = true) ∧ (glue xs).length ≤ 256 := by
  simp only [good, Bool.and_eq_true, decide_eq_true_eq, List.all_eq_true] at h
  exact ⟨h.1, h.2.1, h.2.2⟩
theorem good_mk {xs : List Bs} (h1 : xs.length ≤ 16) (h2 : ∀ x ∈ xs, part x = true) (h3 : (glue xs).length ≤ 256) : good xs = true := by
  simp only [good, Bool.and_eq_true, decide_eq_true_eq, List.all_eq_true]
  exact ⟨h1, h2, h3⟩
theorem pp_path {xs : List Bs} (h : good xs = true) : pp (path xs) = some xs := by
  obtain ⟨h1, h2, h3⟩ := good_parts h
  unfold path
  by_cases he : xs = []
  · subst he; rfl
  · rw [if_neg he]
    have hc := cuts_glue (fun x hx => part_clean (h2 x hx)) he
    have hne : glue xs ≠ [47] := by
      intro e
      rw [e] at hc
      have hc' : ([[]] : List Bs) = xs := hc
      have := h2 [] (by rw [← hc']; simp)
      simp [part] at this
    unfold pp
    rw [if_neg hne, hc, if_pos]
    refine ⟨h3, ?_, h⟩
    cases xs with
    | nil => exact absurd rfl he
    | cons x xs => rfl
theorem path_pp {p : Bs} {xs : List Bs} (h : pp p = some xs) : p = path xs ∧ good xs = true := by
  unfold pp at h
  split at h
  · next e => cases h; subst e; exact ⟨rfl, rfl⟩
  · split at h
    · next e =>
      obtain ⟨_, h2, h3⟩ := e
      cases h
      refine ⟨?_, h3⟩
      unfold path
      rw [if_neg (cuts_ne _), glue_cuts]
      cases p with
      | nil => simp at h2
      | cons b l => simp at h2; subst h2; rfl
    · cases h
theorem glue_append (xs ys : List Bs) : glue (xs ++ ys) = glue xs ++ glue ys := by
  induction xs with
  | nil => rfl
  | cons x xs ih => simp [glue, ih]
theorem good_take {xs : List Bs} (h : good xs = true) (n : Nat) : good (xs.take n) = true := by
  obtain ⟨h1, h2, h3⟩ := good_parts h
  refine good_mk (by rw [List.length_take]; omega) (fun x hx => h2 x (List.mem_of_mem_take hx)) ?_
  have := glue_append (xs.take n) (xs.drop n)
  rw [List.take_append_drop] at this
  rw [this, List.length_append] at h3
  omega
theorem glue_join {xs : List Bs} (h : xs ≠ []) : glue xs = 47 :: Lib.join xs [47] := by
  induction xs with
  | nil => exact absurd rfl h
  | cons x xs ih =>
    cases xs with
    | nil => simp [glue, Lib.join_one]
    | cons y ys =>
      rw [glue, ih (by simp), Lib.join_cons, Lib.join_cons]
      simp [Lib.joinTail]
theorem path_join (xs : List Bs) : path xs = 47 :: Lib.join xs [47] := by
  unfold path
  split
  · next h => subst h; rfl
  · next h => exact glue_join h
/-- cutting at all slashes, as the library does it -/
theorem index_ne (b : UInt8) (l : Bs) (h : b ≠ 47) : Lib.index (b :: l) [47] = if Lib.index l [47] == -1 then -1 else Lib.index l [47] + 1 := by
  have hp : ([47] : List UInt8).isPrefixOf (b :: l) = false := by simp [List.isPrefixOf, Ne.symm h]
  rw [Lib.index, hp]; simp
theorem index_eq (l : Bs) : Lib.index (47 :: l) [47] = 0 := by
  rw [Lib.index]; simp [List.isPrefixOf]
theorem splitK_cons (b : UInt8) (h : b ≠ 47) (k : Nat) (l : Bs) : Lib.splitK [47] 0 k (b :: l) = consHd b (Lib.splitK [47] 0 k l) := by
  cases k with
  | zero => rfl
  | succ k =>
    unfold Lib.splitK
    rw [index_ne b l h]
    by_cases hm : Lib.index l [47] = -1
    · simp [hm, consHd]
    · have hge := Lib.index_ge l [47]
      obtain ⟨j, hj⟩ : ∃ j : Nat, Lib.index l [47] = j := ⟨(Lib.index l [47]).toNat, by omega⟩
      rw [hj]
      have c1 : ((j : Int) == -1) = false := by simp
      have c2 : (((j : Int) + 1) == -1) = false := by simp; omega
      have c3 : ((j : Int) + 1).toNat = j + 1 := by omega
      simp [c1, c2, c3, consHd]
theorem splitK_cuts (l : Bs) : Lib.splitK [47] 0 (Lib.count l [47]) l = cuts l := by
  induction l with
  | nil => rw [Lib.count_miss (by simp [Lib.index])]; rfl
  | cons b l ih =>
    by_cases h : b = 47
    · subst h
      rw [Lib.count_cons_eq, Nat.add_comm, Lib.splitK, index_eq]
      simp [cuts, ih]
    · rw [Lib.count_cons_ne _ _ _ h, splitK_cons b h, ih, cuts, if_neg h]
theorem cuts_len (l : Bs) : (cuts l).length = Lib.count l [47] + 1 := by
  induction l with
  | nil => rw [Lib.count_miss (by simp [Lib.index])]; rfl
  | cons b l ih =>
    by_cases h : b = 47
    · subst h; rw [Lib.count_cons_eq, cuts, if_pos rfl, List.length_cons, ih]; omega
    · rw [Lib.count_cons_ne _ _ _ h, cuts, if_neg h, ← ih]
      cases hc : cuts l with
      | nil => exact absurd hc (cuts_ne l)
      | cons x xs => rfl
theorem less_iff (x y : Bs) : Go.Op.bytesLess x y = (compare x y == .lt) := by
  induction x generalizing y with
  | nil => cases y <;> rfl
  | cons a x ih =>
    cases y with
    | nil => rfl
    | cons b y =>
      rw [Go.Op.bytesLess, ih, List.compare_cons_cons]
      by_cases h1 : a < b
      · have h : compare a b = .lt := by simp [compare, compareOfLessAndEq, h1]
        simp [h, h1]
      · by_cases h2 : a = b
        · subst h2; simp
        · have h : compare a b = .gt := by simp [compare, compareOfLessAndEq, h1, h2]
          simp [h, h1, h2]
def oi : Ordering → Int
  | .lt => -1
  | .eq => 0
  | .gt => 1
theorem oi_swap (o : Ordering) : oi o.swap = - oi o := by cases o <;> rfl
theorem oi_zero (o : Ordering) : (oi o = 0) ↔ o = .eq := by cases o <;> simp [oi]
theorem oi_le (o : Ordering) : (oi o ≤ 0) ↔ o.isLE = true := by cases o <;> simp [oi, Ordering.isLE]
/-- the order of paths, out of their parts -/
def cp (a b : Bs) : Option (List Bs) → Option (List Bs) → Ordering
  | some x, some y => compare x y
  | some _, none => .lt
  | none, some _ => .gt
  | none, none => compare a b
theorem cp_swap (a b : Bs) (x y : Option (List Bs)) : cp a b x y = (cp b a y x).swap := by
  cases x <;> cases y <;> simp [cp] <;> exact Std.OrientedCmp.eq_swap
theorem cp_le {a b c : Bs} {x y z : Option (List Bs)} (h1 : (cp a b x y).isLE = true) (h2 : (cp b c y z).isLE = true) : (cp a c x z).isLE = true := by
  cases x <;> cases y <;> cases z <;> simp_all [cp]
  all_goals first | exact Std.TransCmp.isLE_trans h1 h2 | skip
theorem cp_eq {a b : Bs} {x y : Option (List Bs)} (hx : x = none ∨ x = some [a] → True) : (cp a b x y = .eq) ↔ ((x = none ∧ y = none ∧ a = b) ∨ ∃ l, x = some l ∧ y = some l) := by
  cases x <;> cases y <;> simp [cp]
  · exact eq_comm
theorem compare_prefix (x y : List Bs) : (compare (x ++ y) x).isLE = true → y = [] := by
  induction x with
  | nil => cases y with
    | nil => intro _; rfl
    | cons a y => intro h; cases h
  | cons a x ih =>
    intro h
    rw [List.cons_append, List.compare_cons_cons] at h
    apply ih
    simpa using h

/-- is the first path the second one or below it? -/
def wi : Option (List Bs) → Option (List Bs) → Bool
  | some x, some y => y.isPrefixOf x
  | _, _ => false
theorem wi_some {x y : Option (List Bs)} (h : wi x y = true) : ∃ a b, x = some (b ++ a) ∧ y = some b := by
  cases x with
  | none => cases h
  | some x =>
    cases y with
    | none => cases h
    | some y =>
      obtain ⟨a, rfl⟩ := List.isPrefixOf_iff_prefix.1 h
      exact ⟨a, y, rfl, rfl⟩
theorem wi_mk (a b : List Bs) : wi (some (b ++ a)) (some b) = true := List.isPrefixOf_iff_prefix.2 ⟨a, rfl⟩
theorem wi_trans {x y z : Option (List Bs)} (h1 : wi x y = true) (h2 : wi y z = true) : wi x z = true := by
  obtain ⟨a, b, rfl, rfl⟩ := wi_some h1
  obtain ⟨c, d, e, rfl⟩ := wi_some h2
  injection e with e
  subst e
  rw [List.append_assoc]
  exact wi_mk _ _
theorem wi_both {x y : Option (List Bs)} (h1 : wi x y = true) (h2 : wi y x = true) : ∃ a, x = some a ∧ y = some a := by
  obtain ⟨a, b, rfl, rfl⟩ := wi_some h1
  obtain ⟨c, d, e, e'⟩ := wi_some h2
  injection e with e
  injection e' with e'
  have h : d.length + c.length + a.length = d.length := by
    have := congrArg List.length e'
    rw [List.length_append, e, List.length_append] at this
    omega
  have ha : a = [] := List.length_eq_zero_iff.1 (by omega)
  exact ⟨b, by rw [ha, List.append_nil], rfl⟩
theorem wi_self (x : Option (List Bs)) : wi x x = x.isSome := by
  cases x with
  | none => rfl
  | some x => exact (by simpa using wi_mk [] x)
theorem wi_root {x : Option (List Bs)} (h : x.isSome = true) : wi x (some []) = true := by
  cases x with
  | none => cases h
  | some x => rfl
theorem wi_ge {a b : Bs} {x y : Option (List Bs)} (h : wi x y = true) : 0 ≤ oi (cp a b x y) := by
  obtain ⟨c, d, rfl, rfl⟩ := wi_some h
  simp only [cp]
  rcases h : compare (d ++ c) d with _ | _ | _
  · have := compare_prefix d c (by rw [h]; rfl)
    subst this
    simp at h
  · simp [oi]
  · simp [oi]
theorem pp_inj {a b : Bs} {x : List Bs} (ha : pp a = some x) (hb : pp b = some x) : a = b := by rw [(path_pp ha).1, (path_pp hb).1]
theorem cp_zero (a b : Bs) : (oi (cp a b (pp a) (pp b)) = 0) ↔ a = b := by
  rw [oi_zero, cp_eq (fun _ => trivial)]
  constructor
  · rintro (⟨_, _, h⟩ | ⟨l, h1, h2⟩)
    · exact h
    · exact pp_inj h1 h2
  · intro h
    subst h
    cases h : pp a with
    | none => exact .inl ⟨rfl, rfl, rfl⟩
    | some l => exact .inr ⟨l, rfl, rfl⟩
theorem cuts_length (l : Bs) : (cuts l).length ≤ l.length + 1 := by
  induction l with
  | nil => simp [cuts]
  | cons b l ih =>
    unfold cuts
    split
    · simp; omega
    · cases hc : cuts l with
      | nil => exact absurd hc (cuts_ne l)
      | cons x xs => rw [hc] at ih; simp [consHd] at ih ⊢; omega
theorem pp_bad {P x : Bs} (h0 : P ≠ [47]) (hm : x ∈ cuts P.tail) (hx : part x = false) : pp P = none := by
  unfold pp
  rw [if_neg h0, if_neg]
  rintro ⟨_, _, h⟩
  have := (good_parts h).2.1 x hm
  rw [hx] at this
  cases this
theorem pp_short {P : Bs} (h0 : P ≠ [47]) (h : ¬ (P.length ≤ 256 ∧ P.head? = some 47)) : pp P = none := by
  unfold pp
  rw [if_neg h0, if_neg]
  rintro ⟨h1, h2, _⟩
  exact h ⟨h1, h2⟩
theorem glue_tail {P : Bs} (h : P.head? = some 47) : glue (cuts P.tail) = P := by
  rw [glue_cuts]
  cases P with
  | nil => simp at h
  | cons b l => simp at h; subst h; rfl
theorem pp_parts {P : Bs} (h0 : P ≠ [47]) (h1 : P.length ≤ 256) (h2 : P.head? = some 47) : pp P = if (cuts P.tail).all part = true ∧ (cuts P.tail).length ≤ 16 then some (cuts P.tail) else none := by
  unfold pp
  rw [if_neg h0]
  by_cases h : (cuts P.tail).all part = true ∧ (cuts P.tail).length ≤ 16
  · rw [if_pos h, if_pos ⟨h1, h2, good_mk h.2 (List.all_eq_true.1 h.1) (by rw [glue_tail h2]; exact h1)⟩]
  · rw [if_neg h, if_neg]
    rintro ⟨_, _, hg⟩
    obtain ⟨g1, g2, _⟩ := good_parts hg
    exact h ⟨List.all_eq_true.2 g2, g1⟩
/-- where the reference's scan stands -/
structure RS (P : Bs) (done : List Bs) (fr i : Nat) : Prop where
  parts : ∀ x ∈ done, part x = true
  st : (fr ≤ i ∧ i ≤ P.length ∧ clean ((P.drop fr).take (i - fr)) ∧ cuts P.tail = done ++ cuts (P.drop fr)) ∨ (i = P.length + 1 ∧ fr = P.length + 1 ∧ cuts P.tail = done)
theorem RS.start {P : Bs} (h : P.head? = some 47) : RS P [] 1 1 := by
  cases P with
  | nil => simp at h
  | cons b l => exact ⟨by simp, .inl ⟨Nat.le_refl _, by simp, by simp [clean], by simp⟩⟩
theorem take_more {l : Bs} {n : Nat} (h : n < l.length) : l.take (n + 1) = l.take n ++ [l[n]] := by rw [List.take_add_one, List.getElem?_eq_getElem h]; rfl
theorem take_moreB {l : List Bs} {n : Nat} (h : n < l.length) : l.take (n + 1) = l.take n ++ [l[n]] := by rw [List.take_add_one, List.getElem?_eq_getElem h]; rfl
theorem RS.skip {P : Bs} {done : List Bs} {fr i : Nat} (h : RS P done fr i) (hi : i < P.length) (hb : P[i] ≠ 47) : RS P done fr (i + 1) := by
  refine ⟨h.parts, ?_⟩
  rcases h.st with ⟨h1, h2, h3, h4⟩ | ⟨h1, _⟩
  · refine .inl ⟨by omega, by omega, ?_, h4⟩
    have e : (P.drop fr).take (i + 1 - fr) = (P.drop fr).take (i - fr) ++ [P[i]] := by
      rw [show i + 1 - fr = (i - fr) + 1 by omega, take_more (by simp; omega)]
      congr 2
      simp only [List.getElem_drop]
      congr 1; omega
    rw [e]
    intro b hb2
    rcases List.mem_append.1 hb2 with hb2 | hb2
    · exact h3 b hb2
    · simp at hb2; subst hb2; exact hb
  · omega
theorem RS.split {P : Bs} {fr i : Nat} (h1 : fr ≤ i) (hi : i < P.length) (hb : P[i] = 47) : P.drop fr = (P.drop fr).take (i - fr) ++ 47 :: P.drop (i + 1) := by
  have e := (List.take_append_drop (i - fr) (P.drop fr)).symm
  rw [List.drop_drop, show fr + (i - fr) = i by omega, List.drop_eq_getElem_cons hi, hb] at e
  exact e
theorem RS.cut {P : Bs} {done : List Bs} {fr i : Nat} (h : RS P done fr i) (hi : i < P.length) (hb : P[i] = 47) (hp : part ((P.drop fr).take (i - fr)) = true) : RS P (done ++ [(P.drop fr).take (i - fr)]) (i + 1) (i + 1) := by
  refine ⟨fun x hx => ?_, ?_⟩
  · rcases List.mem_append.1 hx with hx | hx
    · exact h.parts x hx
    · simp at hx; subst hx; exact hp
  rcases h.st with ⟨h1, h2, h3, h4⟩ | ⟨h1, _⟩
  · refine .inl ⟨Nat.le_refl _, by omega, by simp [clean], ?_⟩
    conv at h4 => rhs; rw [RS.split h1 hi hb]
    rw [h4, cuts_slash h3]; simp
  · omega
theorem RS.last {P : Bs} {done : List Bs} {fr i : Nat} (h : RS P done fr i) (hi : i = P.length) (hp : part ((P.drop fr).take (i - fr)) = true) : RS P (done ++ [(P.drop fr).take (i - fr)]) (i + 1) (i + 1) := by
  refine ⟨fun x hx => ?_, ?_⟩
  · rcases List.mem_append.1 hx with hx | hx
    · exact h.parts x hx
    · simp at hx; subst hx; exact hp
  rcases h.st with ⟨h1, h2, h3, h4⟩ | ⟨h1, _⟩
  · refine .inr ⟨by omega, by omega, ?_⟩
    have e : (P.drop fr).take (i - fr) = P.drop fr := List.take_of_length_le (by simp; omega)
    rw [e] at h3 ⊢
    rw [h4, cuts_clean h3]
  · omega
theorem RS.mem {P : Bs} {done : List Bs} {fr i : Nat} (h : RS P done fr i) (hi : i ≤ P.length) (hb : (hi : i < P.length) → P[i] = 47) : (P.drop fr).take (i - fr) ∈ cuts P.tail := by
  rcases h.st with ⟨h1, h2, h3, h4⟩ | ⟨h1, _⟩
  · rw [h4]
    apply List.mem_append_right
    by_cases hlt : i < P.length
    · rw [RS.split h1 hlt (hb hlt), List.take_append_of_le_length (by simp; omega), List.take_of_length_le (l := List.take _ _) (by simp; omega), cuts_slash h3]
      simp
    · have e : (P.drop fr).take (i - fr) = P.drop fr := List.take_of_length_le (by simp; omega)
      rw [e] at h3 ⊢
      rw [cuts_clean h3]; simp
  · omega
theorem RS.fin {P : Bs} {done : List Bs} {fr i : Nat} (h : RS P done fr i) (hi : ¬ i ≤ P.length) : cuts P.tail = done := by
  rcases h.st with ⟨_, h2, _⟩ | ⟨_, _, h3⟩
  · omega
  · exact h3
theorem RS.from_le {P : Bs} {done : List Bs} {fr i : Nat} (h : RS P done fr i) : fr ≤ i ∧ i ≤ P.length + 1 := by
  rcases h.st with ⟨h1, h2, _⟩ | ⟨h1, h2, _⟩ <;> omega
theorem RS.len {P : Bs} {done : List Bs} {fr i : Nat} (h : RS P done fr i) : done.length ≤ P.length + 1 := by
  have hc := cuts_length P.tail
  rcases h.st with ⟨_, _, _, h4⟩ | ⟨_, _, h4⟩
  · rw [h4] at hc; simp at hc ⊢; omega
  · rw [h4] at hc; simp at hc ⊢; omega
end Go.Proofs.YtoaoikfhdeiabaaDoor.Path
