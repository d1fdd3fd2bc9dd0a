/- Both boards of attempts beside each other: the program's lists of each task, read off the reference's one list. Numbers alone. -/
import Derived.Test.YtapnlofklgknmaaAtrRdy
import Derived.Test.YtapnlofklgknmaaAtmGon
namespace Go.Proofs.Ytapnlofklgknmaa
open Go.RowKit

/-- the program's word for a state: running, good, failed, gone -/
def stA (s : Int) : Nat := if s = 0 then 0 else if s = 1 then 1 else if s = 2 then 2 else if s = 3 then 2 else 3
def attR (u : Tr) : Att := ⟨stA u.st, u.nd, u.bg⟩
def attL (x : Int) (L : List Tr) : List Att := (L.filter (ofP x)).map attR
theorem attL_len (x : Int) (L : List Tr) : (attL x L).length = numL x L := by simp [attL, numL, List.countP_eq_length_filter]
theorem attL_yes {x : Int} {u : Tr} (L : List Tr) (h : u.t = x) : attL x (L ++ [u]) = attL x L ++ [attR u] := by simp [attL, ofP, h]
theorem attL_no {x : Int} {u : Tr} (L : List Tr) (h : u.t ≠ x) : attL x (L ++ [u]) = attL x L := by simp [attL, ofP, h]
theorem fulL_new (x : Int) (L : List Tr) (u : Tr) (h : u.st = 0) : fulL x (L ++ [u]) = fulL x L := by
  unfold fulL
  rw [List.countP_append]
  simp [fulP, h]
theorem deadL_congr {m r : Nat} {lim : Int} {L L' : List Tr} (h : ∀ x, fulL x L' = fulL x L) : deadL m r lim L' = deadL m r lim L := by
  unfold deadL aliL
  simp only [h]
/-- the two boards tell the same -/
structure Rel (b : Bd) (m r : Nat) (lim pat : Int) (L : List Tr) : Prop where
  hm : b.m = m
  hn : b.n = m + r
  hlim : b.lim = lim
  hpat : b.pat = pat
  dead : b.dead = deadL m r lim L
  att : ∀ j : Nat, (b.T j).A = attL (j : Int) L
  fu : ∀ j : Nat, (b.T j).fu = fulL (j : Int) L
  num : ∀ i (h : i < L.length), L[i].k = ((numL L[i].t (L.take i) + 1 : Nat) : Int)
  rng : ∀ u ∈ L, 0 ≤ u.t ∧ u.t < (m : Int) + (r : Int)
  won : ∀ u ∈ L, u.w = true → u.st = 1 ∧ ((b.T u.t.toNat).wi : Int) = u.k
  some : ∀ j : Nat, (b.T j).wi ≠ 0 → ∃ u ∈ L, u.t = (j : Int) ∧ u.w = true
theorem attR_new (x k nd bg : Int) : attR ⟨x, k, nd, bg, 0, false⟩ = ⟨0, nd, bg⟩ := rfl
/-- a task's attempt is begun -/
theorem Rel.start {b : Bd} {m r : Nat} {lim pat : Int} {L : List Tr} (h : Rel b m r lim pat L) (x : Nat) (hx : x < m + r) (nd now : Int) :
    Rel (setTk b x (begT (b.T x) nd (mom now))) m r lim pat (L ++ [⟨(x : Int), ((numL (x : Int) L + 1 : Nat) : Int), nd, mom now, 0, false⟩]) := by
  have hwi : ∀ j, ((setTk b x (begT (b.T x) nd (mom now))).T j).wi = (b.T j).wi := fun j => by
    show (updN b.T x _ j).wi = _
    unfold updN
    split
    · rename_i e; subst e; rfl
    · rfl
  refine ⟨h.hm, h.hn, h.hlim, h.hpat, ?_, fun j => ?_, fun j => ?_, fun i hi => ?_, fun u hu => ?_, fun u hu hw => ?_, fun j hj => ?_⟩
  · show b.dead = _
    rw [deadL_congr (L := L) fun y => fulL_new y L _ rfl]
    exact h.dead
  · show (updN b.T x _ j).A = _
    unfold updN
    split
    · rename_i e
      subst e
      have e := attL_yes (x := (j : Int)) (u := ⟨(j : Int), ((numL (j : Int) L + 1 : Nat) : Int), nd, mom now, 0, false⟩) L rfl
      rw [← h.att j] at e
      exact e.symm
    · rename_i e
      rw [attL_no L (by show ((x : Nat) : Int) ≠ (j : Int); omega)]
      exact h.att j
  · rw [fulL_new _ L _ rfl, ← h.fu j]
    show (updN b.T x _ j).fu = _
    unfold updN
    split
    · rename_i e; subst e; rfl
    · rfl
  · by_cases hl : i < L.length
    · rw [List.getElem_append_left hl, List.take_append_of_le_length (by omega)]
      exact h.num i hl
    · have e : i = L.length := by simp at hi; omega
      subst e
      rw [List.getElem_append_right (Nat.le_refl _), List.take_left]
      simp
  · rcases List.mem_append.1 hu with hu | hu
    · exact h.rng u hu
    · simp only [List.mem_singleton] at hu
      subst hu
      exact ⟨by show (0 : Int) ≤ (x : Int); omega, by show (x : Int) < _; omega⟩
  · rcases List.mem_append.1 hu with hu | hu
    · obtain ⟨h1, h2⟩ := h.won u hu hw
      exact ⟨h1, by rw [hwi]; exact h2⟩
    · simp only [List.mem_singleton] at hu
      subst hu
      cases hw
  · rw [hwi] at hj
    obtain ⟨u, hu, h1, h2⟩ := h.some j hj
    exact ⟨u, List.mem_append_left _ hu, h1, h2⟩
theorem gone_t (nd : Int) (u : Tr) : (lvR nd u).t = u.t ∧ (lvR nd u).k = u.k ∧ (lvR nd u).w = u.w := by
  unfold lvR
  split <;> exact ⟨rfl, rfl, rfl⟩
theorem attR_gone (nd : Int) (u : Tr) : attR (lvR nd u) = lvN nd (attR u) := by
  unfold lvR lvN attR
  by_cases h0 : u.st = 0
  · by_cases h1 : u.nd = nd
    · simp [h0, h1, stA]
    · simp [h0, h1, stA]
  · have hs : stA u.st ≠ 0 := by unfold stA; simp only [h0, if_false]; split <;> (try split) <;> (try split) <;> decide
    simp [h0, hs]
theorem attL_gone (x nd : Int) (L : List Tr) : attL x (L.map (lvR nd)) = (attL x L).map (lvN nd) := by
  unfold attL
  rw [List.filter_map, List.map_map, List.map_map]
  have e : (ofP x ∘ lvR nd) = ofP x := funext fun u => by simp [ofP, (gone_t nd u).1]
  rw [e]
  exact List.map_congr_left fun u _ => attR_gone nd u
theorem fulL_gone (x nd : Int) (L : List Tr) : fulL x (L.map (lvR nd)) = fulL x L := by
  unfold fulL
  rw [List.countP_map]
  congr 1
  funext u
  show fulP x (lvR nd u) = fulP x u
  unfold fulP lvR
  split
  · rename_i h
    simp [h.1]
  · rfl
theorem numL_gone (x nd : Int) (L : List Tr) : numL x (L.map (lvR nd)) = numL x L := by
  unfold numL
  rw [List.countP_map]
  congr 1
  funext u
  simp [ofP, (gone_t nd u).1]
/-- a node is gone -/
theorem Rel.gone {b : Bd} {m r : Nat} {lim pat : Int} {L : List Tr} (h : Rel b m r lim pat L) (nd : Int) : Rel (goneB b nd) m r lim pat (L.map (lvR nd)) := by
  have hwi : ∀ j, ((goneB b nd).T j).wi = (b.T j).wi := fun j => by
    show (if j < b.n then lvT nd (b.T j) else b.T j).wi = _
    split <;> rfl
  have hfar : ∀ j : Nat, ¬ j < b.n → attL (j : Int) L = [] := fun j hj => by
    unfold attL
    rw [List.map_eq_nil_iff, List.filter_eq_nil_iff]
    intro u hu
    have := h.rng u hu
    have := h.hn
    simp only [ofP, decide_eq_true_eq]
    omega
  refine ⟨h.hm, h.hn, h.hlim, h.hpat, ?_, fun j => ?_, fun j => ?_, fun i hi => ?_, fun u hu => ?_, fun u hu hw => ?_, fun j hj => ?_⟩
  · show b.dead = _
    rw [deadL_congr (L := L) fun y => fulL_gone y nd L]
    exact h.dead
  · rw [attL_gone, ← h.att j]
    show (if j < b.n then lvT nd (b.T j) else b.T j).A = _
    split
    · rfl
    · rename_i hj
      rw [h.att j, hfar j hj]
      rfl
  · rw [fulL_gone, ← h.fu j]
    show (if j < b.n then lvT nd (b.T j) else b.T j).fu = _
    split <;> rfl
  · have hl : i < L.length := by simpa using hi
    rw [List.getElem_map, (gone_t nd _).1, (gone_t nd _).2.1, ← List.map_take, numL_gone]
    exact h.num i hl
  · obtain ⟨v, hv, rfl⟩ := List.mem_map.1 hu
    rw [(gone_t nd v).1]
    exact h.rng v hv
  · obtain ⟨v, hv, rfl⟩ := List.mem_map.1 hu
    rw [(gone_t nd v).2.2] at hw
    obtain ⟨h1, h2⟩ := h.won v hv hw
    rw [(gone_t nd v).1, (gone_t nd v).2.1, hwi]
    refine ⟨?_, h2⟩
    unfold lvR
    rw [if_neg (fun e => by rw [h1] at e; exact absurd e.1 (by decide))]
    exact h1
  · rw [hwi] at hj
    obtain ⟨u, hu, h1, h2⟩ := h.some j hj
    exact ⟨lvR nd u, List.mem_map_of_mem hu, by rw [(gone_t nd u).1]; exact h1, by rw [(gone_t nd u).2.2]; exact h2⟩
/-- one try is changed: its task's list changes at its place, and no other -/
theorem attL_cons (x : Int) (u : Tr) (L : List Tr) : attL x (u :: L) = if u.t = x then attR u :: attL x L else attL x L := by
  unfold attL
  by_cases e : u.t = x
  · rw [if_pos e, List.filter_cons_of_pos (by simp [ofP, e])]
    rfl
  · rw [if_neg e, List.filter_cons_of_neg (by simp [ofP, e])]
theorem numL_cons (x : Int) (u : Tr) (L : List Tr) : numL x (u :: L) = if u.t = x then numL x L + 1 else numL x L := by
  unfold numL
  by_cases e : u.t = x
  · rw [if_pos e, List.countP_cons_of_pos (by simp [ofP, e])]
  · rw [if_neg e, List.countP_cons_of_neg (by simp [ofP, e])]
theorem attL_mod (x : Int) (f : Tr → Tr) (g : Att → Att) (hf : ∀ u, (f u).t = u.t) (hg : ∀ u, attR (f u) = g (attR u)) : ∀ (L : List Tr) (i : Nat) (h : i < L.length), L[i].t = x → attL x (L.modify i f) = (attL x L).modify (numL x (L.take i)) g
  | u :: L, 0, _, e => by
    have e : u.t = x := e
    have hm : (u :: L).modify 0 f = f u :: L := rfl
    rw [hm, attL_cons, attL_cons, if_pos e, if_pos ((hf u).trans e), hg]
    rfl
  | u :: L, i + 1, h, e => by
    have hm : (u :: L).modify (i + 1) f = u :: L.modify i f := rfl
    have ht : (u :: L).take (i + 1) = u :: L.take i := rfl
    have ih := attL_mod x f g hf hg L i (by simpa using h) e
    rw [hm, ht, attL_cons, attL_cons, numL_cons]
    by_cases ex : u.t = x
    · rw [if_pos ex, if_pos ex, if_pos ex, ih]
      rfl
    · rw [if_neg ex, if_neg ex, if_neg ex, ih]
theorem attL_off (x : Int) (f : Tr → Tr) (hf : ∀ u, (f u).t = u.t) : ∀ (L : List Tr) (i : Nat) (h : i < L.length), L[i].t ≠ x → attL x (L.modify i f) = attL x L
  | u :: L, 0, _, e => by
    have e : u.t ≠ x := e
    have hm : (u :: L).modify 0 f = f u :: L := rfl
    rw [hm, attL_cons, attL_cons, if_neg e, if_neg (by rw [hf]; exact e)]
  | u :: L, i + 1, h, e => by
    have hm : (u :: L).modify (i + 1) f = u :: L.modify i f := rfl
    rw [hm, attL_cons, attL_cons, attL_off x f hf L i (by simpa using h) e]
/-- a try stands in its task's list at the place that its number tells -/
theorem attL_at (x : Int) : ∀ (L : List Tr) (i : Nat) (h : i < L.length), L[i].t = x → (attL x L)[numL x (L.take i)]? = some (attR L[i])
  | u :: L, 0, _, e => by
    have e : u.t = x := e
    rw [attL_cons, if_pos e]
    rfl
  | u :: L, i + 1, h, e => by
    have ht : (u :: L).take (i + 1) = u :: L.take i := rfl
    have ih := attL_at x L i (by simpa using h) e
    rw [ht, attL_cons, numL_cons]
    by_cases ex : u.t = x
    · rw [if_pos ex, if_pos ex]
      simpa using ih
    · rw [if_neg ex, if_neg ex]
      simpa using ih
/-- .. and each place of the list has its try -/
theorem attL_from (x : Int) : ∀ (L : List Tr) (q : Nat), q < (attL x L).length → ∃ i, ∃ h : i < L.length, L[i].t = x ∧ numL x (L.take i) = q
  | [], q, h => by simp [attL] at h
  | u :: L, q, h => by
    rw [attL_cons] at h
    by_cases ex : u.t = x
    · rw [if_pos ex] at h
      match q, h with
      | 0, _ => exact ⟨0, by simp, ex, rfl⟩
      | q + 1, h =>
        obtain ⟨i, hi, h1, h2⟩ := attL_from x L q (by simpa using h)
        refine ⟨i + 1, by simpa using hi, h1, ?_⟩
        have ht : (u :: L).take (i + 1) = u :: L.take i := rfl
        rw [ht, numL_cons, if_pos ex, h2]
    · rw [if_neg ex] at h
      obtain ⟨i, hi, h1, h2⟩ := attL_from x L q h
      refine ⟨i + 1, by simpa using hi, h1, ?_⟩
      have ht : (u :: L).take (i + 1) = u :: L.take i := rfl
      rw [ht, numL_cons, if_neg ex, h2]
/-- two tries of a task with one number are one -/
theorem num_lt (x : Int) (L : List Tr) (i i' : Nat) (hi : i < L.length) (hlt : i < i') (hx : L[i].t = x) : numL x (L.take i) < numL x (L.take i') := by
  have h1 := num_take x L i hi
  rw [if_pos (by simp [ofP, hx])] at h1
  have h2 : numL x (L.take (i + 1)) ≤ numL x (L.take i') := by
    unfold numL
    have e : L.take (i + 1) = (L.take i').take (i + 1) := by rw [List.take_take, Nat.min_eq_left (by omega)]
    rw [e]
    exact (List.take_sublist _ _).countP_le
  omega
theorem Rel.one {b : Bd} {m r : Nat} {lim pat : Int} {L : List Tr} (h : Rel b m r lim pat L) {i i' : Nat} (hi : i < L.length) (hi' : i' < L.length) (ht : L[i].t = L[i'].t) (hk : L[i].k = L[i'].k) : i = i' := by
  have h1 := h.num i hi
  have h2 := h.num i' hi'
  rw [← ht] at h2
  rcases Nat.lt_trichotomy i i' with c | c | c
  · have := num_lt L[i].t L i i' hi c rfl
    omega
  · exact c
  · have := num_lt L[i].t L i' i hi' c ht.symm
    omega
theorem stA_zero {s : Int} (h : stA s = 0) : s = 0 := by
  by_cases e : s = 0
  · exact e
  · exfalso
    unfold stA at h
    rw [if_neg e] at h
    split at h
    · cases h
    · split at h
      · cases h
      · split at h <;> cases h
/-- a running attempt is a running try -/
theorem Rel.runs {b : Bd} {m r : Nat} {lim pat : Int} {L : List Tr} (h : Rel b m r lim pat L) (x : Nat) (a : Int) :
    runT (b.T x) a = true ↔ ∃ i, ∃ hi : i < L.length, repP (x : Int) a L[i] = true := by
  unfold runT repP
  rw [h.att x]
  constructor
  · intro hr
    simp only [Bool.and_eq_true, decide_eq_true_eq] at hr
    obtain ⟨h1, h2, h3⟩ := hr
    obtain ⟨i, hi, e1, e2⟩ := attL_from (x : Int) L (a.toNat - 1) (by omega)
    have hat := attL_at (x : Int) L i hi e1
    rw [e2] at hat
    rw [hat] at h3
    have h4 : stA L[i].st = 0 := of_decide_eq_true h3
    refine ⟨i, hi, ?_⟩
    have hn := h.num i hi
    rw [e1, e2] at hn
    simp only [Bool.and_eq_true, decide_eq_true_eq]
    exact ⟨e1, by rw [hn]; omega, stA_zero h4⟩
  · rintro ⟨i, hi, hr⟩
    simp only [Bool.and_eq_true, decide_eq_true_eq] at hr
    obtain ⟨e1, e2, e3⟩ := hr
    have hat := attL_at (x : Int) L i hi e1
    have hn := h.num i hi
    rw [e1, e2] at hn
    have hlt : numL (x : Int) (L.take i) < (attL (x : Int) L).length := (List.getElem?_eq_some_iff.1 hat).1
    have hq : a.toNat - 1 = numL (x : Int) (L.take i) := by omega
    rw [hq, hat]
    simp only [Bool.and_eq_true, decide_eq_true_eq]
    exact ⟨by omega, by omega, by show stA L[i].st = 0; rw [e3]; rfl⟩
theorem Rel.report_ok {b : Bd} {m r : Nat} {lim pat : Int} {L : List Tr} (h : Rel b m r lim pat L) (x a how : Int) : okR L x a how = reportA b x a how := by
  have hf : decide (L.findIdx (repP x a) < L.length) = (inB b x && runT (b.T x.toNat) a) := by
    rw [Bool.eq_iff_iff]
    simp only [decide_eq_true_eq, Bool.and_eq_true, List.findIdx_lt_length]
    constructor
    · rintro ⟨u, hu, hr⟩
      obtain ⟨i, hi, rfl⟩ := List.getElem_of_mem hu
      have hr' := hr
      unfold repP at hr'
      simp only [Bool.and_eq_true, decide_eq_true_eq] at hr'
      have hg := h.rng _ hu
      rw [hr'.1] at hg
      have hx : ((x.toNat : Nat) : Int) = x := by omega
      refine ⟨by unfold inB; rw [decide_eq_true_eq, h.hn]; omega, (h.runs x.toNat a).2 ⟨i, hi, by rw [hx]; exact hr⟩⟩
    · rintro ⟨hin, hr⟩
      unfold inB at hin
      rw [decide_eq_true_eq] at hin
      have hx : ((x.toNat : Nat) : Int) = x := by omega
      obtain ⟨i, hi, hp⟩ := (h.runs x.toNat a).1 hr
      rw [hx] at hp
      exact ⟨L[i], List.getElem_mem _, hp⟩
  have hh : decide (1 ≤ how ∧ how ≤ 3) = (decide (how = 1) || decide (how = 2) || decide (how = 3)) := by
    rw [Bool.eq_iff_iff]
    simp only [decide_eq_true_eq, Bool.or_eq_true]
    omega
  unfold okR reportA
  rw [hf, hh, Bool.and_comm]
/-- a task is done on both or on none -/
theorem Rel.isDone {b : Bd} {m r : Nat} {lim pat : Int} {L : List Tr} (h : Rel b m r lim pat L) (x : Nat) : wonL L (x : Int) = decide ((b.T x).wi ≠ 0) := by
  have hf : wonL L (x : Int) = decide (∃ u ∈ L, wonP (x : Int) u = true) := by
    unfold wonL fstI
    by_cases e : L.findIdx (wonP (x : Int)) < L.length
    · rw [if_pos e, decide_eq_true (by omega), decide_eq_true (List.findIdx_lt_length.1 e)]
    · rw [if_neg e, decide_eq_false (by omega), decide_eq_false (fun k => e (List.findIdx_lt_length.2 k))]
  rw [hf, decide_eq_decide]
  constructor
  · rintro ⟨u, hu, hw⟩
    unfold wonP at hw
    simp only [Bool.and_eq_true, decide_eq_true_eq] at hw
    obtain ⟨_, h2⟩ := h.won u hu hw.2
    obtain ⟨i, hi, rfl⟩ := List.getElem_of_mem hu
    have hn := h.num i hi
    rw [hw.1] at h2
    have hx : ((x : Nat) : Int).toNat = x := by omega
    rw [hx] at h2
    omega
  · intro hw
    obtain ⟨u, hu, h1, h2⟩ := h.some x hw
    exact ⟨u, hu, by simp [wonP, h1, h2]⟩
theorem countP_mod {p : Tr → Bool} (f : Tr → Tr) : ∀ (L : List Tr) (i : Nat) (h : i < L.length), (L.modify i f).countP p + (if p L[i] = true then 1 else 0) = L.countP p + (if p (f L[i]) = true then 1 else 0)
  | u :: L, 0, _ => by
    have hm : (u :: L).modify 0 f = f u :: L := rfl
    rw [hm, List.countP_cons, List.countP_cons]
    show _ + (if p u = true then 1 else 0) = _ + (if p (f u) = true then 1 else 0)
    omega
  | u :: L, i + 1, h => by
    have hm : (u :: L).modify (i + 1) f = u :: L.modify i f := rfl
    have ih := countP_mod (p := p) f L i (by simpa using h)
    rw [hm, List.countP_cons, List.countP_cons]
    show _ + (if p (L[i]'(by simpa using h)) = true then 1 else 0) = _ + (if p (f (L[i]'(by simpa using h))) = true then 1 else 0)
    omega
theorem mod_get (f : Tr → Tr) (L : List Tr) (i i' : Nat) (h' : i' < (L.modify i f).length) : (L.modify i f)[i'] = if i = i' then f (L[i']'(by simpa using h')) else L[i']'(by simpa using h') := by rw [List.getElem_modify]
theorem numL_mod (x : Int) (f : Tr → Tr) (hf : ∀ u, (f u).t = u.t) (L : List Tr) (i i' : Nat) : numL x ((L.modify i f).take i') = numL x (L.take i') := by
  have e : ∀ (A : List Tr) (i : Nat), numL x (A.modify i f) = numL x A := fun A i => by
    by_cases hi : i < A.length
    · have := countP_mod (p := ofP x) f A i hi
      unfold numL
      rw [show ofP x (f A[i]) = ofP x A[i] by simp [ofP, hf]] at this
      omega
    · rw [List.modify_eq_self (by omega)]
  rw [List.take_modify]
  exact e _ _
/-- what a report does to the program's board -/
theorem rep_parts (b : Bd) (x : Nat) (a how : Int) (hin : inB b (x : Int) = true) (hr : runT (b.T x) a = true) (hh : how = 1 ∨ how = 2 ∨ how = 3) :
    (reportB b (x : Int) a how).m = b.m ∧ (reportB b (x : Int) a how).n = b.n ∧ (reportB b (x : Int) a how).lim = b.lim ∧ (reportB b (x : Int) a how).pat = b.pat ∧
    (∀ j, ((reportB b (x : Int) a how).T j).A = if j = x then setSt (b.T x).A (a.toNat - 1) (stA how) else (b.T j).A) ∧
    (∀ j, ((reportB b (x : Int) a how).T j).fu = if j = x ∧ how = 3 then (b.T j).fu + 1 else (b.T j).fu) ∧
    (∀ j, ((reportB b (x : Int) a how).T j).wi = if j = x ∧ how = 1 ∧ (b.T j).wi = 0 then a.toNat else (b.T j).wi) ∧
    (reportB b (x : Int) a how).dead = (b.dead || (decide (how = 3) && decide (b.lim ≤ (((b.T x).fu + 1 : Nat) : Int)))) := by
  have e : reportB b (x : Int) a how = if how = 1 then winB (endB b x (a.toNat - 1) 1) x a.toNat else if how = 2 then endB b x (a.toNat - 1) 2 else if how = 3 then endB (fulB b x) x (a.toNat - 1) 2 else b := by
    unfold reportB
    rw [Int.toNat_natCast, hin, hr]
    rfl
  rw [e]
  rcases hh with rfl | rfl | rfl
  · rw [if_pos rfl]
    have hw : ((endB b x (a.toNat - 1) 1).T x).wi = (b.T x).wi := by simp [endB, setTk, updN]
    unfold winB
    rw [hw]
    by_cases h0 : (b.T x).wi = 0
    · rw [if_pos h0]
      refine ⟨rfl, rfl, rfl, rfl, fun j => ?_, fun j => ?_, fun j => ?_, ?_⟩
      · by_cases ej : j = x
        · subst ej; simp [endB, setTk, updN, stA]
        · simp [endB, setTk, updN, ej]
      · by_cases ej : j = x
        · subst ej; simp [endB, setTk, updN]
        · simp [endB, setTk, updN, ej]
      · by_cases ej : j = x
        · subst ej; simp [endB, setTk, updN, h0]
        · simp [endB, setTk, updN, ej]
      · simp [endB, setTk]
    · rw [if_neg h0]
      refine ⟨rfl, rfl, rfl, rfl, fun j => ?_, fun j => ?_, fun j => ?_, ?_⟩
      · by_cases ej : j = x
        · subst ej; simp [endB, setTk, updN, stA]
        · simp [endB, setTk, updN, ej]
      · by_cases ej : j = x
        · subst ej; simp [endB, setTk, updN]
        · simp [endB, setTk, updN, ej]
      · by_cases ej : j = x
        · subst ej; simp [endB, setTk, updN, h0]
        · simp [endB, setTk, updN, ej]
      · simp [endB, setTk]
  · rw [if_neg (by decide), if_pos rfl]
    refine ⟨rfl, rfl, rfl, rfl, fun j => ?_, fun j => ?_, fun j => ?_, ?_⟩
    · by_cases ej : j = x
      · subst ej; simp [endB, setTk, updN, stA]
      · simp [endB, setTk, updN, ej]
    · by_cases ej : j = x
      · subst ej; simp [endB, setTk, updN]
      · simp [endB, setTk, updN, ej]
    · by_cases ej : j = x
      · subst ej; simp [endB, setTk, updN]
      · simp [endB, setTk, updN, ej]
    · simp [endB, setTk]
  · rw [if_neg (by decide), if_neg (by decide), if_pos rfl]
    refine ⟨rfl, rfl, rfl, rfl, fun j => ?_, fun j => ?_, fun j => ?_, ?_⟩
    · by_cases ej : j = x
      · subst ej; simp [endB, fulB, setTk, updN, stA]
      · simp [endB, fulB, setTk, updN, ej]
    · by_cases ej : j = x
      · subst ej; simp [endB, fulB, setTk, updN]
      · simp [endB, fulB, setTk, updN, ej]
    · by_cases ej : j = x
      · subst ej; simp [endB, fulB, setTk, updN]
      · simp [endB, fulB, setTk, updN, ej]
    · simp [endB, fulB, setTk]
theorem rep_none (b : Bd) (x a how : Int) (h : reportA b x a how = false) : reportB b x a how = b := by
  unfold reportA at h
  unfold reportB
  split
  · rename_i hc
    rw [hc, Bool.true_and] at h
    simp only [Bool.or_eq_false_iff, decide_eq_false_iff_not] at h
    rw [if_neg h.1.1, if_neg h.1.2, if_neg h.2]
  · rfl
theorem deadL_iff (m r : Nat) (lim : Int) (L : List Tr) : deadL m r lim L = true ↔ ∃ j : Nat, j < m + r ∧ lim ≤ (fulL (j : Int) L : Int) := by
  unfold deadL aliL
  simp only [Bool.not_eq_true', List.all_eq_false, List.mem_range, decide_eq_true_eq, Decidable.not_not]
/-- a report -/
theorem Rel.report {b : Bd} {m r : Nat} {lim pat : Int} {L : List Tr} (h : Rel b m r lim pat L) (x a how : Int) : Rel (reportB b x a how) m r lim pat (repR L x a how) := by
  by_cases hok : okR L x a how = true
  · have hrep := hok
    rw [h.report_ok] at hrep
    unfold reportA at hrep
    simp only [Bool.and_eq_true, Bool.or_eq_true, decide_eq_true_eq] at hrep
    obtain ⟨⟨hin, hrun⟩, hhow⟩ := hrep
    have hhow : how = 1 ∨ how = 2 ∨ how = 3 := by omega
    have hin' := hin
    unfold inB at hin'
    rw [decide_eq_true_eq, h.hn] at hin'
    obtain ⟨xn, rfl⟩ : ∃ k : Nat, x = (k : Int) := ⟨x.toNat, by omega⟩
    rw [Int.toNat_natCast] at hrun
    obtain ⟨p1, p2, p3, p4, p5, p6, p7, p8⟩ := rep_parts b xn a how hin hrun hhow
    have hi : L.findIdx (repP (xn : Int) a) < L.length := by
      unfold okR at hok
      simp only [Bool.and_eq_true, decide_eq_true_eq] at hok
      exact hok.2
    have hp := List.findIdx_getElem (w := hi)
    have eL : repR L (xn : Int) a how = L.modify (L.findIdx (repP (xn : Int) a)) (wTr (decide (how = 1) && !wonL L (xn : Int)) ∘ stTr how) := by
      unfold repR
      rw [if_pos hok, List.modify_modify_eq]
    obtain ⟨i, hie⟩ : ∃ i, i = L.findIdx (repP (xn : Int) a) := ⟨_, rfl⟩
    obtain ⟨f, hfe⟩ : ∃ f : Tr → Tr, f = wTr (decide (how = 1) && !wonL L (xn : Int)) ∘ stTr how := ⟨_, rfl⟩
    rw [← hie, ← hfe] at eL
    have hi0 : i < L.length := by rw [hie]; exact hi
    have hp0 : repP (xn : Int) a L[i] = true := by simp only [hie]; exact hp
    clear hp
    replace hi := hi0
    have hp := hp0
    rw [eL]
    have hft : ∀ u, (f u).t = u.t ∧ (f u).k = u.k ∧ (f u).st = how ∧ (f u).w = (decide (how = 1) && !wonL L (xn : Int)) ∧ attR (f u) = { attR u with st := stA how } := fun u => by rw [hfe]; exact ⟨rfl, rfl, rfl, rfl, rfl⟩
    unfold repP at hp
    simp only [Bool.and_eq_true, decide_eq_true_eq] at hp
    obtain ⟨ht, hk, hs0⟩ := hp
    have hn := h.num i hi
    rw [ht, hk] at hn
    have hdone := h.isDone xn
    -- the count of full ones
    have hful : ∀ y : Int, fulL y (L.modify i f) = if y = (xn : Int) ∧ how = 3 then fulL y L + 1 else fulL y L := fun y => by
      have hc := countP_mod (p := fulP y) f L i hi
      have e1 : fulP y L[i] = false := by simp [fulP, hs0]
      have e2 : fulP y (f L[i]) = (decide ((xn : Int) = y) && decide (how = 3)) := by simp [fulP, (hft _).1, (hft _).2.2.1, ht]
      rw [e1, e2, if_neg (by decide)] at hc
      unfold fulL
      by_cases c : y = (xn : Int) ∧ how = 3
      · rw [if_pos c]
        rw [if_pos (by simp [c.1, c.2])] at hc
        omega
      · rw [if_neg c]
        rw [if_neg (by simp; intro k1 k2; exact c ⟨k1.symm, k2⟩)] at hc
        omega
    have hoff : ∀ i' (h' : i' < L.length), i' ≠ i → (L.modify i f)[i']'(by simpa using h') = L[i'] := fun i' h' hne => by rw [mod_get, if_neg (fun e => hne e.symm)]
    have hon : (L.modify i f)[i]'(by simpa using hi) = f L[i] := by rw [mod_get, if_pos rfl]
    refine ⟨p1.trans h.hm, p2.trans h.hn, p3.trans h.hlim, p4.trans h.hpat, ?_, fun j => ?_, fun j => ?_, fun i' hi' => ?_, fun u hu => ?_, fun u hu hw => ?_, fun j hj => ?_⟩
    · rw [p8, h.dead, h.hlim, h.fu xn, Bool.eq_iff_iff, Bool.or_eq_true, Bool.and_eq_true, decide_eq_true_eq, decide_eq_true_eq, deadL_iff, deadL_iff]
      constructor
      · rintro (⟨j, hj, hl⟩ | ⟨h3, hl⟩)
        · refine ⟨j, hj, ?_⟩
          rw [hful]
          split <;> omega
        · refine ⟨xn, by omega, ?_⟩
          rw [hful, if_pos ⟨rfl, h3⟩]
          exact hl
      · rintro ⟨j, hj, hl⟩
        rw [hful] at hl
        split at hl
        · rename_i c
          refine .inr ⟨c.2, ?_⟩
          have : (j : Int) = (xn : Int) := c.1
          rwa [this] at hl
        · exact .inl ⟨j, hj, hl⟩
    · rw [p5]
      by_cases e : j = xn
      · subst e
        rw [if_pos rfl, h.att j, attL_mod (j : Int) f (fun t => { t with st := stA how }) (fun u => (hft u).1) (fun u => (hft u).2.2.2.2) L i hi ht]
        unfold setSt
        rw [show a.toNat - 1 = numL (j : Int) (L.take i) by omega]
      · rw [if_neg e, attL_off (j : Int) f (fun u => (hft u).1) L i hi (by rw [ht]; omega)]
        exact h.att j
    · rw [p6, hful, h.fu j]
      by_cases e : j = xn ∧ how = 3
      · rw [if_pos e, if_pos ⟨by omega, e.2⟩]
      · rw [if_neg e, if_neg (fun k => e ⟨by omega, k.2⟩)]
    · have hl : i' < L.length := by simpa using hi'
      rw [numL_mod _ f (fun u => (hft u).1)]
      by_cases e : i' = i
      · subst e
        rw [hon, (hft _).1, (hft _).2.1]
        exact h.num i' hl
      · rw [hoff i' hl e]
        exact h.num i' hl
    · obtain ⟨i', hi', rfl⟩ := List.getElem_of_mem hu
      have hl : i' < L.length := by simpa using hi'
      by_cases e : i' = i
      · subst e
        rw [hon, (hft _).1]
        exact h.rng _ (List.getElem_mem _)
      · rw [hoff i' hl e]
        exact h.rng _ (List.getElem_mem _)
    · obtain ⟨i', hi', rfl⟩ := List.getElem_of_mem hu
      have hl : i' < L.length := by simpa using hi'
      by_cases e : i' = i
      · subst e
        rw [hon] at hw ⊢
        rw [(hft _).2.2.2.1, hdone] at hw
        simp only [Bool.and_eq_true, decide_eq_true_eq, Bool.not_eq_true', decide_eq_false_iff_not, Decidable.not_not] at hw
        rw [(hft _).2.2.1, (hft _).1, (hft _).2.1, ht, hk, Int.toNat_natCast, p7, if_pos ⟨rfl, hw.1, hw.2⟩]
        exact ⟨hw.1, by omega⟩
      · rw [hoff i' hl e] at hw ⊢
        obtain ⟨h1, h2⟩ := h.won _ (List.getElem_mem _) hw
        refine ⟨h1, ?_⟩
        rw [p7]
        split
        · rename_i c
          have hn' := h.num i' hl
          rw [c.2.2] at h2
          omega
        · exact h2
    · rw [p7] at hj
      by_cases hw0 : (b.T j).wi = 0
      · rw [hw0] at hj
        by_cases c : j = xn ∧ how = 1 ∧ (0 : Nat) = 0
        · refine ⟨f L[i], ?_, by rw [(hft _).1, ht, c.1], ?_⟩
          · rw [← hon]; exact List.getElem_mem _
          · rw [(hft _).2.2.2.1, hdone, ← c.1, hw0, c.2.1]; rfl
        · rw [if_neg c] at hj
          exact absurd rfl hj
      · obtain ⟨u, hu, h1, h2⟩ := h.some j hw0
        obtain ⟨i', hi', rfl⟩ := List.getElem_of_mem hu
        have hne : i' ≠ i := fun e => by
          subst e
          obtain ⟨k1, _⟩ := h.won _ hu h2
          rw [hs0] at k1
          cases k1
        refine ⟨L[i'], ?_, h1, h2⟩
        rw [← hoff i' hi' hne]
        exact List.getElem_mem _
  · have hno : okR L x a how = false := by simpa using hok
    have e1 : repR L x a how = L := by unfold repR; rw [if_neg hok]
    rw [h.report_ok] at hno
    rw [e1, rep_none b x a how hno]
    exact h
/-- the winner's place -/
theorem Rel.winner {b : Bd} {m r : Nat} {lim pat : Int} {L : List Tr} (h : Rel b m r lim pat L) (x : Nat) (hw : (b.T x).wi ≠ 0) :
    ∃ i, ∃ hi : i < L.length, i = L.findIdx (wonP (x : Int)) ∧ fstI (wonP (x : Int)) L = (i : Int) ∧ L[i].t = (x : Int) ∧ L[i].w = true ∧ L[i].k = ((b.T x).wi : Int) ∧ L[i].st = 1 := by
  obtain ⟨u, hu, h1, h2⟩ := h.some x hw
  have hlt : L.findIdx (wonP (x : Int)) < L.length := List.findIdx_lt_length.2 ⟨u, hu, by simp [wonP, h1, h2]⟩
  have hp := List.findIdx_getElem (w := hlt)
  obtain ⟨i, hie⟩ : ∃ i, i = L.findIdx (wonP (x : Int)) := ⟨_, rfl⟩
  have hi : i < L.length := by rw [hie]; exact hlt
  have hpi : wonP (x : Int) L[i] = true := by simp only [hie]; exact hp
  unfold wonP at hpi
  simp only [Bool.and_eq_true, decide_eq_true_eq] at hpi
  obtain ⟨k1, k2⟩ := h.won _ (List.getElem_mem hi) hpi.2
  rw [hpi.1, Int.toNat_natCast] at k2
  exact ⟨i, hi, hie, by unfold fstI; rw [if_pos hlt, hie], hpi.1, hpi.2, k2.symm, k1⟩
theorem Rel.lost_ok {b : Bd} {m r : Nat} {lim pat : Int} {L : List Tr} (h : Rel b m r lim pat L) (x a : Int) : okL m L x a = lostA b x a := by
  by_cases hx : 0 ≤ x ∧ x < (m : Int)
  · obtain ⟨xn, rfl⟩ : ∃ k : Nat, x = (k : Int) := ⟨x.toNat, by omega⟩
    have e1 : inB b (xn : Int) = true := by unfold inB; rw [decide_eq_true_eq, h.hn]; omega
    have hd := h.isDone xn
    unfold wonL at hd
    unfold okL lostA
    rw [e1, Int.toNat_natCast, h.hm, decide_eq_true hx.1, decide_eq_true hx.2, hd]
    by_cases hw : (b.T xn).wi = 0
    · simp [hw]
    · obtain ⟨i, hi, _, e2, _, _, e3, _⟩ := h.winner xn hw
      have e4 : numAt L (fstI (wonP (xn : Int)) L) a = decide (((b.T xn).wi : Int) = a) := by
        unfold numAt
        rw [e2, Int.toNat_natCast, List.getElem?_eq_getElem hi]
        show decide (L[i].k = a) = _
        rw [e3]
      rw [e4]
      simp [hw]
  · unfold okL lostA
    by_cases h0 : 0 ≤ x
    · have h1 : ¬ x < (m : Int) := fun k => hx ⟨h0, k⟩
      rw [h.hm, decide_eq_false h1]
      simp
    · have e1 : inB b x = false := by unfold inB; rw [decide_eq_false_iff_not]; omega
      rw [decide_eq_false h0, e1]
      simp
/-- what a task had made is lost -/
theorem Rel.lost {b : Bd} {m r : Nat} {lim pat : Int} {L : List Tr} (h : Rel b m r lim pat L) (x a : Int) : Rel (lostB b x a) m r lim pat (losR m L x a) := by
  by_cases hok : okL m L x a = true
  · have hla := hok
    rw [h.lost_ok] at hla
    have eB : lostB b x a = setTk b x.toNat (losT (b.T x.toNat)) := by unfold lostB; rw [if_pos hla]
    unfold lostA at hla
    simp only [Bool.and_eq_true, decide_eq_true_eq, bne_iff_ne] at hla
    obtain ⟨hin, hxm, hw, hwa⟩ := hla
    unfold inB at hin
    rw [decide_eq_true_eq, h.hn] at hin
    obtain ⟨xn, rfl⟩ : ∃ k : Nat, x = (k : Int) := ⟨x.toNat, by omega⟩
    rw [Int.toNat_natCast] at hw hwa eB
    obtain ⟨i, hi, hie, hfi, ht, _, hk, hs1⟩ := h.winner xn hw
    obtain ⟨f, hfe⟩ : ∃ f : Tr → Tr, f = wTr false ∘ stTr 4 := ⟨_, rfl⟩
    have eL : losR m L (xn : Int) a = L.modify i f := by
      unfold losR
      rw [if_pos hok, hfi, Int.toNat_natCast, List.modify_modify_eq, hfe]
    rw [eB, eL]
    have hft : ∀ u, (f u).t = u.t ∧ (f u).k = u.k ∧ (f u).st = 4 ∧ (f u).w = false ∧ attR (f u) = { attR u with st := 3 } := fun u => by rw [hfe]; exact ⟨rfl, rfl, rfl, rfl, rfl⟩
    have hn := h.num i hi
    rw [ht, hk] at hn
    have hful : ∀ y : Int, fulL y (L.modify i f) = fulL y L := fun y => by
      have hc := countP_mod (p := fulP y) f L i hi
      rw [show fulP y L[i] = false by simp [fulP, hs1], show fulP y (f L[i]) = false by simp [fulP, (hft _).2.2.1], if_neg (by decide)] at hc
      exact hc
    have hoff : ∀ i' (h' : i' < L.length), i' ≠ i → (L.modify i f)[i']'(by simpa using h') = L[i'] := fun i' h' hne => by rw [mod_get, if_neg (fun e => hne e.symm)]
    have hon : (L.modify i f)[i]'(by simpa using hi) = f L[i] := by rw [mod_get, if_pos rfl]
    have hT : ∀ j, (setTk b xn (losT (b.T xn))).T j = if j = xn then losT (b.T xn) else b.T j := fun j => rfl
    refine ⟨h.hm, h.hn, h.hlim, h.hpat, ?_, fun j => ?_, fun j => ?_, fun i' hi' => ?_, fun u hu => ?_, fun u hu hw' => ?_, fun j hj => ?_⟩
    · show b.dead = _
      rw [deadL_congr hful]
      exact h.dead
    · rw [hT]
      by_cases e : j = xn
      · subst e
        rw [if_pos rfl, attL_mod (j : Int) f (fun t => { t with st := 3 }) (fun u => (hft u).1) (fun u => (hft u).2.2.2.2) L i hi ht]
        show setSt (b.T j).A ((b.T j).wi - 1) 3 = _
        rw [h.att j]
        unfold setSt
        rw [show (b.T j).wi - 1 = numL (j : Int) (L.take i) by omega]
      · rw [if_neg e, attL_off (j : Int) f (fun u => (hft u).1) L i hi (by rw [ht]; omega)]
        exact h.att j
    · rw [hful, hT, ← h.fu j]
      by_cases e : j = xn
      · subst e; rw [if_pos rfl]; rfl
      · rw [if_neg e]
    · have hl : i' < L.length := by simpa using hi'
      rw [numL_mod _ f (fun u => (hft u).1)]
      by_cases e : i' = i
      · subst e
        rw [hon, (hft _).1, (hft _).2.1]
        exact h.num i' hl
      · rw [hoff i' hl e]
        exact h.num i' hl
    · obtain ⟨i', hi', rfl⟩ := List.getElem_of_mem hu
      have hl : i' < L.length := by simpa using hi'
      by_cases e : i' = i
      · subst e
        rw [hon, (hft _).1]
        exact h.rng _ (List.getElem_mem _)
      · rw [hoff i' hl e]
        exact h.rng _ (List.getElem_mem _)
    · obtain ⟨i', hi', rfl⟩ := List.getElem_of_mem hu
      have hl : i' < L.length := by simpa using hi'
      by_cases e : i' = i
      · subst e
        rw [hon, (hft _).2.2.2.1] at hw'
        cases hw'
      · rw [hoff i' hl e] at hw' ⊢
        obtain ⟨h1, h2⟩ := h.won _ (List.getElem_mem hl) hw'
        refine ⟨h1, ?_⟩
        have hg := h.rng _ (List.getElem_mem hl)
        have hne : L[i'].t.toNat ≠ xn := fun e2 => e (h.one hl hi (by rw [ht]; omega) (by rw [hk, ← h2, e2]))
        rw [hT, if_neg hne]
        exact h2
    · rw [hT] at hj
      by_cases e : j = xn
      · subst e
        rw [if_pos rfl] at hj
        exact absurd rfl hj
      · rw [if_neg e] at hj
        obtain ⟨u, hu, h1, h2⟩ := h.some j hj
        obtain ⟨i', hi', rfl⟩ := List.getElem_of_mem hu
        have hne : i' ≠ i := fun e2 => by
          subst e2
          rw [ht] at h1
          omega
        refine ⟨L[i'], ?_, h1, h2⟩
        rw [← hoff i' hi' hne]
        exact List.getElem_mem _
  · have hno : okL m L x a = false := by simpa using hok
    have e1 : losR m L x a = L := by unfold losR; rw [if_neg hok]
    rw [h.lost_ok] at hno
    have e2 : lostB b x a = b := by unfold lostB; rw [if_neg (by rw [hno]; decide)]
    rw [e1, e2]
    exact h
end Go.Proofs.Ytapnlofklgknmaa
