/- Package disk: files and changes as plain lists. No program. -/
import Derived.Lib.Strings
import Derived.Laws.Strings
namespace Go.Proofs.YtmlikkjahkdilaaGreatDoor

structure Fl where
  n : ByteArray
  d : ByteArray
/-- the order of texts -/
def blt (a b : ByteArray) : Bool := decide (a.data.toList < b.data.toList)
theorem blt_irrefl (a : ByteArray) : blt a a = false := by simp [blt, List.lt_irrefl]
theorem blt_trans {a b c : ByteArray} (h : blt a b = true) (k : blt b c = true) : blt a c = true := by
  simp only [blt, decide_eq_true_eq] at *
  exact List.lt_trans h k
theorem blt_total {a b : ByteArray} (h : ¬ a = b) (k : blt a b = false) : blt b a = true := by
  simp only [blt, decide_eq_false_iff_not, decide_eq_true_eq] at *
  have hne : ¬ a.data.toList = b.data.toList := fun e => h (ByteArray.ext (Array.toList_inj.1 e))
  have h1 : b.data.toList ≤ a.data.toList := List.not_lt.1 k
  rcases List.le_total a.data.toList b.data.toList with h2 | h2
  · exact absurd (List.le_antisymm h2 h1) hne
  · exact Decidable.byContradiction fun h3 => hne (List.le_antisymm (List.not_lt.1 h3) h1)
abbrev Fs := List Fl
abbrev SrtF (L : Fs) : Prop := L.Pairwise fun x y => blt x.n y.n = true
def getF (L : Fs) (q : ByteArray) : Option ByteArray := (L.find? fun x => decide (x.n = q)).map (·.d)
def delF (L : Fs) (q : ByteArray) : Fs := L.filter fun x => !decide (x.n = q)
def insF (l : Fl) : Fs → Fs
  | [] => [l]
  | x :: L => if blt x.n l.n then x :: insF l L else l :: x :: L
def putF (L : Fs) (q d : ByteArray) : Fs := insF ⟨q, d⟩ (delF L q)
def totF (L : Fs) : Nat := (L.map fun x => x.d.size).sum
def namesF (L : Fs) : List ByteArray := L.map (·.n)
theorem getF_nil (q : ByteArray) : getF [] q = none := rfl
theorem getF_cons (x : Fl) (L : Fs) (q : ByteArray) : getF (x :: L) q = if x.n = q then some x.d else getF L q := by
  unfold getF
  by_cases h : x.n = q <;> simp [h]
theorem getF_none {L : Fs} {q : ByteArray} : getF L q = none ↔ ∀ x ∈ L, ¬ x.n = q := by
  induction L with
  | nil => simp [getF]
  | cons x L ih =>
    rw [getF_cons]
    by_cases h : x.n = q <;> simp [h, ih]
theorem mem_insF (l x : Fl) : ∀ L : Fs, x ∈ insF l L ↔ x = l ∨ x ∈ L
  | [] => by simp [insF]
  | y :: L => by
    unfold insF
    split
    · rw [List.mem_cons, mem_insF l x L, List.mem_cons]
      constructor
      · rintro (h | h | h)
        · exact .inr (.inl h)
        · exact .inl h
        · exact .inr (.inr h)
      · rintro (h | h | h)
        · exact .inr (.inl h)
        · exact .inl h
        · exact .inr (.inr h)
    · simp
theorem mem_delF (L : Fs) (q : ByteArray) (x : Fl) : x ∈ delF L q ↔ x ∈ L ∧ ¬ x.n = q := by simp [delF]
theorem srt_delF {L : Fs} (h : SrtF L) (q : ByteArray) : SrtF (delF L q) := h.filter _
theorem srt_insF (l : Fl) : ∀ {L : Fs}, SrtF L → (∀ x ∈ L, ¬ x.n = l.n) → SrtF (insF l L)
  | [], _, _ => by simp [insF]
  | y :: L, h, hn => by
    obtain ⟨h1, h2⟩ := List.pairwise_cons.1 h
    unfold insF
    split
    · next hy =>
      refine List.pairwise_cons.2 ⟨fun z hz => ?_, srt_insF l h2 (fun x hx => hn x (by simp [hx]))⟩
      rcases (mem_insF l z L).1 hz with rfl | hz
      · exact hy
      · exact h1 z hz
    · next hy =>
      have hly : blt l.n y.n = true := blt_total (hn y (by simp)) (by simpa using hy)
      refine List.pairwise_cons.2 ⟨fun z hz => ?_, h⟩
      rcases List.mem_cons.1 hz with rfl | hz
      · exact hly
      · exact blt_trans hly (h1 z hz)
theorem srt_putF {L : Fs} (h : SrtF L) (q d : ByteArray) : SrtF (putF L q d) := srt_insF _ (srt_delF h q) fun x hx => ((mem_delF _ _ _).1 hx).2
theorem getF_delF (L : Fs) (q r : ByteArray) : getF (delF L q) r = if r = q then none else getF L r := by
  induction L with
  | nil => simp [delF, getF]
  | cons x L ih =>
    unfold delF at ih ⊢
    by_cases h : x.n = q
    · rw [List.filter_cons_of_neg (by simp [h]), ih, getF_cons]
      by_cases h2 : r = q
      · simp [h2]
      · rw [if_neg h2, if_neg h2, if_neg (fun e => h2 (e.symm.trans h))]
    · rw [List.filter_cons_of_pos (by simp [h]), getF_cons, getF_cons, ih]
      by_cases h2 : r = q
      · subst h2; simp [h]
      · simp [h2]
theorem getF_insF (l : Fl) (r : ByteArray) : ∀ L : Fs, (∀ x ∈ L, ¬ x.n = l.n) → getF (insF l L) r = if r = l.n then some l.d else getF L r
  | [], _ => by
    unfold insF
    rw [getF_cons]
    by_cases h : r = l.n
    · simp [h]
    · rw [if_neg h, if_neg (fun e => h e.symm)]
  | y :: L, hn => by
    unfold insF
    split
    · rw [getF_cons, getF_insF l r L (fun x hx => hn x (by simp [hx])), getF_cons]
      by_cases h : r = l.n
      · subst h
        rw [if_neg (hn y (by simp))]
        simp
      · simp [h]
    · rw [getF_cons]
      by_cases h : r = l.n
      · simp [h]
      · rw [if_neg (fun e => h e.symm), if_neg h]
theorem getF_putF (L : Fs) (q d r : ByteArray) : getF (putF L q d) r = if r = q then some d else getF L r := by
  unfold putF
  rw [getF_insF _ _ _ (fun x hx => ((mem_delF _ _ _).1 hx).2), getF_delF]
  by_cases h : r = q <;> simp [h]
theorem getF_mem {L : Fs} {q d : ByteArray} (h : getF L q = some d) : ⟨q, d⟩ ∈ L := by
  unfold getF at h
  cases hf : L.find? (fun x => decide (x.n = q)) with
  | none => rw [hf] at h; cases h
  | some x =>
    rw [hf] at h
    simp only [Option.map_some, Option.some.injEq] at h
    have h1 := List.mem_of_find?_eq_some hf
    have h2 : x.n = q := by simpa using List.find?_some hf
    rw [← h, ← h2]
    exact h1
theorem mem_getF {L : Fs} (hs : SrtF L) {x : Fl} (h : x ∈ L) : getF L x.n = some x.d := by
  induction L with
  | nil => cases h
  | cons y L ih =>
    obtain ⟨h1, h2⟩ := List.pairwise_cons.1 hs
    rw [getF_cons]
    rcases List.mem_cons.1 h with rfl | h
    · simp
    · rw [if_neg (fun e => by have := h1 x h; rw [e, blt_irrefl] at this; cases this)]
      exact ih h2 h
theorem tot_insF (l : Fl) : ∀ L : Fs, totF (insF l L) = l.d.size + totF L
  | [] => by simp [insF, totF]
  | y :: L => by
    unfold insF
    split
    · have := tot_insF l L
      simp only [totF, List.map_cons, List.sum_cons] at this ⊢
      omega
    · simp [totF]
theorem tot_delF {L : Fs} (hs : SrtF L) (q : ByteArray) : totF (delF L q) + ((getF L q).map (·.size)).getD 0 = totF L := by
  induction L with
  | nil => rfl
  | cons x L ih =>
    obtain ⟨h1, h2⟩ := List.pairwise_cons.1 hs
    have ih := ih h2
    rw [getF_cons]
    unfold delF at ih ⊢
    by_cases h : x.n = q
    · rw [List.filter_cons_of_neg (by simp [h]), if_pos h]
      have hno : getF L q = none := getF_none.2 fun y hy e => by
        have := h1 y hy
        rw [h, e, blt_irrefl] at this
        cases this
      rw [hno] at ih
      simp only [Option.map_none, Option.getD_none, Nat.add_zero] at ih
      rw [ih]
      simp only [totF, List.map_cons, List.sum_cons, Option.map_some, Option.getD_some]
      omega
    · rw [List.filter_cons_of_pos (by simp [h]), if_neg h]
      simp only [totF, List.map_cons, List.sum_cons] at ih ⊢
      omega
theorem tot_putF {L : Fs} (hs : SrtF L) (q d : ByteArray) : totF (putF L q d) + ((getF L q).map (·.size)).getD 0 = totF L + d.size := by
  unfold putF
  rw [tot_insF]
  have := tot_delF hs q
  simp only
  omega
theorem size_le_tot {L : Fs} {q d : ByteArray} (h : getF L q = some d) : d.size ≤ totF L := by
  have hm := getF_mem h
  clear h
  induction L with
  | nil => cases hm
  | cons y L ih =>
    simp only [totF, List.map_cons, List.sum_cons] at ih ⊢
    rcases List.mem_cons.1 hm with e | hm
    · rw [← e]; simp only; omega
    · have := ih hm; omega
/-- a change -/
inductive Chg
  | app (n d : ByteArray)
  | ren (a b : ByteArray)
  | del (a : ByteArray)
def orE (o : Option ByteArray) : ByteArray := o.getD ByteArray.empty
def doC (L : Fs) : Chg → Fs
  | .app n d => putF L n (orE (getF L n) ++ d)
  | .ren a b => delF (putF L b (orE (getF L a))) a
  | .del a => delF L a
def held (L : Fs) (cs : List Chg) : Fs := cs.foldl doC L
theorem held_nil (L : Fs) : held L [] = L := rfl
theorem held_app (L : Fs) (cs ds : List Chg) : held L (cs ++ ds) = held (held L cs) ds := List.foldl_append
theorem held_one (L : Fs) (cs : List Chg) (c : Chg) : held L (cs ++ [c]) = doC (held L cs) c := by rw [held_app]; rfl
theorem srt_doC {L : Fs} (h : SrtF L) (c : Chg) : SrtF (doC L c) := by
  cases c with
  | app n d => exact srt_putF h _ _
  | ren a b => exact srt_delF (srt_putF h _ _) _
  | del a => exact srt_delF h _
theorem srt_held {L : Fs} (h : SrtF L) (cs : List Chg) : SrtF (held L cs) := by
  induction cs generalizing L with
  | nil => exact h
  | cons c cs ih => exact ih (srt_doC h c)
/-- a change's weight: what it may add -/
def wtC : Chg → Nat
  | .app _ d => d.size
  | _ => 0
/-- a change's names are no longer than names may be -/
def okC : Chg → Prop
  | .app n _ => n.size ≤ 64
  | .ren a b => a.size ≤ 64 ∧ b.size ≤ 64 ∧ ¬ a = b
  | .del a => a.size ≤ 64
def wts (cs : List Chg) : Nat := (cs.map wtC).sum
theorem wts_app (cs ds : List Chg) : wts (cs ++ ds) = wts cs + wts ds := by simp [wts]
theorem orE_size (o : Option ByteArray) : (orE o).size = (o.map (·.size)).getD 0 := by cases o <;> rfl
theorem tot_doC {L : Fs} (h : SrtF L) (c : Chg) (hc : okC c) : totF (doC L c) ≤ totF L + wtC c := by
  cases c with
  | app n d =>
    have h1 := tot_putF h n (orE (getF L n) ++ d)
    rw [ByteArray.size_append, orE_size] at h1
    simp only [doC, wtC]
    omega
  | ren a b =>
    have h1 := tot_putF h b (orE (getF L a))
    have h2 := tot_delF (srt_putF h b (orE (getF L a))) a
    rw [getF_putF, if_neg hc.2.2] at h2
    rw [orE_size] at h1
    simp only [doC, wtC]
    omega
  | del a =>
    have h2 := tot_delF h a
    simp only [doC, wtC]
    omega
theorem tot_held {L : Fs} (h : SrtF L) (cs : List Chg) (hc : ∀ c ∈ cs, okC c) : totF (held L cs) ≤ totF L + wts cs := by
  induction cs generalizing L with
  | nil => exact Nat.le_refl _
  | cons c cs ih =>
    have h1 := ih (srt_doC h c) (fun x hx => hc x (by simp [hx]))
    have h2 := tot_doC h c (hc c (by simp))
    simp only [wts, List.map_cons, List.sum_cons] at h1 ⊢
    show totF (held (doC L c) cs) ≤ _
    omega
/-- the names stay names -/
def NmF (L : Fs) : Prop := ∀ x ∈ L, x.n.size ≤ 64
theorem nm_doC {L : Fs} (h : NmF L) (c : Chg) (hc : okC c) : NmF (doC L c) := by
  have hp : ∀ (L : Fs) (q d : ByteArray), NmF L → q.size ≤ 64 → NmF (putF L q d) := fun L q d h hq x hx => by
    rcases (mem_insF _ _ _).1 hx with rfl | hx
    · exact hq
    · exact h x ((mem_delF _ _ _).1 hx).1
  have hd : ∀ (L : Fs) (q : ByteArray), NmF L → NmF (delF L q) := fun L q h x hx => h x ((mem_delF _ _ _).1 hx).1
  cases c with
  | app n d => exact hp _ _ _ h hc
  | ren a b => exact hd _ _ (hp _ _ _ h hc.2.1)
  | del a => exact hd _ _ h
theorem nm_held {L : Fs} (h : NmF L) (cs : List Chg) (hc : ∀ c ∈ cs, okC c) : NmF (held L cs) := by
  induction cs generalizing L with
  | nil => exact h
  | cons c cs ih => exact ih (nm_doC h c (hc c (by simp))) (fun x hx => hc x (by simp [hx]))
theorem len_insF (l : Fl) : ∀ L : Fs, (insF l L).length = L.length + 1
  | [] => rfl
  | y :: L => by
    unfold insF
    split
    · simp [len_insF l L]
    · rfl
theorem len_putF (L : Fs) (q d : ByteArray) : (putF L q d).length ≤ L.length + 1 := by
  unfold putF
  rw [len_insF]
  have : (delF L q).length ≤ L.length := List.length_filter_le _ _
  omega
theorem len_doC (L : Fs) (c : Chg) : (doC L c).length ≤ L.length + 1 := by
  cases c with
  | app n d => exact len_putF _ _ _
  | ren a b => exact Nat.le_trans (List.length_filter_le _ _) (len_putF _ _ _)
  | del a => exact Nat.le_trans (List.length_filter_le _ _) (Nat.le_succ _)
theorem len_held (L : Fs) (cs : List Chg) : (held L cs).length ≤ L.length + cs.length := by
  induction cs generalizing L with
  | nil => exact Nat.le_refl _
  | cons c cs ih =>
    have h1 := ih (doC L c)
    have h2 := len_doC L c
    show (held (doC L c) cs).length ≤ _
    simp only [List.length_cons]
    omega
theorem names_rise {L : Fs} (h : SrtF L) : (namesF L).Pairwise fun x y => blt x y = true := List.Pairwise.map _ (fun _ _ h => h) h
end Go.Proofs.YtmlikkjahkdilaaGreatDoor
