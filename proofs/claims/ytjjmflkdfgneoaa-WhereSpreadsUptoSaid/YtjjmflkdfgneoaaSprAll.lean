/- where.Spread and the reference's: the very same list, of any place and of what is none. -/
import Derived.Test.YtjjmflkdfgneoaaSprRef
namespace Go.Proofs.Ytjjmflkdfgneoaa
open Go.RowKit

theorem nearF_one {n : Nat} {D : Nat → Int} {f g : Nat → Nat} (hf : NearF n D f) (hg : NearF n D g) : ∀ i, i < n → f i = g i := by
  have main : ∀ m i, i < m → i < n → f i = g i := by
    intro m
    induction m with
    | zero => intro i h; omega
    | succ m ih =>
      intro i him hi
      have hlo : ∀ j, j < i → f j = g j := fun j hj => ih j (by omega) (by omega)
      obtain ⟨f1, f2, f3⟩ := hf
      obtain ⟨g1, g2, g3⟩ := hg
      have finj : ∀ a b, a < b → b < n → f a ≠ f b := fun a b h1 h2 e => by have := f3 a b h1 h2; rw [e] at this; omega
      have ginj : ∀ a b, a < b → b < n → g a ≠ g b := fun a b h1 h2 e => by have := g3 a b h1 h2; rw [e] at this; omega
      obtain ⟨a, ha, ea⟩ := g2 (f i) (f1 i hi)
      obtain ⟨b, hb, eb⟩ := f2 (g i) (g1 i hi)
      rcases Nat.lt_trichotomy a i with h | h | h
      · exact absurd ((hlo a h).trans ea) (finj a i h hi)
      · subst h; exact ea.symm
      · rcases Nat.lt_trichotomy b i with k | k | k
        · exact absurd ((hlo b k).symm.trans eb) (ginj b i k hi)
        · subst k; exact eb
        · have h5 := g3 i a h ha
          have h6 := f3 i b k hb
          rw [ea] at h5
          rw [eb] at h6
          omega
  exact fun i hi => main (i + 1) i (by omega) hi
theorem candL_congr (ca cb f g : Nat → Nat) (n : Nat) (h : ∀ i, i < n → f i = g i) : candL ca cb f n = candL ca cb g n := by
  unfold candL
  rw [List.map_congr_left (fun i hi => h i (List.mem_range.1 hi))]
theorem nearF_ex (n : Nat) (D : Nat → Int) : ∃ f, NearF n D f := by
  obtain ⟨le, hle⟩ : ∃ le : Nat → Nat → Bool, le = fun a b => decide (D a < D b ∨ (D a = D b ∧ a ≤ b)) := ⟨_, rfl⟩
  obtain ⟨L, hL⟩ : ∃ L, L = (List.range n).mergeSort le := ⟨_, rfl⟩
  have hp : L.Perm (List.range n) := by rw [hL]; exact List.mergeSort_perm _ _
  have hs : L.Pairwise (fun a b => le a b = true) := by
    rw [hL]
    apply List.pairwise_mergeSort
    · intro a b c h1 h2
      rw [hle] at h1 h2 ⊢
      simp only [decide_eq_true_eq] at *
      omega
    · intro a b
      rw [hle]
      simp only [Bool.or_eq_true, decide_eq_true_eq]
      omega
  have hnd : L.Nodup := hp.nodup_iff.2 List.nodup_range
  have hlen : L.length = n := by rw [hp.length_eq]; simp
  refine ⟨fun i => L.getD i 0, fun i hi => ?_, fun m hm => ?_, fun i j hij hj => ?_⟩
  · have hi' : i < L.length := by omega
    have : L.getD i 0 = L[i] := by rw [List.getD_eq_getElem?_getD, List.getElem?_eq_getElem hi']; rfl
    show L.getD i 0 < n
    rw [this]
    exact List.mem_range.1 (hp.mem_iff.1 (List.getElem_mem hi'))
  · have : m ∈ L := hp.mem_iff.2 (List.mem_range.2 hm)
    obtain ⟨i, hi, e⟩ := List.getElem_of_mem this
    exact ⟨i, by omega, by show L.getD i 0 = m; rw [List.getD_eq_getElem?_getD, List.getElem?_eq_getElem hi]; exact e⟩
  · have hj' : j < L.length := by omega
    have hi' : i < L.length := by omega
    have ei : L.getD i 0 = L[i] := by rw [List.getD_eq_getElem?_getD, List.getElem?_eq_getElem hi']; rfl
    have ej : L.getD j 0 = L[j] := by rw [List.getD_eq_getElem?_getD, List.getElem?_eq_getElem hj']; rfl
    show D (L.getD i 0) < D (L.getD j 0) ∨ D (L.getD i 0) = D (L.getD j 0) ∧ L.getD i 0 < L.getD j 0
    rw [ei, ej]
    have h1 := List.pairwise_iff_getElem.1 hs i j hi' hj' hij
    have h2 := List.pairwise_iff_getElem.1 hnd i j hi' hj' hij
    rw [hle] at h1
    simp only [decide_eq_true_eq] at h1
    omega
theorem far_ex : ∀ (L : List Cd), 0 < L.length → ∃ b, FarL L b
  | [], h => by simp at h
  | [c], _ => ⟨0, by simp, fun i hi => by simp at hi; subst hi; exact Int.le_refl _, fun i hi => by omega⟩
  | c :: d :: L, _ => by
    obtain ⟨b, hb, h1, h2⟩ := far_ex (d :: L) (by simp)
    by_cases hc : (d :: L)[b].least ≤ c.least
    · refine ⟨0, by simp, fun i hi => ?_, fun i hi => by omega⟩
      cases i with
      | zero => exact Int.le_refl _
      | succ i => have := h1 i (by simpa using hi); simp only [List.getElem_cons_succ, List.getElem_cons_zero]; omega
    · refine ⟨b + 1, by simpa using hb, fun i hi => ?_, fun i hi => ?_⟩
      · cases i with
        | zero => simp only [List.getElem_cons_zero, List.getElem_cons_succ]; omega
        | succ i => have := h1 i (by simpa using hi); simpa using this
      · cases i with
        | zero => simp only [List.getElem_cons_zero, List.getElem_cons_succ]; omega
        | succ i => have := h2 i (by omega); simpa using this
/-- what Spread answers -/
noncomputable def sprList (p1 p2 : Nat) (ca cb : Nat → Nat) (len : Nat) (n : Int) : List Nat :=
  if (plc p1 p2).isSome = true then sprT n.toNat (candS ca cb (candL ca cb (Classical.choose (nearF_ex len (fun i => farI (distO (plc p1 p2) (plc (ca i) (cb i)))))) len)) else []
theorem sprT_len : ∀ (n : Nat) (L : List Cd), (sprT n L).length ≤ L.length
  | 0, L => by simp [sprT]
  | n + 1, [] => by simp [sprT]
  | n + 1, c :: L => by
    have h := sprT_len n (leftL (c :: L))
    rw [sprT_cons n (by simp)]
    have h2 : (leftL (c :: L)).length + 1 ≤ (c :: L).length + 1 := by
      unfold leftL
      rw [List.length_map]
      have := List.length_eraseIdx_le (c :: L) (farI2 (c :: L))
      omega
    by_cases hf : farI2 (c :: L) < (c :: L).length
    · have h3 : (leftL (c :: L)).length = (c :: L).length - 1 := by
        unfold leftL
        rw [List.length_map, List.length_eraseIdx, if_pos hf]
      simp only [List.length_cons] at *
      omega
    · exfalso
      apply hf
      have : ∃ b, FarL (c :: L) b := far_ex (c :: L) (by simp)
      obtain ⟨b, hb⟩ := this
      rw [farI2_of hb]
      exact hb.1
theorem sprList_len (p1 p2 : Nat) (ca cb : Nat → Nat) (len : Nat) (n : Int) : (sprList p1 p2 ca cb len n).length ≤ len := by
  unfold sprList
  split
  · refine Nat.le_trans (sprT_len _ _) ?_
    unfold candS
    rw [List.length_map]
    exact candL_len _ _ _ _
  · simp
/-- a row of the numbers T -/
def RowT (w w' : World) (T : List Nat) (e : Ending) : Prop := ∃ v, e = .returned v ∧ w'.ownsRow w.heap.size 3 1 v T.length (outT T) ∧ Below w.heap.size w w'
set_option maxRecDepth 100000 in
set_option maxHeartbeats 4000000 in
theorem spread_no (len cap : Nat) (A : Option Addr) (p1 p2 : Nat) (w : World) (n : Int) (hp : (plc p1 p2).isSome = false) :
    Calls Try.prog 8 #[.complex .f64 p1 p2, .slice A len cap, .int .i64 n] w fun e w' => e = .returned (.slice none 0 0) ∧ w' = w := by
  have hpl := place_any p1 p2 w
  rw [hp] at hpl
  clear hp
  go_enter Try.func8, Try.ntmps8
  go_wp2_with (fail)
  refine hpl.mono ?_
  rintro e w' ⟨rfl, rfl⟩
  go_wp2_with (fail)
  go_ret
  exact ⟨rfl, rfl⟩
theorem spread_all (len cap : Nat) (A : Option Addr) (p1 p2 : Nat) (ca cb : Nat → Nat) (w : World) (hn : len ≤ 2199023255552) (n : Int) (hS : SlOf w w.heap.size A len (fun i => .complex .f64 (ca i) (cb i))) :
    Calls Try.prog 8 #[.complex .f64 p1 p2, .slice A len cap, .int .i64 n] w fun e w' => RowT w w' (sprList p1 p2 ca cb len n) e := by
  cases hp : (plc p1 p2).isSome with
  | false =>
    refine (spread_no len cap A p1 p2 w n hp).mono ?_
    rintro e w' ⟨rfl, rfl⟩
    have e : sprList p1 p2 ca cb len n = [] := by unfold sprList; rw [if_neg (by simp [hp])]
    rw [e]
    exact ⟨_, rfl, World.ownsRow_nil _ _ _ _, Below.refl _ _⟩
  | true =>
    refine (spread_any len cap A p1 p2 ca cb w hn n hp _ rfl hS).mono ?_
    rintro e w' ⟨f, v, hf, rfl, ho, hb⟩
    have e : sprList p1 p2 ca cb len n = sprT n.toNat (candS ca cb (candL ca cb f len)) := by
      unfold sprList
      rw [if_pos hp, candL_congr ca cb _ f len (nearF_one (Classical.choose_spec (nearF_ex len (fun i => farI (distO (plc p1 p2) (plc (ca i) (cb i)))))) hf)]
    rw [e]
    exact ⟨v, rfl, ho, hb⟩
theorem rspread_all (len cap : Nat) (A : Option Addr) (p1 p2 : Nat) (ca cb : Nat → Nat) (w : World) (hn : len ≤ 2199023255552) (n : Int) (hS : SlOf w w.heap.size A len (fun i => .complex .f64 (ca i) (cb i))) :
    Calls Try.prog 6 #[.complex .f64 p1 p2, .slice A len cap, .int .i64 n] w fun e w' => RowT w w' (sprList p1 p2 ca cb len n) e := by
  cases hp : plc p1 p2 with
  | none =>
    refine (rspread_no len cap A p1 p2 w n hp).mono ?_
    rintro e w' ⟨rfl, rfl⟩
    have e : sprList p1 p2 ca cb len n = [] := by unfold sprList; rw [if_neg (by simp [hp])]
    rw [e]
    exact ⟨_, rfl, World.ownsRow_nil _ _ _ _, Below.refl _ _⟩
  | some p =>
    have hf := Classical.choose_spec (nearF_ex len (fun i => farI (distO (plc p1 p2) (plc (ca i) (cb i)))))
    refine (rspread_any len cap A p1 p2 ca cb w hn n p hp _ rfl (fun i => ?_) _ hf hS).mono ?_
    · have := distO_hi (plc p1 p2) (plc (ca i) (cb i)) (fun _ h => plc_pt h) (fun _ h => plc_pt h)
      exact ⟨this.1, by omega⟩
    · rintro e w' ⟨v, rfl, ho, hb⟩
      have e : sprList p1 p2 ca cb len n = sprT n.toNat (candS ca cb (candL ca cb (Classical.choose (nearF_ex len (fun i => farI (distO (plc p1 p2) (plc (ca i) (cb i)))))) len)) := by
        unfold sprList
        rw [if_pos (by rw [hp]; rfl)]
      rw [e]
      exact ⟨v, rfl, ho, hb⟩
end Go.Proofs.Ytjjmflkdfgneoaa
