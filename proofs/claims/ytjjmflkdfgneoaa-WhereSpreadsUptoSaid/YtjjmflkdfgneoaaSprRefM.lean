/- The reference's Spread, plain mathematics: what is left behind some rounds, and which one is taken next. -/
import Derived.Test.YtjjmflkdfgneoaaSprSpn
namespace Go.Proofs.Ytjjmflkdfgneoaa
open Go.RowKit

/-- the least of m and of the distances to those that are taken -/
noncomputable def lstG (ca cb : Nat → Nat) (m : Int) : List Nat → Nat → Int
  | [], _ => m
  | t :: T, y => lstG ca cb (min m (distO (plc (ca y) (cb y)) (plc (ca t) (cb t)))) T y
theorem lstG_app (ca cb : Nat → Nat) (y x : Nat) : ∀ (T : List Nat) (m : Int), lstG ca cb m (T ++ [x]) y = min (lstG ca cb m T y) (distO (plc (ca y) (cb y)) (plc (ca x) (cb x)))
  | [], _ => rfl
  | t :: T, m => by
    show lstG ca cb _ (T ++ [x]) y = _
    rw [lstG_app ca cb y x T]
    rfl
theorem distO_hi (p q : Option (Int × Int)) (hp : ∀ x, p = some x → Pt x) (hq : ∀ x, q = some x → Pt x) : -1 ≤ distO p q ∧ distO p q ≤ 8000000 := by
  cases p with
  | none => exact ⟨by show (-1 : Int) ≤ -1; omega, by show (-1 : Int) ≤ 8000000; omega⟩
  | some x =>
    cases q with
    | none => exact ⟨by show (-1 : Int) ≤ -1; omega, by show (-1 : Int) ≤ 8000000; omega⟩
    | some y => exact ⟨by have := sq_lo x y; show -1 ≤ sq x y; omega, sq_hi (hp x rfl) (hq y rfl)⟩
theorem lstG_same (ca cb : Nat → Nat) (m M : Int) (hm : 8000000 ≤ m) (hM : 8000000 ≤ M) (t y : Nat) (T : List Nat) : lstG ca cb m (t :: T) y = lstG ca cb M (t :: T) y := by
  show lstG ca cb (min m _) T y = lstG ca cb (min M _) T y
  have h := (distO_hi (plc (ca y) (cb y)) (plc (ca t) (cb t)) (fun _ h => plc_pt h) (fun _ h => plc_pt h)).2
  rw [show min m (distO (plc (ca y) (cb y)) (plc (ca t) (cb t))) = min M (distO (plc (ca y) (cb y)) (plc (ca t) (cb t))) by omega]
theorem lstG_range (ca cb : Nat → Nat) (y : Nat) : ∀ (T : List Nat) (m : Int), -1 ≤ m → -1 ≤ lstG ca cb m T y ∧ lstG ca cb m T y ≤ m
  | [], m, h => ⟨h, Int.le_refl _⟩
  | t :: T, m, h => by
    have h1 := (distO_hi (plc (ca y) (cb y)) (plc (ca t) (cb t)) (fun _ h => plc_pt h) (fun _ h => plc_pt h)).1
    have h2 := lstG_range ca cb y T (min m (distO (plc (ca y) (cb y)) (plc (ca t) (cb t)))) (by omega)
    exact ⟨h2.1, by have := h2.2; show lstG ca cb _ T y ≤ m; omega⟩
/-- the order among those that are left doesn't hang on what stands for nothing taken -/
theorem lstG_order (ca cb : Nat → Nat) (m M : Int) (hm : 8000000 ≤ m) (hM : 8000000 ≤ M) (T : List Nat) (x y : Nat) : (lstG ca cb m T x ≤ lstG ca cb m T y → lstG ca cb M T x ≤ lstG ca cb M T y) ∧ (lstG ca cb m T x < lstG ca cb m T y → lstG ca cb M T x < lstG ca cb M T y) := by
  cases T with
  | nil => exact ⟨fun _ => Int.le_refl _, fun h => absurd h (Int.lt_irrefl _)⟩
  | cons t T => rw [lstG_same ca cb m M hm hM, lstG_same ca cb m M hm hM]; exact ⟨id, id⟩
/-- may it still be taken? -/
noncomputable def okP (ca cb : Nat → Nat) (T : List Nat) (x : Nat) : Bool := (plc (ca x) (cb x)).isSome && !T.contains x
theorem okP_plc {ca cb : Nat → Nat} {T : List Nat} {x : Nat} (h : okP ca cb T x = true) : (plc (ca x) (cb x)).isSome = true := by
  unfold okP at h
  exact (Bool.and_eq_true_iff.1 h).1
theorem lstG_pos (ca cb : Nat → Nat) (x : Nat) (hx : (plc (ca x) (cb x)).isSome = true) : ∀ (T : List Nat) (m : Int), 0 ≤ m → (∀ t ∈ T, (plc (ca t) (cb t)).isSome = true) → 0 ≤ lstG ca cb m T x
  | [], _, h, _ => h
  | t :: T, m, h, hT => by
    have h1 : 0 ≤ distO (plc (ca x) (cb x)) (plc (ca t) (cb t)) := by
      obtain ⟨p, hp⟩ := Option.isSome_iff_exists.1 hx
      obtain ⟨q, hq⟩ := Option.isSome_iff_exists.1 (hT t (by simp))
      rw [hp, hq]
      exact sq_lo p q
    exact lstG_pos ca cb x hx T (min m (distO (plc (ca x) (cb x)) (plc (ca t) (cb t)))) (by omega) (fun u hu => hT u (by simp [hu]))
/-- the candidates that are left when T are taken -/
noncomputable def mkT (ca cb : Nat → Nat) (T : List Nat) (x : Nat) : Cd := ⟨x, ca x, cb x, lstG ca cb 9223372036854775807 T x⟩
noncomputable def leftT (ca cb f : Nat → Nat) (len : Nat) (T : List Nat) : List Cd := (((List.range len).map f).filter (okP ca cb T)).map (mkT ca cb T)
theorem leftT_nil (ca cb f : Nat → Nat) (len : Nat) : leftT ca cb f len [] = candS ca cb (candL ca cb f len) := by
  unfold leftT candS candL
  have h : okP ca cb [] = fun x => (plc (ca x) (cb x)).isSome := by funext x; simp [okP]
  rw [h]
  rfl
/-- which one is taken next -/
def Pick (ca cb f : Nat → Nat) (len : Nat) (T : List Nat) (m : Int) (k0 : Nat) : Prop :=
  k0 < len ∧ okP ca cb T (f k0) = true ∧ ∀ k, k < len → okP ca cb T (f k) = true → lstG ca cb m T (f k) ≤ lstG ca cb m T (f k0) ∧ (k < k0 → lstG ca cb m T (f k) < lstG ca cb m T (f k0))
theorem farL_mid (P Q : List Cd) (c : Cd) (h1 : ∀ p ∈ P, p.least < c.least) (h2 : ∀ q ∈ Q, q.least ≤ c.least) : FarL (P ++ c :: Q) P.length := by
  have hc : (P ++ c :: Q)[P.length]'(by simp) = c := by simp
  refine ⟨by simp, fun i hi => ?_, fun i hi => ?_⟩
  · rw [hc]
    have hm := List.getElem_mem hi
    rcases List.mem_append.1 hm with h | h
    · exact Int.le_of_lt (h1 _ h)
    · rcases List.mem_cons.1 h with h | h
      · rw [h]; exact Int.le_refl _
      · exact h2 _ h
  · rw [hc, List.getElem_append_left hi]
    exact h1 _ (List.getElem_mem hi)
theorem range_split (len k0 : Nat) (h : k0 < len) : List.range len = List.range k0 ++ k0 :: (List.range (len - k0 - 1)).map (fun i => k0 + 1 + i) := by
  have e : len = (k0 + 1) + (len - k0 - 1) := by omega
  conv => lhs; rw [e, List.range_add, List.range_succ]
  simp
theorem pick_next {ca cb f : Nat → Nat} {len : Nat} {T : List Nat} {m : Int} {k0 : Nat} (hm : 8000000 ≤ m) (hf : ∀ i j, i < j → j < len → f i ≠ f j) (h : Pick ca cb f len T m k0) (n : Nat) :
    sprT (n + 1) (leftT ca cb f len T) = f k0 :: sprT n (leftT ca cb f len (T ++ [f k0])) ∧ (leftT ca cb f len (T ++ [f k0])).length + 1 = (leftT ca cb f len T).length := by
  obtain ⟨hk, hok, hall⟩ := h
  obtain ⟨P, hP⟩ : ∃ P, P = (List.range k0).map f := ⟨_, rfl⟩
  obtain ⟨Q, hQ⟩ : ∃ Q, Q = (List.range (len - k0 - 1)).map (fun i => f (k0 + 1 + i)) := ⟨_, rfl⟩
  obtain ⟨x, hx⟩ : ∃ x, x = f k0 := ⟨_, rfl⟩
  have hxs : (List.range len).map f = P ++ x :: Q := by
    rw [range_split len k0 hk, hP, hQ, hx]
    simp
  have hPx : ∀ y ∈ P, y ≠ x := by
    intro y hy
    rw [hP] at hy
    obtain ⟨i, hi, rfl⟩ := List.mem_map.1 hy
    rw [hx]
    exact hf i k0 (List.mem_range.1 hi) hk
  have hQx : ∀ y ∈ Q, y ≠ x := by
    intro y hy
    rw [hQ] at hy
    obtain ⟨i, hi, rfl⟩ := List.mem_map.1 hy
    rw [hx]
    have := List.mem_range.1 hi
    exact fun e => hf k0 (k0 + 1 + i) (by omega) (by omega) e.symm
  have hlP : ∀ y ∈ P, okP ca cb T y = true → lstG ca cb 9223372036854775807 T y < lstG ca cb 9223372036854775807 T x := by
    intro y hy ho
    rw [hP] at hy
    obtain ⟨i, hi, rfl⟩ := List.mem_map.1 hy
    have h1 := List.mem_range.1 hi
    rw [hx]
    exact (lstG_order ca cb m _ hm (by omega) T _ _).2 ((hall i (by omega) ho).2 h1)
  have hlQ : ∀ y ∈ Q, okP ca cb T y = true → lstG ca cb 9223372036854775807 T y ≤ lstG ca cb 9223372036854775807 T x := by
    intro y hy ho
    rw [hQ] at hy
    obtain ⟨i, hi, rfl⟩ := List.mem_map.1 hy
    have h1 := List.mem_range.1 hi
    rw [hx]
    exact (lstG_order ca cb m _ hm (by omega) T _ _).1 (hall _ (by omega) ho).1
  rw [← hx] at hok ⊢
  have hL : leftT ca cb f len T = (P.filter (okP ca cb T)).map (mkT ca cb T) ++ mkT ca cb T x :: (Q.filter (okP ca cb T)).map (mkT ca cb T) := by
    unfold leftT
    rw [hxs, List.filter_append, List.filter_cons_of_pos hok, List.map_append, List.map_cons]
  have hfar : FarL (leftT ca cb f len T) ((P.filter (okP ca cb T)).map (mkT ca cb T)).length := by
    rw [hL]
    apply farL_mid
    · intro p hp
      obtain ⟨y, hy, rfl⟩ := List.mem_map.1 hp
      obtain ⟨hy1, hy2⟩ := List.mem_filter.1 hy
      exact hlP y hy1 hy2
    · intro p hp
      obtain ⟨y, hy, rfl⟩ := List.mem_map.1 hp
      obtain ⟨hy1, hy2⟩ := List.mem_filter.1 hy
      exact hlQ y hy1 hy2
  have hI := farI2_of hfar
  have hlen : 0 < (leftT ca cb f len T).length := by rw [hL]; simp; omega
  have hget : (leftT ca cb f len T).getD (farI2 (leftT ca cb f len T)) ⟨0, 0, 0, 0⟩ = mkT ca cb T x := by
    rw [hI, hL]
    simp [List.getD_eq_getElem?_getD]
  have hfx : okP ca cb (T ++ [x]) x = false := by simp [okP]
  have hfo : ∀ L : List Nat, (∀ y ∈ L, y ≠ x) → L.filter (okP ca cb (T ++ [x])) = L.filter (okP ca cb T) := by
    intro L hL
    apply List.filter_congr
    intro y hy
    have := hL y hy
    simp [okP, this]
  have hL2 : leftT ca cb f len (T ++ [x]) = (P.filter (okP ca cb T)).map (mkT ca cb (T ++ [x])) ++ (Q.filter (okP ca cb T)).map (mkT ca cb (T ++ [x])) := by
    unfold leftT
    rw [hxs, List.filter_append, List.filter_cons_of_neg (by rw [hfx]; simp), List.map_append, hfo P hPx, hfo Q hQx]
  have hup : ∀ y, upC (dC (mkT ca cb T x)) (mkT ca cb T y) = mkT ca cb (T ++ [x]) y := by
    intro y
    unfold upC mkT dC
    rw [lstG_app]
  have hleft : leftL (leftT ca cb f len T) = leftT ca cb f len (T ++ [x]) := by
    unfold leftL
    rw [hget, hI, hL2, hL]
    rw [List.eraseIdx_append_of_length_le (Nat.le_refl _)]
    simp only [Nat.sub_self, List.eraseIdx_cons_zero, List.map_append, List.map_map]
    congr 1
    · apply List.map_congr_left; intro y _; exact hup y
    · apply List.map_congr_left; intro y _; exact hup y
  refine ⟨?_, ?_⟩
  · rw [sprT_cons n hlen, hget, hleft]
    rfl
  · rw [hL2, hL]
    simp only [List.length_append, List.length_map, List.length_cons]
    omega
theorem pick_none {ca cb f : Nat → Nat} {len : Nat} {T : List Nat} (h : ∀ k, k < len → okP ca cb T (f k) = false) : leftT ca cb f len T = [] := by
  unfold leftT
  rw [List.filter_eq_nil_iff.2]
  · rfl
  · intro y hy
    obtain ⟨i, hi, rfl⟩ := List.mem_map.1 hy
    rw [h i (List.mem_range.1 hi)]
    simp
/-- the best among the first j of the order -/
def BestS (ca cb f : Nat → Nat) (T : List Nat) (m : Int) (j : Nat) (b most : Int) : Prop :=
  (b = -1 ∧ most = -1 ∧ ∀ k, k < j → okP ca cb T (f k) = false) ∨ ∃ k0, b = (f k0 : Int) ∧ most = lstG ca cb m T (f k0) ∧ 0 ≤ most ∧ Pick ca cb f j T m k0
theorem bestS_skip {ca cb f : Nat → Nat} {T : List Nat} {m : Int} {j : Nat} {b most : Int} (h : BestS ca cb f T m j b most) (hn : okP ca cb T (f j) = false) : BestS ca cb f T m (j + 1) b most := by
  rcases h with ⟨h1, h2, h3⟩ | ⟨k0, h1, h2, h5, hk, ho, h4⟩
  · refine .inl ⟨h1, h2, fun k hk => ?_⟩
    rcases Nat.lt_or_ge k j with h | h
    · exact h3 k h
    · rw [show k = j by omega]; exact hn
  · refine .inr ⟨k0, h1, h2, h5, by omega, ho, fun k hk2 ho2 => ?_⟩
    rcases Nat.lt_or_ge k j with h | h
    · exact h4 k h ho2
    · rw [show k = j by omega, hn] at ho2; cases ho2
theorem bestS_yes {ca cb f : Nat → Nat} {T : List Nat} {m : Int} {j : Nat} {b most : Int} (h : BestS ca cb f T m j b most) (hn : okP ca cb T (f j) = true) (h0 : 0 ≤ lstG ca cb m T (f j)) (hy : most < lstG ca cb m T (f j)) : BestS ca cb f T m (j + 1) (f j : Int) (lstG ca cb m T (f j)) := by
  refine .inr ⟨j, rfl, rfl, h0, by omega, hn, fun k hk ho => ?_⟩
  rcases h with ⟨h1, h2, h3⟩ | ⟨k0, h1, h2, h5, hk0, ho0, h4⟩
  · rcases Nat.lt_or_ge k j with h | h
    · rw [h3 k h] at ho; cases ho
    · rw [show k = j by omega]; exact ⟨Int.le_refl _, fun h => absurd h (Nat.lt_irrefl _)⟩
  · rcases Nat.lt_or_ge k j with h | h
    · have := (h4 k h ho).1
      exact ⟨by omega, fun _ => by omega⟩
    · rw [show k = j by omega]; exact ⟨Int.le_refl _, fun h => absurd h (Nat.lt_irrefl _)⟩
theorem bestS_no {ca cb f : Nat → Nat} {T : List Nat} {m : Int} {j : Nat} {b most : Int} (h : BestS ca cb f T m j b most) (h0 : 0 ≤ lstG ca cb m T (f j)) (hy : ¬ most < lstG ca cb m T (f j)) : BestS ca cb f T m (j + 1) b most := by
  rcases h with ⟨h1, h2, h3⟩ | ⟨k0, h1, h2, h5, hk0, ho0, h4⟩
  · omega
  · refine .inr ⟨k0, h1, h2, h5, by omega, ho0, fun k hk ho => ?_⟩
    rcases Nat.lt_or_ge k j with h | h
    · exact h4 k h ho
    · rw [show k = j by omega]; exact ⟨by omega, fun h => by omega⟩
end Go.Proofs.Ytjjmflkdfgneoaa
