/- Merging: sorted pieces merged are the whole list sorted. No program. -/
import Derived.Test.YtmpeaondljpgiaaMrgUniq
namespace Go.Proofs.Ytmpeaondljpgiaa
open Go.RowKit

/-- runs that are pieces of one list, each sorted: where each begins, and its places in order -/
structure Pcs (R : Rn) (N : Nat) (K V : Nat → ByteArray) (off : Nat → Nat) (S : (i : Nat) → List (Fin (R.ln i + 1))) : Prop where
  o0 : off 0 = 0
  os : ∀ i, i < R.n → off (i + 1) = off i + R.ln i
  oN : off R.n = N
  perm : ∀ i, i < R.n → (S i).Perm (dF (R.ln i))
  srt : ∀ i, i < R.n → SrtT (keyP (R.ln i) fun j => K (off i + j)) (fun x => x.val) (S i)
  key : ∀ i, i < R.n → ∀ p, p < R.ln i → R.K i p = K (off i + ((S i).getD p 0).val)
  val : ∀ i, i < R.n → ∀ p, p < R.ln i → R.V i p = V (off i + ((S i).getD p 0).val)
def gP {R : Rn} (off : Nat → Nat) (S : (i : Nat) → List (Fin (R.ln i + 1))) (x : It) : Nat := off x.1 + ((S x.1).getD x.2 0).val
theorem dF_vals (n : Nat) : (dF n).map (fun x => x.val) = List.range n := by
  apply List.ext_getElem <;> simp [dF]
theorem flat_range {ln off : Nat → Nat} (h0 : off 0 = 0) : ∀ n, (∀ i, i < n → off (i + 1) = off i + ln i) → (List.range n).flatMap (fun i => (List.range (ln i)).map fun q => off i + q) = List.range (off n)
  | 0, _ => by rw [h0]; rfl
  | n + 1, h => by
    rw [List.range_succ, List.flatMap_append, flat_range h0 n (fun i hi => h i (by omega)), h n (by omega), List.range_add]
    simp
theorem flat_perm {α β : Type} {f g : α → List β} : ∀ {l : List α}, (∀ a ∈ l, (f a).Perm (g a)) → (l.flatMap f).Perm (l.flatMap g)
  | [], _ => List.Perm.refl _
  | x :: l, h => by
    rw [List.flatMap_cons, List.flatMap_cons]
    exact (h x (List.mem_cons_self ..)).append (flat_perm fun y hy => h y (List.mem_cons_of_mem _ hy))
theorem pcs_len {R : Rn} {N : Nat} {K V : Nat → ByteArray} {off : Nat → Nat} {S : (i : Nat) → List (Fin (R.ln i + 1))} (h : Pcs R N K V off S) (i : Nat) (hi : i < R.n) : (S i).length = R.ln i := by
  rw [(h.perm i hi).length_eq, dF_len]
theorem pcs_perm {R : Rn} {N : Nat} {K V : Nat → ByteArray} {off : Nat → Nat} {S : (i : Nat) → List (Fin (R.ln i + 1))} (h : Pcs R N K V off S) : ((mrgL R (ordR R)).map (gP off S)).Perm (List.range N) := by
  refine ((mrgL_perm (ord_inj R)).map _).trans ?_
  unfold remP
  rw [List.map_flatMap, ← h.oN, ← flat_range h.o0 R.n h.os]
  refine flat_perm fun i hi => ?_
  have hi := List.mem_range.1 hi
  have hp := (h.perm i hi).map (fun x => off i + x.val)
  have e1 : (rowP R (fun _ => 0) i).map (gP off S) = (S i).map (fun x => off i + x.val) := by
    have hl := pcs_len h i hi
    unfold rowP
    rw [List.map_map]
    refine List.ext_getElem (by simp [hl]) fun q h1 h2 => ?_
    simp only [List.getElem_map, List.getElem_range, Function.comp, gP, Nat.zero_add, Nat.sub_zero]
    have hq : q < (S i).length := by simpa using h2
    rw [List.getD_eq_getElem?_getD, List.getElem?_eq_getElem hq]
    rfl
  have e2 : (dF (R.ln i)).map (fun x => off i + x.val) = (List.range (R.ln i)).map fun q => off i + q := by
    rw [← dF_vals, List.map_map]
    rfl
  rw [e1, ← e2]
  exact hp
theorem dF_low {n k : Nat} {T : List (Fin (n + 1))} (hT : T.Perm ((dF n).take k)) : ∀ u ∈ T, u.val < k := fun u hu => by
  have h := hT.mem_iff.1 hu
  obtain ⟨i, hi, e⟩ := List.mem_iff_getElem.1 h
  simp [dF] at e hi
  rw [← e]
  show i < k
  omega
theorem off_mono {ln off : Nat → Nat} {n : Nat} (h : ∀ i, i < n → off (i + 1) = off i + ln i) : ∀ (j i : Nat), i ≤ j → j ≤ n → off i ≤ off j
  | 0, i, hi, _ => by rw [Nat.le_zero.1 hi]; exact Nat.le_refl _
  | j + 1, i, hi, hj => by
    by_cases e : i = j + 1
    · rw [e]; exact Nat.le_refl _
    · have h1 := off_mono h j i (by omega) (by omega)
      have h2 := h j (by omega)
      omega
theorem getD_lt {n : Nat} {S : List (Fin (n + 1))} (hp : S.Perm (dF n)) {q : Nat} (hq : q < n) : (S.getD q 0).val < n := by
  have hl : S.length = n := by rw [hp.length_eq, dF_len]
  rw [List.getD_eq_getElem?_getD, List.getElem?_eq_getElem (by omega)]
  have hm : S[q]'(by omega) ∈ (dF n).take n := by
    rw [List.take_of_length_le (by rw [dF_len]; exact Nat.le_refl _)]
    exact hp.mem_iff.1 (List.getElem_mem _)
  exact dF_low (List.Perm.refl _) _ hm
theorem pcs_order {R : Rn} {N : Nat} {K V : Nat → ByteArray} {off : Nat → Nat} {S : (i : Nat) → List (Fin (R.ln i + 1))} (h : Pcs R N K V off S) {x y : It} (hx : VIt R x) (hy : VIt R y) (ho : ordR R x ≤ ordR R y) (hs : x.1 = y.1 → x.2 < y.2) :
    Lib.compareBytes (K (gP off S x)).data.toList (K (gP off S y)).data.toList < 0 ∨ (¬ Lib.compareBytes (K (gP off S y)).data.toList (K (gP off S x)).data.toList < 0 ∧ gP off S x < gP off S y) := by
  have kx := h.key x.1 hx.1 x.2 hx.2
  have ky := h.key y.1 hy.1 y.2 hy.2
  have ex : K (gP off S x) = R.K x.1 x.2 := kx.symm
  have ey : K (gP off S y) = R.K y.1 y.2 := ky.symm
  rw [ex, ey]
  rcases ord_cases hx hy with ⟨c, _⟩ | ⟨_, c⟩ | ⟨c, c1, c2⟩
  · left
    rw [cmp_bytes, c]
    decide
  · omega
  · right
    have ce : (R.K x.1 x.2).data.toList = (R.K y.1 y.2).data.toList := Std.LawfulEqCmp.eq_of_compare c
    refine ⟨?_, ?_⟩
    · rw [ce, cmp_bytes, show compare (R.K y.1 y.2).data.toList (R.K y.1 y.2).data.toList = .eq from Std.ReflCmp.compare_self]
      decide
    · by_cases e : x.1 = y.1
      · obtain ⟨x1, x2⟩ := x
        obtain ⟨y1, y2⟩ := y
        have e : x1 = y1 := e
        subst e
        have hlt : x2 < y2 := hs rfl
        have hl := pcs_len h x1 hx.1
        have hy2 : y2 < R.ln x1 := hy.2
        have hsr := List.pairwise_iff_getElem.1 (h.srt x1 hx.1) x2 y2 (by omega) (by omega) hlt
        have gx : (S x1).getD x2 0 = (S x1)[x2]'(by omega) := by rw [List.getD_eq_getElem?_getD, List.getElem?_eq_getElem (by omega)]; rfl
        have gy : (S x1).getD y2 0 = (S x1)[y2]'(by omega) := by rw [List.getD_eq_getElem?_getD, List.getElem?_eq_getElem (by omega)]; rfl
        rw [← gx, ← gy] at hsr
        show off x1 + _ < off x1 + _
        rcases hsr with hk | ⟨_, hk⟩
        · have hc := (keyP_lt _ _ _ _).2 hk
          have kx' : K (off x1 + ((S x1).getD x2 0).val) = R.K x1 x2 := kx.symm
          have ky' : K (off x1 + ((S x1).getD y2 0).val) = R.K x1 y2 := ky.symm
          simp only [kx', ky'] at hc
          rw [cmp_bytes] at hc
          have c' : compare (R.K x1 x2).data.toList (R.K x1 y2).data.toList = .eq := c
          rw [c'] at hc
          exact absurd hc (by decide)
        · exact Nat.add_lt_add_left hk (off x1)
      · have hlt : x.1 < y.1 := by omega
        have h1 := getD_lt (h.perm x.1 hx.1) hx.2
        have h2 := h.os x.1 hx.1
        have h3 := off_mono h.os y.1 (x.1 + 1) (by omega) (by have := hy.1; omega)
        show off x.1 + _ < off y.1 + _
        omega
def fF (N m : Nat) : Fin (N + 1) := ⟨min m N, by omega⟩
theorem dF_range (N : Nat) : (List.range N).map (fF N) = dF N := by
  refine List.ext_getElem (by simp [dF]) fun i h1 h2 => ?_
  have hi : i < N := by simpa using h1
  simp [dF, fF]
  omega
theorem pcs_rises {R : Rn} {N : Nat} {K V : Nat → ByteArray} {off : Nat → Nat} {S : (i : Nat) → List (Fin (R.ln i + 1))} (h : Pcs R N K V off S) (i : Nat) (hi : i < R.n) (p q : Nat) (hpq : p < q) (hq : q < R.ln i) : ordR R (i, p) ≤ ordR R (i, q) := by
  have hx : VIt R (i, p) := ⟨hi, by show p < R.ln i; omega⟩
  have hy : VIt R (i, q) := ⟨hi, hq⟩
  have hl := pcs_len h i hi
  rcases ord_cases hx hy with ⟨_, c⟩ | ⟨c, _⟩ | ⟨_, _, c⟩
  · omega
  · have hsr := List.pairwise_iff_getElem.1 (h.srt i hi) p q (by omega) (by omega) hpq
    have gx : (S i).getD p 0 = (S i)[p]'(by omega) := by rw [List.getD_eq_getElem?_getD, List.getElem?_eq_getElem (by omega)]; rfl
    have gy : (S i).getD q 0 = (S i)[q]'(by omega) := by rw [List.getD_eq_getElem?_getD, List.getElem?_eq_getElem (by omega)]; rfl
    rw [← gx, ← gy] at hsr
    have kx' : K (off i + ((S i).getD p 0).val) = R.K i p := (h.key i hi p (by omega)).symm
    have ky' : K (off i + ((S i).getD q 0).val) = R.K i q := (h.key i hi q hq).symm
    have c' : compare (R.K i p).data.toList (R.K i q).data.toList = .gt := c
    have hn : ¬ keyP (R.ln i) (fun j => K (off i + j)) ((S i).getD q 0) < keyP (R.ln i) (fun j => K (off i + j)) ((S i).getD p 0) := by
      rcases hsr with k | ⟨k, _⟩ <;> omega
    exact absurd ((keyP_lt _ _ _ _).1 (by
      simp only [kx', ky']
      rw [cmp_bytes, Std.OrientedCmp.gt_iff_lt.1 c']
      decide)) hn
  · rw [c.2 rfl]
    exact Int.le_refl _
/-- SORTED PIECES MERGED ARE THE LIST SORTED -/
theorem pcs_sorted {R : Rn} {N : Nat} {K V : Nat → ByteArray} {off : Nat → Nat} {S : (i : Nat) → List (Fin (R.ln i + 1))} (h : Pcs R N K V off S) {T : List (Fin (N + 1))} (hT : T.Perm (dF N)) (hTs : SrtT (keyP N K) (fun x => x.val) T) :
    (mrgL R (ordR R)).map (fun x => fF N (gP off S x)) = T := by
  have hp := pcs_perm h
  refine srt_one (key := keyP N K) (num := fun x => x.val) ?_ ?_ hTs
  · have h1 := hp.map (fF N)
    rw [List.map_map, dF_range] at h1
    exact h1.trans hT.symm
  · unfold SrtT
    rw [List.pairwise_map]
    refine List.Pairwise.imp_of_mem (fun {x y} hx hy hxy => ?_) (mrg_rises (ord_inj R) (pcs_rises h) _ _ rfl fun _ _ => Nat.zero_le _)
    have vx := mrg_mem _ _ _ hx
    have vy := mrg_mem _ _ _ hy
    have lx : gP off S x < N := List.mem_range.1 (hp.mem_iff.1 (List.mem_map_of_mem hx))
    have ly : gP off S y < N := List.mem_range.1 (hp.mem_iff.1 (List.mem_map_of_mem hy))
    have fx : (fF N (gP off S x)).val = gP off S x := by show min _ _ = _; omega
    have fy : (fF N (gP off S y)).val = gP off S y := by show min _ _ = _; omega
    have k1 := keyP_lt N K (fF N (gP off S x)) (fF N (gP off S y))
    have k2 := keyP_lt N K (fF N (gP off S y)) (fF N (gP off S x))
    rw [fx, fy] at k1 k2
    rcases pcs_order h vx vy hxy.1 hxy.2 with c | ⟨c1, c2⟩
    · exact .inl (k1.1 c)
    · have n2 := fun z => c1 (k2.2 z)
      by_cases c3 : keyP N K (fF N (gP off S x)) < keyP N K (fF N (gP off S y))
      · exact .inl c3
      · exact .inr ⟨by omega, by show (fF N (gP off S x)).val < (fF N (gP off S y)).val; rw [fx, fy]; exact c2⟩
end Go.Proofs.Ytmpeaondljpgiaa
