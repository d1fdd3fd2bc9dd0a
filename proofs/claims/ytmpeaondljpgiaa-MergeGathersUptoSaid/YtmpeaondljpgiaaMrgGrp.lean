/- Merging: keys with their values: what Groups makes of a list of pairs. -/
import Derived.Test.YtmpeaondljpgiaaMrgRefs
import Derived.Test.YtmpeaondljpgiaaMrgCopied
import Derived.Test.YtmpeaondljpgiaaMrgCps
import Derived.Deep.AppendLies
import Derived.IntWalk
namespace Go.Proofs.Ytmpeaondljpgiaa
open Go.RowKit

def prV (a b : Nat → Value) (n : Nat) : List Value := (List.range n).flatMap fun i => [a i, b i]
theorem prV_succ (a b : Nat → Value) (n : Nat) : prV a b (n + 1) = prV a b n ++ [a n, b n] := by simp [prV, List.range_succ]
theorem prV_len (a b : Nat → Value) (n : Nat) : (prV a b n).length = n * 2 := by
  induction n with
  | zero => rfl
  | succ n ih => rw [prV_succ, List.length_append, ih]; simp; omega
theorem prV_get (a b : Nat → Value) (n j : Nat) (h : j < n) : (prV a b n)[j * 2]? = some (a j) ∧ (prV a b n)[j * 2 + 1]? = some (b j) := by
  induction n with
  | zero => omega
  | succ n ih =>
    rw [prV_succ]
    have hl := prV_len a b n
    by_cases hj : j < n
    · rw [List.getElem?_append_left (by omega), List.getElem?_append_left (by omega)]
      exact ih hj
    · obtain rfl : j = n := by omega
      rw [List.getElem?_append_right (by omega), List.getElem?_append_right (by omega), hl]
      rw [show j * 2 - j * 2 = 0 by omega, show j * 2 + 1 - j * 2 = 1 by omega]
      simp
def updG {α : Type} (f : Nat → α) (i : Nat) (x : α) (j : Nat) : α := if j = i then x else f j
theorem updG_same {α : Type} (f : Nat → α) (i : Nat) (x : α) : updG f i x i = x := by simp [updG]
theorem updG_other {α : Type} (f : Nat → α) {i j : Nat} (x : α) (h : j ≠ i) : updG f i x j = f j := by simp [updG, h]
theorem prV_congr {a b a' b' : Nat → Value} {n : Nat} (h : ∀ j, j < n → a j = a' j ∧ b j = b' j) : prV a b n = prV a' b' n := by
  induction n with
  | zero => rfl
  | succ n ih => rw [prV_succ, prV_succ, ih (fun j hj => h j (by omega)), (h n (by omega)).1, (h n (by omega)).2]
theorem prV_set (a b : Nat → Value) (n k : Nat) (v : Value) (hk : k < n) : (prV a b n).set (k * 2 + 1) v = prV a (updG b k v) n := by
  induction n with
  | zero => omega
  | succ n ih =>
    have hl := prV_len a b n
    rw [prV_succ, prV_succ]
    by_cases e : k < n
    · rw [List.set_append_left _ _ (by omega), ih e, updG_other b v (by omega)]
    · obtain rfl : k = n := by omega
      rw [List.set_append_right _ _ (by omega), hl, show k * 2 + 1 - k * 2 = 1 by omega, updG_same]
      congr 1
      exact prV_congr fun j hj => ⟨rfl, (updG_other b v (by omega)).symm⟩
/-- groups: how many, where each begins, how many values each has -/
structure Gr where
  N : Nat
  s : Nat → Nat
  c : Nat → Nat
open Classical in
/-- the groups behind i pairs -/
noncomputable def grp (K : Nat → ByteArray) : Nat → Gr
  | 0 => ⟨0, fun _ => 0, fun _ => 0⟩
  | i + 1 => if i = 0 ∨ K i ≠ K (i - 1) then ⟨(grp K i).N + 1, updG (grp K i).s (grp K i).N i, updG (grp K i).c (grp K i).N 1⟩ else ⟨(grp K i).N, (grp K i).s, updG (grp K i).c ((grp K i).N - 1) ((grp K i).c ((grp K i).N - 1) + 1)⟩
def strN (V : Nat → ByteArray) (s c : Nat) : List Value := (List.range c).map fun q => .string (V (s + q))
theorem strN_succ (V : Nat → ByteArray) (s c : Nat) : strN V s (c + 1) = strN V s c ++ [.string (V (s + c))] := by simp [strN, List.range_succ]
theorem strN_len (V : Nat → ByteArray) (s c : Nat) : (strN V s c).length = c := by simp [strN]
/-- what is true of the groups behind i pairs -/
structure GrOk (K : Nat → ByteArray) (i : Nat) (g : Gr) : Prop where
  pos : 0 < i → 0 < g.N
  le : g.N ≤ i
  s0 : 0 < g.N → g.s 0 = 0
  nx : ∀ j, j + 1 < g.N → g.s (j + 1) = g.s j + g.c j
  last : 0 < g.N → g.s (g.N - 1) + g.c (g.N - 1) = i
  c1 : ∀ j, j < g.N → 1 ≤ g.c j
  key : ∀ j, j < g.N → ∀ q, q < g.c j → K (g.s j + q) = K (g.s j)
  new : ∀ j, j + 1 < g.N → K (g.s (j + 1)) ≠ K (g.s (j + 1) - 1)
theorem grp_ok (K : Nat → ByteArray) : ∀ i, GrOk K i (grp K i)
  | 0 => ⟨fun h => absurd h (Nat.lt_irrefl _), Nat.le_refl _, fun h => absurd h (Nat.lt_irrefl _), fun j hj => absurd hj (Nat.not_lt_zero _), fun h => absurd h (Nat.lt_irrefl _), fun j hj => absurd hj (Nat.not_lt_zero _), fun j hj => absurd hj (Nat.not_lt_zero _), fun j hj => absurd hj (Nat.not_lt_zero _)⟩
  | i + 1 => by
    have ih := grp_ok K i
    rw [grp]
    obtain ⟨g, hg⟩ : ∃ g, g = grp K i := ⟨_, rfl⟩
    rw [← hg] at ih ⊢
    clear hg
    have hle := ih.le
    split
    · rename_i hc
      refine ⟨fun _ => Nat.succ_pos _, by show g.N + 1 ≤ i + 1; omega, fun _ => ?_, fun j hj => ?_, fun _ => ?_, fun j hj => ?_, fun j hj q hq => ?_, fun j hj => ?_⟩
      · show updG g.s g.N i 0 = 0
        by_cases e : g.N = 0
        · have : i = 0 := by
            by_cases e2 : i = 0
            · exact e2
            · have := ih.pos (by omega); omega
          rw [e, updG_same, this]
        · rw [updG_other _ _ (by omega)]
          exact ih.s0 (by omega)
      · have hj : j + 1 < g.N + 1 := hj
        show updG g.s g.N i (j + 1) = updG g.s g.N i j + updG g.c g.N 1 j
        rw [updG_other _ _ (by omega : j ≠ g.N), updG_other _ _ (by omega : j ≠ g.N)]
        by_cases e : j + 1 = g.N
        · rw [e, updG_same]
          have := ih.last (by omega)
          rw [show g.N - 1 = j by omega] at this
          omega
        · rw [updG_other _ _ e]
          exact ih.nx j (by omega)
      · show updG g.s g.N i (g.N + 1 - 1) + updG g.c g.N 1 (g.N + 1 - 1) = i + 1
        rw [show g.N + 1 - 1 = g.N by omega, updG_same, updG_same]
      · have hj : j < g.N + 1 := hj
        show 1 ≤ updG g.c g.N 1 j
        by_cases e : j = g.N
        · rw [e, updG_same]; exact Nat.le_refl _
        · rw [updG_other _ _ e]; exact ih.c1 j (by omega)
      · have hj : j < g.N + 1 := hj
        have hq : q < updG g.c g.N 1 j := hq
        show K (updG g.s g.N i j + q) = K (updG g.s g.N i j)
        by_cases e : j = g.N
        · rw [e, updG_same] at hq ⊢
          rw [show q = 0 by omega, Nat.add_zero]
        · rw [updG_other _ _ e] at hq ⊢
          exact ih.key j (by omega) q hq
      · have hj : j + 1 < g.N + 1 := hj
        show K (updG g.s g.N i (j + 1)) ≠ K (updG g.s g.N i (j + 1) - 1)
        by_cases e : j + 1 = g.N
        · rw [e, updG_same]
          rcases hc with hc | hc
          · omega
          · exact hc
        · rw [updG_other _ _ e]
          exact ih.new j (by omega)
    · rename_i hc
      have hi0 : i ≠ 0 := fun e => hc (.inl e)
      have hkk : K i = K (i - 1) := by
        by_cases e : K i = K (i - 1)
        · exact e
        · exact absurd (.inr e) hc
      have hN := ih.pos (by omega)
      have hla := ih.last hN
      have hc1 := ih.c1 (g.N - 1) (by omega)
      refine ⟨fun _ => hN, by show g.N ≤ i + 1; omega, fun _ => ih.s0 hN, fun j hj => ?_, fun _ => ?_, fun j hj => ?_, fun j hj q hq => ?_, fun j hj => ih.new j hj⟩
      · have hj : j + 1 < g.N := hj
        show g.s (j + 1) = g.s j + updG g.c (g.N - 1) _ j
        rw [updG_other _ _ (by omega)]
        exact ih.nx j hj
      · show g.s (g.N - 1) + updG g.c (g.N - 1) _ (g.N - 1) = i + 1
        rw [updG_same]
        omega
      · show 1 ≤ updG g.c (g.N - 1) _ j
        by_cases e : j = g.N - 1
        · rw [e, updG_same]; omega
        · rw [updG_other _ _ e]; exact ih.c1 j hj
      · have hj : j < g.N := hj
        have hq : q < updG g.c (g.N - 1) _ j := hq
        by_cases e : j = g.N - 1
        · subst e
          rw [updG_same] at hq
          by_cases eq : q = g.c (g.N - 1)
          · rw [eq, hla, hkk, show i - 1 = g.s (g.N - 1) + (g.c (g.N - 1) - 1) by omega]
            exact ih.key _ hj _ (by omega)
          · exact ih.key _ hj q (by omega)
        · rw [updG_other _ _ e] at hq
          exact ih.key j hj q hq
/-- groups that lie in memory -/
structure GA (eG : TypeId) (K V : Nat → ByteArray) (w wr : World) (B : Nat) (v : Value) (g : Gr) (hv : Nat → Value) : Prop where
  row : wr.ownsRow B eG 2 v g.N (prV (fun j => .string (K (g.s j))) hv g.N)
  vals : ∀ j, j < g.N → wr.ownsRow B 9 1 (hv j) (g.c j) (strN V (g.s j) (g.c j))
  ap : ∀ i j k, i < g.N → j < g.N → (hv i).ownBlock = some k → (hv j).ownBlock = some k → i = j
  bel : Below B w wr
theorem own_bears3 {w : World} {B n sz : Nat} {e : TypeId} {v : Value} {xs : List Value} (h : w.ownsRow B e sz v n xs) {g : Nat} (hg : v.ownBlock = some g) : Bears w g e := by
  rcases h.2 with ⟨rfl, _⟩ | ⟨g', cap, cur, rfl, _, hgg, _⟩
  · simp [Value.ownBlock] at hg
  · simp [Value.ownBlock] at hg
    subst hg
    exact ⟨cur, hgg⟩
theorem own_same3 {w w' : World} {B n sz : Nat} {e : TypeId} {v : Value} {xs : List Value} (h : w.ownsRow B e sz v n xs) (hb : ∀ g, v.ownBlock = some g → w'.heap[g]? = w.heap[g]?) : w'.ownsRow B e sz v n xs := by
  refine ⟨h.1, ?_⟩
  rcases h.2 with hn | ⟨g, cap, cur, rfl, hB, hg, rest⟩
  · exact .inl hn
  · exact .inr ⟨g, cap, cur, rfl, hB, (hb g rfl).trans hg, rest⟩
section
variable {eG : TypeId} {K V : Nat → ByteArray} {w wr w' : World} {B : Nat} {v : Value} {g : Gr} {hv : Nat → Value}
theorem GA.below (h : GA eG K V w wr B v g hv) (hB : B ≤ wr.heap.size) (hb : Below wr.heap.size wr w') : GA eG K V w w' B v g hv :=
  ⟨own_below2 hb h.row, fun j hj => own_below2 hb (h.vals j hj), h.ap, h.bel.trans (hb.mono hB)⟩
/-- a new group, without values as yet -/
theorem GA.fresh (he : eG ≠ 9) (h : GA eG K V w wr B v g hv) (hB : B ≤ wr.heap.size) (i : Nat) {o : Obj} {v' : Value} (hg : (wr.alloc o).grownBy w' v.ownBlock) (hown : w'.ownsRow B eG 2 v' (g.N + 1) (prV (fun j => .string (K (g.s j))) hv g.N ++ [.string (K i), .slice none 0 0])) :
    GA eG K V w w' B v' ⟨g.N + 1, updG g.s g.N i, updG g.c g.N 0⟩ (updG hv g.N (.slice none 0 0)) := by
  have hra := h.row.alloc o
  refine ⟨?_, fun j hj => ?_, fun a b k ha hb h1 h2 => ?_, (h.bel.alloc hB o).grown hg (by simp; omega) (fun j ej => (hra.lt j ej).1)⟩
  · show w'.ownsRow B _ 2 v' (g.N + 1) (prV (fun j => .string (K (updG g.s g.N i j))) (updG hv g.N (.slice none 0 0)) (g.N + 1))
    rw [prV_succ, updG_same, updG_same, prV_congr (a' := fun j => .string (K (g.s j))) (b' := hv) (fun j hj => ⟨by rw [updG_other _ _ (by omega)], by rw [updG_other _ _ (by omega)]⟩)]
    exact hown
  · have hj : j < g.N + 1 := hj
    show w'.ownsRow B _ 1 (updG hv g.N _ j) (updG g.c g.N 0 j) (strN V (updG g.s g.N i j) (updG g.c g.N 0 j))
    by_cases e : j = g.N
    · subst e
      rw [updG_same, updG_same, updG_same]
      exact World.ownsRow_nil _ _ _ _
    · rw [updG_other _ _ e, updG_other _ _ e, updG_other _ _ e]
      have hp := (h.vals j (by omega)).alloc o
      exact hp.kept hg (rows_apart2 hra hp he)
  · have ha : a < g.N + 1 := ha
    have hb : b < g.N + 1 := hb
    by_cases ea : a = g.N
    · subst ea
      rw [updG_same] at h1
      simp [Value.ownBlock] at h1
    · by_cases eb : b = g.N
      · subst eb
        rw [updG_same] at h2
        simp [Value.ownBlock] at h2
      · rw [updG_other _ _ ea] at h1
        rw [updG_other _ _ eb] at h2
        exact h.ap a b k (by omega) (by omega) h1 h2
/-- a value more of the last group -/
theorem GA.more (he : eG ≠ 9) (h : GA eG K V w wr B v g hv) (hB : B ≤ wr.heap.size) {l : Nat} (hl : l < g.N) (hla : ∀ j, j < g.N → j ≠ l → True) {o : Obj} {w1 : World} {bg cg gb cb : Nat} (hvg : v = .slice (some ⟨bg, 0, none⟩) g.N cg)
    (hg : (wr.alloc o).grownBy w1 (hv l).ownBlock) (hown : w1.ownsRow B 9 1 (.slice (some ⟨gb, 0, none⟩) (g.c l + 1) cb) (g.c l + 1) (strN V (g.s l) (g.c l) ++ [.string (V (g.s l + g.c l))]))
    (hat : (hv l).ownBlock = some gb ∨ gb = (wr.alloc o).heap.size) : GA eG K V w (w1.setCell ⟨bg, l * 2 + 1, none⟩ (.slice (some ⟨gb, 0, none⟩) (g.c l + 1) cb)) B v ⟨g.N, g.s, updG g.c l (g.c l + 1)⟩ (updG hv l (.slice (some ⟨gb, 0, none⟩) (g.c l + 1) cb)) := by
  have hrow := h.row.alloc o
  have hvl := fun j hj => (h.vals j hj).alloc o
  have hrow1 : w1.ownsRow B eG 2 v g.N (prV (fun j => .string (K (g.s j))) hv g.N) := hrow.kept hg (rows_apart2 (hvl l hl) hrow (fun e => he e.symm))
  have hbg : v.ownBlock = some bg := by rw [hvg]; rfl
  have hty := own_bears3 hrow1 hbg
  have hset : ∀ b, ¬ b = bg → (w1.setCell ⟨bg, l * 2 + 1, none⟩ (.slice (some ⟨gb, 0, none⟩) (g.c l + 1) cb)).heap[b]? = w1.heap[b]? := fun b hb => Below.heap_setCell _ _ _ _ hb
  have hkeep : ∀ j, j < g.N → j ≠ l → w1.ownsRow B 9 1 (hv j) (g.c j) (strN V (g.s j) (g.c j)) := fun j hj e => own_same3 (hvl j hj) fun b hb => hg.block b (own_bears3 (hvl j hj) hb).lt fun e3 => e (h.ap j l b hj hl hb e3.symm)
  have hstr : ∀ {x n xs}, w1.ownsRow B 9 1 x n xs → (w1.setCell ⟨bg, l * 2 + 1, none⟩ (.slice (some ⟨gb, 0, none⟩) (g.c l + 1) cb)).ownsRow B 9 1 x n xs := fun k => own_same3 k fun b hb => hset b (bears_apart (own_bears3 k hb) hty (fun e => he e.symm))
  have hsz : B ≤ (wr.alloc o).heap.size := by simp; omega
  refine ⟨?_, fun j hj => ?_, fun a b k ha hb h1 h2 => ?_, ((h.bel.alloc hB o).grown hg hsz (fun j ej => ((hvl l hl).lt j ej).1)).setCell (p := ⟨bg, l * 2 + 1, none⟩) (hrow.lt bg hbg).1 _⟩
  · have h9 := hrow1
    rw [hvg] at h9
    have := (h9.stored (l * 2 + 1) (.slice (some ⟨gb, 0, none⟩) (g.c l + 1) cb)).1
    rw [prV_set _ _ _ _ _ hl] at this
    rw [hvg]
    exact this
  · show World.ownsRow _ B _ 1 (updG hv l _ j) (updG g.c l _ j) (strN V (g.s j) (updG g.c l _ j))
    by_cases e : j = l
    · subst e
      rw [updG_same, updG_same, strN_succ]
      exact hstr hown
    · rw [updG_other _ _ e, updG_other _ _ e]
      exact hstr (hkeep j hj e)
  · have key : ∀ j, j < g.N → j ≠ l → (hv j).ownBlock ≠ some gb := fun j hj e e3 => by
      rcases hat with e4 | e4
      · exact e (h.ap j l gb hj hl e3 e4)
      · have := (own_bears3 (hvl j hj) e3).lt
        omega
    by_cases ea : a = l
    · subst ea
      rw [updG_same] at h1
      have h1 : gb = k := by simpa [Value.ownBlock] using h1
      subst h1
      by_cases eb : b = a
      · exact eb.symm
      · rw [updG_other _ _ eb] at h2
        exact absurd h2 (key b hb eb)
    · rw [updG_other _ _ ea] at h1
      by_cases eb : b = l
      · subst eb
        rw [updG_same] at h2
        have h2 : gb = k := by simpa [Value.ownBlock] using h2
        subst h2
        exact absurd h1 (key a ha ea)
      · rw [updG_other _ _ eb] at h2
        exact h.ap a b k ha hb h1 h2
end
end Go.Proofs.Ytmpeaondljpgiaa
