/- A range over an iterator that ranges over another one: what it may do between two rounds hangs on how far the heap reached when it was called. Over any program. -/
import Derived.Test.YtcgilgihmapipaaRangeT
import Derived.RangeFuncBound
namespace Go.Proofs.Ytcgilgihmapipaa
open Go.RowKit

/-- an iterator's contract: as SeqT, where T and Kp are told how far the heap reached at the call -/
def SeqN {α : Type} (F : Fence) (n : Nat) (P : Program) (g : Nat) (lb : Array Value) (encs : α → Array Value) (Kp T : Nat → World → World → Prop) (xs : List α) (w : World) : Prop :=
  ∀ (l : Nat) (J Jx : List α → World → Prop) (W : World), Below w.heap.size w W → l < W.heap.size → (∀ s A A', J s A → T W.heap.size A A' → J s A') → (∀ s A A', Jx s A → T W.heap.size A A' → Jx s A') →
    (∀ pre x W1, J pre W1 → pre ++ [x] <+: xs → YieldAt F (n - 1) P l (encs x) W1 fun e W' => (e = .returned (.bool true) ∧ J (pre ++ [x]) W' ∧ Kp W.heap.size W1 W') ∨ (e = .returned (.bool false) ∧ Jx (pre ++ [x]) W' ∧ Kp W.heap.size W1 W')) →
    J [] W → CallsIn F n P g (#[.func (.yield l) #[] #[]] ++ lb) W fun e W' => (∃ v, e = .returned v) ∧ (J xs W' ∨ ∃ pre, pre <+: xs ∧ Jx pre W')
theorem SeqT.toN {α : Type} {F : Fence} {n : Nat} {P : Program} {g : Nat} {lb : Array Value} {encs : α → Array Value} {Kp T : World → World → Prop} {xs : List α} {w : World} (h : SeqT F n P g lb encs Kp T xs w) :
    SeqN F n P g lb encs (fun _ => Kp) (fun _ => T) xs w := fun l J Jx W hb _ hj _ hy h0 => h l J Jx W hb hj (fun pre x W1 h1 h2 => (hy pre x W1 h1 h2).mono fun e w k => by rcases k with k | ⟨k1, k2, _⟩; exact .inl k; exact .inr ⟨k1, k2⟩) h0
/-- the loop's two blocks lie as they lay -/
def KeepsAt (s : Nat) (W W' : World) : Prop := ∀ (k : Nat) (o : Obj), (k = s ∨ k = s + 1) → W.heap[k]? = some o → o.isCells = false → W'.heap[k]? = some o
theorem KeepsAt.trans {s : Nat} {A B C : World} (h : KeepsAt s A B) (k : KeepsAt s B C) : KeepsAt s A C := fun j o hj ho hc => k j o hj (h j o hj ho hc) hc
theorem KeepsAt.of {s : Nat} {A B : World} (h : KeepsOthers A B) : KeepsAt s A B := fun j o _ ho hc => h.same j o ho hc
def LeftN {α : Type} (s : Nat) (Kp : World → World → Prop) (I : List α → World → Prop) (Ix : Code → List α → World → Prop) (xs : List α) (W : World) : Exit → Act → World → Prop
  | .normal, _, W' => KeepsAt s W W' ∧ Kp W W' ∧ I xs W'
  | .ret, _, W' => KeepsAt s W W' ∧ Kp W W' ∧ Ix .ret xs W'
  | .exit id, _, W' => KeepsAt s W W' ∧ Kp W W' ∧ Ix (.exit id) xs W'
  | _, _, _ => False
variable {F : Fence} {n : Nat} {P : Program}
theorem Recs.keepAt {w W W' : World} {rec : Loop} (h : Recs w rec W) (k : KeepsAt w.heap.size W W') : Recs w rec W' := ⟨k _ _ (.inr rfl) h.1 rfl, k _ _ (.inl rfl) h.2 rfl⟩
theorem range_N {α : Type} {g : Operand} {ps : Array Tmp} {assign body : Code} {Q : Exit → Act → World → Prop} {a : Act} {w : World}
    (hro : F.round = none) (h1 : 1 ≤ n) {gf : Nat} {lb : Array Value} (hg : a.eval g = .func (.func gf) #[] lb) (hFg : F.fn gf) (eg : ∀ args w, (callFunc gf args).run P w = .ok (.enter gf args) w)
    {encs : α → Array Value} {Kp T : Nat → World → World → Prop} {xs : List α} {w0 : World} (hseq : SeqN F (n - 1) P gf lb encs Kp T xs w0) (hT : ∀ {A B : World}, T (w.heap.size + 2) A B → KeepsAt w.heap.size A B)
    (hKt : ∀ {A B C : World}, Kp (w.heap.size + 2) A B → Kp (w.heap.size + 2) B C → Kp (w.heap.size + 2) A C) (hKb : ∀ (W : World) (o o' : Obj), W.heap[w.heap.size + 1]? = some o → o.isCells = false → o.isWalk = false → Kp (w.heap.size + 2) W (W.putObj (w.heap.size + 1) o')) (hb0 : Below w0.heap.size w0 w) (hps : ∀ x, (encs x).size = ps.size)
    (I : List α → World → Prop) (Ix : Code → List α → World → Prop) (hI : OwnFrom w.heap.size I) (hIT : ∀ s A B, I s A → T (w.heap.size + 2) A B → I s B) (hIx : ∀ c, OwnFrom w.heap.size (Ix c)) (hIxT : ∀ c s A B, Ix c s A → T (w.heap.size + 2) A B → Ix c s B) (h0 : I [] w) (Ax : α → Act → World → Prop) (hAx : ∀ x a', OwnFrom w.heap.size (fun (_ : Unit) W => Ax x a' W))
    (hassign : ∀ (l : Nat) (pre : List α) (x : α) (W : World) (K : Act → World → Prop), I pre W → (∀ a' W', KeepsAt w.heap.size W W' → Kp (w.heap.size + 2) W W' → I pre W' → Ax x a' W' → K a' W') → assign.wpIn (F.inRound l) (n - 1 - 1) P (Exit.then K (fun _ _ _ => False)) { tmps := (ps.zip (encs x)).foldl (fun t (p, v) => t.setIfInBounds p v) a.tmps, defers := [] } W)
    (hbody : ∀ (l : Nat) (pre : List α) (x : α) (a' : Act) (W : World), I pre W → Ax x a' W → pre ++ [x] <+: xs → body.wpIn (F.inRound l) (n - 1 - 1) P (LeftN w.heap.size (Kp (w.heap.size + 2)) I Ix (pre ++ [x]) W) a' W)
    (hdone : ∀ (D : Nat) (W : World), w.heap.size ≤ D → I xs W → W.heap[D]? = some (.deferred (some [])) → Q .normal { a with defers := { target := .collected D, args := #[] } :: a.defers } W)
    (hstop : ∀ (D : Nat) (c : Code) (pre : List α) (W : World), w.heap.size ≤ D → pre <+: xs → Ix c pre W → W.heap[D]? = some (.deferred (some [])) → c.wpIn F n P Q { a with defers := { target := .collected D, args := #[] } :: a.defers } W) :
    (Code.rangeFunc g ps assign body).wpIn F n P Q a w := by
  refine wpIn_rangeFunc fun fn hfn => ?_
  rw [hro]
  let rec0 : LoopState → Option Code → Loop := fun st pe => { state := st, pending := pe, fn, tmps := a.tmps, params := ps, assign, body, defers := w.heap.size }
  let W1 := (w.alloc (.deferred (some []))).alloc (.loop (rec0 .ready none))
  have hN : W1.heap.size = w.heap.size + 2 := by simp [W1]
  have hR1 : Recs w (rec0 .ready none) W1 := by
    refine ⟨?_, (Below.heap_alloc _ _ _ (by simp)).trans (World.alloc_heap_new w _)⟩
    have := World.alloc_heap_new (w.alloc (.deferred (some []))) (.loop (rec0 .ready none))
    rwa [World.size_alloc] at this
  have hb1 : Below w0.heap.size w0 W1 := hb0.trans ((((Below.refl _ w).alloc (Nat.le_refl _) _).alloc (by simp) _).mono hb0.size)
  refine ⟨w.heap.size + 1, [{ target := .collected w.heap.size, args := #[] }], W1, { target := .fn (.func gf) lb, args := #[.func (.yield (w.heap.size + 1)) #[] #[]] }, W1, gf, #[.func (.yield (w.heap.size + 1)) #[] #[]] ++ lb, W1, run_enterLoop_outer _ _ _ _ _, ?_, ?_, ?_, fun _ => h1, ?_⟩
  · simp only [resolve, hg]
    simp [go_sem]
  · intro f' hf'
    simp [Target.leads] at hf'
    subst hf'
    exact hFg
  · simp [invoke, go_sem, eg]
  have hseq' := hseq (w.heap.size + 1) (fun pre W => I pre W ∧ Recs w (rec0 .ready none) W) (fun pre W => ∃ c, Ix c pre W ∧ Recs w (rec0 .done (some c)) W) W1 hb1 (by omega)
  rw [hN] at hseq'
  have hcall := hseq' (fun s A A' h ht => ⟨hIT s A A' h.1 ht, h.2.keepAt (hT ht)⟩) (fun s A A' h ht => by obtain ⟨c, h1, h2⟩ := h; exact ⟨c, hIxT c s A A' h1 ht, h2.keepAt (hT ht)⟩) ?_ ⟨hI.alloc _ (hI.alloc _ h0), hR1⟩
  · refine hcall.mono ?_
    rintro e W2 ⟨⟨v, rfl⟩, (⟨hi, hr⟩ | ⟨pre, hp, c, hi, hr⟩)⟩
    · exact ⟨none, _, run_endLoop (P := P) hr.1 (by simp [rec0]), hdone _ _ (Nat.le_refl _) (hI.putObj _ hi (by omega) hr.1 rfl) ((World.putObj_heap_other (by omega)).trans hr.2)⟩
    · exact ⟨some c, _, run_endLoop (P := P) hr.1 (by simp [rec0]), hstop _ c pre _ (Nat.le_refl _) hp ((hIx c).putObj _ hi (by omega) hr.1 rfl) ((World.putObj_heap_other (by omega)).trans hr.2)⟩
  -- one round
  rintro pre x W ⟨hi, hr⟩ hx
  refine ⟨fn, _, assign, body, run_yield (P := P) (args := encs x) hr.1 (by simp [rec0, hps x]), roundIn_of_wpIn hfn (hassign _ pre x W _ hi fun a' W' k1 p1 i1 ax1 => ⟨_, run_beginRound (hr.keepAt k1).1 rfl, ?_⟩)⟩
  have hr1 := hr.keepAt k1
  have hr2 : Recs w (rec0 .busy none) (W'.putObj (w.heap.size + 1) (.loop (rec0 .busy none))) := hr1.put
  have hk2 : Kp (w.heap.size + 2) W (W'.putObj (w.heap.size + 1) (.loop (rec0 .busy none))) := hKt p1 (hKb _ _ _ hr1.1 rfl rfl)
  refine wpIn_mono (hbody _ pre x a' _ (hI.putObj _ i1 (by omega) hr1.1 rfl) ((hAx x a').putObj (s := ()) _ ax1 (by omega) hr1.1 rfl) hx) ?_
  rintro e a3 W3 hp
  cases e with
  | normal =>
    obtain ⟨k3, p3, i3⟩ := hp
    have hr3 := hr2.keepAt k3
    exact ⟨_, _, run_endRound (P := P) none hr3.1, .inl ⟨rfl, ⟨hI.putObj _ i3 (by omega) hr3.1 rfl, hr3.put⟩, hKt (hKt hk2 p3) (hKb _ _ _ hr3.1 rfl rfl)⟩⟩
  | ret =>
    obtain ⟨k3, p3, i3⟩ := hp
    have hr3 := hr2.keepAt k3
    exact ⟨_, _, run_endRound (P := P) (some .ret) hr3.1, .inr ⟨rfl, ⟨.ret, (hIx _).putObj _ i3 (by omega) hr3.1 rfl, hr3.put⟩, hKt (hKt hk2 p3) (hKb _ _ _ hr3.1 rfl rfl)⟩⟩
  | exit id =>
    obtain ⟨k3, p3, i3⟩ := hp
    have hr3 := hr2.keepAt k3
    exact ⟨_, _, run_endRound (P := P) (some (.exit id)) hr3.1, .inr ⟨rfl, ⟨.exit id, (hIx _).putObj _ i3 (by omega) hr3.1 rfl, hr3.put⟩, hKt (hKt hk2 p3) (hKb _ _ _ hr3.1 rfl rfl)⟩⟩
  | goto t => exact hp.elim
  | panic ch => exact hp.elim
  | outgrown => exact hp.elim
end Go.Proofs.Ytcgilgihmapipaa
