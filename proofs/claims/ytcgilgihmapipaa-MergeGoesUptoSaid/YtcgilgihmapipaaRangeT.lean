/- A range over an iterator that writes memory of its own between two rounds: T is what it may do there. Over any program. -/
import Derived.RangeFuncWrites
namespace Go.Proofs.Ytcgilgihmapipaa
open Go.RowKit

/-- an iterator's contract: whatever J its caller keeps, if J bears what the iterator does (T), and each round pays Kp -/
def SeqT {α : Type} (F : Fence) (n : Nat) (P : Program) (g : Nat) (lb : Array Value) (encs : α → Array Value) (Kp T : World → World → Prop) (xs : List α) (w : World) : Prop :=
  ∀ (l : Nat) (J Jx : List α → World → Prop) (W : World), Below w.heap.size w W → (∀ s A A', J s A → T A A' → J s A') →
    (∀ pre x W1, J pre W1 → pre ++ [x] <+: xs → YieldAt F (n - 1) P l (encs x) W1 fun e W' => (e = .returned (.bool true) ∧ J (pre ++ [x]) W' ∧ Kp W1 W') ∨ (e = .returned (.bool false) ∧ Jx (pre ++ [x]) W')) →
    J [] W → CallsIn F n P g (#[.func (.yield l) #[] #[]] ++ lb) W fun e W' => (∃ v, e = .returned v) ∧ (J xs W' ∨ ∃ pre, pre <+: xs ∧ Jx pre W')
/-- how a round's body may be left -/
def LeftT {α : Type} (Kp : World → World → Prop) (I : List α → World → Prop) (Ix : Code → List α → World → Prop) (xs : List α) (W : World) : Exit → Act → World → Prop
  | .normal, _, W' => KeepsOthers W W' ∧ Kp W W' ∧ I xs W'
  | .ret, _, W' => KeepsOthers W W' ∧ Ix .ret xs W'
  | .exit id, _, W' => KeepsOthers W W' ∧ Ix (.exit id) xs W'
  | _, _, _ => False
variable {F : Fence} {n : Nat} {P : Program}
/-- the loop's two blocks: what it records, and its deferred calls (none) -/
def Recs (w : World) (rec : Loop) (W : World) : Prop := W.heap[w.heap.size + 1]? = some (.loop rec) ∧ W.heap[w.heap.size]? = some (.deferred (some []))
theorem Recs.keep {w W W' : World} {rec : Loop} (h : Recs w rec W) (k : KeepsOthers W W') : Recs w rec W' := ⟨k.same _ _ h.1 rfl, k.same _ _ h.2 rfl⟩
theorem Recs.put {w W : World} {rec rec' : Loop} (h : Recs w rec W) : Recs w rec' (W.putObj (w.heap.size + 1) (.loop rec')) :=
  ⟨World.putObj_heap_same (Array.getElem?_eq_some_iff.1 h.1).1, (World.putObj_heap_other (by omega)).trans h.2⟩
theorem range_T {α : Type} {g : Operand} {ps : Array Tmp} {assign body : Code} {Q : Exit → Act → World → Prop} {a : Act} {w : World}
    (hro : F.round = none) (h1 : 1 ≤ n) {gf : Nat} {lb : Array Value} (hg : a.eval g = .func (.func gf) #[] lb) (hFg : F.fn gf) (eg : ∀ args w, (callFunc gf args).run P w = .ok (.enter gf args) w)
    {encs : α → Array Value} {Kp T : World → World → Prop} {xs : List α} {w0 : World} (hseq : SeqT F (n - 1) P gf lb encs Kp T xs w0) (hT : ∀ {A B : World}, T A B → KeepsOthers A B)
    (hKt : ∀ {A B C : World}, Kp A B → Kp B C → Kp A C) (hKb : ∀ (W : World) (l : Nat) (o o' : Obj), w.heap.size ≤ l → W.heap[l]? = some o → o.isCells = false → o.isWalk = false → Kp W (W.putObj l o')) (hb0 : Below w0.heap.size w0 w) (hps : ∀ x, (encs x).size = ps.size)
    (I : List α → World → Prop) (Ix : Code → List α → World → Prop) (hI : OwnFrom w.heap.size I) (hIT : ∀ s A B, I s A → T A B → I s B) (hIx : ∀ c, OwnFrom w.heap.size (Ix c)) (h0 : I [] w) (Ax : α → Act → World → Prop) (hAx : ∀ x a', OwnFrom w.heap.size (fun (_ : Unit) W => Ax x a' W))
    (hassign : ∀ (l : Nat) (pre : List α) (x : α) (W : World) (K : Act → World → Prop), I pre W → (∀ a' W', KeepsOthers W W' → Kp W W' → I pre W' → Ax x a' W' → K a' W') → assign.wpIn (F.inRound l) (n - 1 - 1) P (Exit.then K (fun _ _ _ => False)) { tmps := (ps.zip (encs x)).foldl (fun t (p, v) => t.setIfInBounds p v) a.tmps, defers := [] } W)
    (hbody : ∀ (l : Nat) (pre : List α) (x : α) (a' : Act) (W : World), I pre W → Ax x a' W → pre ++ [x] <+: xs → body.wpIn (F.inRound l) (n - 1 - 1) P (LeftT Kp I Ix (pre ++ [x]) W) a' W)
    (hdone : ∀ (D : Nat) (W : World), w.heap.size ≤ D → I xs W → W.heap[D]? = some (.deferred (some [])) → Q .normal { a with defers := { target := .collected D, args := #[] } :: a.defers } W)
    (hstop : ∀ (D : Nat) (c : Code) (pre : List α) (W : World), w.heap.size ≤ D → pre <+: xs → Ix c pre W → W.heap[D]? = some (.deferred (some [])) → c.wpIn F n P Q { a with defers := { target := .collected D, args := #[] } :: a.defers } W) :
    (Code.rangeFunc g ps assign body).wpIn F n P Q a w := by
  refine wpIn_rangeFunc fun fn hfn => ?_
  rw [hro]
  let rec0 : LoopState → Option Code → Loop := fun st pe => { state := st, pending := pe, fn, tmps := a.tmps, params := ps, assign, body, defers := w.heap.size }
  let W1 := (w.alloc (.deferred (some []))).alloc (.loop (rec0 .ready none))
  have hR1 : Recs w (rec0 .ready none) W1 := by
    refine ⟨?_, (Below.heap_alloc _ _ _ (by simp)).trans (World.alloc_heap_new w _)⟩
    have := World.alloc_heap_new (w.alloc (.deferred (some []))) (.loop (rec0 .ready none))
    rwa [World.size_alloc] at this
  have hb1 : Below w0.heap.size w0 W1 := hb0.trans ((((Below.refl _ w).alloc (Nat.le_refl _) _).alloc (by simp) _).mono hb0.size)
  refine ⟨w.heap.size + 1, [{ target := .collected w.heap.size, args := #[] }], W1, { target := .fn (.func gf) lb, args := #[.func (.yield (w.heap.size + 1)) #[] #[]] }, W1, gf, #[.func (.yield (w.heap.size + 1)) #[] #[]] ++ lb, W1, run_enterLoop_outer _ _ _ _ _, ?_, ?_, ?_, fun _ => h1, ?_⟩
  · simp only [resolve, hg]
    simp [go_sem]
  · intro f' hf'
    simp [Target.leads] at hf'
    subst hf'
    exact hFg
  · simp [invoke, go_sem, eg]
  have hcall := hseq (w.heap.size + 1) (fun pre W => I pre W ∧ Recs w (rec0 .ready none) W) (fun pre W => ∃ c, Ix c pre W ∧ Recs w (rec0 .done (some c)) W) W1 hb1 (fun s A A' h ht => ⟨hIT s A A' h.1 ht, h.2.keep (hT ht)⟩) ?_ ⟨hI.alloc _ (hI.alloc _ h0), hR1⟩
  · refine hcall.mono ?_
    rintro e W2 ⟨⟨v, rfl⟩, (⟨hi, hr⟩ | ⟨pre, hp, c, hi, hr⟩)⟩
    · exact ⟨none, _, run_endLoop (P := P) hr.1 (by simp [rec0]), hdone _ _ (Nat.le_refl _) (hI.putObj _ hi (by omega) hr.1 rfl) ((World.putObj_heap_other (by omega)).trans hr.2)⟩
    · exact ⟨some c, _, run_endLoop (P := P) hr.1 (by simp [rec0]), hstop _ c pre _ (Nat.le_refl _) hp ((hIx c).putObj _ hi (by omega) hr.1 rfl) ((World.putObj_heap_other (by omega)).trans hr.2)⟩
  -- one round
  rintro pre x W ⟨hi, hr⟩ hx
  refine ⟨fn, _, assign, body, run_yield (P := P) (args := encs x) hr.1 (by simp [rec0, hps x]), roundIn_of_wpIn hfn (hassign _ pre x W _ hi fun a' W' k1 p1 i1 ax1 => ⟨_, run_beginRound (hr.keep k1).1 rfl, ?_⟩)⟩
  have hr1 := hr.keep k1
  have hr2 : Recs w (rec0 .busy none) (W'.putObj (w.heap.size + 1) (.loop (rec0 .busy none))) := hr1.put
  have hk2 : Kp W (W'.putObj (w.heap.size + 1) (.loop (rec0 .busy none))) := hKt p1 (hKb _ _ _ _ (by omega) hr1.1 rfl rfl)
  refine wpIn_mono (hbody _ pre x a' _ (hI.putObj _ i1 (by omega) hr1.1 rfl) ((hAx x a').putObj (s := ()) _ ax1 (by omega) hr1.1 rfl) hx) ?_
  rintro e a3 W3 hp
  cases e with
  | normal =>
    obtain ⟨k3, p3, i3⟩ := hp
    have hr3 := hr2.keep k3
    exact ⟨_, _, run_endRound (P := P) none hr3.1, .inl ⟨rfl, ⟨hI.putObj _ i3 (by omega) hr3.1 rfl, hr3.put⟩, hKt (hKt hk2 p3) (hKb _ _ _ _ (by omega) hr3.1 rfl rfl)⟩⟩
  | ret =>
    obtain ⟨k3, i3⟩ := hp
    have hr3 := hr2.keep k3
    exact ⟨_, _, run_endRound (P := P) (some .ret) hr3.1, .inr ⟨rfl, .ret, (hIx _).putObj _ i3 (by omega) hr3.1 rfl, hr3.put⟩⟩
  | exit id =>
    obtain ⟨k3, i3⟩ := hp
    have hr3 := hr2.keep k3
    exact ⟨_, _, run_endRound (P := P) (some (.exit id)) hr3.1, .inr ⟨rfl, .exit id, (hIx _).putObj _ i3 (by omega) hr3.1 rfl, hr3.put⟩⟩
  | goto t => exact hp.elim
  | panic ch => exact hp.elim
  | outgrown => exact hp.elim
end Go.Proofs.Ytcgilgihmapipaa
