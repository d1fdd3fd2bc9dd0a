/- where.Spread: each time the candidate that is farthest from those that are taken. -/
import Derived.Test.YtjjmflkdfgneoaaSprRow
namespace Go.Proofs.Ytjjmflkdfgneoaa
open Go.RowKit

/-- the first of those whose least distance is greatest -/
def FarL (L : List Cd) (b : Nat) : Prop := ∃ h : b < L.length, (∀ i (hi : i < L.length), L[i].least ≤ L[b].least) ∧ ∀ i (hi : i < b), (L[i]'(by omega)).least < L[b].least
theorem farL_one {L : List Cd} {a b : Nat} (h : FarL L a) (k : FarL L b) : a = b := by
  obtain ⟨ha, h1, h2⟩ := h
  obtain ⟨hb, k1, k2⟩ := k
  rcases Nat.lt_trichotomy a b with h3 | h3 | h3
  · have := k2 a h3; have := h1 b hb; omega
  · exact h3
  · have := h2 b h3; have := k1 a ha; omega
noncomputable def farI2 (L : List Cd) : Nat := open Classical in if h : ∃ b, FarL L b then h.choose else 0
theorem farI2_of {L : List Cd} {b : Nat} (h : FarL L b) : farI2 L = b := by
  unfold farI2
  rw [dif_pos ⟨b, h⟩]
  exact farL_one (Exists.choose_spec (⟨b, h⟩ : ∃ b, FarL L b)) h
/-- the distance to a candidate's place -/
noncomputable def dC (c c' : Cd) : Int := distO (plc c'.re c'.im) (plc c.re c.im)
/-- the candidates that are left behind one round -/
noncomputable def leftL (L : List Cd) : List Cd := ((L.eraseIdx (farI2 L)).map (upC (dC (L.getD (farI2 L) ⟨0, 0, 0, 0⟩))))
/-- the numbers that are taken in n rounds -/
noncomputable def sprT : Nat → List Cd → List Nat
  | 0, _ => []
  | _ + 1, [] => []
  | n + 1, c :: L => ((c :: L).getD (farI2 (c :: L)) ⟨0, 0, 0, 0⟩).num :: sprT n (leftL (c :: L))
theorem cdAt_of {w : World} {B g m cap : Nat} {L : List Cd} (hm : m = L.length) (h : w.ownsRow B 47 3 (.slice (some ⟨g, 0, none⟩) m cap) m (cellsOf L)) : CdAt w g m (fun i => L.getD i ⟨0, 0, 0, 0⟩) := fun i hi => by
  have hL : i < L.length := by omega
  have hget : L[i]? = some L[i] := List.getElem?_eq_getElem hL
  have e : L.getD i ⟨0, 0, 0, 0⟩ = L[i] := by rw [List.getD_eq_getElem?_getD, hget]; rfl
  show w.cell? ⟨g, i * 3, none⟩ = some (.int .i64 ((L.getD i ⟨0, 0, 0, 0⟩).num : Int)) ∧ _ ∧ _
  have e2 : (fun i => L.getD i (⟨0, 0, 0, 0⟩ : Cd)) i = L[i] := e
  simp only [e]
  refine ⟨?_, ?_, ?_⟩
  · rw [h.cellAt (i * 3) (by omega)]; exact cellsOf_get L i _ hget 0 (by omega)
  · rw [h.cellAt (i * 3 + 1) (by omega)]; exact cellsOf_get L i _ hget 1 (by omega)
  · rw [h.cellAt (i * 3 + 2) (by omega)]; exact cellsOf_get L i _ hget 2 (by omega)
theorem farL_of {L : List Cd} {m b : Nat} (hm : m = L.length) (h : FarB (fun i => L.getD i ⟨0, 0, 0, 0⟩) m b) : FarL L b := by
  obtain ⟨h1, h2, h3⟩ := h
  have e : ∀ i (hi : i < L.length), L.getD i ⟨0, 0, 0, 0⟩ = L[i] := fun i hi => by rw [List.getD_eq_getElem?_getD, List.getElem?_eq_getElem hi]; rfl
  refine ⟨by omega, fun i hi => ?_, fun i hi => ?_⟩
  · have := h2 i (by omega)
    simp only [e i hi, e b (by omega)] at this
    exact this
  · have := h3 i hi
    simp only [e i (by omega), e b (by omega)] at this
    exact this
/-- all of them are places -/
def Plcs (L : List Cd) : Prop := ∀ c ∈ L, (plc c.re c.im).isSome = true
theorem plcs_left {L : List Cd} (h : Plcs L) : Plcs (leftL L) := by
  intro c hc
  obtain ⟨c0, h0, rfl⟩ := List.mem_map.1 hc
  exact h c0 (List.mem_of_mem_eraseIdx h0)
theorem dC_call {c c' : Cd} (h : (plc c.re c.im).isSome = true) (h' : (plc c'.re c'.im).isSome = true) (w : World) : Calls Try.prog 20 #[.complex .f64 c'.re c'.im, .complex .f64 c.re c.im] w fun e w' => e = .returned (.int .i64 (dC c c')) ∧ w = w' := by
  obtain ⟨p, hp⟩ := Option.isSome_iff_exists.1 h
  obtain ⟨q, hq⟩ := Option.isSome_iff_exists.1 h'
  unfold dC
  rw [hp, hq]
  exact apart_any _ _ _ _ q p w hq hp
theorem sprT_cons (n : Nat) {L : List Cd} (h : 0 < L.length) : sprT (n + 1) L = (L.getD (farI2 L) ⟨0, 0, 0, 0⟩).num :: sprT n (leftL L) := by
  cases L with
  | nil => simp at h
  | cons c L => rfl
theorem sprT_nil (n : Nat) : sprT n [] = [] := by cases n <;> rfl
end Go.Proofs.Ytjjmflkdfgneoaa
