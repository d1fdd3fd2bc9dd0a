/- Package disk: what an append does to a map of files: the map as a map from names to slices' headers. -/
import Derived.Test.YtmlikkjahkdilaaGreatDoorDiskNone
import Derived.Maps.Own
import Derived.Maps.OwnSet
import Derived.Maps.Views
import Derived.Lib.AppendStr
import Derived.Carry
import Derived.Lib.Hide
import Derived.Below
import Derived.OwnWalk
import Derived.Deep.RegionLaw
namespace Go.Proofs.YtmlikkjahkdilaaGreatDoor
open Go.RowKit Go.Maps

theorem strLaw : Keyed Tryz.prog 9 := string_keyed Tryz.underlying9
theorem zeroRow (w : World) : (zeroValue 76).run Tryz.prog w = .ok (.slice none 0 0) w := by kernel_rfl
/-- a slice's header as a datum -/
def hdr : Value → Option (DataW Unit × List MemPlace)
  | .slice none n c => some (.agg [.lit (.int .i64 (n : Int)), .lit (.int .i64 (c : Int))], [])
  | .slice (some ⟨b, o, none⟩) n c => some (.agg [.lit (.int .i64 (n : Int)), .lit (.int .i64 (c : Int)), .lit (.int .i64 (b : Int)), .lit (.int .i64 (o : Int))], [])
  | _ => none
def hd (v : Value) : DataW Unit := match hdr v with | some z => z.1 | none => .map []
theorem hdr_inj {v v' : Value} {z : DataW Unit × List MemPlace} (h : hdr v = some z) (h' : hdr v' = some z) : v = v' := by
  unfold hdr at h h'
  split at h <;> split at h' <;> first
    | (cases h; done)
    | (cases h'; done)
    | (have e := h.trans h'.symm; simp at e; obtain ⟨e1, e2, e3, e4⟩ := e; have e1 := Int.ofNat.inj e1; have e2 := Int.ofNat.inj e2; have e3 := Int.ofNat.inj e3; have e4 := Int.ofNat.inj e4; subst e1 e2 e3 e4; rfl)
    | (have e := h.trans h'.symm; simp at e; obtain ⟨e1, e2⟩ := e; have e1 := Int.ofNat.inj e1; have e2 := Int.ofNat.inj e2; subst e1 e2; rfl)
    | (have e := h.trans h'.symm; simp at e; done)
theorem hdr_ps {v : Value} {z : DataW Unit × List MemPlace} (h : hdr v = some z) : z.2 = [] := by
  unfold hdr at h
  split at h <;> first
    | (cases h; rfl)
    | (cases h; done)
theorem hdr_hd {v : Value} {z : DataW Unit × List MemPlace} (h : hdr v = some z) : hdr v = some (hd v, []) := by
  have h2 := hdr_ps h
  obtain ⟨z1, z2⟩ := z
  simp only at h2
  subst h2
  rw [show hd v = z1 by unfold hd; rw [h], h]
theorem hdr_row {w : World} {B k : Nat} {e : TypeId} {v : Value} {xs : List Value} (hrow : w.ownsRow B e 1 v k xs) : hdr v = some (hd v, []) := by
  rcases hrow.2 with ⟨rfl, _⟩ | ⟨g, cap, cur, rfl, _⟩ <;> rfl
abbrev FM (w : World) (m n : Nat) (D : DataW Unit) : Prop := w.ownsMap Tryz.prog 9 hdr m n D
def sk (s : ByteArray) : Lit := .string s.data.toList
theorem look_file {w : World} {m n : Nat} {D : DataW Unit} {s : ByteArray} {v : Value} (h : FM w m n D) (hs : s.size ≤ maxLen) (hv : hdr v = some (D.atKey (sk s) (hd (.slice none 0 0)), [])) :
    (Instr.lookup 62 (.map (some m)) (.string s) false).run Tryz.prog w = .ok v w := by
  obtain ⟨v2, ps, hrun, hv2⟩ := h.lookup strLaw Tryz.underlying62 (zeroRow w) (zd := hd (.slice none 0 0)) (zp := []) rfl (Go.WideMaps.keyOf_string_mk Tryz.underlying9 hs)
  have hp : ps = [] := hdr_ps hv2
  subst hp
  rw [hdr_inj hv hv2]
  exact hrun
/-- nothing has turned but block m, one row and new blocks -/
structure Tu3 (w w' : World) (m : Nat) (r : Option Nat) : Prop where
  os : w'.os = w.os
  tape : w'.tape = w.tape
  output : w'.output = w.output
  size : w.heap.size ≤ w'.heap.size
  block : ∀ k, k < w.heap.size → ¬ k = m → some k ≠ r → w'.heap[k]? = w.heap[k]?
theorem tu3_of {w w1 w2 w3 : World} {m : Nat} {r : Option Nat} (hb : Below w.heap.size w w1) (hg : w1.grownBy w2 r) (hg2 : w2.grownBy w3 (some m)) : Tu3 w w3 m r :=
  ⟨hg2.os.trans (hg.os.trans hb.os), hg2.tape.trans (hg.tape.trans hb.tape), hg2.output.trans (hg.output.trans hb.output), Nat.le_trans hb.size (Nat.le_trans hg.size hg2.size),
    fun k hk hne hr => (hg2.block k (Nat.lt_of_lt_of_le hk (Nat.le_trans hb.size hg.size)) (fun e => hne (by injection e))).trans ((hg.block k (Nat.lt_of_lt_of_le hk hb.size) hr).trans (hb.block k hk))⟩
theorem row_block {w : World} {B m n k : Nat} {D : DataW Unit} {e : TypeId} {v : Value} {xs : List Value} (hrow : w.ownsRow B e 1 v k xs) (ho : FM w m n D) : some m ≠ v.ownBlock := by
  rcases hrow.2 with ⟨rfl, _⟩ | ⟨g, cap, cur, rfl, _, hg, _⟩
  · simp [Value.ownBlock]
  · obtain ⟨es, clock, h1, _⟩ := ho
    intro e
    simp [Value.ownBlock] at e
    rw [← e, h1] at hg
    cases hg
theorem infoByte : (Tryz.prog.info? 5).map (fun i => (i.zero, i.size, i.bytes)) = some (some (.int .u8 0), 1, 1) := by kernel_rfl
/-- an append of a string, run already, as one step of a region that draws its order -/
theorem step_append_run {P : Program} {ops : Array Oper} {o : Oper} {a : Act} {w : World} {K : Act → World → Prop} {Q : Exit → Act → World → Prop} {E : Prop}
    (hg : o.guard = none) (s x : Operand) (t u : TypeId) (hop : o.op = Op.call { callee := Callee.builtin Builtin.append, args := #[s, x], argTypes := #[t, u] })
    (v : Value) (d : ByteArray) (hs : a.eval s = v) (hx : a.eval x = .string d) (v' : Value) (w' : World) (hrun : (Builtin.append_ #[t, u] o.type #[v, .string d]).run P w = .ok v' w')
    (hK : K (a.put o.dst v') w') :
    if Region.wanted o (yielded ops a.tmps) = true then Oper.wp P o a w K Q else E := by
  have hw : Region.wanted o (yielded ops a.tmps) = true := by simp [Region.wanted, hg]
  rw [if_pos hw]
  unfold Oper.wp
  simp [execOp, hop, resolve, invoke, builtin, hs, hx, hrun, Result.andThen]
  exact hK
/-- where the value of an append lies: where it lay, or in a new block -/
theorem append_fresh {w w' : World} {B k : Nat} {v v' : Value} {xs : List Value} (data : ByteArray) (hrow : w.ownsRow B 5 1 v k xs) (hsz : k + data.size ≤ 140737488355328)
    (hrun : (Builtin.append_ #[76, 9] 76 #[v, .string data]).run Tryz.prog w = .ok v' w') : ∀ b, v'.ownBlock = some b → v.ownBlock = some b ∨ w.heap.size ≤ b := by
  obtain ⟨i0, hi, hz0, hz1, hz2⟩ := info_parts infoByte
  intro b hb
  rcases hrow.2 with ⟨rfl, rfl⟩ | ⟨g, cap, cur, rfl, h1, h2, h3, h4, h5, h6⟩
  · by_cases h0 : 0 < data.size
    · have := run_append_nil_string (P := Tryz.prog) w 76 9 76 5 i0 (.int .u8 0) Tryz.underlying76 Tryz.underlying9 hi hz0 data h0 (by omega) (by rw [hz2]; omega)
      rw [this] at hrun
      injection hrun with e1 _
      rw [← e1] at hb
      simp [Value.ownBlock] at hb
      exact .inr (by omega)
    · have hd : data = ⟨#[]⟩ := ByteArray.ext (Array.eq_empty_of_size_eq_zero (by have : data.data.size = data.size := rfl; omega))
      subst hd
      have : (Builtin.append_ #[76, 9] 76 #[.slice none 0 0, .string ⟨#[]⟩]).run Tryz.prog w = .ok (.slice none 0 0) w := by
        have hsz0 : (⟨#[]⟩ : ByteArray).size = 0 := rfl
        simp [Builtin.append_, run_underlying Tryz.underlying76, run_underlying Tryz.underlying9, sizeOf, typeInfo, hi, Builtin.lenOf, Builtin.firstCells, hsz0]
      rw [this] at hrun
      injection hrun with e1 _
      rw [← e1] at hb
      cases hb
  · by_cases hroom : k + data.size ≤ cap
    · have := Lib.run_append_room_string (P := Tryz.prog) w 76 9 76 5 i0 Tryz.underlying76 Tryz.underlying9 hi hz1 g k cap cur h2 data hroom (by omega)
      rw [this] at hrun
      injection hrun with e1 _
      rw [← e1] at hb
      exact .inl hb
    · have := Lib.run_append_grow_string (P := Tryz.prog) w 76 9 76 5 i0 (.int .u8 0) Tryz.underlying76 Tryz.underlying9 hi hz0 ⟨g, 0, none⟩ k cap xs (by rw [hz1]; exact hrow.1) (fun j u hj => by
        rw [Addr.add_lit, Nat.zero_add]
        have := World.ownsRow.cells hrow (g := g) rfl j u hj
        simpa [Addr.add_lit] using this) data (by omega) (by omega) (growslice_fits (by omega) (by rw [hz2]; omega))
      rw [this] at hrun
      injection hrun with e1 _
      rw [← e1] at hb
      simp [Value.ownBlock] at hb
      exact .inr (by omega)
set_option maxRecDepth 100000 in
set_option maxHeartbeats 4000000 in
theorem do_append_s (m n B k : Nat) (D : DataW Unit) (v : Value) (xs : List Value) (name data : ByteArray) (w : World) (ho : FM w m n D) (hn : n < maxLen) (hname : name.size ≤ maxLen)
    (hv : hdr v = some (D.atKey (sk name) (hd (.slice none 0 0)), [])) (hrow : w.ownsRow B 5 1 v k xs) (hB : B ≤ w.heap.size) (hsz : k + data.size ≤ 140737488355328) :
    Calls Tryz.prog 36 #[.agg #[.string name, .string data], .map (some m)] w fun e w' => e = .returned (.tuple #[]) ∧ ∃ v', FM w' m (n + 1) (D.put (sk name) (hd v')) ∧ w'.ownsRow B 5 1 v' (k + data.size) (xs ++ Lib.strCells data) ∧ Tu3 w w' m v.ownBlock ∧ (∀ b, v'.ownBlock = some b → v.ownBlock = some b ∨ w.heap.size ≤ b) := by
  obtain ⟨i0, hi, hz0, hz1, hz2⟩ := info_parts infoByte
  go_enter Tryz.func36, Tryz.ntmps36
  go_upto_region 1 with (fail)
  have hb1 : Below w.heap.size w (w.alloc (.cells #[.string name, .string data] 68)) := (Below.refl _ w).alloc (Nat.le_refl _) _
  have ho1 : FM (w.alloc (.cells #[.string name, .string data] 68)).drew m n D := ho.alloc _
  have hrow1 : (w.alloc (.cells #[.string name, .string data] 68)).drew.ownsRow B 5 1 v k xs := World.ownsRow.alloc hrow _
  have hlk := look_file ho1 hname hv
  have hB1 : B ≤ (w.alloc (.cells #[.string name, .string data] 68)).drew.heap.size := by simp; omega
  obtain ⟨v2, w2, hap, hrow2, hg2, _⟩ := Lib.run_append_own_string (P := Tryz.prog) (w.alloc (.cells #[.string name, .string data] 68)).drew B 76 9 76 5 i0 Tryz.underlying76 Tryz.underlying9 hi hz0 hz1 hz2 v k xs hrow1 data (by unfold maxLen; omega) hsz hB1
  have ho2 : FM w2 m n D := ho1.kept hg2 (row_block hrow1 ho1)
  obtain ⟨w3, hup, ho3, hg3⟩ := ho2.update strLaw Tryz.underlying62 hn (Go.WideMaps.keyOf_string_mk Tryz.underlying9 hname) (hdr_row hrow2)
  have hrow3 : w3.ownsRow B 5 1 v2 (k + data.size) (xs ++ Lib.strCells data) := World.ownsRow.kept hrow2 hg3 (.inr (fun e => row_block hrow2 ho2 e.symm))
  have hnb : some w.heap.size ≠ v.ownBlock := fun e => by have := (hrow.lt _ e.symm).2; omega
  have d0 : w2.cell? ⟨w.heap.size, 0, none⟩ = some (.string name) := (World.cell?_of_block (a := ⟨w.heap.size, 0, none⟩) (hg2.block w.heap.size (by simp) hnb)).trans (by simp)
  have hfr : ∀ b, v2.ownBlock = some b → v.ownBlock = some b ∨ w.heap.size ≤ b := fun b hb => (append_fresh data hrow1 hsz hap b hb).imp id (fun h => by simp at h; omega)
  have HFIN := Lib.hid (And.intro ho3 (And.intro hrow3 (And.intro (tu3_of hb1.drew hg2 hg3) hfr)))
  clear hfr hb1 ho1 hrow1 hB1 hrow2 hg2 ho2 ho3 hg3 hrow3 ho hrow hv
  go_region_law (refine step_append_run rfl (.tmp 10) (.tmp 12) 76 9 rfl v data rfl rfl v2 w2 hap ?_)
  all_goals first
    | exact bodyPost_ret (v := .tuple #[]) (results_none rfl _ _ _) rfl ⟨rfl, v2, HFIN.out⟩
    | (go_end0; exact ⟨rfl, v2, HFIN.out⟩)
    | (go_wp2; exact bodyPost_ret (v := .tuple #[]) (results_none rfl _ _ _) rfl ⟨rfl, v2, HFIN.out⟩)
theorem do_append (m n B k : Nat) (D : DataW Unit) (v : Value) (xs : List Value) (name data : ByteArray) (w : World) (ho : FM w m n D) (hn : n < maxLen) (hname : name.size ≤ maxLen)
    (hv : hdr v = some (D.atKey (sk name) (hd (.slice none 0 0)), [])) (hrow : w.ownsRow B 5 1 v k xs) (hB : B ≤ w.heap.size) (hsz : k + data.size ≤ 140737488355328) :
    Calls Tryz.prog 36 #[.agg #[.string name, .string data], .map (some m)] w fun e w' => e = .returned (.tuple #[]) ∧ ∃ v', FM w' m (n + 1) (D.put (sk name) (hd v')) ∧ w'.ownsRow B 5 1 v' (k + data.size) (xs ++ Lib.strCells data) ∧ Tu3 w w' m v.ownBlock :=
  (do_append_s m n B k D v xs name data w ho hn hname hv hrow hB hsz).mono fun _ _ ⟨he, v', h1, h2, h3, _⟩ => ⟨he, v', h1, h2, h3⟩
end Go.Proofs.YtmlikkjahkdilaaGreatDoor
