/- The iterator over the chunks of a text. -/
import Derived.Test.YtgeigimdmhjddaaDoorCrcFnsB
import Derived.RangeFuncBox
import Derived.RangeFuncNested
import Derived.RangeFuncBound
import Derived.RangeFuncCalls
import Derived.RangeFuncLeaves
import Derived.Shelf.Abstract
import Derived.Shelf.RegionOpen
import Derived.WalkKit
import Derived.OwnWalkIn
import Derived.TacticsInMore
import Derived.LoopNIn
import Derived.LoopIn
import Derived.Maps.AppendAt
namespace Go.Proofs.YtgeigimdmhjddaaDoor
open Go.RowKit Go.Shelf
attribute [local go_sem] Oper.semAt_some

/-- a text that the model's reach bears -/
abbrev Txt := { x : ByteArray // x.size ≤ 140737488351232 }
/-- the chunks of so many bytes -/
def chA (k : Nat) (R : Txt) : List Txt :=
  if h : 0 < k ∧ 0 < R.1.size then
    ⟨R.1.extract 0 (min k R.1.size), by have := R.2; rw [ByteArray.size_extract]; omega⟩ :: chA k ⟨R.1.extract (min k R.1.size) R.1.size, by have := R.2; rw [ByteArray.size_extract]; omega⟩
  else []
termination_by R.1.size
decreasing_by simp only [ByteArray.size_extract]; omega
theorem chA_nil {k : Nat} {R : Txt} (h : ¬ (0 < k ∧ 0 < R.1.size)) : chA k R = [] := by rw [chA, dif_neg h]
theorem chA_cons {k : Nat} {R : Txt} (h : 0 < k ∧ 0 < R.1.size) (n : Nat) (hn : n = min k R.1.size) (p q : Txt) (hp : p.1 = R.1.extract 0 n) (hq : q.1 = R.1.extract n R.1.size) : chA k R = p :: chA k q := by
  rw [chA, dif_pos h]
  subst hn
  have e1 : p = ⟨R.1.extract 0 (min k R.1.size), by have := R.2; rw [ByteArray.size_extract]; omega⟩ := Subtype.ext hp
  have e2 : q = ⟨R.1.extract (min k R.1.size) R.1.size, by have := R.2; rw [ByteArray.size_extract]; omega⟩ := Subtype.ext hq
  rw [e1, e2]
def strLen : Value → Nat
  | .string s => s.size
  | _ => 0
theorem isEmpty_no {R : ByteArray} (h : 0 < R.size) : R.toList.isEmpty = false := by
  rw [ByteArray.toList_eq]
  cases hc : R.data.toList with
  | nil =>
    have e1 : R.data.toList.length = 0 := by rw [hc]; rfl
    have e2 : R.data.toList.length = R.size := by simp
    omega
  | cons x r => rfl
theorem isEmpty_yes {R : ByteArray} (h : R.size = 0) : R.toList.isEmpty = true := by
  rw [ByteArray.toList_eq]
  have e2 : R.data.toList.length = R.size := by simp
  rw [List.eq_nil_of_length_eq_zero (by omega : R.data.toList.length = 0)]; rfl
/-- what a round keeps: what lay below, and the box of the size -/
def KpZ (n₀ Bz : Nat) (W W' : World) : Prop := Below n₀ W W' ∧ W'.cell? ⟨Bz, 0, none⟩ = W.cell? ⟨Bz, 0, none⟩
theorem kpZ_t {n₀ Bz : Nat} {A B C : World} (h : KpZ n₀ Bz A B) (k : KpZ n₀ Bz B C) : KpZ n₀ Bz A C := ⟨h.1.trans k.1, k.2.trans h.2⟩
theorem kpZ_b {n₀ Bz : Nat} {w : World} (hn : n₀ ≤ w.heap.size) (hz : Bz < w.heap.size) (W : World) (l : Nat) (o o' : Obj) (hl : w.heap.size ≤ l) (h : W.heap[l]? = some o) (h1 : o.isCells = false) (h2 : o.isWalk = false) : KpZ n₀ Bz W (W.putObj l o') :=
  ⟨belowK_b hn W l o o' hl h h1 h2, World.cell?_of_block (a := ⟨Bz, 0, none⟩) ((grownBy_putObj' W l o').block Bz (by have := (Array.getElem?_eq_some_iff.1 h).1; omega) (fun e => by cases e; omega))⟩
def ItPost (xs : List Txt) (J Jx : List Txt → World → Prop) (e : Ending) (W' : World) : Prop :=
  (∃ v, e = .returned v) ∧ ((∃ ys, ys = xs ∧ J ys W') ∨ (∃ pre, pre <+: xs ∧ Jx pre W'))
set_option maxRecDepth 100000 in
set_option maxHeartbeats 1000000 in
theorem chunks1_in (F : Fence) (n : Nat) (h50 : F.fn 33) (hro : F.round = none) (hn : 1 ≤ n) (l Bs Bz n₀ : Nat) (s : Txt) (k : Int) (K : Nat) (hK : k.toNat = K) (hk1 : k ≤ 9223372036854775807) (xs : List Txt) (hxs : xs = chA K s) (J Jx : List Txt → World → Prop)
    (hY : ∀ pre x W, J pre W → pre.length < xs.length → YieldAt F (n - 1) Tryd.prog l #[.string x.1] W fun e W' =>
      (e = .returned (.bool true) ∧ J (pre ++ [x]) W' ∧ KpZ n₀ Bz W W') ∨ (e = .returned (.bool false) ∧ Jx (pre ++ [x]) W'))
    (W : World) (hBs : W.cell? ⟨Bs, 0, none⟩ = some (.string s.1)) (hBz : W.cell? ⟨Bz, 0, none⟩ = some (.int .i64 k)) (h0 : J [] W) :
    CallsIn F n Tryd.prog 33 #[.func (.yield l) #[] #[], .pointer (some ⟨Bs, 0, none⟩), .pointer (some ⟨Bz, 0, none⟩)] W (ItPost xs J Jx) := by
  have HX := Lib.hid hxs
  clear hxs
  refine callsIn_of_wp Tryd.func33 rfl h50 ?_ hro
  simp only [Tryd.ntmps33, List.size_toArray, List.length_cons, List.length_nil, Nat.reduceAdd, Nat.reduceSub, Array.replicate_succ, Array.replicate_zero, List.push_toArray, List.append_toArray, List.nil_append, List.cons_append]
  gi_wp2
  gi_loopw [4] (fun rv wr => ∃ (pre : List Txt) (R : Txt), rv = .string R.1 ∧ Hid (xs = pre ++ chA K R) ∧ J pre wr ∧ wr.cell? ⟨Bz, 0, none⟩ = some (.int .i64 k))
    (fun rv _ => strLen rv)
  case atStart => exact ⟨[], s, rfl, Lib.hid (by rw [HX.out]; rfl), h0, hBz⟩
  case round =>
    obtain ⟨pre, R, rfl, hx, hJ, hz⟩ := hrel
    have hR := R.2
    by_cases hk : 0 < k
    · by_cases hr : 0 < R.1.size
      · have t1 := isEmpty_no hr
        rcases (show k ≤ (R.1.size : Int) ∨ (R.1.size : Int) < k by omega) with hle | hle
        · obtain ⟨kn, rfl⟩ : ∃ kn : Nat, k = (kn : Int) := ⟨k.toNat, by omega⟩
          have hn : kn = min K R.1.size := by omega
          obtain ⟨p, hp⟩ : ∃ p : Txt, p.1 = R.1.extract 0 (kn) := ⟨⟨R.1.extract 0 kn, by rw [ByteArray.size_extract]; omega⟩, rfl⟩
          obtain ⟨q, hq⟩ : ∃ q : Txt, q.1 = R.1.extract (kn) R.1.size := ⟨⟨R.1.extract kn R.1.size, by rw [ByteArray.size_extract]; omega⟩, rfl⟩
          have hc := chA_cons (k := K) (R := R) ⟨by omega, hr⟩ (kn) hn p q hp hq
          have hx2 : xs = pre ++ p :: chA K q := by rw [hx.out, hc]
          have hqz : q.1.size < R.1.size := by rw [hq, ByteArray.size_extract]; omega
          obtain ⟨fn, tmps, assign, body, hy, hR'⟩ := hY pre p wr hJ (by rw [hx2]; simp)
          have hp' := hp.symm
          have hq' := hq.symm
          have HX2 := Lib.hid hx2
          have HKK := Lib.hid hK
          clear hn hc hx2 hp hq hx hK

          gi_wp2
          refine hR'.mono ?_
          rintro e W3 (⟨rfl, hJ3, hk3⟩ | ⟨rfl, hJx3⟩)
          · have hz3 : W3.cell? ⟨Bz, 0, none⟩ = some (.int .i64 ((kn : Int))) := hk3.2.trans hz
            gi_wp2
            go_roundw
            case rel => exact ⟨pre ++ [p], q, rfl, Lib.hid (by rw [HX2.out]; simp), hJ3, hz3⟩
            case measure => exact hqz
          · gi_wp2
            refine bodyPost_ret (results_none rfl _ _ _) rfl ?_
            exact ⟨⟨_, rfl⟩, .inr ⟨pre ++ [p], ⟨chA K q, by rw [HX2.out]; simp⟩, hJx3⟩⟩
        · have hn : R.1.size = min K R.1.size := by omega
          have hp : R.1 = R.1.extract 0 R.1.size := by simp
          obtain ⟨q, hq0⟩ : ∃ q : Txt, q.1 = ByteArray.empty := ⟨⟨ByteArray.empty, by decide⟩, rfl⟩
          have hq : q.1 = R.1.extract R.1.size R.1.size := by rw [hq0]; simp
          have hc := chA_cons (k := K) (R := R) ⟨by omega, hr⟩ (R.1.size) hn R q hp hq
          have hx2 : xs = pre ++ R :: chA K q := by rw [hx.out, hc]
          have hqz : q.1.size < R.1.size := by rw [hq, ByteArray.size_extract]; omega
          obtain ⟨fn, tmps, assign, body, hy, hR'⟩ := hY pre R wr hJ (by rw [hx2]; simp)
          have HX2 := Lib.hid hx2
          have HQ0 := Lib.hid hq0
          clear hq0
          have HKK := Lib.hid hK
          clear hn hc hx2 hp hq hx hK

          gi_wp2
          refine hR'.mono ?_
          rintro e W3 (⟨rfl, hJ3, hk3⟩ | ⟨rfl, hJx3⟩)
          · have hz3 : W3.cell? ⟨Bz, 0, none⟩ = some (.int .i64 (k)) := hk3.2.trans hz
            gi_wp2
            go_roundw
            case rel => exact ⟨pre ++ [R], q, by rw [HQ0.out], Lib.hid (by rw [HX2.out]; simp), hJ3, hz3⟩
            case measure => rw [HQ0.out] at hqz; exact hqz
          · gi_wp2
            refine bodyPost_ret (results_none rfl _ _ _) rfl ?_
            exact ⟨⟨_, rfl⟩, .inr ⟨pre ++ [R], ⟨chA K q, by rw [HX2.out]; simp⟩, hJx3⟩⟩
      · have t1 := isEmpty_yes (show R.1.size = 0 by omega)
        have he : chA K R = [] := chA_nil (by omega)
        have HE := Lib.hid he
        clear he
        gi_wp2
        go_end0
        exact ⟨⟨_, rfl⟩, .inl ⟨pre, by rw [hx.out, HE.out]; simp, hJ⟩⟩
    · have hk' : k ≤ 0 := by omega
      have he : chA K R = [] := chA_nil (by omega)
      have HE := Lib.hid he
      clear he
      gi_wp2
      go_end0
      exact ⟨⟨_, rfl⟩, .inl ⟨pre, by rw [hx.out, HE.out]; simp, hJ⟩⟩
end Go.Proofs.YtgeigimdmhjddaaDoor
