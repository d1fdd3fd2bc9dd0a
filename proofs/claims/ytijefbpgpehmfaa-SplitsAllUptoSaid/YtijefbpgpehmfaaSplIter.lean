/- The iterator over the lines that begin at a place or behind it. -/
import Derived.Test.YtijefbpgpehmfaaSplFns
import Derived.RangeFuncBox
import Derived.RangeFuncNested
import Derived.RangeFuncBound
import Derived.RangeFuncCalls
import Derived.RangeFuncLeaves
import Derived.Shelf.Abstract
import Derived.Shelf.RegionOpen
import Derived.OwnWalkIn
import Derived.TacticsInMore
import Derived.LoopNIn
import Derived.LoopIn
import Derived.Maps.AppendAt
namespace Go.Proofs.Ytijefbpgpehmfaa
open Go.RowKit Go.Shelf
attribute [local go_sem] Oper.semAt_some

set_option maxHeartbeats 1000000 in
theorem lines_in (F : Fence) (n : Nat) (h35 : F.fn 12) (hro : F.round = none) (s : ByteArray) (c : Int) (w : World) :
    CallsIn F n Try.prog 12 #[.string s, .int .i64 c] w fun e w' => e = .returned (.func (.func 14) #[] #[.pointer (some ⟨w.heap.size, 0, none⟩), .pointer (some ⟨w.heap.size + 1, 0, none⟩)]) ∧ w' = (w.alloc (.cells #[.string s] 9)).alloc (.cells #[.int .i64 c] 3) := by
  refine callsIn_of_wp Try.func12 rfl h35 ?_ hro
  simp only [Try.ntmps12, List.size_toArray, List.length_cons, List.length_nil, Nat.reduceAdd, Nat.reduceSub, Array.replicate_succ, Array.replicate_zero, List.push_toArray, List.append_toArray, List.nil_append, List.cons_append]
  gi_wp2
  go_ret
  exact ⟨rfl, rfl⟩
/-- what a round keeps: what lay below, and the box of the text -/
def KpL (n₀ Bs : Nat) (W W' : World) : Prop := Below n₀ W W' ∧ W'.cell? ⟨Bs, 0, none⟩ = W.cell? ⟨Bs, 0, none⟩
theorem kpL_t {n₀ Bs : Nat} {A B C : World} (h : KpL n₀ Bs A B) (k : KpL n₀ Bs B C) : KpL n₀ Bs A C := ⟨h.1.trans k.1, k.2.trans h.2⟩
theorem kpL_b {n₀ Bs : Nat} {w : World} (hn : n₀ ≤ w.heap.size) (hz : Bs < w.heap.size) (W : World) (l : Nat) (o o' : Obj) (hl : w.heap.size ≤ l) (h : W.heap[l]? = some o) (h1 : o.isCells = false) (h2 : o.isWalk = false) : KpL n₀ Bs W (W.putObj l o') :=
  ⟨belowK_b hn W l o o' hl h h1 h2, World.cell?_of_block (a := ⟨Bs, 0, none⟩) ((grownBy_putObj' W l o').block Bs (by have := (Array.getElem?_eq_some_iff.1 h).1; omega) (fun e => by cases e; omega))⟩
/-- what is handed to a round -/
def lnEnc (s : ByteArray) (x : Nat × Nat) : Array Value := #[.int .i64 (x.1 : Int), .string (s.extract x.1 x.2)]
def ItPostL (xs : List (Nat × Nat)) (J Jx : List (Nat × Nat) → World → Prop) (e : Ending) (W' : World) : Prop :=
  (∃ v, e = .returned v) ∧ ((∃ ys, ys = xs ∧ J ys W') ∨ (∃ pre, pre <+: xs ∧ Jx pre W'))
theorem ext_ext (s : ByteArray) (a n : Nat) (h : a + n ≤ s.size) : (s.extract a s.size).extract 0 n = s.extract a (a + n) := by
  apply ByteArray.ext
  apply Array.toList_inj.1
  have es : s.data.toList.length = s.size := by simp
  simp only [ByteArray.data_extract, Array.toList_extract, List.extract_eq_take_drop]
  rw [Nat.sub_zero, List.drop_zero, List.take_take, show a + n - a = n by omega, Nat.min_eq_left (by omega)]
set_option maxRecDepth 100000 in
set_option maxHeartbeats 4000000 in
theorem lines1_in (n : Nat) (hn : 1 ≤ n) (l Bs Bz n₀ : Nat) (s : ByteArray) (hs : s.size ≤ 140737488351232) (c : Int) (hc0 : -9223372036854775808 ≤ c) (hc : c ≤ 9223372036854775807) (xs : List (Nat × Nat)) (hxs : xs = linesFrom s.data.toList (begL s.data.toList c)) (J Jx : List (Nat × Nat) → World → Prop)
    (hY : ∀ pre x W, J pre W → pre.length < xs.length → YieldAt Fence.wide (n - 1) Try.prog l (lnEnc s x) W fun e W' =>
      (e = .returned (.bool true) ∧ J (pre ++ [x]) W' ∧ KpL n₀ Bs W W') ∨ (e = .returned (.bool false) ∧ Jx (pre ++ [x]) W'))
    (hJd : ∀ pre W k, J pre W → J pre (W.drewN k))
    (W : World) (hBs : W.cell? ⟨Bs, 0, none⟩ = some (.string s)) (hBz : W.cell? ⟨Bz, 0, none⟩ = some (.int .i64 c)) (h0 : J [] W) :
    CallsIn Fence.wide n Try.prog 14 #[.func (.yield l) #[] #[], .pointer (some ⟨Bs, 0, none⟩), .pointer (some ⟨Bz, 0, none⟩)] W (ItPostL xs J Jx) := by
  have HX := Lib.hid hxs
  have es := size_list s
  have hbg := begin_any s hs c hc0 hc
  clear hxs
  refine callsIn_of_wp Try.func14 rfl trivial ?_ rfl
  simp only [Try.ntmps14, List.size_toArray, List.length_cons, List.length_nil, Nat.reduceAdd, Nat.reduceSub, Array.replicate_succ, Array.replicate_zero, List.push_toArray, List.append_toArray, List.nil_append, List.cons_append]
  gi_wp2
  refine ⟨trivial, ?_⟩
  refine (callsIn_wide.2 (hbg _)).mono ?_
  rintro e w' ⟨rfl, rfl⟩
  clear hbg
  gi_wp2
  gi_loopw [4] (fun av wr => ∃ (pre : List (Nat × Nat)) (a : Nat), av = .int .i64 (a : Int) ∧ Hid (xs = pre ++ linesFrom s.data.toList a) ∧ J pre wr ∧ wr.cell? ⟨Bs, 0, none⟩ = some (.string s))
    (fun av _ => s.size + 1 - (intOf av).toNat)
  case atStart => exact ⟨[], _, rfl, Lib.hid (by rw [HX.out]; rfl), h0, hBs⟩
  case round =>
    obtain ⟨pre, a, rfl, hx, hJ, hz⟩ := hrel
    by_cases hlt : a < s.size
    · have hsx : (s.extract a s.size).size = s.size - a := by rw [ByteArray.size_extract]; omega
      have hcut := fun w => cut_nl (s.extract a s.size) (by omega) w
      rw [list_drop] at hcut
      have hlf := lf_cons (l := s.data.toList) (a := a) (by omega)
      have hle := ln_le (s.data.toList.drop a)
      rw [List.length_drop, es] at hle
      obtain ⟨m, hm⟩ : ∃ m, m = lnLen (s.data.toList.drop a) := ⟨_, rfl⟩
      rw [← hm] at hcut hlf hle
      rw [ext_ext s a m (by omega)] at hcut
      have hls : (s.extract a (a + m)).size = m := by rw [ByteArray.size_extract]; omega
      have hyw := fun W h => hY pre (a, a + m) W h (by rw [hx.out, hlf]; simp)
      obtain ⟨L, hL⟩ : ∃ L, L = s.extract a (a + m) := ⟨_, rfl⟩
      have he : lnEnc s (a, a + m) = #[.int .i64 (a : Int), .string L] := by rw [hL]; rfl
      rw [← hL] at hcut hls
      simp only [he] at hyw
      have HX2 : Hid (xs = pre ++ (a, a + m) :: linesFrom s.data.toList (a + m + 1)) := Lib.hid (by rw [hx.out, hlf])
      clear hm hlf hL he hx hsx hY
      gi_wp2
      refine ⟨trivial, ?_⟩
      refine (callsIn_wide.2 (hcut _)).mono ?_
      rintro e w2 ⟨⟨x, y, rfl⟩, q, rfl⟩
      clear hcut
      have hJ2 := hJd _ _ q hJ
      obtain ⟨fn, tmps, assign, body, hy, hR'⟩ := hyw _ hJ2
      clear hyw
      gi_wp2
      refine hR'.mono ?_
      rintro e W3 (⟨rfl, hJ3, hk3⟩ | ⟨rfl, hJx3⟩)
      · have hz3 : W3.cell? ⟨Bs, 0, none⟩ = some (.string s) := hk3.2.trans hz
        gi_wp2
        go_roundw
        case rel => exact ⟨pre ++ [(a, a + m)], a + m + 1, by first | (congr 1; done) | (congr 1; omega), Lib.hid (by rw [HX2.out]; simp), hJ3, hz3⟩
        case measure => first | (simp [intOf]; done) | (simp [intOf]; omega)
      · gi_wp2
        refine bodyPost_ret (results_none rfl _ _ _) rfl ?_
        exact ⟨⟨_, rfl⟩, .inr ⟨pre ++ [(a, a + m)], ⟨linesFrom s.data.toList (a + m + 1), by rw [HX2.out]; simp⟩, hJx3⟩⟩
    · have he : linesFrom s.data.toList a = [] := lf_nil (by omega)
      have HE := Lib.hid he
      clear he
      gi_wp2
      go_end0
      exact ⟨⟨_, rfl⟩, .inl ⟨pre, by rw [hx.out, HE.out]; simp, hJ⟩⟩
end Go.Proofs.Ytijefbpgpehmfaa
