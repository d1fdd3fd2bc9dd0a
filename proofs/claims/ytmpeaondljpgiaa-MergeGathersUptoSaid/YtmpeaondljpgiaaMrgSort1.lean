/- Merging: Sort's closure: the comparison of two pairs by their keys. -/
import Derived.Test.YtmpeaondljpgiaaMrgCps
import Derived.Test.YtmpeaondljpgiaaStkSrt
namespace Go.Proofs.Ytmpeaondljpgiaa
open Go.RowKit Go.Lib Go.Sort Go.Shelf

set_option maxRecDepth 100000 in
set_option maxHeartbeats 4000000 in
theorem sort1_any (k v k' v' : ByteArray) (w : World) :
    Calls Try.prog 23 #[.agg #[.string k, .string v], .agg #[.string k', .string v']] w fun e w' => e = .returned (.int .i64 (Lib.compareBytes k.data.toList k'.data.toList)) ∧ ∃ (q : Nat) (os' : Array Obj), w' = grow (w.drewN q) os' := by
  have mixed : Try.prog.follows Departure.mixedOrders = true := by kernel_rfl
  go_enter Try.func23, Try.ntmps23
  go_wp2_with (fail)
  refine (Try.strings_Compare k k' _).mono ?_
  rintro e w' ⟨rfl, rfl⟩
  have hg : ∃ (q : Nat) (os' : Array Obj), (w.alloc (.cells #[.string k, .string v] 34)).alloc (.cells #[.string k', .string v'] 34) = grow (w.drewN q) os' := ⟨0, _, by rw [Go.Sort.alloc_eq_grow, Go.Sort.alloc_eq_grow, Go.Sort.grow_grow]; rfl⟩
  have HG := Lib.hid hg
  clear hg
  go_wp2
  go_ret
  exact ⟨rfl, HG.out⟩
def keyP (n : Nat) (K : Nat → ByteArray) (x : Fin (n + 1)) : Int := (rank ((List.range (n + 1)).map fun i => (K i).data.toList) (K x.val).data.toList : Nat)
theorem keyP_lt (n : Nat) (K : Nat → ByteArray) (x y : Fin (n + 1)) : Lib.compareBytes (K x.val).data.toList (K y.val).data.toList < 0 ↔ keyP n K x < keyP n K y := by
  have m : ∀ z : Fin (n + 1), (K z.val).data.toList ∈ (List.range (n + 1)).map fun i => (K i).data.toList := fun z => List.mem_map.2 ⟨z.val, List.mem_range.2 z.isLt, rfl⟩
  have h := (rank_iff (m x) (m y)).1
  rw [cmp_bytes]
  unfold keyP
  rcases e : compare (K x.val).data.toList (K y.val).data.toList with _ | _ | _
  · have := h.2 e
    exact ⟨fun _ => by omega, fun _ => by decide⟩
  · have h2 := (rank_iff (m x) (m y)).2.2 (Std.LawfulEqCmp.eq_of_compare e)
    exact ⟨fun k => absurd k (by decide), fun k => by omega⟩
  · exact ⟨fun k => absurd k (by decide), fun k => by
      have h3 := h.1 (by omega)
      rw [e] at h3
      cases h3⟩
abbrev KF (n : Nat) (K : Nat → ByteArray) (x : Fin (n + 1)) : ByteArray := K x.val
theorem sort1_cmp (n : Nat) (K V : Nat → ByteArray) (blk off size : Nat) (w0 : World) :
    CmpK 23 #[] (KF n K) (KF n V) (fun x y => Lib.compareBytes (K x.val).data.toList (K y.val).data.toList) (keyP n K) blk off size w0 where
  eg := enters_of Try.func23 (by kernel_rfl) rfl
  lays := fun m os dk _ x y => sort1_any (K x.val) (V x.val) (K y.val) (V y.val) _
  key := fun x y => keyP_lt n K x y
end Go.Proofs.Ytmpeaondljpgiaa
