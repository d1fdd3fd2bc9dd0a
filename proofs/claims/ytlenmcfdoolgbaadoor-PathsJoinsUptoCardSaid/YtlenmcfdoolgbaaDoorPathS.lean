/- The contracts of package paths over any later world. -/
import Derived.Test.YtlenmcfdoolgbaaDoorPathSpeaks
namespace Go.Proofs.YtlenmcfdoolgbaaDoor
open Go.RowKit

/-- nothing that lay in w0 has turned -/
abbrev Since (w0 w : World) : Prop := Hid (Below w0.heap.size w0 w)
theorem since_of {w0 w w' : World} (h : Since w0 w) (hb : Below w.heap.size w w') : Since w0 w' := Lib.hid (h.out.trans (hb.mono h.out.size))
/-- Check's answer -/
def ckOf (o : Option (List Path.Bs)) : Int := if o.isSome then 0 else 60
theorem ckOf_some {o : Option (List Path.Bs)} (h : o.isSome = true) : ckOf o = 0 := by simp [ckOf, h]
theorem ckOf_none {o : Option (List Path.Bs)} (h : o.isSome = false) : ckOf o = 60 := by simp [ckOf, h]
theorem speaks_S {w0 : World} (w : World) (h : Since w0 w) : Calls Tryd.prog 8 #[] w fun e w' => e = .returned (.bool true) ∧ Since w0 w' :=
  (speaks_any w).mono fun _ _ ⟨he, hb⟩ => ⟨he, since_of h hb⟩
theorem within_S {w0 : World} (s t : ByteArray) (hs : s.size ≤ maxLen) (ht : t.size ≤ maxLen) (w : World) (h : Since w0 w) :
    Calls Tryd.prog 19 #[.string s, .string t] w fun e w' => e = .returned (.bool (Path.wi (Path.pp (Ls s)) (Path.pp (Ls t)))) ∧ Since w0 w' :=
  (within_any s t w hs ht).mono fun _ _ ⟨he, hb⟩ => ⟨he, since_of h hb⟩
theorem rwithin_S {w0 : World} (s t : ByteArray) (hs : s.size ≤ maxLen) (ht : t.size ≤ maxLen) (w : World) (h : Since w0 w) :
    Calls Tryd.prog 20 #[.string s, .string t] w fun e w' => e = .returned (.bool (Path.wi (Path.pp (Ls s)) (Path.pp (Ls t)))) ∧ Since w0 w' :=
  (rwithin_any s t w hs ht).mono fun _ _ ⟨he, hb⟩ => ⟨he, since_of h hb⟩
theorem check_S {w0 : World} (s : ByteArray) (hs : s.size ≤ maxLen) (w : World) (h : Since w0 w) :
    Calls Tryd.prog 11 #[.string s] w fun e w' => e = .returned (.int .i64 (ckOf (Path.pp (Ls s)))) ∧ Since w0 w' := by
  cases hp : Path.pp (Ls s) with
  | none => exact (check_no s w hp hs).mono fun _ _ ⟨he, hb⟩ => ⟨he, since_of h hb⟩
  | some xs => exact (check_ok s xs w hp).mono fun _ _ ⟨he, hb⟩ => ⟨he, since_of h hb⟩
/-- the order of two texts as paths -/
def ordOf (s t : ByteArray) : Ordering := Path.cp (Ls s) (Ls t) (Path.pp (Ls s)) (Path.pp (Ls t))
theorem compare_S {w0 : World} (s t : ByteArray) (hs : s.size ≤ maxLen) (ht : t.size ≤ maxLen) (w : World) (h : Since w0 w) :
    Calls Tryd.prog 17 #[.string s, .string t] w fun e w' => e = .returned (.int .i64 (Path.oi (ordOf s t))) ∧ Since w0 w' :=
  (compare_any s t w hs ht).mono fun _ _ ⟨he, hb⟩ => ⟨he, since_of h hb⟩
theorem rcompare_S {w0 : World} (s t : ByteArray) (hs : s.size ≤ maxLen) (ht : t.size ≤ maxLen) (w : World) (h : Since w0 w) :
    Calls Tryd.prog 18 #[.string s, .string t] w fun e w' => e = .returned (.int .i64 (Path.oi (ordOf s t))) ∧ Since w0 w' :=
  (rcompare_any s t w hs ht).mono fun _ _ ⟨he, hb⟩ => ⟨he, since_of h hb⟩
end Go.Proofs.YtlenmcfdoolgbaaDoor
