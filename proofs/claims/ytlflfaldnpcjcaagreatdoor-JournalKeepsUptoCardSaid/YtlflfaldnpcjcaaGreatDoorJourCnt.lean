/- Package journal: Count. -/
import Derived.Test.YtlflfaldnpcjcaaGreatDoorJnlF
namespace Go.Proofs.YtlflfaldnpcjcaaGreatDoor
open Go.RowKit Go.Maps
set_option maxRecDepth 100000 in
theorem jcount_any {w : World} {j p : Nat} {seg nth cnt lst : Int} (h : JAt w j p seg nth cnt lst) :
    Calls Tryz.prog 13 #[.pointer (some ⟨j, 0, none⟩)] w fun e w' => e = .returned (.tuple #[.int .i64 cnt, .int .i64 lst]) ∧ ∃ n, w' = w.drewN n := by
  have c3 := h.c3
  have c4 := h.c4
  go_enter Tryz.func13, Tryz.ntmps13
  go_wp2
  go_quiet (fail)
  go_wp2
  go_ret2
  exact ⟨rfl, _, rfl⟩
theorem kst_count {W w : World} {p j : Nat} {S : Nat → Prop} {img : ByteArray} {bs : List (List UInt8)} {m b i : Nat} (h : KSt W w p j S img bs m b i) :
    Calls Tryz.prog 13 #[.pointer (some ⟨j, 0, none⟩)] w fun e w' => e = .returned (.tuple #[.int .i64 (bs.length : Int), .int .i64 (m : Int)]) ∧ ∃ n, w' = w.drewN n := by
  obtain ⟨n, s, k, im, ed, hk, hJ⟩ := h
  exact jcount_any hJ.jt
end Go.Proofs.YtlflfaldnpcjcaaGreatDoor
