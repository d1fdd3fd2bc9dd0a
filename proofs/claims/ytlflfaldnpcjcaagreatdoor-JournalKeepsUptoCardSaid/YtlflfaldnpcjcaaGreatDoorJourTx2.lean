/- JournalStill: two rows of the same texts are the same. -/
import Derived.Test.YtlflfaldnpcjcaaGreatDoorJnlF
namespace Go.Proofs.YtlflfaldnpcjcaaGreatDoor
open Go.RowKit Go.Maps
set_option maxRecDepth 100000 in
set_option maxHeartbeats 4000000 in
theorem texts10_any (B1 B2 c1 c2 : Nat) (a1 a2 : Option Addr) (bs : List (List UInt8)) (w : World) (h1 : TextRow w B1 a1 bs) (h2 : TextRow w B2 a2 bs) (hl : bs.length ≤ 1048576) :
    Calls Tryz.prog 12 #[.slice a1 bs.length c1, .slice a2 bs.length c2] w fun e w' => e = .returned (.bool true) ∧ ∃ n, w' = w.drewN n := by
  have HT := Lib.hid (And.intro h1 h2)
  clear h1 h2
  obtain ⟨len, hlen⟩ : ∃ len, len = bs.length := ⟨_, rfl⟩
  rw [← hlen] at hl ⊢
  have HL := Lib.hid hlen
  clear hlen
  go_enter Tryz.func12, Tryz.ntmps12
  go_wp2_with (fail)
  go_loopw [5] (fun i wr => ∃ k : Nat, k ≤ len ∧ i = .int .i64 (k : Int) ∧ ∃ n, wr = w.drewN n) (fun i _ => len - (intOf i).toNat)
  case atStart => exact ⟨0, Nat.zero_le _, rfl, 0, rfl⟩
  case round =>
    obtain ⟨k, hk, rfl, n, rfl⟩ := hrel
    by_cases hlt : k < len
    · have hkl : k < bs.length := by have := HL.out; omega
      obtain ⟨g1, rfl, _, _, t1⟩ := HT.out.1 k hkl
      obtain ⟨g2, rfl, _, _, t2⟩ := HT.out.2 k hkl
      obtain ⟨z, hz⟩ : ∃ z : ByteArray, z = ⟨bs[k].toArray⟩ := ⟨_, rfl⟩
      have d1 : w.cell? ⟨g1, k, none⟩ = some (.string z) := by rw [hz]; exact t1
      have d2 : w.cell? ⟨g2, k, none⟩ = some (.string z) := by rw [hz]; exact t2
      have hk0 : (0 : Int) ≤ (k : Int) := by omega
      have hk1 : (k : Int) < (len : Int) := by omega
      clear t1 t2 hz
      go_wp2_with (fail)
      go_quiet (fail)
      go_wp2_with (fail)
      go_roundw
      case rel => exact ⟨k + 1, by omega, by first | rfl | go_num, _, rfl⟩
      case measure => simp [intOf]; omega
    · obtain rfl : k = len := by omega
      go_wp2
      go_ret
      exact ⟨rfl, _, rfl⟩
end Go.Proofs.YtlflfaldnpcjcaaGreatDoor
