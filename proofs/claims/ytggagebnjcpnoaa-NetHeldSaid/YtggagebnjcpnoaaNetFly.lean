/- Package net: all that is under way, of a net with one letter. -/
import Derived.Test.YtggagebnjcpnoaaNetPart
namespace Go.Proofs.Ytggagebnjcpnoaa
open Go.RowKit Go.Maps

abbrev FZ (w : World) : World := w.alloc (.cells #[.int .i64 0, .int .i64 0, .int .i64 0, .string ⟨#[]⟩] 36)
theorem makeOne (w : World) : (Instr.makeSlice 46 (.int .i64 1) (.int .i64 1)).run Try.prog w = .ok (.slice (some ⟨w.heap.size, 0, none⟩) 1 1) (FZ w) := by kernel_rfl
/-- a world in which block h holds an empty letter of the call's own -/
structure Fresh (w0 w : World) (h : Nat) : Prop where
  b : Below w0.heap.size w0 w
  hs : w0.heap.size ≤ h
  hl : h < w.heap.size
  k0 : w.cell? ⟨h, 0, none⟩ = some (.int .i64 0)
  k1 : w.cell? ⟨h, 1, none⟩ = some (.int .i64 0)
  k2 : w.cell? ⟨h, 2, none⟩ = some (.int .i64 0)
  k3 : w.cell? ⟨h, 3, none⟩ = some (.string ⟨#[]⟩)
  kf : ∀ i, w.frozen? ⟨h, i, none⟩ = false
theorem fresh_mk (w : World) : Fresh w (FZ w) w.heap.size :=
  ⟨(Below.refl _ w).alloc (Nat.le_refl _) _, Nat.le_refl _, by simp, by simp, by simp, by simp, by simp, fun i => by simp⟩
theorem Fresh.below {w0 w w' : World} {h : Nat} (f : Fresh w0 w h) (hb : Below w.heap.size w w') : Fresh w0 w' h :=
  ⟨f.b.trans (hb.mono f.b.size), f.hs, Nat.lt_of_lt_of_le f.hl hb.size, (hb.cell (p := ⟨h, 0, none⟩) f.hl).trans f.k0, (hb.cell (p := ⟨h, 1, none⟩) f.hl).trans f.k1, (hb.cell (p := ⟨h, 2, none⟩) f.hl).trans f.k2, (hb.cell (p := ⟨h, 3, none⟩) f.hl).trans f.k3,
    fun i => (hb.frozen (p := ⟨h, i, none⟩) f.hl).trans (f.kf i)⟩
set_option maxRecDepth 100000 in
set_option maxHeartbeats 4000000 in
theorem flying_one (p g c : Nat) (N a b : Int) (cut : Value) (s : ByteArray) (w : World) (hs : s.size ≤ 1048576) (ho : OneAt w p g c N a b cut s) :
    Calls Try.prog 21 #[.pointer (some ⟨p, 0, none⟩)] w fun e w' => e = .returned (.slice (some ⟨w.heap.size, 0, none⟩) 1 1) ∧ Below w.heap.size w w' := by
  obtain ⟨i0, hi, hz0, hz1, hz2⟩ := info_parts infoLetter
  have hb1 : Below w.heap.size w (FZ w) := (Below.refl _ w).alloc (Nat.le_refl _) _
  have ho1 := ho.below hb1
  have HO1 := Lib.hid ho1
  have HB1 := Lib.hid hb1
  have c2 := ho.net.c2
  have d2 := ho1.net.c2
  have hss : s.size ≤ 281474976710656 := by omega
  have hmk := makeOne
  have HFR := Lib.hid (fresh_mk w)
  have hne : ¬ w.heap.size = p := by have := ho.net.lt; omega
  clear ho ho1 hb1
  go_enter Try.func21, Try.ntmps21
  go_wp2
  go_loopw [19] (fun i wr => (i = .int .i64 0 ∧ Hid (OneAt wr p g c N a b cut s ∧ Fresh w wr w.heap.size)) ∨ (i = .int .i64 1 ∧ Hid (Below w.heap.size w wr))) (fun i _ => 1 - (intOf i).toNat)
  case atStart => exact .inl ⟨rfl, Lib.hid ⟨HO1.out, HFR.out⟩⟩
  case round =>
    rcases hrel with ⟨rfl, HR⟩ | ⟨rfl, HR⟩
    · have e0 := HR.out.1.k0
      have e1 := HR.out.1.k1
      have e2 := HR.out.1.k2
      have e3 := HR.out.1.k3
      go_wp2_with (fail)
      refine (copied_any 1 a b s _ hss).mono ?_
      rintro e w3 ⟨rfl, hb3⟩
      have hba : Below wr.heap.size wr (wr.alloc (.cells #[.int .i64 1, .int .i64 a, .int .i64 b, .string s] 36)) := (Below.refl _ _).alloc (Nat.le_refl _) _
      have fr := (HR.out.2.below hba).below hb3
      have HFR3 := Lib.hid fr
      have n0 := fr.k0
      have n1 := fr.k1
      have n2 := fr.k2
      have n3 := fr.k3
      have m0 := fr.kf 0
      have m1 := fr.kf 1
      have m2 := fr.kf 2
      have m3 := fr.kf 3
      clear fr hba hb3 e0 e1 e2 e3
      go_wp2
      go_round
      case rel => exact .inr ⟨rfl, Lib.hid ((((HFR3.out.b.setCell (Nat.le_refl _) _).setCell (Nat.le_refl _) _).setCell (Nat.le_refl _) _).setCell (Nat.le_refl _) _)⟩
      case measure => simp [intOf]
    · go_wp2
      go_ret
      exact ⟨rfl, HR.out⟩
end Go.Proofs.Ytggagebnjcpnoaa
