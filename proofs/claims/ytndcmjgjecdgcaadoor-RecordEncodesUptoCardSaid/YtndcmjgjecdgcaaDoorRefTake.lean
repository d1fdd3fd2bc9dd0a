/- The contracts of the reference's TakeInt, TakeText, TakeBool and End. -/
import Derived.Test.YtndcmjgjecdgcaaDoorUnpackT
namespace Go.Proofs.YtndcmjgjecdgcaaDoor
open Go.RowKit

/-- the reference's state in block d: what is left, and the first error -/
def RefIs (w : World) (d : Nat) (l : List UInt8) (er : Int) : Prop :=
  d < w.heap.size ∧ l.length ≤ 140737488351232 ∧ w.cell? ⟨d, 0, none⟩ = some (.string (S l)) ∧ w.cell? ⟨d, 1, none⟩ = some (.int .i64 er) ∧ w.frozen? ⟨d, 0, none⟩ = false ∧ w.frozen? ⟨d, 1, none⟩ = false
theorem RefIs.below {w w' : World} {d B : Nat} {l : List UInt8} {er : Int} (h : RefIs w d l er) (hb : Below B w w') (hB : w.heap.size ≤ B) : RefIs w' d l er := by
  obtain ⟨hd, hl, h0, h1, f0, f1⟩ := h
  have := hb.size
  have hlt : d < B := by omega
  exact ⟨by omega, hl, (hb.cell (p := ⟨d, _, none⟩) hlt).trans h0, (hb.cell (p := ⟨d, _, none⟩) hlt).trans h1, (hb.frozen (p := ⟨d, _, none⟩) hlt).trans f0, (hb.frozen (p := ⟨d, _, none⟩) hlt).trans f1⟩
theorem RefIs.grown {w w' : World} {d p : Nat} {l : List UInt8} {er : Int} (h : RefIs w d l er) (hg : w.grownBy w' (some p)) (hne : d ≠ p) : RefIs w' d l er := by
  obtain ⟨hd, hl, h0, h1, f0, f1⟩ := h
  have := hg.size
  have hk : w'.heap[d]? = w.heap[d]? := hg.block d hd (by intro e; injection e with e; omega)
  exact ⟨by omega, hl, (World.cell?_of_block (a := ⟨d, _, none⟩) hk).trans h0, (World.cell?_of_block (a := ⟨d, _, none⟩) hk).trans h1, (World.frozen?_of_block (a := ⟨d, _, none⟩) hk).trans f0, (World.frozen?_of_block (a := ⟨d, _, none⟩) hk).trans f1⟩
theorem RefIs.err {w : World} {d : Nat} {l : List UInt8} {er : Int} (h : RefIs w d l er) (er' : Int) : RefIs (w.setCell ⟨d, 1, none⟩ (.int .i64 er')) d l er' := by
  obtain ⟨hd, hl, h0, h1, f0, f1⟩ := h
  exact ⟨by rw [setCell_size]; exact hd, hl, (World.cell?_setCell_other _ _ _ _ (by intro e; injection e with _ e2; exact absurd e2 (by decide))).trans h0, World.cell?_setCell_same _ _ _ h1, by rw [World.frozen?_setCell]; exact f0, by rw [World.frozen?_setCell]; exact f1⟩
theorem RefIs.rest {w : World} {d : Nat} {l m : List UInt8} {er : Int} (h : RefIs w d l er) (hm : m.length ≤ 140737488351232) : RefIs (w.setCell ⟨d, 0, none⟩ (.string (S m))) d m er := by
  obtain ⟨hd, hl, h0, h1, f0, f1⟩ := h
  exact ⟨by rw [setCell_size]; exact hd, hm, World.cell?_setCell_same _ _ _ h0, (World.cell?_setCell_other _ _ _ _ (by intro e; injection e with _ e2; exact absurd e2 (by decide))).trans h1, by rw [World.frozen?_setCell]; exact f0, by rw [World.frozen?_setCell]; exact f1⟩

theorem S_drop (l : List UInt8) (i : Nat) : (S l).extract i (S l).size = S (l.drop i) := S_of (by rw [rest_data, S_data])
theorem S_drop' (l : List UInt8) (i : Nat) : (S l).extract i l.length = S (l.drop i) := by rw [← S_size l]; exact S_drop l i
theorem S_take (l : List UInt8) (i : Nat) : (S l).extract 0 i = S (l.take i) := S_of (by rw [Lib.extract_data, S_data]; simp)
theorem S_get (l : List UInt8) (i : Nat) (h : i < (S l).size) (h' : i < l.length) : (S l)[i] = l[i] := rfl

theorem add_step {i v : Nat} (hv : v < 2 ^ (7 * i)) (b : UInt8) (h : i ≤ 8 ∨ i = 9 ∧ b.toNat ≤ 1) :
    IntKind.u64.wrap ((v : Int) + IntKind.u64.wrap ((b.toNat : Int) % 128 * 2 ^ (7 * i))) = ((v + b.toNat % 128 * 2 ^ (7 * i) : Nat) : Int) := by
  have hlt := next_64 hv b.toNat h
  have e0 : (b.toNat : Int) % 128 = ((b.toNat % 128 : Nat) : Int) := by omega
  have e2 : ((b.toNat % 128 : Nat) : Int) * 2 ^ (7 * i) = ((b.toNat % 128 * 2 ^ (7 * i) : Nat) : Int) := by
    rw [Int.natCast_mul, Int.natCast_pow]; rfl
  have e3 : IntKind.u64.wrap ((b.toNat % 128 * 2 ^ (7 * i) : Nat) : Int) = ((b.toNat % 128 * 2 ^ (7 * i) : Nat) : Int) := by rw [IntKind.wrap_u64]; omega
  rw [e0, e2, e3, IntKind.wrap_u64]
  omega

theorem ref_even {V : Nat} (hv : V < 2 ^ 64) : wrap64 ((V : Int) / 2) = (V : Int) / 2 := by rw [IntWalk.wrap64_in _ ⟨by omega, by omega⟩]
theorem ref_odd {V : Nat} (hv : V < 2 ^ 64) : wrap64 (bits BinOp.xor IntKind.u64 IntKind.u64.max ((V : Int) / 2)) = -1 - (V : Int) / 2 := by
  have e0 : (V : Int) / 2 = ((V / 2 : Nat) : Int) := by omega
  have e2 : IntKind.u64.max = ((18446744073709551615 : Nat) : Int) := rfl
  rw [e0, e2, bits_xor_u64_nat _ _ (by omega) (by omega)]
  have e3 : (18446744073709551615 : Nat) ^^^ (V / 2) = 18446744073709551615 - V / 2 := by
    have hlt : V / 2 < 2 ^ 64 := by omega
    have := BitVec.toNat_not (x := BitVec.ofNat 64 (V / 2))
    rw [BitVec.toNat_ofNat, Nat.mod_eq_of_lt hlt] at this
    have h3 : ~~~ (BitVec.ofNat 64 (V / 2)) = BitVec.allOnes 64 ^^^ BitVec.ofNat 64 (V / 2) := by rw [BitVec.allOnes_xor]
    rw [h3, BitVec.toNat_xor, BitVec.toNat_ofNat, Nat.mod_eq_of_lt hlt, BitVec.toNat_allOnes] at this
    simpa using this
  rw [e3]
  unfold wrap64
  omega
theorem wrap_half {V : Nat} (hv : V < 2 ^ 64) : IntKind.u64.wrap ((V : Int) / 2) = (V : Int) / 2 := by rw [IntKind.wrap_u64]; omega
theorem zag_odd3 {V : Nat} (hv : V < 2 ^ 64) (h : V % 2 = 1) : Ending.returned (.int .i64 (wrap64 (bits BinOp.xor IntKind.u64 IntKind.u64.max (IntKind.u64.wrap ((V : Int) / 2))))) = .returned (.int .i64 (Wire.zag V)) := by
  rw [wrap_half hv, ref_odd hv]; exact zag_odd h
theorem zag_even3 {V : Nat} (hv : V < 2 ^ 64) (h : ¬ V % 2 = 1) : Ending.returned (.int .i64 (wrap64 (IntKind.u64.wrap ((V : Int) / 2)))) = .returned (.int .i64 (Wire.zag V)) := by
  rw [wrap_half hv, ref_even hv]; exact zag_even h
set_option maxRecDepth 100000 in
set_option maxHeartbeats 4000000 in
theorem rtake_int (d : Nat) (l : List UInt8) (er : Int) (w : World) (hR : RefIs w d l er) :
    Calls Tryd.prog 32 #[.pointer (some ⟨d, 0, none⟩)] w fun e w' => e = .returned (.int .i64 (Wire.tInt l er).1) ∧ RefIs w' d (Wire.tInt l er).2.1 (Wire.tInt l er).2.2 ∧ w.grownBy w' (some d) := by
  have HR := Lib.hid hR
  obtain ⟨hd, hl, c0, c1, f0, f1⟩ := hR
  obtain ⟨s, hs⟩ : ∃ s, s = S l := ⟨_, rfl⟩
  have hsl : s.data.toList = l := by rw [hs, S_data]
  have hsz : s.size = l.length := by rw [hs, S_size]
  rw [← hs] at c0
  have HSL := Lib.hid hsl
  have hsm : s.size ≤ 140737488351232 := by omega
  have HSZ := Lib.hid hsz
  clear hs hsl hsz
  by_cases he : er = 0
  · subst he
    go_enter Tryd.func32, Tryd.ntmps32
    go_wp2
    go_loopg [3, 4] 20 (fun k s3 s4 wr => w = wr ∧ ∃ i v : Nat, i ≤ 9 ∧ i ≤ s.size ∧ Hid (k = 20 - i) ∧ s3 = .int .u64 (v : Int) ∧ s4 = .int .i64 (i : Int) ∧ Hid (v < 2 ^ (7 * i)) ∧ Hid (Wire.rdFrom i v (s.data.toList.drop i) = Wire.rd l))
    case atStart => exact ⟨rfl, 0, 0, by omega, by omega, rfl, rfl, rfl, Lib.hid (by simp), Lib.hid (by rw [HSL.out]; rfl)⟩
    case round =>
      obtain ⟨rfl, i, v, hi9, hil, HK, rfl, rfl, HV, HRD⟩ := hrel
      by_cases hi : i < s.size
      · have HD := Lib.hid (drop_cons s i hi)
        have hbl := s[i].toNat_lt
        by_cases h9 : i = 9 ∧ 1 < s[i].toNat
        · have t1 : ((i : Int) == 9) = true := by rw [h9.1]; rfl
          have t2 : 1 < (s[i].toNat : Int) := by omega
          have ht : Wire.tInt l 0 = (0, l, 21) := by
            unfold Wire.tInt; rw [if_neg (by simp), ← HRD.out, HD.out]; unfold Wire.rdFrom; rw [if_pos h9]
          have HT := Lib.hid ht
          clear ht
          clear h9
          go_wp2
          go_ret
          exact ⟨by rw [HT.out]; rfl, by rw [HT.out]; exact HR.out.err 21, grown_set _ _ _ _⟩
        · have H9N := Lib.hid h9
          have HB9' : i ≤ 8 ∨ i = 9 ∧ s[i].toNat ≤ 1 := by omega
          by_cases hb8 : 128 ≤ s[i].toNat
          · have HB9 := HB9'
            have hor := add_step HV.out s[i] HB9
            have t1 : ((i : Int) == 9) = false := by simp; omega
            have t3 : ¬ ((s[i].toNat : Int) < 128) := by omega
            have hnx := Lib.hid (next_lt HV.out s[i].toNat)
            have hw : Wire.rdFrom (i + 1) (v + s[i].toNat % 128 * 2 ^ (7 * i)) (s.data.toList.drop (i + 1)) = Wire.rd l := by
              rw [← HRD.out, HD.out]; conv => rhs; unfold Wire.rdFrom
              rw [if_neg H9N.out, if_pos hb8]
            have HW := Lib.hid hw
            have hi8 : i ≤ 8 := by omega
            obtain ⟨V, hV⟩ : ∃ V, V = v + s[i].toNat % 128 * 2 ^ (7 * i) := ⟨_, rfl⟩
            rw [← hV] at hor hnx HW
            clear hw h9 HB9 HB9' hV
            go_wp2
            go_roundg (20 - (i + 1))
            case measure => have := HK.out; omega
            case rel => exact ⟨rfl, i + 1, V, by omega, by omega, rfl, rfl, by go_num, hnx, HW⟩
          · have t3 : (s[i].toNat : Int) < 128 := by omega
            by_cases hz : s[i].toNat = 0 ∧ 0 < i
            · have t4 : ((s[i].toNat : Int) == 0) = true := by rw [hz.1]; rfl
              have hi0 : 0 < (i : Int) := by omega
              have hor := add_step HV.out s[i] HB9'
              have ht : Wire.tInt l 0 = (0, l, 21) := by
                unfold Wire.tInt; rw [if_neg (by simp), ← HRD.out, HD.out]; unfold Wire.rdFrom; rw [if_neg H9N.out, if_neg (by omega), if_pos hz]
              have HT := Lib.hid ht
              clear ht
              obtain ⟨V, hV⟩ : ∃ V, V = v + s[i].toNat % 128 * 2 ^ (7 * i) := ⟨_, rfl⟩
              rw [← hV] at hor
              clear h9 HB9' hV
              by_cases hi9' : i = 9
              · have t1 : ((i : Int) == 9) = true := by rw [hi9']; rfl
                have t2 : ¬ (1 < (s[i].toNat : Int)) := by omega
                clear hi9' hz
                go_wp2
                go_ret
                exact ⟨by rw [HT.out]; rfl, by rw [HT.out]; exact HR.out.err 21, grown_set _ _ _ _⟩
              · have t1 : ((i : Int) == 9) = false := by simp; omega
                clear hi9' hz
                go_wp2
                go_ret
                exact ⟨by rw [HT.out]; rfl, by rw [HT.out]; exact HR.out.err 21, grown_set _ _ _ _⟩
            · have HB9 := HB9'
              have hor := add_step HV.out s[i] HB9
              have hV64 := next_64 HV.out s[i].toNat HB9
              obtain ⟨V, hV⟩ : ∃ V, V = v + s[i].toNat % 128 * 2 ^ (7 * i) := ⟨_, rfl⟩
              rw [← hV] at hor hV64
              have hrd : Wire.rd l = .ok V (i + 1) := by
                rw [← HRD.out, HD.out]; unfold Wire.rdFrom; rw [if_neg H9N.out, if_neg (by omega), if_neg hz, hV]
              have ht : Wire.tInt l 0 = (Wire.zag V, l.drop (i + 1), 0) := by unfold Wire.tInt; rw [if_neg (by simp), hrd]
              have HT := Lib.hid ht
              have hex : s.extract (i + 1) s.size = S (l.drop (i + 1)) := S_of (by rw [rest_data, HSL.out])
              have HEX := Lib.hid hex
              have hlm : (l.drop (i + 1)).length ≤ 140737488351232 := by rw [List.length_drop]; omega
              have HV64 := Lib.hid hV64
              clear hV hV64 hrd ht hex
              by_cases hi9' : i = 9
              · have t1 : ((i : Int) == 9) = true := by rw [hi9']; rfl
                have t2 : ¬ (1 < (s[i].toNat : Int)) := by omega
                have t4 : ((s[i].toNat : Int) == 0) = false := by simp; omega
                clear hi9' hz h9 HB9 HB9'
                by_cases hp : V % 2 = 1
                · have t5 : ((V : Int) % 2 == 1) = true := by simp; omega
                  have t5' : ((V : Int).tmod 2 == 1) = true := by rw [Int.tmod_eq_emod_of_nonneg (by omega)]; exact t5
                  have HPP := Lib.hid hp
                  clear hp
                  go_wp2
                  go_ret
                  refine ⟨?_, ?_, grown_set _ _ _ _⟩
                  · rw [HT.out]; exact zag_odd3 HV64.out HPP.out
                  · rw [HT.out, HEX.out]; exact HR.out.rest hlm
                · have t5 : ((V : Int) % 2 == 1) = false := by simp; omega
                  have t5' : ((V : Int).tmod 2 == 1) = false := by rw [Int.tmod_eq_emod_of_nonneg (by omega)]; exact t5
                  have HPP := Lib.hid hp
                  clear hp
                  go_wp2
                  go_ret
                  refine ⟨?_, ?_, grown_set _ _ _ _⟩
                  · rw [HT.out]; exact zag_even3 HV64.out HPP.out
                  · rw [HT.out, HEX.out]; exact HR.out.rest hlm
              · have t1 : ((i : Int) == 9) = false := by simp; omega
                clear hi9'
                by_cases hb0 : s[i].toNat = 0
                · have t4 : ((s[i].toNat : Int) == 0) = true := by rw [hb0]; rfl
                  have t6 : ¬ (0 < (i : Int)) := by omega
                  clear hb0 hz h9 HB9 HB9'
                  by_cases hp : V % 2 = 1
                  · have t5 : ((V : Int) % 2 == 1) = true := by simp; omega
                    have t5' : ((V : Int).tmod 2 == 1) = true := by rw [Int.tmod_eq_emod_of_nonneg (by omega)]; exact t5
                    have HPP := Lib.hid hp
                    clear hp
                    go_wp2
                    go_ret
                    refine ⟨?_, ?_, grown_set _ _ _ _⟩
                    · rw [HT.out]; exact zag_odd3 HV64.out HPP.out
                    · rw [HT.out, HEX.out]; exact HR.out.rest hlm
                  · have t5 : ((V : Int) % 2 == 1) = false := by simp; omega
                    have t5' : ((V : Int).tmod 2 == 1) = false := by rw [Int.tmod_eq_emod_of_nonneg (by omega)]; exact t5
                    have HPP := Lib.hid hp
                    clear hp
                    go_wp2
                    go_ret
                    refine ⟨?_, ?_, grown_set _ _ _ _⟩
                    · rw [HT.out]; exact zag_even3 HV64.out HPP.out
                    · rw [HT.out, HEX.out]; exact HR.out.rest hlm
                · have t4 : ((s[i].toNat : Int) == 0) = false := by simp; omega
                  clear hb0 hz h9 HB9 HB9'
                  by_cases hp : V % 2 = 1
                  · have t5 : ((V : Int) % 2 == 1) = true := by simp; omega
                    have t5' : ((V : Int).tmod 2 == 1) = true := by rw [Int.tmod_eq_emod_of_nonneg (by omega)]; exact t5
                    have HPP := Lib.hid hp
                    clear hp
                    go_wp2
                    go_ret
                    refine ⟨?_, ?_, grown_set _ _ _ _⟩
                    · rw [HT.out]; exact zag_odd3 HV64.out HPP.out
                    · rw [HT.out, HEX.out]; exact HR.out.rest hlm
                  · have t5 : ((V : Int) % 2 == 1) = false := by simp; omega
                    have t5' : ((V : Int).tmod 2 == 1) = false := by rw [Int.tmod_eq_emod_of_nonneg (by omega)]; exact t5
                    have HPP := Lib.hid hp
                    clear hp
                    go_wp2
                    go_ret
                    refine ⟨?_, ?_, grown_set _ _ _ _⟩
                    · rw [HT.out]; exact zag_even3 HV64.out HPP.out
                    · rw [HT.out, HEX.out]; exact HR.out.rest hlm
      · have ht : Wire.tInt l 0 = (0, l, 20) := by
          unfold Wire.tInt; rw [if_neg (by simp), ← HRD.out, List.drop_of_length_le (by simp; omega)]; rfl
        have HT := Lib.hid ht
        have t0 : (s.size : Int) ≤ (i : Int) := by omega
        clear ht hi
        go_wp2
        go_ret
        exact ⟨by rw [HT.out]; rfl, by rw [HT.out]; exact HR.out.err 20, grown_set _ _ _ _⟩
  · have ht : Wire.tInt l er = (0, l, er) := by unfold Wire.tInt; rw [if_pos he]
    have t0 : (er != 0) = true := by simpa using he
    have HT := Lib.hid ht
    clear ht he
    go_enter Tryd.func32, Tryd.ntmps32
    go_wp2
    go_ret
    exact ⟨by rw [HT.out]; rfl, by rw [HT.out]; exact HR.out, grown_refl _ _⟩
end Go.Proofs.YtndcmjgjecdgcaaDoor
