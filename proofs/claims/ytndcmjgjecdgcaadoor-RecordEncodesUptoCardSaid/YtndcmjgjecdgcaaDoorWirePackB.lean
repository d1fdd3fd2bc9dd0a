/- The contracts of wire.Pack's Int, Text and Bool, for a Pack and for none. -/
import Derived.Test.YtndcmjgjecdgcaaDoorWirePack
namespace Go.Proofs.YtndcmjgjecdgcaaDoor
open Go.RowKit

theorem grown_after {w w1 w2 : World} {p : Nat} (hb : Below w.heap.size w w1) (hg : w1.grownBy w2 (some p)) : w.grownBy w2 (some p) :=
  ⟨hg.os.trans hb.os, hg.tape.trans hb.tape, hg.output.trans hb.output, Nat.le_trans hb.size hg.size, fun k hk hne => (hg.block k (Nat.lt_of_lt_of_le hk hb.size) hne).trans (hb.block k hk)⟩
theorem grown_trans' {w w1 w2 : World} {p : Option Nat} (hb : w.grownBy w1 p) (hg : w1.grownBy w2 p) : w.grownBy w2 p :=
  ⟨hg.os.trans hb.os, hg.tape.trans hb.tape, hg.output.trans hb.output, Nat.le_trans hb.size hg.size, fun k hk hne => (hg.block k (Nat.lt_of_lt_of_le hk hb.size) hne).trans (hb.block k hk hne)⟩
theorem below_grown {B : Nat} {w w1 w2 : World} {p : Nat} (hb : Below B w w1) (hg : w1.grownBy w2 (some p)) (hB : B ≤ p) (hs : B ≤ w1.heap.size) : Below B w w2 :=
  hb.grown hg hs (fun k hk => by injection hk with hk; omega)

theorem PackIs.put2 {w : World} {p L : Nat} {parts : List ByteArray} (hP : PackIs w p L parts) {s : ByteArray} (hs : 0 < s.size) :
    ∃ h, p < w.heap.size ∧ w.cell? ⟨p, 0, none⟩ = some (.pointer h) ∧ w.frozen? ⟨p, 0, none⟩ = false ∧ Hid (∀ w2, PutWorld w p h s = w2 → PackIs w2 p L (s :: parts) ∧ w.grownBy w2 (some p)) := by
  obtain ⟨hl, hL, hf, hd, hc, hch⟩ := hP
  exact ⟨hd, by omega, hc, hf, fun w2 e => by subst e; exact ⟨PackIs.put hl hL hf hc hch hs, grownBy_put _ _⟩⟩

def numS (n : Int) : ByteArray := ⟨(Wire.num n).toArray⟩
def boolS (b : Bool) : ByteArray := if b then ⟨#[1]⟩ else ⟨#[0]⟩
theorem numS_size (n : Int) : 1 ≤ (numS n).size ∧ (numS n).size ≤ 10 := by
  have := Wire.num_length n
  unfold numS
  show 1 ≤ (Wire.num n).toArray.size ∧ (Wire.num n).toArray.size ≤ 10
  simpa using this
theorem boolS_size (b : Bool) : (boolS b).size = 1 := by cases b <;> rfl
theorem number_S (n : Int) (w : World) (hn : -9223372036854775808 ≤ n ∧ n ≤ 9223372036854775807) :
    Calls Tryd.prog 37 #[.int .i64 n] w fun e w' => e = .returned (.string (numS n)) ∧ Below w.heap.size w w' := number_any n w hn

theorem int_pack (p L : Nat) (n : Int) (w : World) (parts : List ByteArray) (hP : PackIs w p L parts) (hn : -9223372036854775808 ≤ n ∧ n ≤ 9223372036854775807) :
    Calls Tryd.prog 19 #[.pointer (some ⟨p, 0, none⟩), .int .i64 n] w fun e w' => e = .returned (.tuple #[]) ∧ PackIs w' p L (numS n :: parts) ∧ w.grownBy w' (some p) := by
  have HP := Lib.hid hP
  have HN := Lib.hid hn
  clear hP hn
  go_enter Tryd.func19, Tryd.ntmps19
  go_wp2_with (first | (go_at_call 37; refine (number_S n _ HN.out).mono ?_; rintro e w1 ⟨rfl, hb1⟩; have HB := Lib.hid hb1; have hp1 := HP.out.below hb1 (Nat.le_refl _); have HP1 := Lib.hid hp1; clear hb1 hp1) | (go_at_call 36; go_must (obtain ⟨hd, h0, hc, hf, HQ⟩ := HP1.out.put2 (numS_size n).1; refine (put_raw p hd _ _ h0 hc hf).mono ?_; rintro e w2 ⟨rfl, hw2⟩; have HW := Lib.hid (HQ.out w2 hw2); clear hw2 hc hf)))
  go_end0
  exact ⟨rfl, HW.out.1, grown_after HB.out HW.out.2⟩
theorem int_nil (n : Int) (w : World) (hn : -9223372036854775808 ≤ n ∧ n ≤ 9223372036854775807) :
    Calls Tryd.prog 19 #[.pointer none, .int .i64 n] w fun e w' => e = .returned (.tuple #[]) ∧ Below w.heap.size w w' := by
  have HN := Lib.hid hn
  clear hn
  go_enter Tryd.func19, Tryd.ntmps19
  go_wp2_with (first | (go_at_call 37; refine (number_S n _ HN.out).mono ?_; rintro e w1 ⟨rfl, hb1⟩; have HB := Lib.hid hb1; clear hb1) | (go_at_call 36; refine (put_nil _ _).mono ?_; rintro e w2 ⟨rfl, rfl⟩))
  go_end0
  exact ⟨rfl, HB.out⟩

theorem text_pack (p L : Nat) (s : ByteArray) (w : World) (parts : List ByteArray) (hP : PackIs w p L parts) (hs : s.size ≤ 140737488351232) :
    Calls Tryd.prog 20 #[.pointer (some ⟨p, 0, none⟩), .string s] w fun e w' => e = .returned (.tuple #[]) ∧ PackIs w' p L ((numS s.size ++ s) :: parts) ∧ w.grownBy w' (some p) := by
  have HP := Lib.hid hP
  have HN := Lib.hid (show -9223372036854775808 ≤ (s.size : Int) ∧ (s.size : Int) ≤ 9223372036854775807 by omega)
  have hb := numS_size s.size
  have hpos : 0 < (numS s.size ++ s).size := by rw [ByteArray.size_append]; omega
  have HPOS := Lib.hid hpos
  clear hP hpos
  go_enter Tryd.func20, Tryd.ntmps20
  go_wp2_with (first | (go_at_call 37; refine (number_S s.size _ HN.out).mono ?_; rintro e w1 ⟨rfl, hb1⟩; have HB := Lib.hid hb1; have hp1 := HP.out.below hb1 (Nat.le_refl _); have HP1 := Lib.hid hp1; clear hb1 hp1) | (go_at_call 36; go_must (obtain ⟨hd, h0, hc, hf, HQ⟩ := HP1.out.put2 HPOS.out; refine (put_raw p hd _ _ h0 hc hf).mono ?_; rintro e w2 ⟨rfl, hw2⟩; have HW := Lib.hid (HQ.out w2 hw2); clear hw2 hc hf)))
  go_end0
  exact ⟨rfl, HW.out.1, grown_after HB.out HW.out.2⟩
theorem text_nil (s : ByteArray) (w : World) (hs : s.size ≤ 140737488351232) :
    Calls Tryd.prog 20 #[.pointer none, .string s] w fun e w' => e = .returned (.tuple #[]) ∧ Below w.heap.size w w' := by
  have HN := Lib.hid (show -9223372036854775808 ≤ (s.size : Int) ∧ (s.size : Int) ≤ 9223372036854775807 by omega)
  have hb := numS_size s.size
  go_enter Tryd.func20, Tryd.ntmps20
  go_wp2_with (first | (go_at_call 37; refine (number_S s.size _ HN.out).mono ?_; rintro e w1 ⟨rfl, hb1⟩; have HB := Lib.hid hb1; clear hb1) | (go_at_call 36; refine (put_nil _ _).mono ?_; rintro e w2 ⟨rfl, rfl⟩))
  go_end0
  exact ⟨rfl, HB.out⟩

end Go.Proofs.YtndcmjgjecdgcaaDoor
