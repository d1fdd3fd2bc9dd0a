/- The contract of wire.readNumber: the number of pieces of seven bits at the beginning of a text, or why there is none. -/
import Derived.Test.YtndcmjgjecdgcaaDoorWireNum
import Derived.Scope
import Derived.Deep.DeepCutAuto
import Derived.WalkMore
namespace Go.Proofs.YtndcmjgjecdgcaaDoor
open Go.RowKit
/-- As Q; by a goto to a label l: J l. -/
def Hops (J : Nat → Act → World → Prop) (Q : Exit → Act → World → Prop) : Exit → Act → World → Prop
  | .goto l, a, w => J l a w
  | e, a, w => Q e a w
/-- A scope with several labels: what holds at each jump, by the label, and a measure that every pass lowers. -/
theorem wp_scope_hops {P : Program} {a : Act} {w : World} {Q : Exit → Act → World → Prop} {c : Code} (J : Nat → Act → World → Prop) (μ : Nat → Act → World → Nat)
    (hf : ∀ l a w, J l a w → ∃ rest, findLabel c l = some (Code.seq .skip rest))
    (pass : ∀ l rest a w, findLabel c l = some (Code.seq .skip rest) → J l a w → rest.wp P (Hops (fun l' a' w' => J l' a' w' ∧ μ l' a' w' < μ l a w) Q) a w)
    (first' : (∀ l rest a w, findLabel c l = some (Code.seq .skip rest) → J l a w → rest.wp P (Hops J Q) a w) → c.wp P (Hops J Q) a w) : (Code.scope c).wp P Q a w := by
  have first : c.wp P (Hops J Q) a w := first' fun l rest a w h hJ b k cs => by
    obtain ⟨e, a₁, w₁, hq, harr⟩ := pass l rest a w h hJ b k cs
    refine ⟨e, a₁, w₁, ?_, harr⟩
    cases e with
    | goto l' => exact hq.1
    | _ => exact hq
  have pass2 : ∀ l rest a w, findLabel c l = some (Code.seq .skip rest) → J l a w → (Code.seq .skip rest).wp P (Hops (fun l' a' w' => J l' a' w' ∧ μ l' a' w' < μ l a w) Q) a w :=
    fun l rest a w h hJ => wp_seq (wp_skip (pass l rest a w h hJ))
  intro b k cs
  have key : ∀ n l a w, μ l a w = n → J l a w → ∃ rest, gotoIn l (.inScope c :: k) = some (.code rest :: .inScope c :: k) ∧ ∃ e a' w', Q e a' w' ∧ Arrives P (lone (b.at a (.code rest :: .inScope c :: k)) cs w) b k cs e a' w' := by
    intro n
    induction n using Nat.strongRecOn with
    | _ n ih =>
      intro l a w hn hJ
      obtain ⟨rest, hr⟩ := hf l a w hJ
      refine ⟨Code.seq .skip rest, by simp [gotoIn, hr], ?_⟩
      obtain ⟨e, a₁, w₁, hq, harr⟩ := pass2 l rest a w hr hJ b (.inScope c :: k) cs
      cases e with
      | normal => exact ⟨.normal, a₁, w₁, hq, Steps.trans harr (.one step_inScope)⟩
      | exit id => exact ⟨.exit id, a₁, w₁, hq, fun k' hk => harr k' (by simp [exitTo, hk])⟩
      | goto l' =>
        obtain ⟨hJ', hlt⟩ := hq
        obtain ⟨rest', hg', e₂, a₂, w₂, hq₂, harr₂⟩ := ih _ (by omega) l' a₁ w₁ rfl hJ'
        exact ⟨e₂, a₂, w₂, hq₂, .of_steps (harr _ hg') harr₂⟩
      | ret => exact ⟨_, a₁, w₁, hq, harr⟩
      | panic ch => exact ⟨_, a₁, w₁, hq, harr⟩
      | outgrown => exact ⟨_, a₁, w₁, hq, harr⟩
  obtain ⟨e, a₁, w₁, hq, harr⟩ := first b (.inScope c :: k) cs
  cases e with
  | normal => exact ⟨.normal, a₁, w₁, hq, .head step_scope (Steps.trans harr (.one step_inScope))⟩
  | exit id => exact ⟨.exit id, a₁, w₁, hq, fun k' hk => .head step_scope (harr k' (by simp [exitTo, hk]))⟩
  | goto l' =>
    obtain ⟨rest', hg', e₂, a₂, w₂, hq₂, harr₂⟩ := key _ l' a₁ w₁ rfl hq
    exact ⟨e₂, a₂, w₂, hq₂, .of_steps (.head step_scope (harr _ hg')) harr₂⟩
  | ret => exact ⟨_, a₁, w₁, hq, .of_steps (.one step_scope) harr⟩
  | panic ch => exact ⟨_, a₁, w₁, hq, .of_steps (.one step_scope) harr⟩
  | outgrown => exact ⟨_, a₁, w₁, hq, .of_steps (.one step_scope) harr⟩

namespace Wire
inductive Rd where
  | short
  | wrong
  | ok (v n : Nat)
/-- read on at piece i, v read so far -/
def rdFrom (i v : Nat) : List UInt8 → Rd
  | [] => .short
  | b :: r => if i = 9 ∧ 1 < b.toNat then .wrong else if 128 ≤ b.toNat then rdFrom (i + 1) (v + b.toNat % 128 * 2 ^ (7 * i)) r
    else if b.toNat = 0 ∧ 0 < i then .wrong else .ok (v + b.toNat % 128 * 2 ^ (7 * i)) (i + 1)
def rd (l : List UInt8) : Rd := rdFrom 0 0 l
end Wire
def rdVal : Wire.Rd → Value
  | .short => .tuple #[.int .u64 0, .int .i64 0, .int .i64 20]
  | .wrong => .tuple #[.int .u64 0, .int .i64 0, .int .i64 21]
  | .ok v n => .tuple #[.int .u64 (v : Int), .int .i64 (n : Int), .int .i64 0]

theorem pow7 (i : Nat) : 2 ^ (7 * (i + 1)) = 128 * 2 ^ (7 * i) := by
  rw [Nat.mul_add, Nat.pow_add]; omega
theorem next_lt {i v : Nat} (hv : v < 2 ^ (7 * i)) (b : Nat) : v + b % 128 * 2 ^ (7 * i) < 2 ^ (7 * (i + 1)) := by
  rw [pow7]
  have h : b % 128 < 128 := Nat.mod_lt _ (by decide)
  have h1 : b % 128 * 2 ^ (7 * i) ≤ 127 * 2 ^ (7 * i) := Nat.mul_le_mul_right _ (by omega)
  omega
theorem next_64 {i v : Nat} (hv : v < 2 ^ (7 * i)) (b : Nat) (h : i ≤ 8 ∨ i = 9 ∧ b ≤ 1) : v + b % 128 * 2 ^ (7 * i) < 2 ^ 64 := by
  rcases h with h | ⟨rfl, h⟩
  · exact Nat.lt_of_lt_of_le (next_lt hv b) (Nat.pow_le_pow_right (by decide) (by omega))
  · have e : (2 : Nat) ^ (7 * 9) = 9223372036854775808 := by decide
    rw [e] at hv ⊢
    have : b % 128 = b := by omega
    rw [this]
    rcases Nat.le_one_iff_eq_zero_or_eq_one.1 h with h0 | h0
    · rw [h0]; omega
    · rw [h0]; omega
theorem and127 (b : UInt8) : bits BinOp.and IntKind.u8 (b.toNat : Int) 127 = ((b.toNat % 128 : Nat) : Int) := by
  have h := u8_and_nat b.toNat 127 b.toNat_lt (by decide)
  have e2 : (127 : Int) = ((127 : Nat) : Int) := rfl
  rw [e2, h]
  congr 1
  exact Nat.and_two_pow_sub_one_eq_mod b.toNat 7
theorem or_step {i v : Nat} (hv : v < 2 ^ (7 * i)) (b : UInt8) (h : i ≤ 8 ∨ i = 9 ∧ b.toNat ≤ 1) :
    bits BinOp.or IntKind.u64 (v : Int) (IntKind.u64.wrap (IntKind.u64.wrap (bits BinOp.and IntKind.u8 (b.toNat : Int) 127) * 2 ^ (7 * i))) = ((v + b.toNat % 128 * 2 ^ (7 * i) : Nat) : Int) := by
  have hlt := next_64 hv b.toNat h
  have hb := b.toNat_lt
  rw [and127]
  have e1 : IntKind.u64.wrap ((b.toNat % 128 : Nat) : Int) = ((b.toNat % 128 : Nat) : Int) := by rw [IntKind.wrap_u64]; omega
  have e2 : ((b.toNat % 128 : Nat) : Int) * 2 ^ (7 * i) = ((b.toNat % 128 * 2 ^ (7 * i) : Nat) : Int) := by
    rw [Int.natCast_mul, Int.natCast_pow]; rfl
  have e3 : IntKind.u64.wrap ((b.toNat % 128 * 2 ^ (7 * i) : Nat) : Int) = ((b.toNat % 128 * 2 ^ (7 * i) : Nat) : Int) := by rw [IntKind.wrap_u64]; omega
  rw [e1, e2, e3, u64_or_nat _ _ (by omega) (by omega)]
  congr 1
  have h2 : b.toNat % 128 * 2 ^ (7 * i) = 2 ^ (7 * i) * (b.toNat % 128) := Nat.mul_comm _ _
  rw [h2, Nat.or_comm, ← Nat.two_pow_add_eq_or_of_lt hv, Nat.add_comm]
theorem drop_cons (s : ByteArray) (i : Nat) (h : i < s.size) : s.data.toList.drop i = s[i] :: s.data.toList.drop (i + 1) := by
  rw [List.drop_eq_getElem_cons (by simpa using h)]; rfl

def At1 (s : ByteArray) (a : Act) (i v : Nat) : Prop := ∃ u1 u2 u3 u4 u6 u8 u9 u10 u11 u12 u13 u14 u15 u16 u17 u18 u19 u20 u21 u22 u23 u24 u25 u26 u27 u28 u29 u30 u31 u32 u33 u34 u35 u36 u37 u38 u39 u40 : Value, a = { tmps := #[.string s, u1, u2, u3, u4, .int .u64 (v : Int), u6, .int .i64 (i : Int), u8, u9, u10, u11, u12, u13, u14, u15, u16, u17, u18, u19, u20, u21, u22, u23, u24, u25, u26, u27, u28, u29, u30, u31, u32, u33, u34, u35, u36, u37, u38, u39, u40], defers := [] }
def At0 (s : ByteArray) (a : Act) : Prop := ∃ u1 u2 u3 u4 u5 u6 u7 u8 u9 u10 u11 u12 u13 u14 u15 u16 u17 u18 u19 u20 u21 u22 u23 u24 u25 u26 u27 u28 u29 u30 u31 u32 u33 u34 u35 u36 u37 u38 u39 u40 : Value, a = { tmps := #[.string s, u1, u2, u3, u4, u5, u6, u7, u8, u9, u10, u11, u12, u13, u14, u15, u16, u17, u18, u19, u20, u21, u22, u23, u24, u25, u26, u27, u28, u29, u30, u31, u32, u33, u34, u35, u36, u37, u38, u39, u40], defers := [] }
def RnJ (s : ByteArray) (w : World) (R : Wire.Rd) (l : Nat) (a' : Act) (w' : World) : Prop :=
  w = w' ∧ ((l = 1 ∧ ∃ i v : Nat, i ≤ 9 ∧ i ≤ s.size ∧ v < 2 ^ (7 * i) ∧ Wire.rdFrom i v (s.data.toList.drop i) = R ∧ At1 s a' i v) ∨ (l = 0 ∧ R = .short ∧ At0 s a') ∨ (l = 2 ∧ R = .wrong ∧ At0 s a'))
def RnM (l : Nat) (a' : Act) (_ : World) : Nat := if l = 1 then 20 - (intOf (a'.tmps.getD 7 undef)).toNat else 0
def RnN (s : ByteArray) (w : World) (R : Wire.Rd) (m : Nat) (l : Nat) (a' : Act) (w' : World) : Prop := RnJ s w R l a' w' ∧ RnM l a' w' < m

set_option maxRecDepth 100000 in
set_option maxHeartbeats 4000000 in
theorem read_any (s : ByteArray) (w : World) (hs : s.size ≤ 140737488351232) :
    Calls Tryd.prog 39 #[.string s] w fun e w' => e = .returned (rdVal (Wire.rd s.data.toList)) ∧ w = w' := by
  obtain ⟨R, hR⟩ : ∃ R, R = Wire.rd s.data.toList := ⟨_, rfl⟩
  rw [← hR]
  go_enter Tryd.func39, Tryd.ntmps39
  go_wp2
  refine wp_scope_hops (RnJ s w R) RnM ?_ ?_ ?_
  · rintro l a' w' ⟨_, ⟨rfl, _⟩ | ⟨rfl, _⟩ | ⟨rfl, _⟩⟩ <;> exact ⟨_, rfl⟩
  · rintro l rest a' w' hrest ⟨rfl, ⟨rfl, i, v, hi9, his, hv, hrd, hat⟩ | ⟨rfl, hr, hat⟩ | ⟨rfl, hr, hat⟩⟩
    · obtain ⟨u1, u2, u3, u4, u6, u8, u9, u10, u11, u12, u13, u14, u15, u16, u17, u18, u19, u20, u21, u22, u23, u24, u25, u26, u27, u28, u29, u30, u31, u32, u33, u34, u35, u36, u37, u38, u39, u40, rfl⟩ := hat
      obtain rfl := (Code.seq.inj (Option.some.inj hrest)).2.symm
      clear hrest
      show Code.wp _ _ (Hops (RnN s w R (RnM 1 _ _)) _) _ _
      have hm : RnM 1 { tmps := #[.string s, u1, u2, u3, u4, .int .u64 (v : Int), u6, .int .i64 (i : Int), u8, u9, u10, u11, u12, u13, u14, u15, u16, u17, u18, u19, u20, u21, u22, u23, u24, u25, u26, u27, u28, u29, u30, u31, u32, u33, u34, u35, u36, u37, u38, u39, u40], defers := [] } w = 20 - i := by simp [RnM, intOf]
      rw [hm]
      have HRD := Lib.hid hrd
      have HV := Lib.hid hv
      clear hrd hv hm hR
      by_cases hi : i < s.size
      · have t0 : ((i : Int) == (s.size : Int)) = false := by simp; omega
        have hd := drop_cons s i hi
        have HD := Lib.hid hd
        have hbl := s[i].toNat_lt
        clear hd
        by_cases h9 : i = 9
        · have t1 : ((i : Int) == 9) = true := by rw [h9]; rfl
          by_cases hb1 : 1 < s[i].toNat
          · have t2 : 1 < (s[i].toNat : Int) := by omega
            have hw : R = .wrong := by
              rw [← HRD.out, HD.out]; unfold Wire.rdFrom; rw [if_pos ⟨h9, hb1⟩]
            have HW := Lib.hid hw
            clear hw h9
            go_wp2
            all_goals (try go_step3)
            exact ⟨⟨rfl, .inr (.inr ⟨rfl, HW.out, ⟨_, _, _, _, _, _, _, _, _, _, _, _, _, _, _, _, _, _, _, _, _, _, _, _, _, _, _, _, _, _, _, _, _, _, _, _, _, _, _, _, rfl⟩⟩)⟩, by unfold RnM; rw [if_neg (by decide)]; omega⟩
          · have t2 : ¬ (1 < (s[i].toNat : Int)) := by omega
            have t3 : ¬ (128 ≤ (s[i].toNat : Int)) := by omega
            have hor := or_step HV.out s[i] (.inr ⟨h9, by omega⟩)
            have hi1 : 1 < (i : Int) + 1 := by omega
            by_cases hb0 : s[i].toNat = 0
            · have t4 : ((s[i].toNat : Int) == 0) = true := by rw [hb0]; rfl
              have hw : R = .wrong := by
                rw [← HRD.out, HD.out]; unfold Wire.rdFrom; rw [if_neg (by omega), if_neg (by omega), if_pos (by omega)]
              have HW := Lib.hid hw
              clear hw h9 hb0
              go_wp2
              all_goals (try go_step3)
              exact ⟨⟨rfl, .inr (.inr ⟨rfl, HW.out, ⟨_, _, _, _, _, _, _, _, _, _, _, _, _, _, _, _, _, _, _, _, _, _, _, _, _, _, _, _, _, _, _, _, _, _, _, _, _, _, _, _, rfl⟩⟩)⟩, by unfold RnM; rw [if_neg (by decide)]; omega⟩
            · have t4 : ((s[i].toNat : Int) == 0) = false := by simpa using hb0
              have hw : R = .ok (v + s[i].toNat % 128 * 2 ^ (7 * i)) (i + 1) := by
                rw [← HRD.out, HD.out]; unfold Wire.rdFrom; rw [if_neg (by omega), if_neg (by omega), if_neg (by omega)]
              have HW := Lib.hid hw
              clear hw h9 hb0
              go_wp2
              simp only [Hops]
              go_ret3
              exact ⟨by rw [HW.out]; rfl, rfl⟩
        · have t1 : ((i : Int) == 9) = false := by simp; omega
          have hor := or_step HV.out s[i] (.inl (by omega))
          by_cases hb8 : 128 ≤ s[i].toNat
          · have t3 : 128 ≤ (s[i].toNat : Int) := by omega
            have hnx := next_lt HV.out s[i].toNat
            have hw : Wire.rdFrom (i + 1) (v + s[i].toNat % 128 * 2 ^ (7 * i)) (s.data.toList.drop (i + 1)) = R := by
              rw [← HRD.out, HD.out]; conv => rhs; unfold Wire.rdFrom
              rw [if_neg (by omega), if_pos hb8]
            have HW := Lib.hid hw
            have HNX := Lib.hid hnx
            clear hw hnx
            go_wp2
            all_goals (try go_step3)
            exact ⟨⟨rfl, .inl ⟨rfl, i + 1, v + s[i].toNat % 128 * 2 ^ (7 * i), by omega, by omega, HNX.out, HW.out, ⟨_, _, _, _, _, _, _, _, _, _, _, _, _, _, _, _, _, _, _, _, _, _, _, _, _, _, _, _, _, _, _, _, _, _, _, _, _, _, rfl⟩⟩⟩, by simp [RnM, intOf]; omega⟩
          · have t3 : ¬ (128 ≤ (s[i].toNat : Int)) := by omega
            by_cases hb0 : s[i].toNat = 0 ∧ 0 < i
            · have t4 : ((s[i].toNat : Int) == 0) = true := by rw [hb0.1]; rfl
              have hi1 : 1 < (i : Int) + 1 := by omega
              have hw : R = .wrong := by
                rw [← HRD.out, HD.out]; unfold Wire.rdFrom; rw [if_neg (by omega), if_neg (by omega), if_pos hb0]
              have HW := Lib.hid hw
              clear hw hb0
              go_wp2
              all_goals (try go_step3)
              exact ⟨⟨rfl, .inr (.inr ⟨rfl, HW.out, ⟨_, _, _, _, _, _, _, _, _, _, _, _, _, _, _, _, _, _, _, _, _, _, _, _, _, _, _, _, _, _, _, _, _, _, _, _, _, _, _, _, rfl⟩⟩)⟩, by unfold RnM; rw [if_neg (by decide)]; omega⟩
            · have hw : R = .ok (v + s[i].toNat % 128 * 2 ^ (7 * i)) (i + 1) := by
                rw [← HRD.out, HD.out]; unfold Wire.rdFrom; rw [if_neg (by omega), if_neg (by omega), if_neg hb0]
              have HW := Lib.hid hw
              clear hw
              by_cases hz : s[i].toNat = 0
              · have t4 : ((s[i].toNat : Int) == 0) = true := by rw [hz]; rfl
                have hi1 : ¬ (1 < (i : Int) + 1) := by omega
                clear hb0 hz
                go_wp2
                simp only [Hops]
                go_ret3
                exact ⟨by rw [HW.out]; rfl, rfl⟩
              · have t4 : ((s[i].toNat : Int) == 0) = false := by simpa using hz
                clear hb0 hz
                go_wp2
                simp only [Hops]
                go_ret3
                exact ⟨by rw [HW.out]; rfl, rfl⟩
      · have hie : i = s.size := by omega
        have t0 : ((i : Int) == (s.size : Int)) = true := by rw [hie]; simp
        have hw : R = .short := by
          rw [← HRD.out, List.drop_of_length_le (by simp; omega)]; rfl
        have HW := Lib.hid hw
        clear hw hie hi
        go_wp2
        all_goals (try go_step3)
        exact ⟨⟨rfl, .inr (.inl ⟨rfl, HW.out, ⟨_, _, _, _, _, _, _, _, _, _, _, _, _, _, _, _, _, _, _, _, _, _, _, _, _, _, _, _, _, _, _, _, _, _, _, _, _, _, _, _, rfl⟩⟩)⟩, by unfold RnM; rw [if_neg (by decide)]; omega⟩
    · obtain ⟨u1, u2, u3, u4, u5, u6, u7, u8, u9, u10, u11, u12, u13, u14, u15, u16, u17, u18, u19, u20, u21, u22, u23, u24, u25, u26, u27, u28, u29, u30, u31, u32, u33, u34, u35, u36, u37, u38, u39, u40, rfl⟩ := hat
      obtain rfl := (Code.seq.inj (Option.some.inj hrest)).2.symm
      clear hrest hR
      go_wp2
      simp only [Hops]
      go_ret3
      exact ⟨by rw [hr]; rfl, rfl⟩
    · obtain ⟨u1, u2, u3, u4, u5, u6, u7, u8, u9, u10, u11, u12, u13, u14, u15, u16, u17, u18, u19, u20, u21, u22, u23, u24, u25, u26, u27, u28, u29, u30, u31, u32, u33, u34, u35, u36, u37, u38, u39, u40, rfl⟩ := hat
      obtain rfl := (Code.seq.inj (Option.some.inj hrest)).2.symm
      clear hrest hR
      go_wp2
      simp only [Hops]
      go_ret3
      exact ⟨by rw [hr]; rfl, rfl⟩
  · intro hp
    have HP := Lib.hid hp
    clear hp
    have HR := Lib.hid hR
    clear hR
    go_upto_region 3 with (fail)
    go_cut [5, 7] (fun s5 s7 wx => s5 = .int .u64 0 ∧ s7 = .int .i64 0 ∧ w = wx)
    case first =>
      go_wp2
      go_meet
      exact ⟨rfl, rfl, rfl⟩
    case rest =>
      obtain ⟨rfl, rfl, rfl⟩ := hcut
      refine ‹∀ (a : Act) (w : World), Code.wp Tryd.prog _ _ a w → _› _ _ ?_
      exact wp_seq (wp_label (HP.out 1 _ _ _ rfl ⟨rfl, .inl ⟨rfl, 0, 0, by omega, by omega, by simp, HR.out.symm, ⟨_, _, _, _, _, _, _, _, _, _, _, _, _, _, _, _, _, _, _, _, _, _, _, _, _, _, _, _, _, _, _, _, _, _, _, _, _, _, rfl⟩⟩⟩))
end Go.Proofs.YtndcmjgjecdgcaaDoor
