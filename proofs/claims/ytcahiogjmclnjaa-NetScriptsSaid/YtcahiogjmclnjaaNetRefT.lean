/- The reference's net: what is refused, Deliver, Part, Parted. -/
import Derived.Test.YtcahiogjmclnjaaNetRefR
namespace Go.Proofs.Ytcahiogjmclnjaa
open Go.RowKit
section
variable {w0 : World} {q : Nat} {N sent : Int} {L : List Letr} {S : Int → Int → Bool}
set_option maxRecDepth 100000 in
set_option maxHeartbeats 2000000 in
theorem rsend_no (a b : Int) (s : ByteArray) (w : World) (hL : L.length ≤ 65536) (hno : (nodeB N a && nodeB N b) = false ∨ ¬ s.size ≤ 1048576 ∨ 65536 ≤ L.length) (h : Hid (RNt w0 w q N sent L S)) :
    Calls Try.prog 8 #[.pointer (some ⟨q, 0, none⟩), .int .i64 a, .int .i64 b, .string s] w (RNP w0 w q N sent L S (.tuple #[.int .i64 0, .int .i64 (if (nodeB N a && nodeB N b) = false then 2 else if ¬ s.size ≤ 1048576 then 1 else 40)])) := by
  obtain ⟨hb0, v, hR⟩ := h.out
  obtain ⟨a', c', hv⟩ := hR.is_slice
  subst hv
  have c0 := hR.c0
  have c2 := hR.c2
  have hna := node_any (w := w) (N := N) a c0
  have hnb := node_any (w := w) (N := N) b c0
  obtain ⟨m, hm⟩ : ∃ m, m = L.length := ⟨_, rfl⟩
  rw [← hm] at c2 hno hL
  clear hR hm
  by_cases q0 : nodeB N a = false
  · rw [if_pos (by rw [q0]; rfl)]
    rw [q0] at hna
    clear hno hnb
    go_enter Try.func8, Try.ntmps8
    go_wp2_with (fail)
    refine hna.mono ?_
    rintro e w' ⟨rfl, rfl⟩
    go_wp2
    go_ret2
    exact rnp_same h
  · have q0' : nodeB N a = true := by simpa using q0
    rw [q0'] at hna hno ⊢
    by_cases q1 : nodeB N b = false
    · rw [if_pos (by rw [q1]; rfl)]
      rw [q1] at hnb
      clear hno
      go_enter Try.func8, Try.ntmps8
      go_wp2_with (fail)
      refine hna.mono ?_
      rintro e w' ⟨rfl, rfl⟩
      go_wp2_with (fail)
      refine hnb.mono ?_
      rintro e w' ⟨rfl, rfl⟩
      go_wp2
      go_ret2
      exact rnp_same h
    · have q1' : nodeB N b = true := by simpa using q1
      rw [q1'] at hnb hno ⊢
      rw [if_neg (by decide)]
      by_cases q2 : s.size ≤ 1048576
      · rw [if_neg (fun x => x q2)]
        have hf : 65536 ≤ m := by
          rcases hno with h | h | h
          · cases h
          · exact absurd q2 h
          · exact h
        have hf1 : decide ((65536 : Int) ≤ (m : Int)) = true := decide_eq_true (by omega)
        have hsz : decide ((1048576 : Int) < (s.size : Int)) = false := decide_eq_false (by omega)
        clear hno q0 q1 q2 hf
        go_enter Try.func8, Try.ntmps8
        go_wp2_with (fail)
        refine hna.mono ?_
        rintro e w' ⟨rfl, rfl⟩
        go_wp2_with (fail)
        refine hnb.mono ?_
        rintro e w' ⟨rfl, rfl⟩
        clear hna hnb
        go_wp2
        go_ret2
        exact rnp_same h
      · rw [if_pos q2]
        have hsz : decide ((1048576 : Int) < (s.size : Int)) = true := decide_eq_true (by omega)
        clear hno q0 q1 q2
        go_enter Try.func8, Try.ntmps8
        go_wp2_with (fail)
        refine hna.mono ?_
        rintro e w' ⟨rfl, rfl⟩
        go_wp2_with (fail)
        refine hnb.mono ?_
        rintro e w' ⟨rfl, rfl⟩
        clear hna hnb
        go_wp2
        go_ret2
        exact rnp_same h
theorem node_nat {N a : Int} (hN : N ≤ 64) (h : nodeB N a = true) : ∃ n : Nat, a = (n : Int) ∧ n < 64 := by
  obtain ⟨h1, h2⟩ := nodeB_t h
  exact ⟨a.toNat, by omega, by omega⟩
set_option maxRecDepth 100000 in
set_option maxHeartbeats 4000000 in
theorem rpart_yes (a b : Int) (c : Bool) (w : World) (hN : N ≤ 64) (ha : nodeB N a = true) (hb : nodeB N b = true) (hab : ¬ a = b) (h : Hid (RNt w0 w q N sent L S)) :
    Calls Try.prog 16 #[.pointer (some ⟨q, 0, none⟩), .int .i64 a, .int .i64 b, .bool c] w (RNP w0 w q N sent L (setS S a b c) (.int .i64 0)) := by
  obtain ⟨hb0, v, hR⟩ := h.out
  have c0 := hR.c0
  have hna := node_any (w := w) (N := N) a c0
  have hnb := node_any (w := w) (N := N) b c0
  rw [ha] at hna
  rw [hb] at hnb
  obtain ⟨x, rfl, hx⟩ := node_nat hN ha
  obtain ⟨y, rfl, hy⟩ := node_nat hN hb
  have fz := free_of hR.ty
  have z1 := fz (3 + x * 64 + y)
  have z2 := fz (3 + y * 64 + x)
  have e1 := hR.cut x y hx hy
  have e2 := hR.cut y x hy hx
  obtain ⟨u, hu⟩ : ∃ u : Bool, (w.setCell ⟨q, 3 + x * 64 + y, none⟩ (.bool c)).cell? ⟨q, 3 + y * 64 + x, none⟩ = some (.bool u) := ⟨_, (hR.setCut x y hx hy c).cut y x hy hx⟩
  have hR2 := (hR.setCut x y hx hy c).setCut y x hy hx c
  have HF : Hid (RNP w0 w q N sent L (setS S x y c) (.int .i64 0) (.returned (.int .i64 0)) ((w.setCell ⟨q, 3 + x * 64 + y, none⟩ (.bool c)).setCell ⟨q, 3 + y * 64 + x, none⟩ (.bool c))) := Lib.hid (by
    have hS : (fun (x1 y1 : Int) => if x1 = (y : Int) ∧ y1 = (x : Int) then c else (fun (x2 y2 : Int) => if x2 = (x : Int) ∧ y2 = (y : Int) then c else S x2 y2) x1 y1) = setS S x y c := by
      funext x1 y1
      unfold setS
      by_cases g1 : x1 = (x : Int) ∧ y1 = (y : Int)
      · simp [g1]
      · by_cases g2 : x1 = (y : Int) ∧ y1 = (x : Int)
        · simp [g2]
        · simp [g1, g2]
    rw [hS] at hR2
    exact rnp_tch hb0 hR hR2 (((tch_set w ⟨q, 3 + x * 64 + y, none⟩ _).then (tch_set _ ⟨q, 3 + y * 64 + x, none⟩ _) (fun i _ e => e)).mono (fun i _ e => .inl e)))
  have hxy : ((x : Int) == (y : Int)) = false := by simpa using hab
  have hxy2 : (x == y) = false := by simp; omega
  have hx1 : (x : Int) < 64 := by omega
  have hy1 : (y : Int) < 64 := by omega
  clear hR hR2 fz hb0 hab ha hb
  go_enter Try.func16, Try.ntmps16
  go_wp2_with (fail)
  refine hna.mono ?_
  rintro e w' ⟨rfl, rfl⟩
  go_wp2_with (fail)
  refine hnb.mono ?_
  rintro e w' ⟨rfl, rfl⟩
  clear hna hnb
  go_wp2
  go_ret
  exact HF.out
set_option maxRecDepth 100000 in
theorem rpart_no (a b : Int) (c : Bool) (w : World) (hab : (nodeB N a && nodeB N b) = false ∨ a = b) (h : Hid (RNt w0 w q N sent L S)) :
    Calls Try.prog 16 #[.pointer (some ⟨q, 0, none⟩), .int .i64 a, .int .i64 b, .bool c] w (RNP w0 w q N sent L S (.int .i64 2)) := by
  obtain ⟨hb0, v, hR⟩ := h.out
  have c0 := hR.c0
  have hna := node_any (w := w) (N := N) a c0
  have hnb := node_any (w := w) (N := N) b c0
  clear hR
  by_cases q0 : nodeB N a = false
  · rw [q0] at hna
    clear hab hnb
    go_enter Try.func16, Try.ntmps16
    go_wp2_with (fail)
    refine hna.mono ?_
    rintro e w' ⟨rfl, rfl⟩
    go_wp2
    go_ret
    exact rnp_same h
  · have q0' : nodeB N a = true := by simpa using q0
    rw [q0'] at hna hab
    by_cases q1 : nodeB N b = false
    · rw [q1] at hnb
      clear hab
      go_enter Try.func16, Try.ntmps16
      go_wp2_with (fail)
      refine hna.mono ?_
      rintro e w' ⟨rfl, rfl⟩
      go_wp2_with (fail)
      refine hnb.mono ?_
      rintro e w' ⟨rfl, rfl⟩
      go_wp2
      go_ret
      exact rnp_same h
    · have q1' : nodeB N b = true := by simpa using q1
      rw [q1'] at hnb hab
      obtain rfl : a = b := by
        rcases hab with h | h
        · cases h
        · exact h
      clear hab q0 q1
      go_enter Try.func16, Try.ntmps16
      go_wp2_with (fail)
      refine hna.mono ?_
      rintro e w' ⟨rfl, rfl⟩
      go_wp2_with (fail)
      refine hna.mono ?_
      rintro e w' ⟨rfl, rfl⟩
      go_wp2
      go_ret
      exact rnp_same h
/-- only ways between nodes are cut -/
def Only (N : Int) (S : Int → Int → Bool) : Prop := ∀ a b, S a b = true → nodeB N a = true ∧ nodeB N b = true
set_option maxRecDepth 100000 in
theorem rparted_any (a b : Int) (w : World) (hN : N ≤ 64) (hS : Only N S) (h : Hid (RNt w0 w q N sent L S)) :
    Calls Try.prog 20 #[.pointer (some ⟨q, 0, none⟩), .int .i64 a, .int .i64 b] w fun e w' => e = .returned (.bool (S a b)) ∧ w = w' := by
  obtain ⟨hb0, v, hR⟩ := h.out
  have c0 := hR.c0
  have hna := node_any (w := w) (N := N) a c0
  have hnb := node_any (w := w) (N := N) b c0
  by_cases q0 : nodeB N a = false
  · rw [q0] at hna
    have hA : S a b = false := by
      cases hs : S a b
      · rfl
      · have := (hS a b hs).1; rw [q0] at this; cases this
    rw [hA]
    clear hnb hR hA
    go_enter Try.func20, Try.ntmps20
    go_wp2_with (fail)
    refine hna.mono ?_
    rintro e w' ⟨rfl, rfl⟩
    go_wp2
    go_ret
    exact ⟨rfl, rfl⟩
  · have q0' : nodeB N a = true := by simpa using q0
    rw [q0'] at hna
    by_cases q1 : nodeB N b = false
    · rw [q1] at hnb
      have hA : S a b = false := by
        cases hs : S a b
        · rfl
        · have := (hS a b hs).2; rw [q1] at this; cases this
      rw [hA]
      clear hR hA
      go_enter Try.func20, Try.ntmps20
      go_wp2_with (fail)
      refine hna.mono ?_
      rintro e w' ⟨rfl, rfl⟩
      go_wp2_with (fail)
      refine hnb.mono ?_
      rintro e w' ⟨rfl, rfl⟩
      go_wp2
      go_ret
      exact ⟨rfl, rfl⟩
    · have q1' : nodeB N b = true := by simpa using q1
      rw [q1'] at hnb
      obtain ⟨x, rfl, hx⟩ := node_nat hN q0'
      obtain ⟨y, rfl, hy⟩ := node_nat hN q1'
      have e1 := hR.cut x y hx hy
      have hx1 : (x : Int) < 64 := by omega
      have hy1 : (y : Int) < 64 := by omega
      obtain ⟨u, hu⟩ : ∃ u, u = S x y := ⟨_, rfl⟩
      rw [← hu] at e1 ⊢
      clear hR q0 q1 hu
      go_enter Try.func20, Try.ntmps20
      go_wp2_with (fail)
      refine hna.mono ?_
      rintro e w' ⟨rfl, rfl⟩
      go_wp2_with (fail)
      refine hnb.mono ?_
      rintro e w' ⟨rfl, rfl⟩
      clear hna hnb
      go_wp2
      go_ret
      exact ⟨rfl, rfl⟩
end
end Go.Proofs.Ytcahiogjmclnjaa
