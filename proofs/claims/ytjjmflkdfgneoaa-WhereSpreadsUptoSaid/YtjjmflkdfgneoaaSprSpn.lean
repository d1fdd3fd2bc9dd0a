/- where.Spread's contract. -/
import Derived.Test.YtjjmflkdfgneoaaSprSpr
import Derived.Test.YtjjmflkdfgneoaaNearRef2
namespace Go.Proofs.Ytjjmflkdfgneoaa
open Go.RowKit

/-- the candidates at the beginning: their least distance is the greatest number -/
def candS (ca cb : Nat → Nat) (L : List Nat) : List Cd := L.map fun x => ⟨x, ca x, cb x, 9223372036854775807⟩
theorem candS_cells (ca cb : Nat → Nat) : ∀ L : List Nat, candC ca cb L = cellsOf (candS ca cb L)
  | [] => rfl
  | x :: L => by
    have := candS_cells ca cb L
    show [_, _, _] ++ candC ca cb L = cellsL _ ++ cellsOf (candS ca cb L)
    rw [this]
theorem candS_plcs (ca cb f : Nat → Nat) (k : Nat) : Plcs (candS ca cb (candL ca cb f k)) := by
  intro c hc
  obtain ⟨x, hx, rfl⟩ := List.mem_map.1 hc
  have := (List.mem_filter.1 hx).2
  exact this
def slen3 : Value → Nat
  | .slice _ k _ => k
  | _ => 0
def outT (T : List Nat) : List Value := T.map fun (x : Nat) => Value.int .i64 (x : Int)
theorem own_below {W w2 : World} {n₀ k : Nat} {e : TypeId} {v : Value} {xs : List Value} (hcl : Below W.heap.size W w2) (hrow : W.ownsRow n₀ e 3 v k xs) : w2.ownsRow n₀ e 3 v k xs :=
  hrow.kept (row := none) ⟨hcl.os, hcl.tape, hcl.output, hcl.size, fun k hk _ => hcl.block k hk⟩ (by
    rcases hrow.2 with ⟨rfl, _⟩ | ⟨g, cap, cur, rfl, _, _, _⟩
    · exact .inl rfl
    · exact .inr (by simp [Value.ownBlock]))
theorem own_below1 {W w2 : World} {n₀ k : Nat} {e : TypeId} {v : Value} {xs : List Value} (hcl : Below W.heap.size W w2) (hrow : W.ownsRow n₀ e 1 v k xs) : w2.ownsRow n₀ e 1 v k xs :=
  hrow.kept (row := none) ⟨hcl.os, hcl.tape, hcl.output, hcl.size, fun k hk _ => hcl.block k hk⟩ (by
    rcases hrow.2 with ⟨rfl, _⟩ | ⟨g, cap, cur, rfl, _, _, _⟩
    · exact .inl rfl
    · exact .inr (by simp [Value.ownBlock]))
theorem new_at (w : World) (o : Obj) (u : Value) (t : TypeId) : ∀ j y, [u][j]? = some y → ((w.alloc o).alloc (.cells #[u] t)).cell? ((⟨w.heap.size + 1, 0, none⟩ : Addr).add j) = some y := by
  intro j y hj
  match j, hj with
  | 0, hj =>
    simp at hj
    subst hj
    have h := new_one (w.alloc o) u t
    rw [World.size_alloc] at h
    first | (simp [Addr.add]; done) | simpa [Addr.add] using h
/-- what where.Spread gives back -/
def SprPost (w : World) (B len : Nat) (D : Nat → Int) (ca cb : Nat → Nat) (n : Nat) (e : Ending) (w' : World) : Prop :=
  ∃ (f : Nat → Nat) (v : Value), NearF len D f ∧ e = .returned v ∧ w'.ownsRow B 3 1 v (sprT n (candS ca cb (candL ca cb f len))).length (outT (sprT n (candS ca cb (candL ca cb f len)))) ∧ Below B w w'
set_option maxRecDepth 100000 in
set_option maxHeartbeats 4000000 in
theorem spread_any (len cap : Nat) (A : Option Addr) (p1 p2 : Nat) (ca cb : Nat → Nat) (w : World) (hn : len ≤ 2199023255552) (n : Int) (hp : (plc p1 p2).isSome = true) (D : Nat → Int) (hD : D = fun i => farI (distO (plc p1 p2) (plc (ca i) (cb i)))) (hS : SlOf w w.heap.size A len (fun i => .complex .f64 (ca i) (cb i))) :
    Calls Try.prog 8 #[.complex .f64 p1 p2, .slice A len cap, .int .i64 n] w (SprPost w w.heap.size len D ca cb n.toNat) := by
  obtain ⟨i0, hi, hz0, hz1, hz2⟩ := info_parts info64n
  have hpl := place_any p1 p2 w
  rw [hp] at hpl
  have hcd := candidates_any len cap A p1 p2 ca cb w hn D hD hS
  obtain ⟨B, hB⟩ : ∃ B, B = w.heap.size := ⟨_, rfl⟩
  have HB := Lib.hid hB
  rw [← hB] at hcd ⊢
  clear hS hD hB hp
  go_enter Try.func8, Try.ntmps8
  go_wp2_with (fail)
  refine hpl.mono ?_
  rintro e w' ⟨rfl, rfl⟩
  go_wp2_with (fail)
  refine hcd.mono ?_
  rintro e w2 ⟨f, v, hf, rfl, ho, hb2⟩
  have HF := Lib.hid hf
  obtain ⟨L0, hL0⟩ : ∃ L0, L0 = candS ca cb (candL ca cb f len) := ⟨_, rfl⟩
  have hlen0 : L0.length = (candL ca cb f len).length := by rw [hL0]; simp [candS]
  have hle0 : L0.length ≤ len := by rw [hlen0]; exact candL_len ca cb f len
  rw [candS_cells, ← hL0, ← hlen0] at ho
  have hp0 : Plcs L0 := by rw [hL0]; exact candS_plcs ca cb f len
  have HL0 := Lib.hid hL0
  have HO := Lib.hid (And.intro ho hb2)
  have HP0 := Lib.hid hp0
  clear hf ho hb2 hp0 hL0 hlen0 hpl hcd
  obtain ⟨a0, c0, rfl⟩ : ∃ a c, v = .slice a L0.length c := by
    rcases HO.out.1.2 with ⟨h, h0⟩ | ⟨g, cp, cur, h, _⟩
    · exact ⟨none, 0, by rw [h, h0]⟩
    · exact ⟨_, _, h⟩
  go_wp2
  go_loopw [7, 8] (fun vl vt wr => ∃ (L : List Cd) (T : List Nat) (a : Option Addr) (c : Nat) (a2 : Option Addr) (c2 : Nat), vl = .slice a L.length c ∧ vt = .slice a2 T.length c2 ∧ Hid (wr.ownsRow B 47 3 vl L.length (cellsOf L) ∧ wr.ownsRow B 3 1 vt T.length (outT T) ∧ Below B w wr) ∧ Hid (Plcs L ∧ sprT n.toNat L0 = T ++ sprT (n.toNat - T.length) L ∧ L.length + T.length ≤ len)) (fun vl _ _ => slen3 vl)
  case atStart => exact ⟨L0, [], a0, c0, none, 0, rfl, rfl, Lib.hid ⟨HO.out.1, World.ownsRow_nil _ _ _ _, HO.out.2⟩, Lib.hid ⟨HP0.out, by simp, by simpa using hle0⟩⟩
  case round =>
    clear HO
    obtain ⟨L, T, a, c, a2, c2, rfl, rfl, HR, HI⟩ := hrel
    have hlt := HI.out.2.2
    by_cases hgo : (T.length : Int) < n ∧ 0 < L.length
    · obtain ⟨g1, g2⟩ := hgo
      have g2' : (0 : Int) < (L.length : Int) := by omega
      obtain ⟨g, cp, hv, hBg, hgl⟩ := HR.out.1.form g2
      injection hv with e1 e2 e3
      subst e1 e3
      have hcd := cdAt_of rfl HR.out.1
      have hfar := farthest_any g L.length c _ wr g2 (by omega) hcd
      clear e2
      go_wp2_with (fail)
      refine hfar.mono ?_
      rintro e w3 ⟨b, rfl, hfb, hb3⟩
      have HFI := Lib.hid (farI2_of (farL_of rfl hfb))
      have hbL : b < L.length := hfb.1
      obtain ⟨cc, hcc⟩ : ∃ cc, cc = L[b] := ⟨_, rfl⟩
      have hgetD : L.getD b ⟨0, 0, 0, 0⟩ = cc := by rw [hcc, List.getD_eq_getElem?_getD, List.getElem?_eq_getElem hbL]; rfl
      obtain ⟨c1, c2', c3⟩ := (hcd.below hb3) b hbL
      simp only [hgetD] at c1 c2' c3
      have hmem : cc ∈ L := by rw [hcc]; exact List.getElem_mem hbL
      have hk3 := own_below hb3 HR.out.1
      have hk4 := own_below1 hb3 HR.out.2.1
      have HK := Lib.hid (And.intro hk3 (And.intro hk4 (HR.out.2.2.trans (hb3.mono (by rw [HB.out]; exact HR.out.2.2.size)))))
      have HGD := Lib.hid hgetD
      have HMEM := Lib.hid hmem
      have b1 : (b : Int) < (L.length : Int) := by omega
      have hst := fun (W : World) (a : Addr) => run_store Try.prog W a (.complex .f64 cc.re cc.im) .plain rfl
      clear hfar hcd hfb hb3 hgetD hcc hmem hk3 hk4 HR
      have hBz : B ≤ w3.heap.size := by rw [HB.out]; exact HK.out.2.2.size
      have k3 : T.length + 1 ≤ maxLen := by unfold maxLen; omega
      have k4 : (T.length + 1) * 8 ≤ 140737488355328 := by omega
      have hown := HK.out.2.1
      go_wp2_with (at_builtin; refine wpList_append_own _ rfl _ _ 28 rfl B 3 i0 _ 1 8 Try.underlying28 hi hz0 hz1 hz2 rfl (by decide) _ _ _ rfl ((hown.alloc _).alloc _) ⟨w3.heap.size + 1, 0, none⟩ 1 1 [.int .i64 (cc.num : Int)] rfl rfl (new_at _ _ _ _) (by simp [Value.oneCell']) k3 k4 (by simp; omega) ?_)
      intro v' w5 hown' hgrow' _
      have l1 := (HK.out.1.alloc (.cells #[.int .i64 (cc.num : Int), .complex .f64 cc.re cc.im, .int .i64 cc.least] 47)).alloc (.cells #[.int .i64 (cc.num : Int)] 3)
      have t1 := (hown.alloc (.cells #[.int .i64 (cc.num : Int), .complex .f64 cc.re cc.im, .int .i64 cc.least] 47)).alloc (.cells #[.int .i64 (cc.num : Int)] 3)
      have l2 := l1.kept hgrow' (rows_apart3 t1 l1 (by decide))
      have hgw : g < w3.heap.size := (HK.out.1.lt g (by simp [Value.ownBlock])).2
      have u2 : Below B w w5 := by
        have hb9 : Below B w3 ((w3.alloc (.cells #[.int .i64 (cc.num : Int), .complex .f64 cc.re cc.im, .int .i64 cc.least] 47)).alloc (.cells #[.int .i64 (cc.num : Int)] 3)) := ((Below.refl _ _).alloc hBz _).alloc (by simp; omega) _
        refine (HK.out.2.2.trans hb9).grown hgrow' (by have := HK.out.2.2.size; simp; omega) (fun j ej => (hown.lt j ej).1)
      have x1 : w5.cell? ⟨w3.heap.size, 1, none⟩ = some (.complex .f64 cc.re cc.im) := by
        have hbk := hgrow'.block w3.heap.size (by simp; omega) (fun e => by have := (hown.lt _ e.symm).2; omega)
        refine (World.cell?_of_block (a := ⟨w3.heap.size, 1, none⟩) hbk).trans ?_
        refine (((Below.refl (w3.alloc (.cells #[.int .i64 (cc.num : Int), .complex .f64 cc.re cc.im, .int .i64 cc.least] 47)).heap.size _).alloc (Nat.le_refl _) _).cell (p := ⟨w3.heap.size, 1, none⟩) (by simp)).trans ?_
        simp
      obtain ⟨a5, c5, rfl⟩ : ∃ a c, v' = .slice a (T.length + 1) c := by
        obtain ⟨g9, c9, h9, _⟩ := hown'.form (by omega)
        exact ⟨_, _, h9⟩
      have H5 := Lib.hid (And.intro l2 (And.intro hown' u2))
      have HGW := Lib.hid hgw
      clear l1 t1 l2 u2 hown hown' hgrow' hgw c1 c2' c3 hst
      obtain ⟨hRw, hnc, hcm, hBg2⟩ := row_of_own H5.out.1
      have hdel := delete_row g 0 c b L w5 hbL hnc hcm hRw
      obtain ⟨nb, hnb⟩ : ∃ nb, nb = w3.heap.size := ⟨_, rfl⟩
      have HNB := Lib.hid hnb
      rw [← hnb] at x1 ⊢
      clear hRw hnb
      go_wp2_with (fail)
      refine hdel.mono ?_
      rintro e w6 ⟨rfl, hR6, hS6⟩
      have hgrow6 : w5.grownBy w6 (some g) := ⟨hS6.os, hS6.tape, hS6.output, Nat.le_of_eq hS6.size.symm, fun k _ hne => hS6.block k (fun e => hne (by rw [e]))⟩
      have hl6 : (L.eraseIdx b).length = L.length - 1 := by rw [List.length_eraseIdx, if_pos hbL]
      have l6 : w6.ownsRow B 47 3 (.slice (some ⟨g, 0, none⟩) (L.eraseIdx b).length c) (L.eraseIdx b).length (cellsOf (L.eraseIdx b)) := own_of_row hR6 (cellsOf_length _) hBg (by omega) hcm
      have t6 := H5.out.2.1.kept hgrow6 (rows_apart3 H5.out.1 H5.out.2.1 (by decide))
      have u6 : Below B w w6 := H5.out.2.2.grown hgrow6 (by rw [HB.out]; exact H5.out.2.2.size) (fun j ej => by injection ej with ej; omega)
      have x6 : w6.cell? ⟨nb, 1, none⟩ = some (.complex .f64 cc.re cc.im) := (World.cell?_of_block (a := ⟨nb, 1, none⟩) (hS6.block nb (by have := HGW.out; have := HNB.out; omega))).trans x1
      have hcome := come_row g c B (L.eraseIdx b) cc.re cc.im (dC cc) w6 (by omega) l6 (by rw [HB.out]; exact u6.size) (fun c' hc' w => dC_call (HI.out.1 cc HMEM.out) (HI.out.1 c' (List.mem_of_mem_eraseIdx hc')) w)
      rw [hl6] at hcome
      have H6 := Lib.hid (And.intro l6 (And.intro t6 u6))
      clear hdel hR6 hS6 hgrow6 l6 t6 u6 x1
      go_wp2_with (fail)
      refine hcome.mono ?_
      rintro e w7 ⟨rfl, l7, g7⟩
      have hll : leftL L = (L.eraseIdx b).map (upC (dC cc)) := by unfold leftL; rw [HFI.out, HGD.out]
      have hll2 : (leftL L).length = L.length - 1 := by rw [hll, List.length_map, hl6]
      have t7 := H6.out.2.1.kept g7 (rows_apart3 H6.out.1 H6.out.2.1 (by decide))
      have u7 : Below B w w7 := H6.out.2.2.grown g7 (by rw [HB.out]; exact H6.out.2.2.size) (fun j ej => by injection ej with ej; omega)
      have hT : outT T ++ [.int .i64 (cc.num : Int)] = outT (T ++ [cc.num]) := by simp [outT]
      rw [hT] at t7
      rw [← hll, ← hll2] at l7
      have HN1 : Hid (w7.ownsRow B 47 3 (.slice (some ⟨g, 0, none⟩) (leftL L).length c) (leftL L).length (cellsOf (leftL L)) ∧ w7.ownsRow B 3 1 (.slice a5 (T.length + 1) c5) (T ++ [cc.num]).length (outT (T ++ [cc.num])) ∧ Below B w w7) := Lib.hid ⟨l7, by rw [show (T ++ [cc.num]).length = T.length + 1 by simp]; exact t7, u7⟩
      have HN2 : Hid (Plcs (leftL L) ∧ sprT n.toNat L0 = (T ++ [cc.num]) ++ sprT (n.toNat - (T ++ [cc.num]).length) (leftL L) ∧ (leftL L).length + (T ++ [cc.num]).length ≤ len) := Lib.hid ⟨plcs_left HI.out.1, by
        rw [HI.out.2.1, show n.toNat - T.length = (n.toNat - (T ++ [cc.num]).length) + 1 by rw [List.length_append]; simp; omega, sprT_cons _ g2, HFI.out, HGD.out]
        simp, by rw [hll2, List.length_append]; simp; omega⟩
      have hle7 : (leftL L).length < L.length := by omega
      clear l7 t7 u7 hcome H6 H5 g7
      rw [← hll2]
      clear hll hll2 hl6
      go_wp2
      go_roundw
      case rel => exact ⟨leftL L, T ++ [cc.num], some ⟨g, 0, none⟩, c, a5, c5, rfl, by rw [List.length_append]; rfl, HN1, HN2⟩
      case measure => simp [slen3]; omega
    · have hend : sprT n.toNat L0 = T := by
        have h := HI.out.2.1
        have h0 : sprT (n.toNat - T.length) L = [] := by
          rcases Nat.eq_zero_or_pos L.length with h1 | h1
          · rw [List.length_eq_zero_iff.1 h1]; exact sprT_nil _
          · rw [show n.toNat - T.length = 0 by omega]; rfl
        rw [h0, List.append_nil] at h
        exact h
      have HE := Lib.hid hend
      have hor : ¬ (T.length : Int) < n ∨ L.length = 0 := by omega
      clear hend hgo
      rcases hor with h | h
      · go_wp2
        go_ret
        exact ⟨f, _, HF.out, rfl, by rw [← HL0.out, HE.out]; exact HR.out.2.1, HR.out.2.2⟩
      · by_cases h5 : (T.length : Int) < n
        · go_wp2
          go_ret
          exact ⟨f, _, HF.out, rfl, by rw [← HL0.out, HE.out]; exact HR.out.2.1, HR.out.2.2⟩
        · go_wp2
          go_ret
          exact ⟨f, _, HF.out, rfl, by rw [← HL0.out, HE.out]; exact HR.out.2.1, HR.out.2.2⟩
end Go.Proofs.Ytjjmflkdfgneoaa
