/- The last question of WhereNearest: its region, walked over a frame of variables. -/
import Derived.Test.YtegbdholdglghaaNumGrow
import Derived.Shelf.SlicesQ.Load
namespace Go.Proofs.Ytegbdholdglghaa
open Go.RowKit Go.Sort Go.Shelf
def findRegion (n : Nat) : Code → Option Code
  | .region k ops b => if k == n then some (.region k ops b) else none
  | .loop c => findRegion n c
  | .seq a b => match findRegion n a with
    | some c => some c
    | none => findRegion n b
  | .block _ c => findRegion n c
  | .scope c => findRegion n c
  | .cond _ a b => match findRegion n a with
    | some c => some c
    | none => findRegion n b
  | _ => none
noncomputable def reg13 : Code := ((Try.f5.body.bind (findRegion 13)).getD .skip)
set_option maxRecDepth 1000000 in
set_option maxHeartbeats 8000000 in
theorem reg13_any {b0 g nb N cp cn n1 : Nat} {p q1 : Pnt} {W : World} {d0 d1 : Int} (hd : d0 = -1 ∨ (d0 = 0 ∧ d1 = 0)) (hl : N ≤ 5864062014800) (l1 : n1 < N + 1)
    (r1 : W.cell? ⟨nb, 0, none⟩ = some (.int .i64 (n1 : Int))) (r3 : W.cell? ⟨g, n1, none⟩ = some (.complex .f64 q1.re q1.im)) (r5 : W.cell? ⟨b0, 0, none⟩ = some (.int .i64 p.x)) (r6 : W.cell? ⟨b0, 1, none⟩ = some (.int .i64 p.y)) (r7 : W.cell? ⟨b0, 2, none⟩ = some (.bool p.raw))
    (hd0 : ∀ w, Calls Try.prog 15 #[.complex .f64 p.re p.im, .complex .f64 p.re p.im] w fun e w' => e = .returned (.int .i64 d0) ∧ w = w')
    (hd1 : ∀ w, Calls Try.prog 15 #[.complex .f64 p.re p.im, .complex .f64 q1.re q1.im] w fun e w' => e = .returned (.int .i64 d1) ∧ w = w')
    {Q : Exit → Act → World → Prop} (c0 c1 c3 c4 c7 c8 c9 c10 c11 c12 c13 c14 c15 c16 c17 c18 c19 c20 c21 c22 c23 c24 c25 c26 c27 c28 c29 c30 c31 c32 c33 c34 c35 c36 c37 c38 c39 c40 c41 c42 c43 c44 c45 c46 c47 c48 c49 c50 c51 c52 c53 c54 c55 c56 c57 c58 c59 c60 c61 c62 c63 c64 c65 c66 c67 c68 c69 c70 c71 c72 c73 c74 c75 c76 c77 c78 c79 c80 c81 c82 c83 c84 c85 c86 c87 c88 c89 c90 c91 c92 c93 c94 c95 c96 c97 c98 c99 c100 c101 c102 c103 : Value)
    (hQ : ∀ (w' : World) (u86 u87 u88 u89 u90 u91 u92 u93 u94 u95 u96 u97 u98 u99 u100 u101 u102 u103 : Value), Below W.heap.size W w' → Q .normal ⟨#[c0, c1, .pointer (some ⟨b0, 0, none⟩), c3, .bool true, .slice (some ⟨g, 0, none⟩) (N + 1) cp, .slice (some ⟨nb, 0, none⟩) (N + 1) cn, c7, c8, c9, c10, c11, c12, c13, c14, c15, c16, c17, c18, c19, c20, c21, c22, c23, c24, c25, c26, c27, c28, c29, c30, c31, c32, c33, c34, c35, c36, c37, c38, c39, c40, c41, c42, c43, c44, c45, c46, c47, c48, c49, c50, c51, c52, c53, c54, c55, c56, c57, c58, c59, c60, c61, c62, c63, c64, c65, c66, c67, c68, c69, c70, c71, c72, c73, c74, c75, c76, c77, c78, c79, c80, c81, c82, c83, c84, c85, u86, u87, u88, u89, u90, u91, u92, u93, u94, u95, u96, u97, u98, u99, u100, u101, u102, u103], []⟩ w') :
    Code.wp Try.prog reg13 Q ⟨#[c0, c1, .pointer (some ⟨b0, 0, none⟩), c3, c4, .slice (some ⟨g, 0, none⟩) (N + 1) cp, .slice (some ⟨nb, 0, none⟩) (N + 1) cn, c7, c8, c9, c10, c11, c12, c13, c14, c15, c16, c17, c18, c19, c20, c21, c22, c23, c24, c25, c26, c27, c28, c29, c30, c31, c32, c33, c34, c35, c36, c37, c38, c39, c40, c41, c42, c43, c44, c45, c46, c47, c48, c49, c50, c51, c52, c53, c54, c55, c56, c57, c58, c59, c60, c61, c62, c63, c64, c65, c66, c67, c68, c69, c70, c71, c72, c73, c74, c75, c76, c77, c78, c79, c80, c81, c82, c83, c84, c85, c86, c87, c88, c89, c90, c91, c92, c93, c94, c95, c96, c97, c98, c99, c100, c101, c102, c103], []⟩ W := by
  have HQ := Lib.hid hQ
  clear hQ
  conv => arg 2; whnf
  have mixed : Try.prog.follows Departure.mixedOrders = true := by kernel_rfl
  have eg1 : ∀ args w, (callFunc 10 args).run Try.prog w = .ok (.enter 10 args) w := enters_of Try.func10 (by kernel_rfl) rfl
  have eg2 : ∀ args w, (callFunc 15 args).run Try.prog w = .ok (.enter 15 args) w := enters_of Try.func15 (by kernel_rfl) rfl
  have hnm := number_gr p W
  have k1 := cell_gr r1
  have k3 := cell_gr r3
  have k5 := cell_gr r5
  have k6 := cell_gr r6
  have k7 := cell_gr r7
  have l1' : (n1 : Int) < (N : Int) + 1 := by omega
  have v6 : (0 : Int) ≤ (n1 : Int) := by omega
  have hd0' := quiet_gr hd0 W
  have hd1' := quiet_gr hd1 W
  have hld : ∀ (n : Nat) (os : Array Obj), Sem.run Try.prog (loadCellsFrom ⟨b0, 0, none⟩ 0 3 #[]) (grow (W.drewN n) os) = .ok #[.int .i64 p.x, .int .i64 p.y, .bool p.raw] (grow (W.drewN n) os) := fun n os => run_loadCellsFrom_list Try.prog _ _ [.int .i64 p.x, .int .i64 p.y, .bool p.raw] 3 rfl (fun j v hj => by
    match j, hj with
    | 0, hj => simp at hj; subst hj; simpa [Addr.add] using k5 n os
    | 1, hj => simp at hj; subst hj; simpa [Addr.add] using k6 n os
    | 2, hj => simp at hj; subst hj; simpa [Addr.add] using k7 n os)
  clear r1 r3 r5 r6 r7 hd0 hd1 hl hld
  simp only [List.append_eq, List.cons_append, List.nil_append]
  rcases hd with rfl | ⟨rfl, rfl⟩
  all_goals
    refine wp_region_quiet_grown (by assumption) (by kernel_rfl) ?_
    repeat
      with_reducible refine wpQuiet_step (fun K hK => ?_)
      go_simp
      first
        | (with_reducible refine hK _ ?_
           clear hK K)
        | (with_reducible apply Exists.intro
           with_reducible refine ⟨fun _ => ?_, hK _ ?_⟩
           first | (go_at_fn 10; refine Calls.grown_of (hnm _ _)) | (go_at_fn 15; first | (with_reducible refine Calls.grown_of (hd0' _ _)) | (with_reducible refine Calls.grown_of (hd1' _ _)))
           clear hK K)
    with_reducible refine wpQuiet_nil ?_
    rintro w' ⟨⟨nq, osq⟩, rfl⟩
    exact HQ.out _ _ _ _ _ _ _ _ _ _ _ _ _ _ _ _ _ _ _ (grown_below rfl)
end Go.Proofs.Ytegbdholdglghaa
