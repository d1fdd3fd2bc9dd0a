/- The last question of RecordOps: its region, walked over a frame of variables. -/
import Derived.Test.YtndcmjgjecdgcaaDoorRecEq
import Derived.Test.YtndcmjgjecdgcaaDoorRecOp2
import Derived.BigQuiet
import Derived.Deep.RegionHeld3
namespace Go.Proofs.YtndcmjgjecdgcaaDoor
open Go.RowKit
def findRegion (n : Nat) : Code → Option Code
  | .region k ops b => if k == n then some (.region k ops b) else none
  | .loop c => findRegion n c
  | .seq a b => match findRegion n a with
    | some c => some c
    | none => findRegion n b
  | .block _ c => findRegion n c
  | .scope c => findRegion n c
  | .cond _ a b => match findRegion n a with
    | some c => some c
    | none => findRegion n b
  | _ => none
noncomputable def reg13 : Code := ((Tryd.f5.body.bind (findRegion 13)).getD .skip)
/-- the boxes of the last question, in any world behind wb -/
abbrev SP (wb : World) (r q ab ao cb co cn ct : Nat) (n0 n1 n2 n3 n4 n5 n6 n7 : Int) (s0 s1 : ByteArray) (w : World) : Prop :=
  Hid (Below wb.heap.size wb w) ∧ w.cell? ⟨r, 0, none⟩ = some (.int .i64 n0) ∧ w.cell? ⟨r, 1, none⟩ = some (.string s0) ∧ w.cell? ⟨r, 2, none⟩ = some (.string s1) ∧ w.cell? ⟨r, 3, none⟩ = some (.int .i64 n1) ∧ w.cell? ⟨r, 4, none⟩ = some (.int .i64 n2) ∧ w.cell? ⟨r, 5, none⟩ = some (.int .i64 n3) ∧ w.cell? ⟨r, 6, none⟩ = some (.int .i64 n4) ∧ w.cell? ⟨r, 7, none⟩ = some (.int .i64 n5) ∧ w.cell? ⟨r, 8, none⟩ = some (.int .u32 n6) ∧ w.cell? ⟨r, 9, none⟩ = some (.int .i64 n7) ∧ w.cell? ⟨q, 3, none⟩ = some (.slice (some ⟨ab, ao, none⟩) 9 cn) ∧ w.cell? ⟨q, 4, none⟩ = some (.slice (some ⟨cb, co, none⟩) 2 ct) ∧ w.cell? ⟨ab, ao, none⟩ = some (.int .i64 n0) ∧ w.cell? ⟨ab, ao + 1, none⟩ = some (.int .i64 n1) ∧ w.cell? ⟨ab, ao + 2, none⟩ = some (.int .i64 n2) ∧ w.cell? ⟨ab, ao + 3, none⟩ = some (.int .i64 n3) ∧ w.cell? ⟨ab, ao + 4, none⟩ = some (.int .i64 n4) ∧ w.cell? ⟨ab, ao + 5, none⟩ = some (.int .i64 n5) ∧ w.cell? ⟨ab, ao + 6, none⟩ = some (.int .i64 n6) ∧ w.cell? ⟨ab, ao + 7, none⟩ = some (.int .i64 n7) ∧ w.cell? ⟨cb, co, none⟩ = some (.string s0) ∧ w.cell? ⟨cb, co + 1, none⟩ = some (.string s1)
section
variable {wb w w' : World} {r q ab ao cb co cn ct : Nat} {n0 n1 n2 n3 n4 n5 n6 n7 : Int} {s0 s1 : ByteArray}
theorem sp_below (h : SP wb r q ab ao cb co cn ct n0 n1 n2 n3 n4 n5 n6 n7 s0 s1 w) (hb : Below w.heap.size w w') : SP wb r q ab ao cb co cn ct n0 n1 n2 n3 n4 n5 n6 n7 s0 s1 w' := by
  obtain ⟨hh, h0, h1, h2, h3, h4, h5, h6, h7, h8, h9, h10, h11, h12, h13, h14, h15, h16, h17, h18, h19, h20, h21⟩ := h
  exact ⟨Lib.hid (hh.out.trans (hb.mono hh.out.size)), below_cell h0 hb, below_cell h1 hb, below_cell h2 hb, below_cell h3 hb, below_cell h4 hb, below_cell h5 hb, below_cell h6 hb, below_cell h7 hb, below_cell h8 hb, below_cell h9 hb, below_cell h10 hb, below_cell h11 hb, below_cell h12 hb, below_cell h13 hb, below_cell h14 hb, below_cell h15 hb, below_cell h16 hb, below_cell h17 hb, below_cell h18 hb, below_cell h19 hb, below_cell h20 hb, below_cell h21 hb⟩
theorem sp_drew (h : SP wb r q ab ao cb co cn ct n0 n1 n2 n3 n4 n5 n6 n7 s0 s1 w) : SP wb r q ab ao cb co cn ct n0 n1 n2 n3 n4 n5 n6 n7 s0 s1 w.drew := sp_below h ⟨rfl, rfl, rfl, Nat.le_refl _, fun _ _ => rfl⟩
theorem sp_out (h : SP wb r q ab ao cb co cn ct n0 n1 n2 n3 n4 n5 n6 n7 s0 s1 w) : Below wb.heap.size wb w := h.1.out
end

attribute [local go_sem ↓] eqBlk
set_option maxRecDepth 1000000 in
set_option maxHeartbeats 8000000 in
theorem reg13_any {r q ab ao cb co cn ct : Nat} {n0 n1 n2 n3 n4 n5 n6 n7 : Int} {s0 s1 : ByteArray} {w8 : World} (h6 : 0 ≤ n6 ∧ n6 ≤ 4294967295) (hS8 : SP w8 r q ab ao cb co cn ct n0 n1 n2 n3 n4 n5 n6 n7 s0 s1 w8) {Q : Exit → Act → World → Prop} (c0 c1 c2 c3 c4 c6 c7 c8 c9 c10 c11 c12 c15 c16 c17 c18 c19 c20 c21 c22 c23 c24 c25 c26 c27 c28 c29 c30 c31 c32 c33 c34 c35 c36 c37 c38 c39 c40 c41 c42 c43 c44 c45 c46 c47 c48 c49 c50 c51 c52 c53 c54 c55 c56 c57 c58 c59 c60 c61 c62 c63 c64 c65 c66 c67 c68 c69 c70 c71 c72 c73 c74 c75 c76 c77 c78 c79 c80 c81 c82 c83 c84 c85 c86 c87 c88 c89 c90 c91 c92 c93 c94 c95 c96 c97 c98 c99 c100 c101 c102 c103 c104 c105 c106 c107 c108 c109 c110 c111 c112 c113 c114 c115 c116 c117 c118 c119 c120 c121 c122 c123 c124 c125 c126 c127 c128 c129 c130 c131 c132 c133 c134 c135 c136 c137 c138 c139 c140 c141 c142 c143 c144 c145 c146 c147 c148 c149 c150 c151 c152 c153 c154 c155 c156 c157 c158 c159 c160 c161 c162 c163 c164 c165 c166 c167 c168 c169 c170 c171 c172 c173 c174 c175 c176 c177 c178 c179 c180 c181 c182 c183 c184 c185 c186 c187 c188 c189 c190 c191 c192 c193 c194 c195 c196 c197 c198 c199 c200 c201 c202 c203 c204 c205 c206 c207 c208 c209 c210 c211 c212 c213 c214 c215 c216 c217 c218 c219 c220 c221 c222 c223 c224 c225 c226 c227 c228 c229 c230 c231 c232 c233 c234 c235 c236 c237 c238 c239 c240 c241 c242 c243 c244 c245 c246 c247 c248 c249 c250 : Value)
    (hQ : ∀ (nq : Nat) (u164 u165 u166 u167 u168 u169 u170 u171 u172 u173 u174 u175 u176 u177 u178 u179 u180 u181 u182 u183 u184 u185 u186 u187 u188 u189 u190 u191 u192 u193 u194 u195 u196 u197 u198 u199 u200 u201 u202 u203 u204 u205 u206 u207 u208 u209 u210 u211 u212 u213 u214 u215 u216 u217 u218 u219 u220 u221 u222 u223 u224 u225 u226 u227 u228 u229 u230 u231 u232 u233 u234 u235 u236 u237 u238 u239 u240 u241 u242 u243 u244 u245 u246 u247 u248 u249 u250 : Value), Q .normal ⟨#[c0, c1, c2, c3, c4, .pointer (some ⟨q, 0, none⟩), .bool true, c7, c8, c9, c10, c11, c12, .pointer (some ⟨r, 0, none⟩), .int .i64 0, c15, c16, c17, c18, c19, c20, c21, c22, c23, c24, c25, c26, c27, c28, c29, c30, c31, c32, c33, c34, c35, c36, c37, c38, c39, c40, c41, c42, c43, c44, c45, c46, c47, c48, c49, c50, c51, c52, c53, c54, c55, c56, c57, c58, c59, c60, c61, c62, c63, c64, c65, c66, c67, c68, c69, c70, c71, c72, c73, c74, c75, c76, c77, c78, c79, c80, c81, c82, c83, c84, c85, c86, c87, c88, c89, c90, c91, c92, c93, c94, c95, c96, c97, c98, c99, c100, c101, c102, c103, c104, c105, c106, c107, c108, c109, c110, c111, c112, c113, c114, c115, c116, c117, c118, c119, c120, c121, c122, c123, c124, c125, c126, c127, c128, c129, c130, c131, c132, c133, c134, c135, c136, c137, c138, c139, c140, c141, c142, c143, c144, c145, c146, c147, c148, c149, c150, c151, c152, c153, c154, c155, c156, c157, c158, c159, c160, c161, c162, c163, u164, u165, u166, u167, u168, u169, u170, u171, u172, u173, u174, u175, u176, u177, u178, u179, u180, u181, u182, u183, u184, u185, u186, u187, u188, u189, u190, u191, u192, u193, u194, u195, u196, u197, u198, u199, u200, u201, u202, u203, u204, u205, u206, u207, u208, u209, u210, u211, u212, u213, u214, u215, u216, u217, u218, u219, u220, u221, u222, u223, u224, u225, u226, u227, u228, u229, u230, u231, u232, u233, u234, u235, u236, u237, u238, u239, u240, u241, u242, u243, u244, u245, u246, u247, u248, u249, u250], []⟩ (w8.drewN nq)) :
    Code.wp Tryd.prog reg13 Q ⟨#[c0, c1, c2, c3, c4, .pointer (some ⟨q, 0, none⟩), c6, c7, c8, c9, c10, c11, c12, .pointer (some ⟨r, 0, none⟩), .int .i64 0, c15, c16, c17, c18, c19, c20, c21, c22, c23, c24, c25, c26, c27, c28, c29, c30, c31, c32, c33, c34, c35, c36, c37, c38, c39, c40, c41, c42, c43, c44, c45, c46, c47, c48, c49, c50, c51, c52, c53, c54, c55, c56, c57, c58, c59, c60, c61, c62, c63, c64, c65, c66, c67, c68, c69, c70, c71, c72, c73, c74, c75, c76, c77, c78, c79, c80, c81, c82, c83, c84, c85, c86, c87, c88, c89, c90, c91, c92, c93, c94, c95, c96, c97, c98, c99, c100, c101, c102, c103, c104, c105, c106, c107, c108, c109, c110, c111, c112, c113, c114, c115, c116, c117, c118, c119, c120, c121, c122, c123, c124, c125, c126, c127, c128, c129, c130, c131, c132, c133, c134, c135, c136, c137, c138, c139, c140, c141, c142, c143, c144, c145, c146, c147, c148, c149, c150, c151, c152, c153, c154, c155, c156, c157, c158, c159, c160, c161, c162, c163, c164, c165, c166, c167, c168, c169, c170, c171, c172, c173, c174, c175, c176, c177, c178, c179, c180, c181, c182, c183, c184, c185, c186, c187, c188, c189, c190, c191, c192, c193, c194, c195, c196, c197, c198, c199, c200, c201, c202, c203, c204, c205, c206, c207, c208, c209, c210, c211, c212, c213, c214, c215, c216, c217, c218, c219, c220, c221, c222, c223, c224, c225, c226, c227, c228, c229, c230, c231, c232, c233, c234, c235, c236, c237, c238, c239, c240, c241, c242, c243, c244, c245, c246, c247, c248, c249, c250], []⟩ w8 := by
  conv => arg 2; whnf
  have hsu : IntKind.i64.wrap n6 = n6 := IntWalk.i64_in _ (by omega)
  obtain ⟨_, k0, k1, k2, k3, k4, k5, k6, k7, k8, k9, k10, k11, k12, k13, k14, k15, k16, k17, k18, k19, k20, k21⟩ := hS8
  clear h6
  simp only [List.append_eq, List.cons_append, List.nil_append]
  go_big_quiet (fail)
  exact hQ _ _ _ _ _ _ _ _ _ _ _ _ _ _ _ _ _ _ _ _ _ _ _ _ _ _ _ _ _ _ _ _ _ _ _ _ _ _ _ _ _ _ _ _ _ _ _ _ _ _ _ _ _ _ _ _ _ _ _ _ _ _ _ _ _ _ _ _ _ _ _ _ _ _ _ _ _ _ _ _ _ _ _ _ _ _ _ _
end Go.Proofs.YtndcmjgjecdgcaaDoor
