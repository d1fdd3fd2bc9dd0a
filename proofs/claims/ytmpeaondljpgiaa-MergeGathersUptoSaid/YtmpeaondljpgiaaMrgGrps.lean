/- Merging: merge.Groups. -/
import Derived.Test.YtmpeaondljpgiaaMrgGrp
import Derived.OwnWalk
import Derived.Deep.RegionHeld3
import Derived.BigQuiet
import Derived.StillTailTactics
import Derived.Deep.DeepCutAuto
namespace Go.Proofs.Ytmpeaondljpgiaa
open Go.RowKit

theorem str_eq (a : ByteArray) : (a.toList == a.toList) = true := by simp
theorem str_ne {a b : ByteArray} (h : ¬ a = b) : (a.toList == b.toList) = false := by
  rw [Lib.toList_data, Lib.toList_data, beq_eq_false_iff_ne]
  exact fun e => h (ByteArray.ext (Array.toList_inj.1 e))
theorem cell_al3 {w : World} {a : Addr} {v : Value} (h : w.cell? a = some v) (o : Obj) : (w.alloc o).cell? a = some v :=
  (((Below.refl w.heap.size w).alloc (Nat.le_refl _) o).cell (p := a) (World.block_lt_of_cell? w _ h)).trans h
theorem own_slice3 {W : World} {B n sz : Nat} {e : TypeId} {v : Value} {xs : List Value} (h : W.ownsRow B e sz v n xs) : ∃ A c, v = .slice A n c := by
  rcases h.2 with ⟨rfl, h0⟩ | ⟨g, cap, cur, rfl, _⟩
  · exact ⟨none, 0, by rw [h0]⟩
  · exact ⟨_, _, rfl⟩
theorem grown_cell {K V : Nat → ByteArray} {w wa wb : World} {B bg cg l cl ch N : Nat} {Ah : Option Addr} {g : Gr} {hv : Nat → Value} {o : Obj} (h : GA 46 K V w wa B (.slice (some ⟨bg, 0, none⟩) N cg) g hv) (hl : l < g.N) (hh : hv l = .slice Ah (g.c l) ch) (hc : cl = g.c l) (hg : (wa.alloc o).grownBy wb (Value.slice Ah cl ch).ownBlock) :
    wb.cell? ⟨bg, l * 2 + 1, none⟩ = some (.slice Ah cl ch) ∧ wb.frozen? ⟨bg, l * 2 + 1, none⟩ = false := by
  rw [hc, ← hh] at hg
  rw [hc, ← hh]
  have hN : N = g.N := by
    rcases h.row.2 with ⟨e, _⟩ | ⟨_, _, _, e, _⟩
    · cases e
    · injection e with _ e _
  subst hN
  have hrow := (h.row.alloc o).kept hg (rows_apart2 ((h.vals l hl).alloc o) (h.row.alloc o) (by decide))
  exact ⟨(hrow.cellAt (l * 2 + 1) (by omega)).trans (prV_get _ _ _ l hl).2, hrow.frozenAt _⟩
/-- the pair's own copy -/
structure PB (w : World) (pb : Nat) (k v : ByteArray) : Prop where
  ty : Bears w pb 34
  c0 : w.cell? ⟨pb, 0, none⟩ = some (.string k)
  c1 : w.cell? ⟨pb, 1, none⟩ = some (.string v)
theorem PB.same {w w' : World} {pb : Nat} {k v : ByteArray} (h : PB w pb k v) (e : w'.heap[pb]? = w.heap[pb]?) : PB w' pb k v :=
  ⟨by obtain ⟨cs, q⟩ := h.ty; exact ⟨cs, e.trans q⟩, (cell_eq e 0).trans h.c0, (cell_eq e 1).trans h.c1⟩
theorem PB.below {w w' : World} {pb : Nat} {k v : ByteArray} (h : PB w pb k v) (hb : Below w.heap.size w w') : PB w' pb k v := h.same (hb.block pb h.ty.lt)
theorem PB.grown {w w' : World} {pb n sz B : Nat} {k v : ByteArray} {o : Obj} {e : TypeId} {r : Value} {xs : List Value} (h : PB w pb k v) (hr : (w.alloc o).ownsRow B e sz r n xs) (he : 34 ≠ e) (hg : (w.alloc o).grownBy w' r.ownBlock) : PB w' pb k v := by
  have hlt := h.ty.lt
  have e1 : (w.alloc o).heap[pb]? = w.heap[pb]? := heap_alloc_old w o hlt
  refine h.same ((hg.block pb (by simp; omega) fun e2 => ?_).trans e1)
  exact bears_apart (by obtain ⟨cs, q⟩ := h.ty; exact ⟨cs, e1.trans q⟩) (own_bears3 hr e2.symm) he rfl
/-- the groups before the last value is put in -/
structure GrI (K : Nat → ByteArray) (i : Nat) (g : Gr) : Prop where
  pos : 0 < g.N
  le : g.N ≤ i + 1
  last : g.s (g.N - 1) + g.c (g.N - 1) = i
  nx : grp K (i + 1) = ⟨g.N, g.s, updG g.c (g.N - 1) (g.c (g.N - 1) + 1)⟩
theorem gri_new {K : Nat → ByteArray} {i : Nat} (h : i = 0 ∨ K i ≠ K (i - 1)) : GrI K i ⟨(grp K i).N + 1, updG (grp K i).s (grp K i).N i, updG (grp K i).c (grp K i).N 0⟩ := by
  have hk := grp_ok K i
  refine ⟨Nat.succ_pos _, by have := hk.le; show (grp K i).N + 1 ≤ i + 1; omega, ?_, ?_⟩
  · show updG (grp K i).s (grp K i).N i ((grp K i).N + 1 - 1) + updG (grp K i).c (grp K i).N 0 ((grp K i).N + 1 - 1) = i
    rw [Nat.add_sub_cancel, updG_same, updG_same]
    rfl
  · rw [grp, if_pos h]
    show Gr.mk _ _ _ = Gr.mk _ _ (updG (updG (grp K i).c (grp K i).N 0) ((grp K i).N + 1 - 1) (updG (grp K i).c (grp K i).N 0 ((grp K i).N + 1 - 1) + 1))
    rw [Nat.add_sub_cancel, updG_same]
    congr 1
    funext j
    by_cases e : j = (grp K i).N
    · rw [e, updG_same, updG_same]
    · rw [updG_other _ _ e, updG_other _ _ e, updG_other _ _ e]
theorem gri_old {K : Nat → ByteArray} {i : Nat} (h : ¬ (i = 0 ∨ K i ≠ K (i - 1))) : GrI K i (grp K i) := by
  have hk := grp_ok K i
  have hi : 0 < i := by
    by_cases e : i = 0
    · exact absurd (.inl e) h
    · omega
  exact ⟨hk.pos hi, by have := hk.le; omega, hk.last (hk.pos hi), by rw [grp, if_neg h]⟩
theorem infoGrp : (Try.prog.info? 46).map (fun i => (i.zero, i.size, i.bytes)) = some (some (.agg #[.string ⟨#[]⟩, .slice none 0 0]), 2, 40) := by kernel_rfl
theorem infoStr : (Try.prog.info? 9).map (fun i => (i.zero, i.size, i.bytes)) = some (some (.string ⟨#[]⟩), 1, 16) := by kernel_rfl
set_option maxRecDepth 100000 in
set_option maxHeartbeats 8000000 in
theorem groups_any (A : Option Addr) (n cap : Nat) (K V : Nat → ByteArray) (w : World) (hn : n ≤ 1099511627776) (hsz : ∀ j, (K j).size ≤ 140737488351232 ∧ (V j).size ≤ 140737488351232) (hP : PrAt w w.heap.size A n K V) :
    Calls Try.prog 15 #[.slice A n cap] w fun e w' => ∃ v hv, e = .returned v ∧ GA 46 K V w w' w.heap.size v (grp K n) hv := by
  obtain ⟨i0, hi0, hz00, hz01, hz02⟩ := info_parts infoGrp
  obtain ⟨i1, hi1, hz10, hz11, hz12⟩ := info_parts infoStr
  obtain ⟨B, hB⟩ : ∃ B, B = w.heap.size := ⟨_, rfl⟩
  rw [← hB] at hP ⊢
  have HP := Lib.hid hP
  have HB := Lib.hid hB
  have HSZ := Lib.hid hsz
  clear hP hB hsz
  go_enter Try.func15, Try.ntmps15
  go_wp2
  go_loopw [3, 9] (fun vg iv wr => ∃ i : Nat, i ≤ n ∧ iv = .int .i64 (i : Int) ∧ Hid (∃ hv, GA 46 K V w wr B vg (grp K i) hv)) (fun _ iv _ => n - (intOf iv).toNat)
  case atStart => exact ⟨0, Nat.zero_le _, rfl, Lib.hid ⟨fun _ => .bool true, World.ownsRow_nil _ _ _ _, fun j hj => absurd hj (Nat.not_lt_zero _), fun a b k ha => absurd ha (Nat.not_lt_zero _), Below.refl _ _⟩⟩
  case round =>
    obtain ⟨i, hi, rfl, HI⟩ := hrel
    by_cases hlt : i < n
    · obtain ⟨hv, hG⟩ := HI.out
      have hBr : B ≤ wr.heap.size := by have := hG.bel.size; have := HB.out; omega
      obtain ⟨b, off, rfl, hbB, c0, c1⟩ := (HP.out.below hG.bel) i hlt
      have HG := Lib.hid hG
      have hbx : Below wr.heap.size wr (wr.alloc (.cells #[.string (K i), .string (V i)] 34)) := (Below.refl _ _).alloc (Nat.le_refl _) _
      have HG4 := Lib.hid (hG.below hBr hbx)
      have p0 : (wr.alloc (.cells #[.string (K i), .string (V i)] 34)).cell? ⟨wr.heap.size, 0, none⟩ = some (.string (K i)) := by simp
      have p1 : (wr.alloc (.cells #[.string (K i), .string (V i)] 34)).cell? ⟨wr.heap.size, 1, none⟩ = some (.string (V i)) := by simp
      have hB4 : B ≤ (wr.alloc (.cells #[.string (K i), .string (V i)] 34)).heap.size := by simp; omega
      have hpb : Bears (wr.alloc (.cells #[.string (K i), .string (V i)] 34)) wr.heap.size 34 := ⟨_, heap_alloc_new wr _⟩
      obtain ⟨pb, hpbe⟩ : ∃ pb, pb = wr.heap.size := ⟨_, rfl⟩
      obtain ⟨W4, hW4⟩ : ∃ W4, W4 = wr.alloc (.cells #[.string (K i), .string (V i)] 34) := ⟨_, rfl⟩
      have HW4 := Lib.hid (And.intro hW4 hpbe)
      rw [← hW4] at HG4 p0 p1 hB4 hpb
      rw [← hpbe] at p0 p1 hpb
      clear hG hbx HI hW4 hpbe
      go_upto_region 5 with (fail)
      rw [← HW4.out.1, ← HW4.out.2]
      go_cut [26] (fun s wx => ∃ t : Bool, s = .bool t ∧ Hid (if t = true then (i = 0 ∨ K i ≠ K (i - 1)) else ¬ (i = 0 ∨ K i ≠ K (i - 1))) ∧ Hid (∃ m, wx = W4.drewN m))
      case first =>
        clear c0 c1 p1
        by_cases h0 : i = 0
        · subst h0
          go_quiet (fail)
          go_wp2
          go_meet
          exact ⟨true, rfl, Lib.hid (by simp), Lib.hid ⟨_, rfl⟩⟩
        · obtain ⟨k, rfl⟩ : ∃ k, i = k + 1 := ⟨i - 1, by omega⟩
          obtain ⟨b', off', e', _, q0, _⟩ := (HP.out.below HG4.out.bel) k (by omega)
          injection e' with e'
          injection e' with e1 e2 _
          subst e1 e2
          have hw1 : IntKind.i64.wrap (k : Int) = (k : Int) := IntWalk.i64_in _ (by omega)
          have hk0 : ((k : Int) + 1 == 0) = false := by simp; omega
          have hkn : k < n := by omega
          obtain ⟨X, hX⟩ : ∃ X, X = K (k + 1) := ⟨_, rfl⟩
          obtain ⟨Y, hY⟩ : ∃ Y, Y = K k := ⟨_, rfl⟩
          have HKK := Lib.hid (show ∀ t : Bool, (t = true ↔ X ≠ Y) → (if t = true then (k + 1 = 0 ∨ K (k + 1) ≠ K (k + 1 - 1)) else ¬ (k + 1 = 0 ∨ K (k + 1) ≠ K (k + 1 - 1))) from fun t ht => by
            rw [Nat.add_sub_cancel, ← hX, ← hY]
            cases t
            · rw [if_neg (by decide)]
              rintro (h | h)
              · omega
              · exact absurd (ht.2 h) (by decide)
            · rw [if_pos rfl]
              exact .inr (ht.1 rfl))
          rw [← hX] at p0 ⊢
          rw [← hY] at q0
          clear hX hY h0
          by_cases hXY : X = Y
          · have e3 : (X.toList == Y.toList) = true := by rw [hXY]; exact str_eq Y
            have HT := Lib.hid (HKK.out false (Iff.intro (fun h => absurd h (by decide)) (fun h => absurd hXY h)))
            clear hXY
            go_quiet (fail)
            go_wp2
            go_meet
            exact ⟨false, rfl, HT, Lib.hid ⟨_, rfl⟩⟩
          · have e3 : (X.toList == Y.toList) = false := str_ne hXY
            have HT := Lib.hid (HKK.out true (Iff.intro (fun _ => hXY) (fun _ => rfl)))
            clear hXY
            go_quiet (fail)
            go_wp2
            go_meet
            exact ⟨true, rfl, HT, Lib.hid ⟨_, rfl⟩⟩
      case rest =>
        obtain ⟨t, rfl, HT, HM⟩ := hcut
        have hwc : Hid (GA 46 K V w wc B u3 (grp K i) hv ∧ PB wc pb (K i) (V i) ∧ B ≤ wc.heap.size) := by
          obtain ⟨m, rfl⟩ := HM.out
          exact Lib.hid ⟨HG4.out.below hB4 ⟨rfl, rfl, rfl, Nat.le_refl _, fun _ _ => rfl⟩, ⟨hpb, p0, p1⟩, hB4⟩
        clear HM HG4 p0 p1 hpb hB4 HW4 HG c0 c1
        obtain ⟨hpb, p0, p1⟩ := hwc.out.2.1
        go_upto_if 26 with (fail)
        go_cut [3] (fun vg wx => ∃ (gI : Gr) (hv' : Nat → Value), Hid (GA 46 K V w wx B vg gI hv' ∧ GrI K i gI ∧ PB wx pb (K i) (V i) ∧ B ≤ wx.heap.size))
        case first =>
          cases t
          · have hc := HT.out
            rw [if_neg (by decide)] at hc
            have HF := Lib.hid (And.intro hwc.out.1 (And.intro (gri_old hc) hwc.out.2))
            clear hc
            go_wp2
            go_meet
            exact ⟨_, _, HF⟩
          · have hc := HT.out
            rw [if_pos rfl] at hc
            have HC := Lib.hid hc
            have hcl := clone_any (K i) wc (by have := (HSZ.out i).1; omega)
            have HCL := Lib.hid hcl
            clear hc hcl HT
            go_wp2_with (fail)
            refine HCL.out.mono ?_
            rintro e w5 ⟨rfl, hb5⟩
            have HG5 := Lib.hid (hwc.out.1.below hwc.out.2.2 hb5)
            have HP5 := Lib.hid (hwc.out.2.1.below hb5)
            have hB5 : B ≤ w5.heap.size := Nat.le_trans hwc.out.2.2 hb5.size
            have hN : (grp K i).N ≤ i := (grp_ok K i).le
            have hbx := World.news_of_block (heap_alloc_new w5 (.cells #[.string (K i), .slice none 0 0] 46))
            have hrow := HG5.out.row.alloc (.cells #[.string (K i), .slice none 0 0] 46)
            have hone : ∀ y ∈ [Value.string (K i), .slice none 0 0], y.oneCell' = true := by
              intro y hy
              simp only [List.mem_cons, List.not_mem_nil, or_false] at hy
              rcases hy with rfl | rfl <;> rfl
            have k5 : (grp K i).N + 1 ≤ maxLen := by unfold maxLen; omega
            have k6 : ((grp K i).N + 1) * 40 ≤ 140737488355328 := by omega
            clear hb5
            go_wp2_with (at_builtin; refine wpList_append_lies _ rfl _ _ 40 rfl B 46 i0 _ 2 40 Try.underlying40 hi0 hz00 hz01 hz02 rfl (by decide) _ _ _ rfl hrow ⟨w5.heap.size, 0, none⟩ 1 1 [.string (K i), .slice none 0 0] rfl rfl hbx hone (by decide) k5 k6 (by simp; omega) (w5.heap.size + 1) (by simp) ?_)
            intro gg cg w6 hown' hg6 _ _
            have HF : Hid (∃ hv', GA 46 K V w w6 B (.slice (some ⟨gg, 0, none⟩) ((grp K i).N + 1) cg) ⟨(grp K i).N + 1, updG (grp K i).s (grp K i).N i, updG (grp K i).c (grp K i).N 0⟩ hv' ∧ GrI K i ⟨(grp K i).N + 1, updG (grp K i).s (grp K i).N i, updG (grp K i).c (grp K i).N 0⟩ ∧ PB w6 pb (K i) (V i) ∧ B ≤ w6.heap.size) := by
              have h9 := GA.fresh (by decide) HG5.out hB5 i hg6 hown'
              have hs6 : w5.heap.size ≤ w6.heap.size := by have := hg6.size; simp at this; omega
              exact Lib.hid ⟨_, h9, gri_new HC.out, HP5.out.grown hrow (by decide) hg6, by omega⟩
            clear hbx hrow hown' hg6
            go_wp2
            go_meet
            obtain ⟨hv', hf⟩ := HF.out
            exact ⟨_, hv', Lib.hid hf⟩
        case rest =>
          obtain ⟨gI, hv', HF⟩ := hcut
          clear hwc hpb p0 p1 HT hBr
          obtain ⟨hG, hI, hPB, hBc⟩ := HF.out
          obtain ⟨bg, cg, rfl, hBg, _⟩ := hG.row.form hI.pos
          obtain ⟨l, hl⟩ : ∃ l, gI.N = l + 1 := ⟨gI.N - 1, by have := hI.pos; omega⟩
          have hln : l ≤ n := by have := hI.le; omega
          have hlN : l < gI.N := by omega
          have hrowc := hG.row
          have h1 : wc.cell? ⟨bg, l * 2 + 1, none⟩ = some (hv' l) := (hrowc.cellAt (l * 2 + 1) (by omega)).trans (prV_get _ _ _ l hlN).2
          have hf1 := hrowc.frozenAt (l * 2 + 1)
          have hHI := Lib.hid hI
          have p1 := hPB.c1
          have hw1 : IntKind.i64.wrap ((l : Int) + 1 - 1) = (l : Int) := by rw [show (l : Int) + 1 - 1 = (l : Int) by omega]; exact IntWalk.i64_in _ (by omega)
          have hw2 : IntKind.i64.wrap (l : Int) = (l : Int) := IntWalk.i64_in _ (by omega)
          have HL := Lib.hid (And.intro hl hlN)
          rw [hl]
          obtain ⟨Ah, ch, hhd⟩ := own_slice3 (hG.vals l hlN)
          have hci : gI.s l + gI.c l = i := by have h9 := hI.last; rw [show gI.N - 1 = l by omega] at h9; exact h9
          have HCI := Lib.hid hci
          have HHD := Lib.hid hhd
          have HGC := Lib.hid hG
          have HPB := Lib.hid hPB
          rw [hhd] at h1
          obtain ⟨cl, hcl0⟩ : ∃ cl, cl = gI.c l := ⟨_, rfl⟩
          rw [← hcl0] at h1
          have HC0 := Lib.hid hcl0
          have hclb : cl ≤ n := by omega
          have k7 : cl + 1 ≤ maxLen := by unfold maxLen; omega
          have k8 : (cl + 1) * 16 ≤ 140737488355328 := by omega
          have hone : ∀ y ∈ [Value.string (V i)], y.oneCell' = true := by
            intro y hy
            rw [show y = .string (V i) by simpa using hy]
            rfl
          have hcl : Calls Try.prog 25 #[.string (V i)] wc.drew fun e w'' => e = .returned (.string (V i)) ∧ Hid (Below wc.heap.size wc w'') ∧ w''.cell? ⟨bg, l * 2 + 1, none⟩ = some (.slice Ah cl ch) ∧ w''.cell? ⟨pb, 1, none⟩ = some (.string (V i)) := (clone_any (V i) wc.drew (by have := (HSZ.out i).2; omega)).mono fun e w'' ⟨he, hb⟩ => by
            have hb2 : Below wc.heap.size wc w'' := ⟨hb.os, hb.tape, hb.output, hb.size, hb.block⟩
            exact ⟨he, Lib.hid hb2, (hb2.cell (p := ⟨bg, l * 2 + 1, none⟩) (World.block_lt_of_cell? _ _ h1)).trans h1, (hb2.cell (p := ⟨pb, 1, none⟩) (World.block_lt_of_cell? _ _ p1)).trans p1⟩
          have HCL := Lib.hid hcl
          clear hI hPB hG hrowc hl hlN hhd hcl0 hci hcl
          go_upto_region 8 with (fail)
          go_region_law (first
            | (refine step_append_lies _ (by rfl) (.tmp 43) (.tmp 47) 44 (by rfl) B 9 i1 _ 1 16 Try.underlying44 hi1 hz10 hz11 hz12 rfl (by decide) _ cl (strN V (gI.s l) cl) (by rfl) (hRa.out.alloc _) ⟨wa.heap.size, 0, none⟩ 1 1 [.string (V i)] (by rfl) rfl (one_new _ _ _) hone (by decide) k7 k8 (by have := hBa.out; simp; omega) (wa.heap.size + 1) (by simp) ?_
               intro gb cb wb hown' hgr' hat' hlt'
               have HMO := Lib.hid (And.intro hown' (And.intro hgr' hat'))
               obtain ⟨z1, z2⟩ := grown_cell hGa.out HL.out.2 HHD.out HC0.out hgr'
               clear hown' hgr' hat' hlt')
            | (go_simp; go_at_call 25; with_reducible refine HCL.out.mono ?_; rintro e wa ⟨rfl, hba, q1, q2⟩
               have q3 := fun o => cell_al3 q1 o
               have hGa := Lib.hid (HGC.out.below hBc hba.out)
               have hBa := Lib.hid (Nat.le_trans hBc hba.out.size)
               have hRa : Hid (wa.ownsRow B 9 1 (.slice Ah cl ch) cl (strN V (gI.s l) cl)) := Lib.hid (by have h9 := hGa.out.vals l HL.out.2; rw [HHD.out, ← HC0.out] at h9; exact h9)))
          all_goals
            have HN2 : Hid (∃ hv2, GA 46 K V w (wb.setCell ⟨bg, l * 2 + 1, none⟩ (.slice (some ⟨gb, 0, none⟩) (cl + 1) cb)) B (.slice (some ⟨bg, 0, none⟩) (l + 1) cg) (grp K (i + 1)) hv2) := Lib.hid (by
              obtain ⟨m1, m2, m3⟩ := HMO.out
              rw [HC0.out, ← HHD.out] at m2
              have m3' : (hv' l).ownBlock = some gb ∨ gb = (wa.alloc (.cells #[.string (V i)] 9)).heap.size := by
                rw [HC0.out, ← HHD.out] at m3
                rcases m3 with m3 | m3
                · exact .inl m3
                · exact .inr (by rw [m3]; simp)
              have h9 := GA.more (by decide) hGa.out hBa.out (l := l) HL.out.2 (fun _ _ _ => trivial) (by rw [HL.out.1]) m2 (gb := gb) (cb := cb) (by rw [HC0.out] at m1; rw [HCI.out]; exact m1) m3'
              rw [hHI.out.nx, show gI.N - 1 = l by have := HL.out.1; omega, ← HL.out.1, HC0.out]
              exact ⟨_, h9⟩)
            clear z1 z2 HMO q1 q2 q3 h1 p1 hf1
            go_wp2
            go_roundw
            case rel => exact ⟨i + 1, hlt, by first | rfl | go_num, HN2⟩
            case measure => simp [intOf]; omega
    · obtain rfl : i = n := by omega
      obtain ⟨hv, hG⟩ := HI.out
      have HG := Lib.hid hG
      clear hG HI
      go_wp2
      go_ret
      exact ⟨_, hv, rfl, HG.out⟩
end Go.Proofs.Ytmpeaondljpgiaa
