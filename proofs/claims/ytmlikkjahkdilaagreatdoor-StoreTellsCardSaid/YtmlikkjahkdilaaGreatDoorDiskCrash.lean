/- Package disk: a crash that keeps none of one change, and tears it; what is held is worked out anew behind it. -/
import Derived.Test.YtmlikkjahkdilaaGreatDoorDiskTorn
namespace Go.Proofs.YtmlikkjahkdilaaGreatDoor
open Go.RowKit Go.Maps

set_option maxRecDepth 100000 in
set_option maxHeartbeats 4000000 in
theorem crash_one {B2 : Nat} (R : World → Prop) (p L B gc n k : Nat) (g : Nat) (t : Int) (cp used : Int) (held v : Value) (xs : List Value) (D : DataW Unit) (name data : ByteArray) (w : World) (hk : DiskAt w p cp (.map (some L)) (.slice (some ⟨g, 0, none⟩) 1 gc) held used)
    (ho : FM w L n D) (hn : n < maxLen) (hname : name.size ≤ maxLen) (hv : hdr v = some (D.atKey (sk name) (hd (.slice none 0 0)), [])) (hrow : w.ownsRow B 5 1 v k xs) (hB : B ≤ w.heap.size) (hsz : k + data.size ≤ 1099511627776)
    (hcs : w.ownsRow B2 71 1 (.slice (some ⟨g, 0, none⟩) 1 gc) 1 [ap name data]) (hgc : 1 ≤ gc) (hg2 : gc ≤ 9223372036854775807) (ht : 0 < t)
    (hH : ∀ w1 v1, DiskAt w1 p cp (.map (some L)) (.slice none 0 0) held used → FM w1 L (n + 1) (D.put (sk name) (hd v1)) → w1.ownsRow B 5 1 v1 (k + (data.extract 0 (min t.toNat data.size)).size) (xs ++ Lib.strCells (data.extract 0 (min t.toNat data.size))) →
      Tch w w1 (fun i => i = p ∨ i = L ∨ some i = v.ownBlock) → Calls Tryz.prog 37 #[.pointer (some ⟨p, 0, none⟩)] w1 fun e w' => e = .returned (.tuple #[]) ∧ R w') :
    Calls Tryz.prog 15 #[.pointer (some ⟨p, 0, none⟩), .int .i64 0, .int .i64 t] w fun e w' => e = .returned (.tuple #[]) ∧ R w' := by
  have hst := settle_none p gc g 1 cp used (.map (some L)) held w hk hgc hg2
  have ts := tch_set w ⟨p, 2, none⟩ (.slice (some ⟨g, 0, none⟩) 1 gc)
  have K1 := Lib.hid (hk.chg (.slice (some ⟨g, 0, none⟩) 1 gc))
  have O1 := Lib.hid (fm_tch ho ts (fun e => map_apart hk.ty ho e.symm))
  have R1 := Lib.hid (row_tch hrow ts (fun b hb => cells_apart (row_at hrow hb) hk.ty (by decide)))
  have C1 := Lib.hid (row_tch hcs ts (fun b hb => cells_apart (row_at hcs hb) hk.ty (by decide)))
  have T1 := Lib.hid ts
  have c2 := hk.c2
  have hBs : B ≤ (w.setCell ⟨p, 2, none⟩ (.slice (some ⟨g, 0, none⟩) 1 gc)).heap.size := by simpa [World.setCell] using hB
  clear ts hk ho hrow hcs
  go_enter Tryz.func15, Tryz.ntmps15
  go_wp2_with (fail)
  refine hst.mono ?_
  rintro e w1 ⟨rfl, hw1⟩
  rw [hw1] at K1 O1 R1 C1 T1 hBs
  have d1 := K1.out.c1
  have d2 := K1.out.c2
  have hx : w1.cell? ⟨g, 0, none⟩ = some (ap name data) := by
    have := World.ownsRow.cells C1.out (g := g) rfl 0 (ap name data) rfl
    simpa [Addr.add] using this
  have hta : ∀ w : World, (Instr.typeAssert (ap name data) 71 68 true).run Tryz.prog w = .ok (.tuple #[.agg #[.string name, .string data], .bool true]) w := fun _ => by kernel_rfl
  clear hst hw1 c2
  go_upto_region 5 with (fail)
  have TB := Lib.hid (tch_below (w := w1) (fun _ => False) ((Below.refl _ w1).alloc (Nat.le_refl _) (.cells #[.string name, .string data] 68)))
  have b0 : (w1.alloc (.cells #[.string name, .string data] 68)).cell? ⟨w1.heap.size, 0, none⟩ = some (.string name) := by simp
  have b1 : (w1.alloc (.cells #[.string name, .string data] 68)).cell? ⟨w1.heap.size, 1, none⟩ = some (.string data) := by simp
  have K2 := Lib.hid (K1.out.tch TB.out (fun e => e))
  have O2 := Lib.hid (fm_tch O1.out TB.out (fun e => e))
  have R2 := Lib.hid (row_tch R1.out TB.out (fun _ _ e => e))
  have T2 := Lib.hid (T1.out.then TB.out (fun _ _ e => e.elim))
  have hB2 : B ≤ (w1.alloc (.cells #[.string name, .string data] 68)).heap.size := by simp; omega
  clear d1 d2 hx hta K1 O1 R1 C1 T1 hBs TB
  generalize w1.alloc (.cells #[.string name, .string data] 68) = w2 at *
  have e1 := K2.out.c1
  have HC3 : ∀ w3, Below w2.heap.size w2.drew w3 → w3.cell? ⟨p, 1, none⟩ = some (.map (some L)) := fun w3 hb => (hb.cell (p := ⟨p, 1, none⟩) K2.out.lt).trans K2.out.c1
  obtain ⟨part, hpart⟩ : ∃ part, part = data.extract 0 (min t.toNat data.size) := ⟨_, rfl⟩
  have hps : part.size ≤ data.size := by rw [hpart, ByteArray.size_extract]; omega
  have HDO : ∀ w3, Below w2.heap.size w2.drew w3 → Calls Tryz.prog 36 #[.agg #[.string name, .string part], .map (some L)] w3 fun e w' => e = .returned (.tuple #[]) ∧ ∃ v', Hid (FM w' L (n + 1) (D.put (sk name) (hd v')) ∧ w'.ownsRow B 5 1 v' (k + part.size) (xs ++ Lib.strCells part) ∧ Tch w2 w' (fun i => i = L ∨ some i = v.ownBlock)) := by
    intro w3 hb
    have hb' : Below w2.heap.size w2 w3 := ⟨hb.os, hb.tape, hb.output, hb.size, hb.block⟩
    have tb := tch_below (fun _ => False) hb'
    refine (do_append L n B k D v xs name part w3 (fm_tch O2.out tb (fun e => e)) hn hname hv (row_tch R2.out tb (fun _ _ e => e)) (Nat.le_trans hB2 hb'.size) (by omega)).mono ?_
    rintro e w' ⟨rfl, v1, h1, h2, h3⟩
    exact ⟨rfl, v1, Lib.hid ⟨h1, h2, (tch_below (fun i => i = L ∨ some i = v.ownBlock) hb').then (tch_tu3 h3) (fun _ _ e => e)⟩⟩
  have htorn := torn_any t name data w2.drew ht (by omega)
  rw [← hpart] at htorn hH
  have HH := Lib.hid hH
  have HDOh := Lib.hid HDO
  have HC3h := Lib.hid HC3
  clear HDO HC3 hpart hH
  go_cut [] (fun wx => ∃ v1, Hid (FM wx L (n + 1) (D.put (sk name) (hd v1)) ∧ wx.ownsRow B 5 1 v1 (k + part.size) (xs ++ Lib.strCells part) ∧ Tch w2 wx (fun i => i = L ∨ some i = v.ownBlock)))
  case first =>
    go_region_with (first
      | (go_at_call 35; refine htorn.mono ?_; rintro e w3 ⟨rfl, hb3⟩; have d3 := HC3h.out w3 hb3; have hdo := HDOh.out w3 hb3)
      | (go_at_call 36; refine hdo.mono ?_; rintro e w4 ⟨rfl, v1, H4⟩))
    all_goals
      first
        | (go_meet; exact ⟨v1, H4⟩)
        | (go_wp2; go_meet; exact ⟨v1, H4⟩)
  case rest =>
    obtain ⟨v1, H4⟩ := hcut
    have a1 : ¬ p = L := map_apart K2.out.ty O2.out
    have a2 : ¬ some p = v.ownBlock := fun e => cells_apart K2.out.ty (row_at R2.out e.symm) (by decide) rfl
    have K4 := Lib.hid (K2.out.tch H4.out.2.2 (fun h => h.elim a1 a2))
    have f1 := K4.out.c2
    have f2 := K4.out.fr 2
    have hfin : ∃ w5, w5 = wc.setCell ⟨p, 2, none⟩ (.slice none 0 0) := ⟨_, rfl⟩
    obtain ⟨w5, hw5⟩ := hfin
    have ts := tch_set wc ⟨p, 2, none⟩ (.slice none 0 0)
    have K5 := K4.out.chg (.slice none 0 0)
    have O5 := fm_tch H4.out.1 ts (fun e => map_apart K4.out.ty H4.out.1 e.symm)
    have R5 := row_tch H4.out.2.1 ts (fun b hb => cells_apart (row_at H4.out.2.1 hb) K4.out.ty (by decide))
    have T5 : Tch w (wc.setCell ⟨p, 2, none⟩ (.slice none 0 0)) (fun i => i = p ∨ i = L ∨ some i = v.ownBlock) :=
      (((Tch.refl w _).then T2.out (fun i _ h => .inl h)).then H4.out.2.2 (fun i _ h => .inr h)).then ts (fun i _ h => .inl h)
    have hcall := HH.out _ v1 K5 O5 R5 T5
    clear a1 a2 hw5 ts K5 O5 R5 T5 K4 H4 htorn e1 b0 b1
    go_wp2_with (fail)
    refine hcall.mono ?_
    rintro e w6 ⟨rfl, hR⟩
    clear hcall
    go_wp2
    first
      | (go_end0; exact ⟨rfl, hR⟩)
      | (go_ret; exact ⟨rfl, hR⟩)
      | exact bodyPost_ret (v := .tuple #[]) (results_none rfl _ _ _) rfl ⟨rfl, hR⟩
end Go.Proofs.YtmlikkjahkdilaaGreatDoor
