/- Package disk: one change is settled. -/
import Derived.Test.YtmlikkjahkdilaaGreatDoorDiskApp2
namespace Go.Proofs.YtmlikkjahkdilaaGreatDoor
open Go.RowKit Go.Maps

set_option maxRecDepth 100000 in
set_option maxHeartbeats 4000000 in
theorem settle_one {B2 : Nat} (p L B gc n k : Nat) (g : Nat) (cp used : Int) (held v : Value) (xs : List Value) (D : DataW Unit) (name data : ByteArray) (w : World) (hk : DiskAt w p cp (.map (some L)) (.slice (some ⟨g, 0, none⟩) 1 gc) held used)
    (ho : FM w L n D) (hn : n < maxLen) (hname : name.size ≤ maxLen) (hv : hdr v = some (D.atKey (sk name) (hd (.slice none 0 0)), [])) (hrow : w.ownsRow B 5 1 v k xs) (hB : B ≤ w.heap.size) (hsz : k + data.size ≤ 140737488355328)
    (hcs : w.ownsRow B2 71 1 (.slice (some ⟨g, 0, none⟩) 1 gc) 1 [ap name data]) (hgc : 1 ≤ gc) :
    Calls Tryz.prog 34 #[.pointer (some ⟨p, 0, none⟩), .int .i64 1] w fun e w' => e = .returned (.tuple #[]) ∧ ∃ v' chg', DiskAt w' p cp (.map (some L)) chg' held used ∧ FM w' L (n + 1) (D.put (sk name) (hd v')) ∧
      w'.ownsRow B 5 1 v' (k + data.size) (xs ++ Lib.strCells data) ∧ Tch w w' (fun i => i = p ∨ i = L ∨ some i = v.ownBlock) := by
  have hna : ∀ (n : Nat) (w : World), (nilAhead (n + 1) 68 (.agg #[.string name, .string data]) "mahout/disk.do").run Tryz.prog w = .ok (some false) w := fun _ _ => by kernel_rfl
  have hme : ∀ (n : Nat) (w : World), (method (n + 1) 68 (.agg #[.string name, .string data]) "mahout/disk.do").run Tryz.prog w = .ok (36, .agg #[.string name, .string data]) w := fun _ _ => by kernel_rfl
  have hdo := do_append L n B k D v xs name data w.drew ho hn hname hv hrow hB hsz
  have hx : w.cell? ⟨g, 0, none⟩ = some (ap name data) := by
    have := World.ownsRow.cells hcs (g := g) rfl 0 (ap name data) rfl
    simpa [Addr.add] using this
  have hgc' : (1 : Int) ≤ (gc : Int) := by omega
  have a1 : ¬ p = L := map_apart hk.ty ho
  have a2 : ¬ some p = v.ownBlock := fun e => cells_apart hk.ty (row_at hrow e.symm) (by decide) rfl
  have HA := Lib.hid (And.intro a1 a2)
  have HK := Lib.hid hk
  obtain ⟨c0, c1, c2, c3, c4, fr, ty⟩ := hk
  clear ty ho hrow hcs a1 a2
  go_enter Tryz.func34, Tryz.ntmps34
  go_wp2
  go_loopw [13] (fun i wr => (i = .int .i64 0 ∧ w = wr) ∨ (i = .int .i64 1 ∧ ∃ v1, Hid (FM wr L (n + 1) (D.put (sk name) (hd v1)) ∧ wr.ownsRow B 5 1 v1 (k + data.size) (xs ++ Lib.strCells data) ∧ Tu3 w.drew wr L v.ownBlock))) (fun i _ => 1 - (intOf i).toNat)
  case atStart => exact .inl ⟨rfl, rfl⟩
  case round =>
    rcases hrel with ⟨rfl, rfl⟩ | ⟨rfl, v1, H1⟩
    · go_upto_region 3 with (fail)
      go_region_with (go_at_call 36; refine hdo.mono ?_; rintro e w1 ⟨rfl, v1, h1, h2, h3⟩)
      all_goals
        have H1 := Lib.hid (And.intro h1 (And.intro h2 h3))
        clear h1 h2 h3 hdo hna hme
        go_wp2
        go_round
        case rel => exact .inr ⟨rfl, v1, H1⟩
        case measure => simp [intOf]
    · have T1 : Tch w wr (fun i => i = L ∨ some i = v.ownBlock) := by
        have T0 := H1.out.2.2
        exact ⟨T0.os, T0.tape, T0.output, T0.size, fun k hk hn => T0.block k hk (fun e => hn (.inl e)) (fun e => hn (.inr e))⟩
      have D1 := HK.out.tch T1 (fun h => h.elim HA.out.1 HA.out.2)
      have HT1 := Lib.hid T1
      have HD1 := Lib.hid D1
      have d2 := D1.c2
      have f2 := D1.fr 2
      clear T1 D1 c0 c1 c2 c3 c4 fr hdo hna hme HK
      have hfin : ∀ X : Value, DiskAt (wr.setCell ⟨p, 2, none⟩ X) p cp (.map (some L)) X held used ∧ FM (wr.setCell ⟨p, 2, none⟩ X) L (n + 1) (D.put (sk name) (hd v1)) ∧ (wr.setCell ⟨p, 2, none⟩ X).ownsRow B 5 1 v1 (k + data.size) (xs ++ Lib.strCells data) ∧
          Tch w (wr.setCell ⟨p, 2, none⟩ X) (fun i => i = p ∨ i = L ∨ some i = v.ownBlock) := by
        intro X
        have ts := tch_set wr ⟨p, 2, none⟩ X
        refine ⟨HD1.out.chg X, fm_tch H1.out.1 ts (fun e => map_apart HD1.out.ty H1.out.1 e.symm), row_tch H1.out.2.1 ts (fun b hb => cells_apart (row_at H1.out.2.1 hb) HD1.out.ty (by decide)), ?_⟩
        exact ((Tch.refl w _).then HT1.out (fun i _ h => h.elim (fun e => .inr (.inl e)) (fun e => .inr (.inr e)))).then ts (fun i _ h => .inl h)
      have HFIN := Lib.hid hfin
      clear hfin
      go_wp2
      all_goals first
        | (go_end0; exact ⟨rfl, ⟨_, (HFIN.out _).1⟩, v1, (HFIN.out _).2.1, (HFIN.out _).2.2.1, (HFIN.out _).2.2.2⟩)
        | (go_end0; exact ⟨rfl, v1, _, HFIN.out _⟩)
        | (go_ret; exact ⟨rfl, ⟨_, (HFIN.out _).1⟩, v1, (HFIN.out _).2.1, (HFIN.out _).2.2.1, (HFIN.out _).2.2.2⟩)
end Go.Proofs.YtmlikkjahkdilaaGreatDoor
