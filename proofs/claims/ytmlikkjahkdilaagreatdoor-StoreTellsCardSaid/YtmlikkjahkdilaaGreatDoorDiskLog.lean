/- Package disk: a disk with one file: append, sync, crash, read, whatever the bytes. -/
import Derived.Test.YtmlikkjahkdilaaGreatDoorDiskAny
namespace Go.Proofs.YtmlikkjahkdilaaGreatDoor
open Go.RowKit Go.Maps

/-- a disk with one file: what lasts of it (X), what was appended behind it and is not synced (cs); hl: does the file itself last? -/
structure OneD (w0 w : World) (p : Nat) (name : ByteArray) (cp : Int) (X : List UInt8) (cs : List ByteArray) (hl : Bool) : Prop where
  bel : Below w0.heap.size w0 w
  hp : w0.heap.size ≤ p
  st : ∃ (L m : Nat) (chg v v2 : Value), DiskAt w p cp (.map (some L)) chg (.map (some m)) (((X ++ bytesOf cs).length : Nat) : Int) ∧ w0.heap.size ≤ L ∧ w0.heap.size ≤ m ∧ ¬ L = m ∧ OneM w w0.heap.size L name X v2 hl ∧ OneM w w0.heap.size m name (X ++ bytesOf cs) v true ∧
    Chgs w w0.heap.size chg name cs ∧ (∀ b, v2.ownBlock = some b → ¬ v.ownBlock = some b)
theorem Chgs.nil (w : World) (B : Nat) (name : ByteArray) : Chgs w B (.slice none 0 0) name [] := ⟨rfl, .inl ⟨rfl, rfl⟩⟩
theorem byteCells_one (X : List UInt8) : ∀ u ∈ Lib.byteCells X, u.oneCell' = true := by
  intro u hu
  simp only [Lib.byteCells, List.mem_map] at hu
  obtain ⟨b, _, rfl⟩ := hu
  rfl
theorem OneM.lt {w : World} {B m : Nat} {name : ByteArray} {X : List UInt8} {v : Value} {h : Bool} (o : OneM w B m name X v h) : m < w.heap.size := by
  obtain ⟨D, h1, _⟩ := o.fm
  exact h1.lt
theorem OneM.ap {w : World} {B m b : Nat} {name : ByteArray} {X : List UInt8} {v : Value} {h : Bool} {e : TypeId} (o : OneM w B m name X v h) (hb : ∃ cs, w.heap[b]? = some (.cells cs e (0, 0))) : ¬ b = m := by
  obtain ⟨D, h1, _⟩ := o.fm
  exact map_apart hb h1
theorem OneM.slice {w : World} {B m : Nat} {name : ByteArray} {X : List UInt8} {v : Value} {h : Bool} (o : OneM w B m name X v h) : ∃ a' c, v = .slice a' X.length c := by
  rcases o.row.2 with ⟨h1, h2⟩ | ⟨g, cap, cur, h1, _⟩
  · exact ⟨_, _, by rw [h1, h2]⟩
  · exact ⟨_, _, h1⟩
set_option maxRecDepth 100000 in
set_option maxHeartbeats 2000000 in
theorem anew_D (w0 : World) (p L : Nat) (cp used : Int) (held v2 : Value) (name : ByteArray) (X : List UInt8) (w : World) (hb0 : Below w0.heap.size w0 w) (hp0 : w0.heap.size ≤ p) (hL : w0.heap.size ≤ L) (hd0 : DiskAt w p cp (.map (some L)) (.slice none 0 0) held used)
    (ho : OneM w w0.heap.size L name X v2 true) (hname : name.size ≤ maxLen) (hk : X.length ≤ 1099511627776) :
    Calls Tryz.prog 37 #[.pointer (some ⟨p, 0, none⟩)] w fun e w' => e = .returned (.tuple #[]) ∧ OneD w0 w' p name cp X [] true := by
  obtain ⟨a2, c2', hv2⟩ := ho.slice
  obtain ⟨D, o1, o2, o3, o4⟩ := ho.fm
  have hcp := copied_any w0.heap.size L 1 X.length c2' a2 D name (Lib.byteCells X) w o1 o2 o3 hname (by rw [← hv2]; exact o4) (by rw [← hv2]; exact ho.row) hk (byteCells_one X)
  have c1 := hd0.c1
  have HD := Lib.hid hd0
  have HB0 := Lib.hid (And.intro hb0 (And.intro hp0 (And.intro hL hname)))
  have HO := Lib.hid ho
  have hpw := hd0.lt
  clear hd0 ho o1 o2 o3 o4 hname hv2 hb0 hp0 hL
  go_enter Tryz.func37, Tryz.ntmps37
  go_wp2_with (fail)
  refine hcp.mono ?_
  rintro e w1 ⟨rfl, v1, ho1, hrow1, hb1⟩
  obtain ⟨q, hq⟩ : ∃ q, q = w.heap.size := ⟨_, rfl⟩
  have HQ := Lib.hid hq
  rw [← hq] at ho1 ⊢
  have D1 := HD.out.tch (tch_below (fun _ => False) hb1) (fun e => e)
  have d1 := D1.c1
  have d2 := D1.c2
  have d3 := D1.c3
  have f3 := D1.fr 3
  have HD1 := Lib.hid D1
  have HO1 := Lib.hid (And.intro ho1 (And.intro hrow1 hb1))
  clear hcp c1 D1 ho1 hrow1 hb1 hq
  have HW2 : Hid (DiskAt (w1.setCell ⟨p, 3, none⟩ (.map (some q))) p cp (.map (some L)) (.slice none 0 0) (.map (some q)) used ∧ OneM (w1.setCell ⟨p, 3, none⟩ (.map (some q))) w0.heap.size q name X v1 true ∧ OneM (w1.setCell ⟨p, 3, none⟩ (.map (some q))) w0.heap.size L name X v2 true ∧
      Below w0.heap.size w0 (w1.setCell ⟨p, 3, none⟩ (.map (some q))) ∧ (∀ b, v2.ownBlock = some b → ¬ v1.ownBlock = some b)) := by
    obtain ⟨ho1, hrow1, hb1⟩ := HO1.out
    have ts := tch_set w1 ⟨p, 3, none⟩ (.map (some q))
    have hrow1' : w1.ownsRow w0.heap.size 5 1 v1 X.length (Lib.byteCells X) := ⟨hrow1.1, hrow1.2.imp id fun ⟨g, cap, cur, q1, q2, q3⟩ => ⟨g, cap, cur, q1, Nat.le_trans HB0.out.1.size q2, q3⟩⟩
    have m1 : OneM w1 w0.heap.size q name X v1 true := OneM.ofPut (D := empF) (fun kl h => by cases h) ⟨[], rfl⟩ ho1 hrow1'
    have m2 : OneM w1 w0.heap.size L name X v2 true := HO.out.tch (tch_below (fun _ => False) hb1) (fun e => e) (fun _ _ e => e)
    exact Lib.hid ⟨HD1.out.hld _, m1.tch ts (fun e => m1.ap HD1.out.ty e.symm) (fun b hb => cells_apart (row_at m1.row hb) HD1.out.ty (by decide)), m2.tch ts (fun e => m2.ap HD1.out.ty e.symm) (fun b hb => cells_apart (row_at m2.row hb) HD1.out.ty (by decide)),
      (HB0.out.1.trans (hb1.mono HB0.out.1.size)).setCell HB0.out.2.1 _, fun b h2 h1 => by
        have q1 := (hrow1.lt b h1).1
        have q2 := (HO.out.row.lt b h2).2
        omega⟩
  go_wp2
  generalize w1.setCell ⟨p, 3, none⟩ (.map (some q)) = w2 at *
  go_loopw [17] (fun i wr => i = .int .i64 0 ∧ w2 = wr) (fun _ _ => 0)
  case atStart => exact ⟨rfl, rfl⟩
  case round =>
    obtain ⟨rfl, rfl⟩ := hrel
    obtain ⟨a1, c1', hv1⟩ := HW2.out.2.1.slice
    have hs : Calls Tryz.prog 59 #[.map (some q)] w2 fun e w' => e = .returned (.int .i64 X.length) ∧ Below w2.heap.size w2 w' := by
      obtain ⟨D, o1, o2, o3, o4⟩ := HW2.out.2.1.fm
      exact size_any q 1 X.length c1' a1 D name w2 o1 o2 o3 HB0.out.2.2.2 (by rw [← hv1]; exact o4) hk
    have e3 := HW2.out.1.c3
    clear d1 d2 d3 f3
    go_wp2_with (fail)
    refine hs.mono ?_
    rintro e w3 ⟨rfl, hb3⟩
    have T3 := tch_below (fun _ => False) hb3
    have K3 := HW2.out.1.tch T3 (fun e => e)
    have d4 := K3.c4
    have f4 := K3.fr 4
    have HFI : Hid (OneD w0 (w3.setCell ⟨p, 4, none⟩ (.int .i64 X.length)) p name cp X [] true) := by
      have ts := tch_set w3 ⟨p, 4, none⟩ (.int .i64 X.length)
      have m1 := HW2.out.2.1.tch T3 (fun e => e) (fun _ _ e => e)
      have m2 := HW2.out.2.2.1.tch T3 (fun e => e) (fun _ _ e => e)
      have hLq : ¬ L = q := by have := HQ.out; have := HO.out.lt; omega
      refine Lib.hid ⟨(HW2.out.2.2.2.1.trans (hb3.mono HW2.out.2.2.2.1.size)).setCell HB0.out.2.1 _, HB0.out.2.1, L, q, .slice none 0 0, v1, v2, ?_, HB0.out.2.2.1, by have := HQ.out; have := HB0.out.1.size; omega, hLq,
        m2.tch ts (fun e => m2.ap K3.ty e.symm) (fun b hb => cells_apart (row_at m2.row hb) K3.ty (by decide)), ?_, Chgs.nil _ _ _, HW2.out.2.2.2.2⟩
      · simpa [bytesOf] using K3.usd (X.length : Int)
      · simpa [bytesOf] using m1.tch ts (fun e => m1.ap K3.ty e.symm) (fun b hb => cells_apart (row_at m1.row hb) K3.ty (by decide))
    clear hs T3 K3 hb3 e3
    go_wp2
    first
      | (go_end0; exact ⟨rfl, HFI.out⟩)
      | (go_ret; exact ⟨rfl, HFI.out⟩)
      | exact bodyPost_ret (v := .tuple #[]) (results_none rfl _ _ _) rfl ⟨rfl, HFI.out⟩
end Go.Proofs.YtmlikkjahkdilaaGreatDoor
