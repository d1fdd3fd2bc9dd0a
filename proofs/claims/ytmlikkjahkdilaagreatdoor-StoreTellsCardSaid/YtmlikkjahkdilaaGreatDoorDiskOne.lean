/- Package disk: a map of one file, whatever its bytes: what an append does to it, again and again. -/
import Derived.Test.YtmlikkjahkdilaaGreatDoorDiskSpk
namespace Go.Proofs.YtmlikkjahkdilaaGreatDoor
open Go.RowKit Go.Maps

/-- a map that holds no file but one: its bytes X, their value v; h: is it there? -/
structure OneM (w : World) (B m : Nat) (name : ByteArray) (X : List UInt8) (v : Value) (h : Bool) : Prop where
  row : w.ownsRow B 5 1 v X.length (Lib.byteCells X)
  fm : ∃ D, FM w m 1 D ∧ (∀ kl, Maps.has D kl = true → kl = sk name) ∧ Maps.has D (sk name) = h ∧ hdr v = some (D.atKey (sk name) (hd (.slice none 0 0)), [])
theorem shrink {w : World} {m n : Nat} {D : DataW Unit} {name : ByteArray} (h : FM w m n D) (hone : ∀ kl, Maps.has D kl = true → kl = sk name) : FM w m 1 D := by
  obtain ⟨es, hD, hpw, hky⟩ := h.entries strLaw
  obtain ⟨es', clock, h1, h2, h3, h4⟩ := h
  refine ⟨es', clock, h1, h2, ?_, h4⟩
  have hl : es.length = es'.size := by
    have e := hD.symm.trans h4
    injection e with e
    rw [e, (WideShapes.sorted_perm _).length_eq]
    simp
  have hall : ∀ p ∈ es, p.1 = sk name := fun p hp => by
    refine hone p.1 ?_
    rw [hD]
    exact List.any_eq_true.2 ⟨p, hp, WideAt.sameKey_self (hky p hp)⟩
  rw [← hl]
  match es, hpw, hall with
  | [], _, _ => simp
  | [_], _, _ => simp
  | a :: b :: r, hpw, hall =>
    have := List.rel_of_pairwise_cons hpw (List.mem_cons_self ..)
    exact absurd ((hall a (by simp)).trans (hall b (by simp)).symm) this
theorem OneM.tch {w w' : World} {S : Nat → Prop} {B m : Nat} {name : ByteArray} {X : List UInt8} {v : Value} {h : Bool} (o : OneM w B m name X v h) (t : Tch w w' S) (hm : ¬ S m) (hv : ∀ b, v.ownBlock = some b → ¬ S b) : OneM w' B m name X v h := by
  obtain ⟨D, h1, h2, h3, h4⟩ := o.fm
  exact ⟨row_tch o.row t hv, D, fm_tch h1 t hm, h2, h3, h4⟩
theorem OneM.ofPut {w : World} {B m n : Nat} {name : ByteArray} {Y : List UInt8} {v : Value} {D : DataW Unit} (hone : ∀ kl, Maps.has D kl = true → kl = sk name) (hmp : IsMap D) (h : FM w m n (D.put (sk name) (hd v))) (hrow : w.ownsRow B 5 1 v Y.length (Lib.byteCells Y)) : OneM w B m name Y v true := by
  have h1 : ∀ kl, Maps.has (D.put (sk name) (hd v)) kl = true → kl = sk name := fun kl hkl => by
    by_cases e : kl = sk name
    · exact e
    · rw [Maps.has_put_other e] at hkl
      exact hone kl hkl
  exact ⟨hrow, _, shrink h h1, h1, Maps.has_put_same hmp (sk_key name) _, by rw [Maps.atKey_put_same hmp (sk_key name)]; exact hdr_row hrow⟩
theorem cells_more (X : List UInt8) (d : ByteArray) : Lib.byteCells X ++ Lib.strCells d = Lib.byteCells (X ++ d.data.toList) := by simp [Lib.byteCells, Lib.strCells]
theorem len_more (X : List UInt8) (d : ByteArray) : X.length + d.size = (X ++ d.data.toList).length := by
  have : d.data.size = d.size := rfl
  simp [this]
/-- a change is done to a map of one file -/
theorem do_one (B m : Nat) (name data : ByteArray) (X : List UInt8) (v : Value) (h : Bool) (w : World) (o : OneM w B m name X v h) (hname : name.size ≤ maxLen) (hB : B ≤ w.heap.size) (hsz : X.length + data.size ≤ 140737488355328) :
    Calls Tryz.prog 36 #[.agg #[.string name, .string data], .map (some m)] w fun e w' => e = .returned (.tuple #[]) ∧ ∃ v', OneM w' B m name (X ++ data.data.toList) v' true ∧ Tch w w' (fun i => i = m ∨ some i = v.ownBlock) ∧ (∀ b, v'.ownBlock = some b → v.ownBlock = some b ∨ w.heap.size ≤ b) := by
  obtain ⟨D, h1, h2, h3, h4⟩ := o.fm
  refine (do_append_s m 1 B X.length D v (Lib.byteCells X) name data w h1 (by unfold maxLen; omega) hname h4 o.row hB hsz).mono ?_
  rintro e w' ⟨he, v', q1, q2, q3, q4⟩
  rw [cells_more, len_more] at q2
  exact ⟨he, v', OneM.ofPut h2 h1.isMap q1 q2, tch_tu3 q3, q4⟩
/-- all bytes of a list of texts -/
def bytesOf : List ByteArray → List UInt8
  | [] => []
  | d :: r => d.data.toList ++ bytesOf r
theorem bytesOf_snoc : ∀ (l : List ByteArray) (d : ByteArray), bytesOf (l ++ [d]) = bytesOf l ++ d.data.toList
  | [], d => by simp [bytesOf]
  | a :: r, d => by simp [bytesOf, bytesOf_snoc r d]
theorem bytesOf_take (l : List ByteArray) (k : Nat) (d : ByteArray) (h : l[k]? = some d) : bytesOf (l.take (k + 1)) = bytesOf (l.take k) ++ d.data.toList := by
  rw [List.take_add_one, h, Option.toList_some, bytesOf_snoc]
theorem bytesOf_le : ∀ (l : List ByteArray) (k : Nat), (bytesOf (l.take k)).length ≤ (bytesOf l).length
  | [], k => by simp [bytesOf]
  | a :: r, 0 => by simp [bytesOf]
  | a :: r, k + 1 => by
    have := bytesOf_le r k
    simp [bytesOf]
    exact this
/-- the changes not yet settled: a list of appends to one file -/
def Chgs (w : World) (B : Nat) (chg : Value) (name : ByteArray) (cs : List ByteArray) : Prop := w.ownsRow B 71 1 chg cs.length (cs.map (ap name ·))
theorem Chgs.cell {w : World} {B g q c : Nat} {name : ByteArray} {cs : List ByteArray} (h : Chgs w B (.slice (some ⟨g, 0, none⟩) q c) name cs) (k : Nat) (d : ByteArray) (hk : cs[k]? = some d) : w.cell? ⟨g, k, none⟩ = some (ap name d) := by
  have := World.ownsRow.cells h (g := g) rfl k (ap name d) (by simp [hk])
  simpa [Addr.add_lit] using this
theorem Chgs.form {w : World} {B : Nat} {chg : Value} {name : ByteArray} {cs : List ByteArray} (h : Chgs w B chg name cs) : (chg = .slice none 0 0 ∧ cs = []) ∨ ∃ g c, chg = .slice (some ⟨g, 0, none⟩) cs.length c ∧ cs.length ≤ c ∧ c ≤ maxLen := by
  rcases h.2 with ⟨h1, h2⟩ | ⟨g, cap, cur, q1, _, _, q2, q3, _⟩
  · exact .inl ⟨h1, List.eq_nil_of_length_eq_zero h2⟩
  · exact .inr ⟨g, cap, q1, q2, q3⟩
/-- behind a settling of the first n changes -/
def Stl (w w' : World) (B p L g c n : Nat) (cp used : Int) (held v : Value) (name : ByteArray) (X : List UInt8) (h : Bool) (cs : List ByteArray) : Prop :=
  ∃ v' h', DiskAt w' p cp (.map (some L)) (.slice (some ⟨g, if c = n then 0 else n, none⟩) (cs.length - n) (c - n)) held used ∧ OneM w' B L name (X ++ bytesOf (cs.take n)) v' h' ∧ (0 < n → h' = true) ∧ (n = 0 → h' = h) ∧
      Tch w w' (fun i => i = p ∨ i = L ∨ some i = v.ownBlock) ∧ (∀ b, v'.ownBlock = some b → v.ownBlock = some b ∨ w.heap.size ≤ b)
set_option maxRecDepth 100000 in
set_option maxHeartbeats 4000000 in
theorem settle_n (B p L g c n : Nat) (cp used : Int) (held v : Value) (name : ByteArray) (X : List UInt8) (h : Bool) (cs : List ByteArray) (w : World) (hk : DiskAt w p cp (.map (some L)) (.slice (some ⟨g, 0, none⟩) cs.length c) held used) (ho : OneM w B L name X v h)
    (hcs : Chgs w B (.slice (some ⟨g, 0, none⟩) cs.length c) name cs) (hn : n ≤ cs.length) (hc : cs.length ≤ c) (hc2 : c ≤ maxLen) (hname : name.size ≤ maxLen) (hB : B ≤ w.heap.size) (hsz : X.length + (bytesOf cs).length ≤ 140737488355328) :
    Calls Tryz.prog 34 #[.pointer (some ⟨p, 0, none⟩), .int .i64 n] w fun e w' => e = .returned (.tuple #[]) ∧ Stl w w' B p L g c n cp used held v name X h cs := by
  have hna : ∀ (n : Nat) (d : ByteArray) (w : World), (nilAhead (n + 1) 68 (.agg #[.string name, .string d]) "mahout/disk.do").run Tryz.prog w = .ok (some false) w := fun _ _ _ => by kernel_rfl
  have hme : ∀ (n : Nat) (d : ByteArray) (w : World), (method (n + 1) 68 (.agg #[.string name, .string d]) "mahout/disk.do").run Tryz.prog w = .ok (36, .agg #[.string name, .string d]) w := fun _ _ _ => by kernel_rfl
  have a1 : ¬ p = L := by
    obtain ⟨D, h1, _⟩ := ho.fm
    exact map_apart hk.ty h1
  have HL : Hid (∀ b, v.ownBlock = some b → ¬ b = p ∧ ¬ b = g) := Lib.hid (fun b hb => ⟨cells_apart (row_at ho.row hb) hk.ty (by decide), cells_apart (row_at ho.row hb) (row_at hcs rfl) (by decide)⟩)
  have HG : Hid (¬ g = p ∧ ¬ g = L) := Lib.hid ⟨cells_apart (row_at hcs rfl) hk.ty (by decide), by
    obtain ⟨D, h1, _⟩ := ho.fm
    exact map_apart (row_at hcs rfl) h1⟩
  have HA := Lib.hid a1
  have HK := Lib.hid hk
  have HO := Lib.hid ho
  have HC := Lib.hid hcs
  have HSZ := Lib.hid (And.intro hB (And.intro hsz hname))
  obtain ⟨c0, c1, c2, c3, c4, fr, ty⟩ := hk
  obtain ⟨q, hq⟩ : ∃ q, q = cs.length := ⟨_, rfl⟩
  have HQ := Lib.hid hq
  rw [← hq] at c2 hn hc HK HC
  clear ty a1 ho hcs hq hB hsz hname
  have hn1 : (n : Int) ≤ (c : Int) := by omega
  have hn2 : (n : Int) ≤ (q : Int) := by omega
  have hn3 : n ≤ c := by omega
  have hci : (c : Int) ≤ 9223372036854775807 := by unfold maxLen at hc2; omega
  have hqc : (q : Int) ≤ (c : Int) := by omega
  go_enter Tryz.func34, Tryz.ntmps34
  go_wp2
  go_loopw [13] (fun i wr => ∃ (k : Nat) (v' : Value) (h' : Bool), k ≤ n ∧ i = .int .i64 k ∧ Hid (OneM wr B L name (X ++ bytesOf (cs.take k)) v' h' ∧ (0 < k → h' = true) ∧ (k = 0 → h' = h) ∧ Tch w wr (fun i => i = L ∨ some i = v.ownBlock) ∧ (∀ b, v'.ownBlock = some b → v.ownBlock = some b ∨ w.heap.size ≤ b))) (fun i _ => n - (intOf i).toNat)
  case atStart => exact ⟨0, v, h, by omega, rfl, Lib.hid ⟨by simpa [bytesOf] using HO.out, fun h => by omega, fun _ => rfl, Tch.refl _ _, fun b hb => .inl hb⟩⟩
  case round =>
    obtain ⟨k, v', h', hkn, rfl, HR⟩ := hrel
    have D1 := HK.out.tch HR.out.2.2.2.1 (fun e => e.elim HA.out (fun e => (HL.out p e.symm).1 rfl))
    have C1 : Chgs wr B (.slice (some ⟨g, 0, none⟩) q c) name cs := row_tch HC.out HR.out.2.2.2.1 (fun b hb => by
      simp [Value.ownBlock] at hb
      subst hb
      exact fun e => e.elim HG.out.2 (fun e => (HL.out g e.symm).2 rfl))
    have HD1 := Lib.hid D1
    clear c0 c1 c2 c3 c4 fr
    by_cases hlt : k < n
    · obtain ⟨d, hd⟩ : ∃ d, cs[k]? = some d := ⟨_, List.getElem?_eq_getElem (by have := HQ.out; omega)⟩
      have hx := C1.cell k d hd
      have d1 := D1.c1
      have hki : (k : Int) < (n : Int) := by omega
      have hki2 : (k : Int) < (q : Int) := by omega
      have hbt := bytesOf_take cs k d hd
      have hle := bytesOf_le cs (k + 1)
      have hdo := do_one B L name d (X ++ bytesOf (cs.take k)) v' h' wr.drew ⟨HR.out.1.row, HR.out.1.fm⟩ HSZ.out.2.2 (Nat.le_trans HSZ.out.1 HR.out.2.2.2.1.size) (by
        have := HSZ.out.2.1
        rw [hbt] at hle
        simp only [List.length_append] at hle ⊢
        have e : d.data.toList.length = d.size := by simp
        omega)
      have HBT := Lib.hid hbt
      have hw2 : IntKind.i64.wrap ((k : Int) + 1) = (k : Int) + 1 := IntWalk.i64_in _ (by omega)
      have hnad := fun n => hna n d
      have hmed := fun n => hme n d
      clear D1 C1 hd hbt hle hna hme
      go_upto_region 3 with (fail)
      go_region_with (go_at_call 36; refine hdo.mono ?_; rintro e w1 ⟨rfl, v1, h1, h2, h3⟩)
      all_goals
        have H1 := Lib.hid (And.intro h1 (And.intro h2 h3))
        clear h1 h2 h3 hdo
        go_wp2
        go_round
        case rel =>
          refine ⟨k + 1, v1, true, by omega, by simp, Lib.hid ⟨?_, fun _ => rfl, fun h => by omega, ?_, ?_⟩⟩
          · rw [HBT.out, ← List.append_assoc]
            exact H1.out.1
          · have t1 : Tch wr w1 (fun i => i = L ∨ some i = v'.ownBlock) := ⟨H1.out.2.1.os, H1.out.2.1.tape, H1.out.2.1.output, H1.out.2.1.size, H1.out.2.1.block⟩
            exact HR.out.2.2.2.1.then t1 (fun i hi e => e.elim .inl (fun e => (HR.out.2.2.2.2 i e.symm).elim (fun h => .inr h.symm) (fun h => by omega)))
          · intro b hb
            rcases H1.out.2.2 b hb with h | h
            · exact HR.out.2.2.2.2 b h
            · exact .inr (Nat.le_trans HR.out.2.2.2.1.size h)
        case measure => simp [intOf]; omega
    · have hkn2 : k = n := by omega
      rw [hkn2] at HR ⊢
      have hfin : ∀ X' : Value, DiskAt (wr.setCell ⟨p, 2, none⟩ X') p cp (.map (some L)) X' held used ∧ OneM (wr.setCell ⟨p, 2, none⟩ X') B L name (X ++ bytesOf (cs.take n)) v' h' ∧ (0 < n → h' = true) ∧ (n = 0 → h' = h) ∧
          Tch w (wr.setCell ⟨p, 2, none⟩ X') (fun i => i = p ∨ i = L ∨ some i = v.ownBlock) ∧ (∀ b, v'.ownBlock = some b → v.ownBlock = some b ∨ w.heap.size ≤ b) := by
        intro X'
        have ts := tch_set wr ⟨p, 2, none⟩ X'
        refine ⟨HD1.out.chg X', HR.out.1.tch ts (fun e => HA.out e.symm) (fun b hb e => ?_), HR.out.2.1, HR.out.2.2.1, ((Tch.refl w _).then HR.out.2.2.2.1 (fun i _ h => .inr h)).then ts (fun i _ h => .inl h), HR.out.2.2.2.2⟩
        exact cells_apart (row_at HR.out.1.row hb) HD1.out.ty (by decide) e
      have HF := Lib.hid hfin
      have d2 := D1.c2
      have f2 := D1.fr 2
      have hnn : ¬ (n : Int) < (n : Int) := by omega
      clear hfin D1 C1 hna hme hkn2 hlt
      by_cases hcn : c = n
      · have hcn2 : (c = n) = True := by simp [hcn]
        have HCN := Lib.hid hcn
        clear hcn
        go_wp2
        go_end0
        refine ⟨rfl, v', h', ?_⟩
        rw [if_pos HCN.out, ← HQ.out]
        exact HF.out _
      · go_wp2
        go_end0
        refine ⟨rfl, v', h', ?_⟩
        rw [if_neg hcn, ← HQ.out]
        exact HF.out _
end Go.Proofs.YtmlikkjahkdilaaGreatDoor
