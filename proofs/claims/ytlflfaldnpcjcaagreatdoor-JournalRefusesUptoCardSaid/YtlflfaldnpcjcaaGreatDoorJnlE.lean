/- Package journal: numbers as digits, and back. No program. Package journal: the names of its files, for all numbers of at most nine digits, and what they say. Package journal: the newest of whatever files of the journal's names. Package journal: the names of the files that count; which files are left over. Package journal: of whatever files those that are left over go. Package journal: a file is laid under another name first, where appended records may wait. Package journal: Append of a record, and the keeping of what is good, whatever the segment and the copy. Package journal: the image is read. -/
import Derived.Lib.Atoi
import Derived.Lib.ItoaMem
import Derived.Lib.ItoaNum
import Derived.Test.YtlflfaldnpcjcaaGreatDoorJnlA
import Derived.Lib.LaidTab
import Derived.Deep.RegionHeld3
import Derived.Test.YtlflfaldnpcjcaaGreatDoorJnlC
namespace Go.Proofs.YtlflfaldnpcjcaaGreatDoor
open Go.Lib
theorem decFrom_app : ∀ (l : List UInt8) (acc n : Nat) (b : UInt8) (d : Nat), decFrom acc l = some n → digitVal b = some d → decFrom acc (l ++ [b]) = some (n * 10 + d)
  | [], acc, n, b, d, h, hd => by
    simp only [decFrom, Option.some.injEq] at h
    subst h
    simp [decFrom, hd]
  | a :: t, acc, n, b, d, h, hd => by
    simp only [decFrom, List.cons_append] at h ⊢
    cases ha : digitVal a with
    | none => rw [ha] at h; cases h
    | some e =>
      rw [ha] at h
      exact decFrom_app t _ n b d h hd
theorem digit_val {i : Nat} (h : i < 10) : digitVal (UInt8.ofNat (48 + i)) = some i := by
  unfold digitVal
  have : (UInt8.ofNat (48 + i)).toNat = 48 + i := by simp [UInt8.toNat_ofNat']; omega
  rw [this, if_pos (by omega)]
  congr 1
  omega
theorem dec_step {u : Nat} (h : ¬ u < 10) : decDigits u = decDigits (u / 10) ++ [UInt8.ofNat (48 + u % 10)] := by
  rw [decDigits, dif_neg h]
theorem dec_digits : ∀ u : Nat, decFrom 0 (decDigits u) = some u := by
  intro u
  induction u using Nat.strongRecOn with
  | _ u ih =>
    by_cases h : u < 10
    · rw [decDigits_one h]
      unfold decFrom
      rw [digit_val h]
      simp [decFrom]
    · rw [dec_step h, decFrom_app _ 0 (u / 10) _ (u % 10) (ih (u / 10) (by omega)) (digit_val (by omega))]
      congr 1
      omega
theorem digits_digit (u : Nat) (b : UInt8) (hb : b ∈ decDigits u) : 48 ≤ b.toNat ∧ b.toNat ≤ 57 := by
  obtain ⟨k, hk, rfl⟩ := List.getElem_of_mem hb
  obtain ⟨d, hd⟩ := digit_of_decFrom (decDigits u) 0 u (dec_digits u) k _ (List.getElem?_eq_getElem hk)
  unfold digitVal at hd
  split at hd
  · assumption
  · cases hd
theorem digits_cons (u : Nat) : ∃ b r, decDigits u = b :: r := by
  have h := nDigits_pos u
  rw [← decDigits_length] at h
  match hc : decDigits u, h with
  | b :: r, _ => exact ⟨b, r, rfl⟩
theorem atoi_digits (u : Nat) : atoi (decDigits u) = some (u : Int) := by
  obtain ⟨b, r, e⟩ := digits_cons u
  have hb := digits_digit u b (by rw [e]; exact List.mem_cons_self ..)
  have h1 : (b == 45) = false := by
    rw [beq_eq_false_iff_ne]
    intro h
    rw [h] at hb
    exact absurd hb.1 (by decide)
  have h2 : (b == 43) = false := by
    rw [beq_eq_false_iff_ne]
    intro h
    rw [h] at hb
    exact absurd hb.1 (by decide)
  have h3 := dec_digits u
  rw [e] at h3 ⊢
  show (if b == 45 then (decNat r).map fun (m : Nat) => -(m : Int) else if b == 43 then (decNat r).map fun (m : Nat) => (m : Int) else (decNat (b :: r)).map fun (m : Nat) => (m : Int)) = _
  rw [h1, h2]
  simp [decNat, h3]
theorem digits_inj {a b : Nat} (h : decDigits a = decDigits b) : a = b := by
  have h1 := dec_digits a
  rw [h, dec_digits b] at h1
  injection h1 with h1
  exact h1.symm
theorem digits_len {u : Nat} (h : u ≤ 999999999) : (decDigits u).length ≤ 9 := by
  rw [decDigits_length]
  have hp := nDigits_pos u
  by_cases h9 : nDigits u ≤ 9
  · exact h9
  · exfalso
    have key : ∀ k u, nDigits u = k + 1 → k = 0 ∨ 10 ^ k ≤ u := by
      intro k
      induction k with
      | zero => intro u _; exact .inl rfl
      | succ k ih =>
        intro u hu
        by_cases hs : u < 10
        · rw [nDigits_small hs] at hu; omega
        · rw [nDigits_big hs] at hu
          rcases ih (u / 10) (by omega) with h0 | h0
          · subst h0; exact .inr (by omega)
          · refine .inr ?_
            rw [Nat.pow_succ]
            have := Nat.mul_le_mul_right 10 h0
            omega
    rcases key (nDigits u - 1) u (by omega) with h0 | h0
    · omega
    · have : 10 ^ 9 ≤ 10 ^ (nDigits u - 1) := Nat.pow_le_pow_right (by decide) (by omega)
      omega
theorem index_dash : ∀ (l r : List UInt8), (∀ b ∈ l, b ≠ 45) → indexByte (l ++ 45 :: r) 45 = (l.length : Int)
  | [], r, _ => by simp [indexByte]
  | a :: t, r, h => by
    have h1 : (a == 45) = false := by rw [beq_eq_false_iff_ne]; exact h a (List.mem_cons_self ..)
    have ih := index_dash t r (fun b hb => h b (List.mem_cons_of_mem _ hb))
    show (if a == 45 then (0 : Int) else if indexByte (t ++ 45 :: r) 45 == -1 then -1 else indexByte (t ++ 45 :: r) 45 + 1) = _
    rw [h1, ih]
    have : ((t.length : Int) == -1) = false := by rw [beq_eq_false_iff_ne]; omega
    rw [this]
    simp
end Go.Proofs.YtlflfaldnpcjcaaGreatDoor

namespace Go.Proofs.YtlflfaldnpcjcaaGreatDoor
open Go.RowKit
/-- the table of powers of ten -/
def Pw (w : World) : Prop := Lib.TabIs Tryz.prog w "internal/strconv.uint64pow10" .u64 Lib.pow10Tab
theorem Pw.below {w w' : World} (h : Pw w) (hb : Below w.heap.size w w') : Pw w' := by
  have hg : Tryz.prog.globalNamed "internal/strconv.uint64pow10" = some 2 := by kernel_rfl
  unfold Pw Lib.TabIs World.var? at *
  rw [hg] at h ⊢
  simp only [Option.bind_some] at h ⊢
  have hl : 2 < w.heap.size := by
    rcases Nat.lt_or_ge 2 w.heap.size with hl | hl
    · exact hl
    · rw [Array.getElem?_eq_none hl] at h; cases h
  rw [hb.block _ hl]
  exact h
theorem bel_grow (w : World) (n : Nat) (os : Array Obj) : Below w.heap.size w (Sort.grow (w.drewN n) os) :=
  ⟨rfl, rfl, rfl, by show w.heap.size ≤ (w.heap ++ os).size; simp, fun k hk => by show (w.heap ++ os)[k]? = _; exact Array.getElem?_append_left hk⟩
theorem digS_g {i : Nat} (h : i ≤ 999999999) : (digS i).size ≤ 9 := by
  have := digits_len h
  simpa [digS, ByteArray.size] using this
theorem itoa_g (i : Nat) (h : i ≤ 999999999) (w : World) (hp : Pw w) : Calls Tryz.prog 48 #[.int .i64 i] w fun e w' => e = .returned (.string (digS i)) ∧ Below w.heap.size w w' := by
  refine (Tryz.strconv_Itoa i (by omega) (by omega) w hp).mono ?_
  rintro e w' ⟨rfl, k, os, rfl⟩
  rw [Lib.itoa_nonneg]
  exact ⟨rfl, bel_grow w k os⟩
set_option maxRecDepth 100000 in
set_option maxHeartbeats 1000000 in
theorem image_name_g (i : Nat) (hi : i ≤ 999999999) (w : World) (hp : Pw w) :
    Calls Tryz.prog 28 #[.int .i64 i] w fun e w' => e = .returned (.string (imgS i)) ∧ Below w.heap.size w w' := by
  have h2 := digS_g hi
  have hn : ¬ 9223372036854775807 < 6 + (digS i).size := by omega
  have hit := itoa_g i hi w hp
  clear h2 hi
  go_enter Tryz.func28, Tryz.ntmps28
  go_wp2_with (fail)
  refine hit.mono ?_
  rintro e w1 ⟨rfl, hb⟩
  have HB := Lib.hid hb
  clear hb hit
  go_wp2
  go_ret
  exact ⟨rfl, HB.out⟩
set_option maxRecDepth 100000 in
set_option maxHeartbeats 1000000 in
theorem edits_name_g (i j : Nat) (hi : i ≤ 999999999) (hj : j ≤ 999999999) (w : World) (hp : Pw w) :
    Calls Tryz.prog 40 #[.int .i64 i, .int .i64 j] w fun e w' => e = .returned (.string (edtS i j)) ∧ Below w.heap.size w w' := by
  have h2 := digS_g hi
  have h3 := digS_g hj
  have hn : ¬ 9223372036854775807 < 6 + (digS i).size := by omega
  have hn2 : ¬ 9223372036854775807 < 6 + (digS i).size + 1 := by omega
  have hn3 : ¬ 9223372036854775807 < 6 + (digS i).size + 1 + (digS j).size := by omega
  have hit := itoa_g i hi w hp
  have HIT := Lib.hid (fun w' (hb : Below w.heap.size w w') => itoa_g j hj w' (hp.below hb))
  clear h2 h3 hi hj
  go_enter Tryz.func40, Tryz.ntmps40
  go_wp2_with (fail)
  refine hit.mono ?_
  rintro e w1 ⟨rfl, hb1⟩
  have HB1 := Lib.hid hb1
  clear hb1 hit
  go_wp2_with (fail)
  refine (HIT.out w1 HB1.out).mono ?_
  rintro e w2 ⟨rfl, hb2⟩
  have HB2 := Lib.hid (HB1.out.trans (hb2.mono HB1.out.size))
  clear hb2 HIT
  go_wp2
  go_ret
  exact ⟨rfl, HB2.out⟩
set_option maxRecDepth 100000 in
set_option maxHeartbeats 1000000 in
theorem number_g (i : Nat) (hi : i ≤ 999999999) (w : World) (hp : Pw w) :
    Calls Tryz.prog 55 #[.string (digS i)] w fun e w' => e = .returned (.tuple #[.int .i64 i, .bool true]) ∧ Below w.heap.size w w' := by
  have ha : Lib.atoi (digS i).data.toList = some (i : Int) := atoi_digits i
  have h1 : ¬ (i : Int) < 0 := by omega
  have h2 : ¬ (999999999 : Int) < (i : Int) := by omega
  have hat := Tryz.strconv_Atoi (digS i) i (by have := digS_g hi; omega) ha w
  have HIT := Lib.hid (fun w' (hb : Below w.heap.size w w') => itoa_g i hi w' (hp.below hb))
  clear ha hi
  go_enter Tryz.func55, Tryz.ntmps55
  go_wp2_with (fail)
  refine hat.mono ?_
  rintro e w1 ⟨rfl, t, rfl⟩
  clear hat
  have HB := Lib.hid (Lib.bytesWorld_below w 5 t)
  go_wp2_with (fail)
  refine (HIT.out _ HB.out).mono ?_
  rintro e w2 ⟨rfl, hb2⟩
  have HB2 := Lib.hid (HB.out.trans (hb2.mono HB.out.size))
  clear hb2 HIT HB
  go_wp2_with (fail)
  go_ret2
  exact ⟨rfl, HB2.out⟩
theorem img_list (i : Nat) : (imgS i).data.toList = imgP.data.toList ++ Lib.decDigits i := by
  unfold imgS digS imgP
  simp only [ByteArray.data_append, Array.toList_append]
theorem edt_list (i j : Nat) : (edtS i j).data.toList = edtP.data.toList ++ (Lib.decDigits i ++ 45 :: Lib.decDigits j) := by
  unfold edtS digS edtP
  simp only [ByteArray.data_append, Array.toList_append, List.append_assoc]
  rfl
theorem prefix_app (p l : List UInt8) : Lib.hasPrefix (p ++ l) p = true := by
  unfold Lib.hasPrefix
  rw [List.isPrefixOf_iff_prefix]
  exact List.prefix_append p l
theorem trim_app (p l : List UInt8) : Lib.trimPrefix (p ++ l) p = l := by
  unfold Lib.trimPrefix
  rw [if_pos (prefix_app p l)]
  simp
/-- what stands behind the head of a name of records -/
def tailG (i j : Nat) : ByteArray := ⟨(Lib.decDigits i ++ 45 :: Lib.decDigits j).toArray⟩
set_option maxRecDepth 100000 in
set_option maxHeartbeats 1000000 in
theorem image_of_img (i : Nat) (hi : i ≤ 999999999) (w : World) (hp : Pw w) :
    Calls Tryz.prog 38 #[.string (imgS i)] w fun e w' => e = .returned (.tuple #[.int .i64 i, .bool true]) ∧ Below w.heap.size w w' := by
  have hc := Tryz.strings_CutPrefix (imgS i) imgP w
  rw [img_list, prefix_app, trim_app, show (⟨(Lib.decDigits i).toArray⟩ : ByteArray) = digS i from rfl] at hc
  have hnu := number_g i hi w hp
  clear hi
  go_enter Tryz.func38, Tryz.ntmps38
  go_wp2_with (fail)
  refine hc.mono ?_
  rintro e w1 ⟨rfl, rfl⟩
  clear hc
  go_wp2_with (fail)
  refine hnu.mono ?_
  rintro e w2 ⟨rfl, hb⟩
  have HB := Lib.hid hb
  clear hb hnu
  go_wp2_with (fail)
  go_ret2
  exact ⟨rfl, HB.out⟩
set_option maxRecDepth 100000 in
set_option maxHeartbeats 1000000 in
theorem image_of_edt (i j : Nat) (w : World) :
    Calls Tryz.prog 38 #[.string (edtS i j)] w fun e w' => e = .returned (.tuple #[.int .i64 0, .bool false]) ∧ w = w' := by
  have hc := Tryz.strings_CutPrefix (edtS i j) imgP w
  rw [show Lib.hasPrefix (edtS i j).data.toList imgP.data.toList = false by rw [edt_list]; rfl] at hc
  generalize (⟨(Lib.trimPrefix (edtS i j).data.toList imgP.data.toList).toArray⟩ : ByteArray) = zz at hc
  go_enter Tryz.func38, Tryz.ntmps38
  go_wp2_with (fail)
  refine hc.mono ?_
  rintro e w1 ⟨rfl, rfl⟩
  go_wp2_with (fail)
  go_ret2
  exact ⟨rfl, rfl⟩
set_option maxRecDepth 100000 in
set_option maxHeartbeats 1000000 in
theorem edits_of_img (i : Nat) (w : World) :
    Calls Tryz.prog 39 #[.string (imgS i)] w fun e w' => e = .returned (.tuple #[.int .i64 0, .int .i64 0, .bool false]) ∧ w = w' := by
  have hc := Tryz.strings_CutPrefix (imgS i) edtP w
  rw [show Lib.hasPrefix (imgS i).data.toList edtP.data.toList = false by rw [img_list]; rfl] at hc
  generalize (⟨(Lib.trimPrefix (imgS i).data.toList edtP.data.toList).toArray⟩ : ByteArray) = zz at hc
  go_enter Tryz.func39, Tryz.ntmps39
  go_wp2_with (fail)
  refine hc.mono ?_
  rintro e w1 ⟨rfl, rfl⟩
  go_wp2_with (fail)
  go_ret3
  exact ⟨rfl, rfl⟩
set_option maxRecDepth 100000 in
set_option maxHeartbeats 1000000 in
theorem edits_of_edt (i j : Nat) (hi : i ≤ 999999999) (hj : j ≤ 999999999) (w : World) (hp : Pw w) :
    Calls Tryz.prog 39 #[.string (edtS i j)] w fun e w' => e = .returned (.tuple #[.int .i64 i, .int .i64 j, .bool true]) ∧ Below w.heap.size w w' := by
  have hc := Tryz.strings_CutPrefix (edtS i j) edtP w
  rw [edt_list, prefix_app, trim_app, show (⟨(Lib.decDigits i ++ 45 :: Lib.decDigits j).toArray⟩ : ByteArray) = tailG i j from rfl] at hc
  have hli := digits_len hi
  have hlj := digits_len hj
  have hsz : (tailG i j).size = (Lib.decDigits i).length + (1 + (Lib.decDigits j).length) := by
    show (Lib.decDigits i ++ 45 :: Lib.decDigits j).toArray.size = _
    rw [List.size_toArray, List.length_append, List.length_cons]
    omega
  have hls : (tailG i j).data.toList = Lib.decDigits i ++ 45 :: Lib.decDigits j := by simp [tailG]
  have HC := Lib.hid (fun w => cut_dash (tailG i j) (digS i) (digS j) (Lib.decDigits i).length w (by rw [hls]; exact index_dash _ _ (fun b hb e => by have := digits_digit i b hb; rw [e] at this; exact absurd this.1 (by decide))) (by omega) (by
      apply ByteArray.ext
      apply Array.toList_inj.1
      have : ((tailG i j).extract 0 (Lib.decDigits i).length).data.toList = ((tailG i j).data.toList).take (Lib.decDigits i).length := by simp
      rw [this, hls, List.take_left]
      rfl) (by
      apply ByteArray.ext
      apply Array.toList_inj.1
      have : ((tailG i j).extract ((Lib.decDigits i).length + 1) (tailG i j).size).data.toList = ((tailG i j).data.toList).drop ((Lib.decDigits i).length + 1) := by
        simp only [ByteArray.data_extract, Array.toList_extract, List.extract_eq_take_drop]
        rw [List.take_of_length_le (by rw [List.length_drop, hls, List.length_append, List.length_cons]; omega)]
      rw [this, hls, List.drop_append, List.drop_of_length_le (by omega), show (Lib.decDigits i).length + 1 - (Lib.decDigits i).length = 1 by omega]
      rfl) (by omega))
  have HNI := Lib.hid (fun w' (hb : Below w.heap.size w w') => number_g i hi w' (hp.below hb))
  have HNJ := Lib.hid (fun w' (hb : Below w.heap.size w w') => number_g j hj w' (hp.below hb))
  clear hi hj hli hlj hsz hls
  go_enter Tryz.func39, Tryz.ntmps39
  go_wp2_with (fail)
  refine hc.mono ?_
  rintro e w1 ⟨rfl, rfl⟩
  clear hc
  go_wp2_with (fail)
  refine (HC.out _).mono ?_
  rintro e w2 ⟨rfl, n, rfl⟩
  have HB2 : Hid (Below w1.heap.size w1 (w1.drewN n)) := Lib.hid ⟨rfl, rfl, rfl, Nat.le_refl _, fun _ _ => rfl⟩
  go_wp2_with (fail)
  refine (HNI.out _ HB2.out).mono ?_
  rintro e w3 ⟨rfl, hb3⟩
  have HB3 : Hid (Below w1.heap.size w1 w3) := Lib.hid (HB2.out.trans (hb3.mono HB2.out.size))
  clear hb3
  go_wp2_with (fail)
  refine (HNJ.out _ HB3.out).mono ?_
  rintro e w4 ⟨rfl, hb4⟩
  have HB4 : Hid (Below w1.heap.size w1 w4) := Lib.hid (HB3.out.trans (hb4.mono HB3.out.size))
  clear hb4
  go_wp2_with (fail)
  go_ret3
  exact ⟨rfl, HB4.out⟩
theorem dash_inj {a b c d : Nat} (h : Lib.decDigits a ++ 45 :: Lib.decDigits b = Lib.decDigits c ++ 45 :: Lib.decDigits d) : a = c ∧ b = d := by
  have no : ∀ u, ∀ x ∈ Lib.decDigits u, x ≠ 45 := fun u x hx e => by have := digits_digit u x hx; rw [e] at this; exact absurd this.1 (by decide)
  have h1 := index_dash (Lib.decDigits a) (Lib.decDigits b) (no a)
  rw [h, index_dash (Lib.decDigits c) (Lib.decDigits d) (no c)] at h1
  obtain ⟨e1, e2⟩ := List.append_inj h (by omega)
  injection e2 with _ e2
  exact ⟨digits_inj e1, digits_inj e2⟩
theorem edtS_inj {a b c d : Nat} (h : edtS a b = edtS c d) : a = c ∧ b = d := by
  have h1 := congrArg (fun x : ByteArray => x.data.toList) h
  simp only [edt_list] at h1
  exact dash_inj (List.append_cancel_left h1)
theorem imgS_inj {a b : Nat} (h : imgS a = imgS b) : a = b := by
  have h1 := congrArg (fun x : ByteArray => x.data.toList) h
  simp only [img_list] at h1
  exact digits_inj (List.append_cancel_left h1)
theorem edtS_img {a b c : Nat} : ¬ edtS a b = imgS c := fun h => by
  have h1 := congrArg (fun x : ByteArray => x.data.toList) h
  simp only [edt_list, img_list] at h1
  injection h1 with h1 _
  exact absurd h1 (by decide)
end Go.Proofs.YtlflfaldnpcjcaaGreatDoor

namespace Go.Proofs.YtlflfaldnpcjcaaGreatDoor
open Go.RowKit Go.Maps
/-- a name of the journal's: an image's, some records' -/
inductive Nm where
  | I (a : Nat)
  | E (a b : Nat)
def nmS : Nm → ByteArray
  | .I a => imgS a
  | .E a b => edtS a b
def okN : Nm → Prop
  | .I a => a ≤ 999999999
  | .E a b => a ≤ 999999999 ∧ b ≤ 999999999
theorem nmS_inj {x y : Nm} (h : nmS x = nmS y) : x = y := by
  match x, y with
  | .I a, .I b => rw [imgS_inj h]
  | .I a, .E b c => exact absurd h.symm edtS_img
  | .E a b, .I c => exact absurd h edtS_img
  | .E a b, .E c d =>
    obtain ⟨rfl, rfl⟩ := edtS_inj h
    rfl
/-- one name more: the segment, the number of the copy -/
def segN (m : Nat) : Nm → Nat
  | .I a => max m a
  | .E _ _ => m
def nthN (s m : Nat) : Nm → Nat
  | .I _ => m
  | .E a b => if a = s then max m b else m
def segK (ks : List Nm) : Nat := ks.foldl segN 0
def nthK (s : Nat) (ks : List Nm) : Nat := ks.foldl (nthN s) 0
theorem segK_take {ks : List Nm} {i : Nat} (h : i < ks.length) : segK (ks.take (i + 1)) = segN (segK (ks.take i)) ks[i] := by
  unfold segK
  rw [List.take_succ_eq_append_getElem h, List.foldl_append]
  rfl
theorem nthK_take (s : Nat) {ks : List Nm} {i : Nat} (h : i < ks.length) : nthK s (ks.take (i + 1)) = nthN s (nthK s (ks.take i)) ks[i] := by
  unfold nthK
  rw [List.take_succ_eq_append_getElem h, List.foldl_append]
  rfl
theorem segK_le {ks : List Nm} (h : ∀ k ∈ ks, okN k) (i : Nat) : segK (ks.take i) ≤ 999999999 := by
  induction i with
  | zero => simp [segK]
  | succ i ih =>
    by_cases hi : i < ks.length
    · rw [segK_take hi]
      have h2 := h ks[i] (List.getElem_mem hi)
      generalize ks[i] = k at h2
      cases k with
      | I a => exact Nat.max_le.2 ⟨ih, h2⟩
      | E a b => exact ih
    · rw [List.take_of_length_le (by omega)]
      rw [List.take_of_length_le (by omega)] at ih
      exact ih
theorem nthK_le (s : Nat) {ks : List Nm} (h : ∀ k ∈ ks, okN k) (i : Nat) : nthK s (ks.take i) ≤ 999999999 := by
  induction i with
  | zero => simp [nthK]
  | succ i ih =>
    by_cases hi : i < ks.length
    · rw [nthK_take s hi]
      have h2 := h ks[i] (List.getElem_mem hi)
      generalize ks[i] = k at h2
      cases k with
      | I a => exact ih
      | E a b =>
        show (if a = s then max _ b else _) ≤ _
        split
        · exact Nat.max_le.2 ⟨ih, h2.2⟩
        · exact ih
    · rw [List.take_of_length_le (by omega)]
      rw [List.take_of_length_le (by omega)] at ih
      exact ih
/-- the journal's cell of the segment, of the copy's number -/
theorem jat_s1 {w : World} {j p : Nat} {a b n c l : Int} (h : JAt w j p a n c l) : JAt (w.setCell ⟨j, 1, none⟩ (.int .i64 b)) j p b n c l := by
  obtain ⟨cs, hk⟩ := h.ty
  refine ⟨?_, ?_, ?_, ?_, ?_, ?_⟩
  · exact (World.cell?_setCell_other _ _ _ _ (by simp)).trans h.c0
  · exact World.cell?_setCell_same _ _ _ h.c1
  · exact (World.cell?_setCell_other _ _ _ _ (by simp)).trans h.c2
  · exact (World.cell?_setCell_other _ _ _ _ (by simp)).trans h.c3
  · exact (World.cell?_setCell_other _ _ _ _ (by simp)).trans h.c4
  · exact ⟨cs.set! 1 (.int .i64 b), by simp [World.setCell, Array.getElem?_modify, hk]⟩
theorem jat_s2 {w : World} {j p : Nat} {s a b c l : Int} (h : JAt w j p s a c l) : JAt (w.setCell ⟨j, 2, none⟩ (.int .i64 b)) j p s b c l := by
  obtain ⟨cs, hk⟩ := h.ty
  refine ⟨?_, ?_, ?_, ?_, ?_, ?_⟩
  · exact (World.cell?_setCell_other _ _ _ _ (by simp)).trans h.c0
  · exact (World.cell?_setCell_other _ _ _ _ (by simp)).trans h.c1
  · exact World.cell?_setCell_same _ _ _ h.c2
  · exact (World.cell?_setCell_other _ _ _ _ (by simp)).trans h.c3
  · exact (World.cell?_setCell_other _ _ _ _ (by simp)).trans h.c4
  · exact ⟨cs.set! 2 (.int .i64 b), by simp [World.setCell, Array.getElem?_modify, hk]⟩
/-- a list of names in a world: their cells -/
def NmsG (w : World) (a : Option Addr) (ks : List Nm) : Prop := ∀ i (h : i < ks.length), ∃ g, a = some ⟨g, 0, none⟩ ∧ w.cell? ⟨g, i, none⟩ = some (.string (nmS ks[i]))
theorem NmsG.keep {w w' : World} {a : Option Addr} {ks : List Nm} (h : NmsG w a ks) (hk : ∀ g i v, a = some ⟨g, 0, none⟩ → w.cell? ⟨g, i, none⟩ = some v → w'.cell? ⟨g, i, none⟩ = some v) : NmsG w' a ks := fun i hi => by
  obtain ⟨g, h1, h2⟩ := h i hi
  exact ⟨g, h1, hk g i _ h1 h2⟩
theorem cell_ltG {w : World} {d k : Nat} {v : Value} (hc : w.cell? ⟨d, k, none⟩ = some v) : d < w.heap.size := by
  unfold World.cell? at hc
  dsimp only at hc
  cases ho : w.heap[d]? with
  | none => rw [ho] at hc; cases hc
  | some o => exact (Array.getElem?_eq_some_iff.1 ho).1
/-- in the loops: the journal's cells, the names, what was below -/
structure NwG (W w : World) (j p : Nat) (a : Option Addr) (ks : List Nm) (s n : Nat) : Prop where
  jt : JAt w j p s n 0 0
  nm : NmsG w a ks
  bel : Below W.heap.size W w
  jl : W.heap.size ≤ j
  ne : 0 < ks.length → ∀ g, a = some ⟨g, 0, none⟩ → g ≠ j
theorem NwG.below {W w w' : World} {j p : Nat} {a : Option Addr} {ks : List Nm} {s n : Nat} (h : NwG W w j p a ks s n) (hb : Below w.heap.size w w') : NwG W w' j p a ks s n :=
  ⟨h.jt.same (hb.block _ h.jt.lt), h.nm.keep (fun g i v _ hv => (hb.cell (p := ⟨g, i, none⟩) (cell_ltG hv)).trans hv), h.bel.trans (hb.mono h.bel.size), h.jl, h.ne⟩
theorem NwG.set {W w : World} {j p i : Nat} {a : Option Addr} {ks : List Nm} {s n s' n' : Nat} {v : Value} (h : NwG W w j p a ks s n) (hj : JAt (w.setCell ⟨j, i, none⟩ v) j p s' n' 0 0) : NwG W (w.setCell ⟨j, i, none⟩ v) j p a ks s' n' := by
  refine ⟨hj, fun k hk => ?_, Below.setCell (p := ⟨j, i, none⟩) h.bel h.jl _, h.jl, h.ne⟩
  obtain ⟨g, h1, h2⟩ := h.nm k hk
  exact ⟨g, h1, (World.cell?_setCell_other _ _ _ _ (fun e => h.ne (by omega) g h1 (by injection e with e; exact e.symm))).trans h2⟩
set_option maxRecDepth 100000 in
set_option maxHeartbeats 2000000 in
theorem newest_G {w0 w : World} {p n : Nat} {S : Nat → Prop} {cp : Int} {L : Fs} (ks : List Nm) (h : Hid (DK w0 w p S cp n L [])) (hn : n ≤ 8796093022206) (hkl : ks.length ≤ 100) (hks : namesF L = ks.map nmS) (hok : ∀ k ∈ ks, okN k) (hpw : ∀ w', Below w0.heap.size w0 w' → Pw w') :
    Calls Tryz.prog 18 #[.pointer (some ⟨p, 0, none⟩)] w fun e w' => e = .returned (.pointer (some ⟨w.heap.size, 0, none⟩)) ∧ Hid (JAt w' w.heap.size p (segK ks) (nthK (segK ks) ks) 0 0 ∧ Below w.heap.size w w') := by
  have hbl : Below w.heap.size w (w.alloc (.cells #[.pointer (some ⟨p, 0, none⟩), .int .i64 0, .int .i64 0, .int .i64 0, .int .i64 0] 59)) := (Below.refl _ w).alloc (Nat.le_refl _) _
  have HD := Lib.hid (h.out.below hbl)
  have HJ := Lib.hid (jat_new w p)
  have HB := Lib.hid hbl
  have hLl : L.length = ks.length := by
    have := congrArg List.length hks
    simpa [namesF] using this
  have HK := Lib.hid (And.intro hks (And.intro hok (And.intro hn hLl)))
  have HP : Hid (∀ w', Below w.heap.size w w' → Pw w') := Lib.hid fun w' hb => hpw w' (h.out.bel.trans (hb.mono h.out.bel.size))
  clear hbl h hks hok hn hLl hpw
  obtain ⟨j, hj⟩ : ∃ j, j = w.heap.size := ⟨_, rfl⟩
  have HJL := Lib.hid hj
  obtain ⟨w1, hw1⟩ : ∃ w1, w1 = w.alloc (.cells #[.pointer (some ⟨p, 0, none⟩), .int .i64 0, .int .i64 0, .int .i64 0, .int .i64 0] 59) := ⟨_, rfl⟩
  go_enter Tryz.func18, Tryz.ntmps18
  go_wp2_with (fail)
  rw [← hw1] at HD HJ HB ⊢
  rw [← hj] at HJ ⊢
  have HS := Lib.hid (show w1.heap.size = j + 1 by rw [hw1, hj]; simp)
  clear hw1 hj
  refine (list_K HD HK.out.2.2.1 (by have := HK.out.2.2.2; show L.length ≤ _; omega)).mono ?_
  rintro e w2 ⟨v, rfl, hv⟩
  obtain ⟨⟨a, c, rfl, hsl⟩, hb2⟩ := hv.out
  have hnm : namesF (held L []) = ks.map nmS := HK.out.1
  rw [hnm] at hsl ⊢
  rw [List.length_map]
  have HNW : Hid (NwG w w2 j p a ks 0 0) := by
    refine Lib.hid ⟨?_, fun i hi => ?_, HB.out.trans (hb2.mono HB.out.size), Nat.le_of_eq HJL.out.symm, fun h0 g hg => ?_⟩
    · have := HJ.out.same (hb2.block j (by rw [HS.out]; omega))
      simpa using this
    · obtain ⟨g, h1, h2, h3⟩ := hsl i (nmS ks[i]) (by simp [hi])
      exact ⟨g, h1, h3⟩
    · obtain ⟨g', h1, h2, h3⟩ := hsl 0 (nmS ks[0]) (by simp [h0])
      rw [hg] at h1
      injection h1 with h1
      injection h1 with h1
      have := HS.out
      omega
  clear hsl hb2 hv hnm HJ HB HD
  obtain ⟨len, hlen⟩ : ∃ len, len = ks.length := ⟨_, rfl⟩
  rw [← hlen]
  have HLN := Lib.hid hlen
  have hl100 : len ≤ 100 := by rw [hlen]; exact hkl
  clear hlen hkl
  have HOK := Lib.hid HK.out.2.1
  go_wp2_with (fail)
  go_loopw [21] (fun i wr => ∃ k : Nat, k ≤ len ∧ i = .int .i64 (k : Int) ∧ Hid (NwG w wr j p a ks (segK (ks.take k)) 0)) (fun i _ => len - (intOf i).toNat)
  case atStart => exact ⟨0, Nat.zero_le _, rfl, HNW⟩
  case round =>
    obtain ⟨k, hk, rfl, HM⟩ := hrel
    clear HNW
    by_cases hlt : k < len
    · have hkl : k < ks.length := by have := HLN.out; omega
      obtain ⟨g, rfl, hcell⟩ := HM.out.nm k hkl
      have hok := HOK.out _ (List.getElem_mem hkl)
      have hst := segK_take hkl
      obtain ⟨kk, hkk⟩ : ∃ kk, kk = ks[k] := ⟨_, rfl⟩
      obtain ⟨M, hM⟩ : ∃ M, M = segK (ks.take k) := ⟨_, rfl⟩
      rw [← hkk] at hcell hok hst
      rw [← hM] at hst
      have HA : Hid (NwG w wr j p (some ⟨g, 0, none⟩) ks M 0) := Lib.hid (by rw [hM]; exact HM.out)
      have HST := Lib.hid hst
      have hM9 : M ≤ 999999999 := by rw [hM]; exact segK_le HOK.out k
      clear hkk hM hst HM
      cases kk with
      | I x =>
        have him := image_of_img x hok wr (HP.out wr HA.out.bel)
        rw [show nmS (.I x) = imgS x from rfl] at hcell
        go_wp2_with (fail)
        refine him.mono ?_
        rintro e w5 ⟨rfl, hb5⟩
        have H5 := Lib.hid (HA.out.below hb5)
        clear hb5 him HA hcell
        have c1 := H5.out.jt.c1
        have f1 := H5.out.jt.fr 1
        go_wp2_with (fail)
        have hmx : (max (M : Int) (x : Int)) = ((max M x : Nat) : Int) := by omega
        refine ⟨⟨k + 1, by omega, by simp, Lib.hid ?_⟩, by simp [intOf]; omega⟩
        rw [HST.out, hmx]
        exact H5.out.set (jat_s1 H5.out.jt)
      | E x y =>
        have him := image_of_edt x y wr
        rw [show nmS (.E x y) = edtS x y from rfl] at hcell
        go_wp2_with (fail)
        refine him.mono ?_
        rintro e w5 ⟨rfl, rfl⟩
        clear him hcell
        go_wp2_with (fail)
        refine ⟨⟨k + 1, by omega, by simp, Lib.hid ?_⟩, by simp [intOf]; omega⟩
        rw [HST.out]
        exact HA.out
    · obtain rfl : k = len := by omega
      obtain ⟨s, hs⟩ : ∃ s, s = segK ks := ⟨_, rfl⟩
      have HN0 : Hid (NwG w wr j p a ks s 0) := Lib.hid (by
        have := HM.out
        rw [List.take_of_length_le (Nat.le_of_eq HLN.out.symm), ← hs] at this
        exact this)
      have HSG := Lib.hid hs
      clear HM hs hk hlt
      obtain ⟨w6, hw6⟩ : ∃ w6, w6 = wr := ⟨_, rfl⟩
      rw [← hw6] at HN0 ⊢
      clear hw6
      go_wp2_with (fail)
      go_loopw [43] (fun i wr => ∃ m : Nat, m ≤ k ∧ i = .int .i64 (m : Int) ∧ Hid (NwG w wr j p a ks s (nthK s (ks.take m)))) (fun i _ => k - (intOf i).toNat)
      case atStart => exact ⟨0, Nat.zero_le _, rfl, HN0⟩
      case round =>
        obtain ⟨m, hm, rfl, HM⟩ := hrel
        clear HN0
        by_cases hlt : m < k
        · have hkl : m < ks.length := by have := HLN.out; omega
          obtain ⟨g, rfl, hcell⟩ := HM.out.nm m hkl
          have hok := HOK.out _ (List.getElem_mem hkl)
          have hst := nthK_take s hkl
          obtain ⟨kk, hkk⟩ : ∃ kk, kk = ks[m] := ⟨_, rfl⟩
          obtain ⟨N, hN⟩ : ∃ N, N = nthK s (ks.take m) := ⟨_, rfl⟩
          rw [← hkk] at hcell hok hst
          rw [← hN] at hst
          have HA : Hid (NwG w wr j p (some ⟨g, 0, none⟩) ks s N) := Lib.hid (by rw [hN]; exact HM.out)
          have HST := Lib.hid hst
          clear hkk hN hst HM
          cases kk with
          | I x =>
            have him := edits_of_img x wr
            rw [show nmS (.I x) = imgS x from rfl] at hcell
            go_wp2_with (fail)
            refine him.mono ?_
            rintro e w5 ⟨rfl, rfl⟩
            clear him hcell
            go_wp2_with (fail)
            refine ⟨⟨m + 1, by omega, by simp, Lib.hid ?_⟩, by simp [intOf]; omega⟩
            rw [HST.out]
            exact HA.out
          | E x y =>
            have him := edits_of_edt x y hok.1 hok.2 wr (HP.out wr HA.out.bel)
            rw [show nmS (.E x y) = edtS x y from rfl] at hcell
            go_wp2_with (fail)
            refine him.mono ?_
            rintro e w5 ⟨rfl, hb5⟩
            have H5 := Lib.hid (HA.out.below hb5)
            clear hb5 him HA hcell
            have c1 := H5.out.jt.c1
            have c2 := H5.out.jt.c2
            have f2 := H5.out.jt.fr 2
            by_cases hxs : (x : Int) = (s : Int)
            · have hx : x = s := by omega
              go_wp2_with (fail)
              have hmx : (max (N : Int) (y : Int)) = ((max N y : Nat) : Int) := by omega
              refine ⟨⟨m + 1, by omega, by simp, Lib.hid ?_⟩, by simp [intOf]; omega⟩
              rw [HST.out, hmx, show nthN s N (.E x y) = max N y from if_pos hx]
              exact H5.out.set (jat_s2 H5.out.jt)
            · have hx : ¬ x = s := by omega
              go_wp2_with (fail)
              refine ⟨⟨m + 1, by omega, by simp, Lib.hid ?_⟩, by simp [intOf]; omega⟩
              rw [HST.out, show nthN s N (.E x y) = N from if_neg hx]
              exact H5.out
        · obtain rfl : m = k := by omega
          have HM2 : Hid (JAt wr j p (segK ks) (nthK (segK ks) ks) 0 0 ∧ Below w.heap.size w wr) := Lib.hid ⟨by
            have := HM.out.jt
            rw [List.take_of_length_le (Nat.le_of_eq HLN.out.symm), HSG.out] at this
            exact this, HM.out.bel⟩
          clear HM
          go_wp2
          go_ret
          refine ⟨by rw [HJL.out]; rfl, Lib.hid ⟨?_, HM2.out.2⟩⟩
          have h := HM2.out.1
          rw [HJL.out] at h
          exact h
end Go.Proofs.YtlflfaldnpcjcaaGreatDoor

namespace Go.Proofs.YtlflfaldnpcjcaaGreatDoor
open Go.RowKit Go.Maps
set_option maxRecDepth 100000 in
set_option maxHeartbeats 2000000 in
theorem jimage_g (j p s : Nat) (n c l : Int) (w : World) (hs : s ≤ 999999999) (hp : Pw w) (h : Hid (JAt w j p s n c l)) :
    Calls Tryz.prog 30 #[.pointer (some ⟨j, 0, none⟩)] w fun e w' => e = .returned (.string (imgS s)) ∧ Below w.heap.size w w' := by
  have c1 := h.out.c1
  have him := image_name_g s hs w hp
  clear hs hp
  go_enter Tryz.func30, Tryz.ntmps30
  go_wp2_with (fail)
  refine him.mono ?_
  rintro e w' ⟨rfl, hb⟩
  have HB := Lib.hid hb
  clear hb him
  go_wp2
  go_ret
  exact ⟨rfl, HB.out⟩
set_option maxRecDepth 100000 in
set_option maxHeartbeats 2000000 in
theorem jedits_g (j p s n : Nat) (c l : Int) (w : World) (hs : s ≤ 999999999) (hn : n ≤ 999999999) (hp : Pw w) (h : Hid (JAt w j p s n c l)) :
    Calls Tryz.prog 20 #[.pointer (some ⟨j, 0, none⟩)] w fun e w' => e = .returned (.string (edtS s n)) ∧ Below w.heap.size w w' := by
  have hS0 : w.drew.cell? ⟨j, 1, none⟩ = some (.int .i64 s) ∧ w.drew.cell? ⟨j, 2, none⟩ = some (.int .i64 n) := ⟨h.out.c1, h.out.c2⟩
  have hbd : Below w.heap.size w w.drew := ⟨rfl, rfl, rfl, Nat.le_refl _, fun _ _ => rfl⟩
  have HN := Lib.hid (fun w' (hb : Below w.heap.size w w') => edits_name_g s n hs hn w' (hp.below hb))
  have HC : Hid (∀ w', Below w.heap.size w w' → w'.cell? ⟨j, 1, none⟩ = some (.int .i64 s) ∧ w'.cell? ⟨j, 2, none⟩ = some (.int .i64 n)) := Lib.hid fun w' hb => ⟨(hb.cell (p := ⟨j, 1, none⟩) h.out.lt).trans h.out.c1, (hb.cell (p := ⟨j, 2, none⟩) h.out.lt).trans h.out.c2⟩
  have HB := Lib.hid hbd
  clear hs hn hp hbd
  go_enter Tryz.func20, Tryz.ntmps20
  go_upto_region 1 with (fail)
  go_region_held3 (fun w' => w'.cell? ⟨j, 1, none⟩ = some (.int .i64 s) ∧ w'.cell? ⟨j, 2, none⟩ = some (.int .i64 n)) (assumption)
    (first
      | (go_at_call 40; with_reducible refine (HN.out _ (by first | exact HB.out)).mono ?_; rintro e w6 ⟨rfl, hb6⟩; have hB6 : Below w.heap.size w w6 := HB.out.trans (hb6.mono HB.out.size); have hS6 := HC.out _ hB6))
  all_goals
    go_wp2
    go_ret
    exact ⟨rfl, hB6⟩
/-- is a name left over, where the segment is s, the copy n? -/
def leftN (s n : Nat) : Nm → Bool
  | .I a => decide (a ≠ s)
  | .E a b => decide (¬ (a = s ∧ b = n))
theorem img_tmp (a : Nat) : ((imgS a).toList == [116, 109, 112]) = false := by rw [ByteArray.toList_eq, img_list]; rfl
theorem edt_tmp (a b : Nat) : ((edtS a b).toList == [116, 109, 112]) = false := by rw [ByteArray.toList_eq, edt_list]; rfl
theorem img_eq (a b : Nat) : ((imgS a).toList == (imgS b).toList) = decide (a = b) := by
  rw [Bool.eq_iff_iff, beq_iff_eq, decide_eq_true_iff, ByteArray.toList_eq, ByteArray.toList_eq]
  exact ⟨fun h => imgS_inj (ByteArray.ext (Array.toList_inj.1 h)), fun h => by rw [h]⟩
theorem edt_eq (a b c d : Nat) : ((edtS a b).toList == (edtS c d).toList) = decide (a = c ∧ b = d) := by
  rw [Bool.eq_iff_iff, beq_iff_eq, decide_eq_true_iff, ByteArray.toList_eq, ByteArray.toList_eq]
  exact ⟨fun h => edtS_inj (ByteArray.ext (Array.toList_inj.1 h)), fun h => by rw [h.1, h.2]⟩
set_option maxRecDepth 100000 in
set_option maxHeartbeats 2000000 in
theorem left_G (j p s n : Nat) (c l : Int) (x : Nm) (w : World) (hx : okN x) (hs : s ≤ 999999999) (hn : n ≤ 999999999) (hp : Pw w) (h : Hid (JAt w j p s n c l)) :
    Calls Tryz.prog 42 #[.pointer (some ⟨j, 0, none⟩), .string (nmS x)] w fun e w' => e = .returned (.bool (leftN s n x)) ∧ Below w.heap.size w w' := by
  have HJ : Hid (∀ w', Below w.heap.size w w' → Hid (JAt w' j p s n c l) ∧ Pw w') := Lib.hid fun w' hb => ⟨Lib.hid (h.out.same (hb.block j h.out.lt)), hp.below hb⟩
  have HSN := Lib.hid (And.intro hs hn)
  clear hs hn h
  cases x with
  | I a =>
    have him := image_of_img a hx w hp
    have ht := img_tmp a
    have hq := img_eq a s
    rw [show nmS (.I a) = imgS a from rfl]
    clear hx hp
    go_enter Tryz.func42, Tryz.ntmps42
    go_wp2_with (fail)
    refine him.mono ?_
    rintro e w1 ⟨rfl, hb1⟩
    have HB1 := Lib.hid hb1
    clear him hb1
    go_wp2_with (fail)
    refine (edits_of_img a w1).mono ?_
    rintro e w2 ⟨rfl, rfl⟩
    have hi2 := jimage_g j p s n c l w1 HSN.out.1 (HJ.out w1 HB1.out).2 (HJ.out w1 HB1.out).1
    go_wp2_with (fail)
    refine hi2.mono ?_
    rintro e w3 ⟨rfl, hb3⟩
    have HB3 := Lib.hid (HB1.out.trans (hb3.mono HB1.out.size))
    clear hi2 hb3 HB1
    by_cases e1 : a = s
    · have hq2 : ((imgS a).toList == (imgS s).toList) = true := by rw [hq]; simp [e1]
      have hl : leftN s n (.I a) = false := by simp [leftN, e1]
      have HL := Lib.hid hl
      clear hq hl e1
      go_wp2_with (fail)
      go_ret
      exact ⟨by rw [HL.out]; rfl, HB3.out⟩
    · have hq2 : ((imgS a).toList == (imgS s).toList) = false := by rw [hq]; simp [e1]
      have hl : leftN s n (.I a) = true := by simp [leftN, e1]
      have HL := Lib.hid hl
      clear hq hl e1
      go_wp2_with (fail)
      go_ret
      exact ⟨by rw [HL.out]; rfl, HB3.out⟩
  | E a b =>
    have him := edits_of_edt a b hx.1 hx.2 w hp
    have ht := edt_tmp a b
    have hq := edt_eq a b s n
    rw [show nmS (.E a b) = edtS a b from rfl]
    clear hx hp
    go_enter Tryz.func42, Tryz.ntmps42
    go_wp2_with (fail)
    refine (image_of_edt a b w).mono ?_
    rintro e w1 ⟨rfl, rfl⟩
    go_wp2_with (fail)
    refine him.mono ?_
    rintro e w2 ⟨rfl, hb2⟩
    have HB2 := Lib.hid hb2
    clear him hb2
    have hi2 := jedits_g j p s n c l w2 HSN.out.1 HSN.out.2 (HJ.out w2 HB2.out).2 (HJ.out w2 HB2.out).1
    go_wp2_with (fail)
    refine hi2.mono ?_
    rintro e w3 ⟨rfl, hb3⟩
    have HB3 := Lib.hid (HB2.out.trans (hb3.mono HB2.out.size))
    clear hi2 hb3 HB2
    by_cases e1 : a = s ∧ b = n
    · have hq2 : ((edtS a b).toList == (edtS s n).toList) = true := by rw [hq]; simp [e1]
      have hl : leftN s n (.E a b) = false := by simp [leftN, e1]
      have HL := Lib.hid hl
      clear hq hl e1
      go_wp2_with (fail)
      go_ret
      exact ⟨by rw [HL.out]; rfl, HB3.out⟩
    · have hq2 : ((edtS a b).toList == (edtS s n).toList) = false := by rw [hq]; simp [e1]
      have hl : leftN s n (.E a b) = true := by simp [leftN, e1]
      have HL := Lib.hid hl
      clear hq hl e1
      go_wp2_with (fail)
      go_ret
      exact ⟨by rw [HL.out]; rfl, HB3.out⟩
end Go.Proofs.YtlflfaldnpcjcaaGreatDoor

namespace Go.Proofs.YtlflfaldnpcjcaaGreatDoor
open Go.RowKit Go.Maps
/-- the changes that take files away, all that are left over -/
def delG (ks : List Nm) (s n : Nat) : List Chg := (ks.filter (leftN s n)).map fun k => .del (nmS k)
theorem delG_take {ks : List Nm} {i s n : Nat} (h : i < ks.length) : delG (ks.take (i + 1)) s n = if leftN s n ks[i] = true then delG (ks.take i) s n ++ [.del (nmS ks[i])] else delG (ks.take i) s n := by
  unfold delG
  rw [List.take_succ_eq_append_getElem h, List.filter_append, List.map_append]
  by_cases e : leftN s n ks[i] = true <;> simp [e]
theorem get_delsG (q : ByteArray) (s n : Nat) : ∀ (ks : List Nm) (L : Fs), getF (held L (delG ks s n)) q = if ∃ k ∈ ks, leftN s n k = true ∧ nmS k = q then none else getF L q := by
  intro ks
  induction ks with
  | nil => intro L; simp [delG, held_nil]
  | cons k ks ih =>
    intro L
    by_cases e : leftN s n k = true
    · rw [show delG (k :: ks) s n = [.del (nmS k)] ++ delG ks s n by simp [delG, e], held_app, ih]
      show (if _ then none else getF (delF L (nmS k)) q) = _
      rw [getF_delF]
      by_cases e1 : ∃ k ∈ ks, leftN s n k = true ∧ nmS k = q
      · rw [if_pos e1, if_pos (by obtain ⟨x, h1, h2⟩ := e1; exact ⟨x, List.mem_cons_of_mem _ h1, h2⟩)]
      · rw [if_neg e1]
        by_cases e2 : q = nmS k
        · rw [if_pos e2, if_pos ⟨k, List.mem_cons_self .., e, e2.symm⟩]
        · rw [if_neg e2, if_neg (by
            rintro ⟨x, h1, h2, h3⟩
            rcases List.mem_cons.1 h1 with rfl | h1
            · exact e2 h3.symm
            · exact e1 ⟨x, h1, h2, h3⟩)]
    · rw [show delG (k :: ks) s n = delG ks s n by simp [delG, e], ih]
      by_cases e1 : ∃ k ∈ ks, leftN s n k = true ∧ nmS k = q
      · rw [if_pos e1, if_pos (by obtain ⟨x, h1, h2⟩ := e1; exact ⟨x, List.mem_cons_of_mem _ h1, h2⟩)]
      · rw [if_neg e1, if_neg (by
          rintro ⟨x, h1, h2, h3⟩
          rcases List.mem_cons.1 h1 with rfl | h1
          · exact e h2
          · exact e1 ⟨x, h1, h2, h3⟩)]
theorem nm_size (k : Nm) (h : okN k) : (nmS k).size ≤ 64 := by
  cases k with
  | I a =>
    have h1 := digS_g h
    have h2 : (imgS a).size = 6 + (digS a).size := by unfold imgS; rw [ByteArray.size_append]; rfl
    show (imgS a).size ≤ 64
    omega
  | E a b =>
    have h1 := digS_g h.1
    have h2 := digS_g h.2
    have h3 : (edtS a b).size = 6 + (digS a).size + 1 + (digS b).size := by unfold edtS; simp only [ByteArray.size_append]; rfl
    show (edtS a b).size ≤ 64
    omega
theorem delG_wts (ks : List Nm) (s n : Nat) : wts (delG ks s n) = 0 := by
  unfold delG wts
  induction (ks.filter (leftN s n)) with
  | nil => rfl
  | cons k ks ih => simpa [wtC] using ih
theorem delG_len (ks : List Nm) (s n : Nat) : (delG ks s n).length ≤ ks.length := by
  unfold delG
  rw [List.length_map]
  exact List.length_filter_le _ _
theorem tot_delsG (L : Fs) (hs : SrtF L) (ks : List Nm) (hok : ∀ k ∈ ks, okN k) (s n : Nat) : totF (held L (delG ks s n)) ≤ totF L := by
  have := tot_held hs (delG ks s n) (fun x hx => by
    obtain ⟨k, hk, rfl⟩ := List.mem_map.1 hx
    exact nm_size k (hok k (List.mem_filter.1 hk).1))
  rw [delG_wts] at this
  exact this
/-- some of the names have been looked at -/
structure SwG (w0 W w : World) (j p : Nat) (S : Nat → Prop) (cp : Int) (n : Nat) (L : Fs) (ks : List Nm) (sg c i : Nat) (cnt lst : Int) (a : Option Addr) : Prop where
  ex : ∃ S' n', n' ≤ n + i ∧ JS w0 w j p S' cp n' L (delG (ks.take i) sg c) sg c cnt lst ∧ JP W w S S' ∧ (0 < ks.length → ∀ g, a = some ⟨g, 0, none⟩ → g < w.heap.size ∧ ¬ S' g)
  nm : NmsG w a ks
set_option maxRecDepth 100000 in
set_option maxHeartbeats 4000000 in
theorem sweep_G {w0 w : World} {j p n : Nat} {S : Nat → Prop} {cp cnt lst : Int} {L : Fs} (ks : List Nm) (sg c : Nat) (h : Hid (JS w0 w j p S cp n L [] sg c cnt lst)) (hn : n ≤ 1099511627776) (hkl : ks.length ≤ 100) (hL : L.length ≤ 100) (hks : namesF L = ks.map nmS) (hk9 : ∀ k ∈ ks, okN k) (hnd : ks.Nodup) (hc : sg ≤ 999999999 ∧ c ≤ 999999999) (hpw : ∀ w', Below w0.heap.size w0 w' → Pw w') (hsz : totF L ≤ 140737488355328) :
    Calls Tryz.prog 23 #[.pointer (some ⟨j, 0, none⟩)] w fun e w' => e = .returned (.tuple #[]) ∧ ∃ S' n', n' ≤ n + 2 * ks.length ∧ Hid (JS w0 w' j p S' cp n' (held L (delG ks sg c)) [] sg c cnt lst ∧ JP w w' S S') := by
  have c0 := h.out.jt.c0
  have HP := Lib.hid hpw
  have HF := Lib.hid (And.intro hn (And.intro hkl (And.intro hL (And.intro hks (And.intro hk9 (And.intro hnd (And.intro hc hsz)))))))
  clear hn hkl hL hks hk9 hnd hc hsz hpw
  go_enter Tryz.func23, Tryz.ntmps23
  go_wp2_with (fail)
  refine (list_K (Lib.hid h.out.dk) (by have := HF.out.1; omega) (by have := HF.out.2.2.1; show L.length ≤ _; omega)).mono ?_
  rintro e w2 ⟨v, rfl, hv⟩
  obtain ⟨⟨a, cc, rfl, hsl⟩, hb2⟩ := hv.out
  have hnm : namesF (held L []) = ks.map nmS := HF.out.2.2.2.1
  rw [hnm] at hsl ⊢
  rw [List.length_map]
  have HS0 : Hid (SwG w0 w w2 j p S cp n L ks sg c 0 cnt lst a) := Lib.hid ⟨⟨S, n, Nat.le_refl _, h.out.below hb2, JP.bel hb2, fun hk g hg => by
      obtain ⟨g', h1, h2, h3⟩ := hsl 0 (nmS ks[0]) (by rw [List.getElem?_map, List.getElem?_eq_getElem hk]; rfl)
      rw [hg] at h1
      injection h1 with h1
      injection h1 with h1
      subst h1
      exact ⟨cell_ltG h3, fun hs => by have := (h.out.dk.m.own g hs).2; omega⟩⟩, fun i hi => by
      obtain ⟨g, h1, h2, h3⟩ := hsl i (nmS ks[i]) (by simp [hi])
      exact ⟨g, h1, h3⟩⟩
  clear hsl hb2 hv hnm c0
  obtain ⟨len, hlen⟩ : ∃ len, len = ks.length := ⟨_, rfl⟩
  rw [← hlen]
  have HLN := Lib.hid hlen
  have hl100 : len ≤ 100 := by rw [hlen]; exact HF.out.2.1
  clear hlen
  go_wp2_with (fail)
  go_loopw [10] (fun i wr => ∃ k : Nat, k ≤ len ∧ i = .int .i64 (k : Int) ∧ Hid (SwG w0 w wr j p S cp n L ks sg c k cnt lst a)) (fun i _ => len - (intOf i).toNat)
  case atStart => exact ⟨0, Nat.zero_le _, rfl, HS0⟩
  case round =>
    obtain ⟨k, hk, rfl, HK⟩ := hrel
    clear HS0
    by_cases hlt : k < len
    · have hkl : k < ks.length := by have := HLN.out; omega
      obtain ⟨g, rfl, hcell⟩ := HK.out.nm k hkl
      have hk10 : okN ks[k] := HF.out.2.2.2.2.1 _ (List.getElem_mem hkl)
      have htk := delG_take (s := sg) (n := c) hkl
      have hnot : ∀ x ∈ ks.take k, x ≠ ks[k] := fun x hx e => by
        obtain ⟨i, hi, hxi⟩ := List.getElem_of_mem hx
        rw [List.length_take] at hi
        have h3 := List.pairwise_iff_getElem.1 HF.out.2.2.2.2.2.1 i k (by omega) hkl (by omega)
        rw [List.getElem_take] at hxi
        exact h3 (hxi.trans e)
      obtain ⟨S1, n1, hn1, hJ, hP, hS⟩ := HK.out.ex
      have hget : (getF (held L (delG (ks.take k) sg c)) (nmS ks[k])).isSome = true := by
        rw [get_delsG, if_neg (by
          rintro ⟨x, h1, h2, h3⟩
          exact hnot x h1 (nmS_inj h3))]
        have hmem : nmS ks[k] ∈ namesF L := by rw [HF.out.2.2.2.1]; exact List.mem_map.2 ⟨_, List.getElem_mem hkl, rfl⟩
        obtain ⟨x, h1, h2⟩ := List.mem_map.1 hmem
        have h3 := mem_getF h.out.dk.srt h1
        rw [← h2, h3]
        rfl
      obtain ⟨kk, hkk⟩ : ∃ kk, kk = ks[k] := ⟨_, rfl⟩
      rw [← hkk] at hcell hk10 htk hget
      have H1 := Lib.hid (And.intro hJ (And.intro hP (And.intro (hS (by omega) g rfl) (And.intro hget (And.intro htk (And.intro HK.out.nm hn1))))))
      clear hJ hP hS hget htk hkk hnot HK hn1
      go_wp2_with (fail)
      refine (left_G j p sg c cnt lst kk wr hk10 HF.out.2.2.2.2.2.2.1.1 HF.out.2.2.2.2.2.2.1.2 (HP.out wr H1.out.1.dk.bel) (Lib.hid H1.out.1.jt)).mono ?_
      rintro e w3 ⟨rfl, hb3⟩
      have H3 : Hid (JS w0 w3 j p S1 cp n1 L (delG (ks.take k) sg c) sg c cnt lst ∧ JP w w3 S S1 ∧ (g < w3.heap.size ∧ ¬ S1 g) ∧ NmsG w3 (some ⟨g, 0, none⟩) ks) :=
        Lib.hid ⟨H1.out.1.below hb3, H1.out.2.1.trans (JP.bel hb3), ⟨Nat.lt_of_lt_of_le H1.out.2.2.1.1 hb3.size, H1.out.2.2.1.2⟩, H1.out.2.2.2.2.2.1.keep (fun g' i v _ hv => (hb3.cell (p := ⟨g', i, none⟩) (cell_ltG hv)).trans hv)⟩
      clear hb3 hcell
      by_cases hkc : leftN sg c kk = false
      · have htk := H1.out.2.2.2.2.1
        rw [if_neg (by rw [hkc]; decide)] at htk
        have HS1 : Hid (SwG w0 w w3 j p S cp n L ks sg c (k + 1) cnt lst (some ⟨g, 0, none⟩)) := Lib.hid ⟨⟨S1, n1, by have := H1.out.2.2.2.2.2.2; omega, by rw [htk]; exact H3.out.1, H3.out.2.1, fun _ g' hg => by
          injection hg with hg
          injection hg with hg
          subst hg
          exact H3.out.2.2.1⟩, H3.out.2.2.2⟩
        have hdec : leftN sg c kk = false := hkc
        rw [hdec]
        clear H1 H3 htk hdec
        go_wp2_with (fail)
        exact ⟨⟨k + 1, by omega, by simp, HS1⟩, by simp [intOf]; omega⟩
      · have htk := H1.out.2.2.2.2.1
        rw [if_pos (by simpa using hkc)] at htk
        have hdec : leftN sg c kk = true := by simpa using hkc
        rw [hdec]
        have hR : delR (held L (delG (ks.take k) sg c)) (nmS kk) = 0 := by unfold delR; rw [if_pos H1.out.2.2.2.1]
        have hde := delete_K (nmS kk) (Lib.hid H3.out.1.dk) (Nat.le_trans (nm_size kk hk10) (by unfold maxLen; decide)) (by have h1 := H1.out.2.2.2.2.2.2; have h2 := HF.out.1; unfold maxLen; omega) (by have h1 := delG_len (ks.take k) sg c; rw [List.length_take] at h1; omega) (Nat.le_trans (tot_delsG L h.out.dk.srt _ (fun x hx => HF.out.2.2.2.2.1 x (List.mem_of_mem_take hx)) _ _) HF.out.2.2.2.2.2.2.2)
        rw [hR, show delC L (delG (ks.take k) sg c) (nmS kk) = delG (ks.take (k + 1)) sg c by unfold delC; rw [if_pos hR, htk]] at hde
        have c0 := H3.out.1.jt.c0
        have HN1 := Lib.hid H1.out.2.2.2.2.2.2
        clear hdec hR htk H1
        go_wp2_with (fail)
        refine hde.mono ?_
        rintro e w5 ⟨rfl, hD⟩
        have HS1 : Hid (SwG w0 w w5 j p S cp n L ks sg c (k + 1) cnt lst (some ⟨g, 0, none⟩)) := Lib.hid ⟨⟨_, n1 + 1, by have := HN1.out; omega, H3.out.1.disk hD.out.1 hD.out.2, H3.out.2.1.trans (JP.of hD.out.2), fun _ g' hg => by
          injection hg with hg
          injection hg with hg
          subst hg
          exact ⟨Nat.lt_of_lt_of_le H3.out.2.2.1.1 hD.out.2.size, fun hh => hh.elim H3.out.2.2.1.2 (fun hh => by have := H3.out.2.2.1.1; omega)⟩⟩, H3.out.2.2.2.keep (fun g' i v hg hv => by
            injection hg with hg
            injection hg with hg
            subst hg
            exact (cell_eq (hD.out.2.block g H3.out.2.2.1.1 H3.out.2.2.1.2) i).trans hv)⟩
        clear hde hD H3 c0
        go_wp2_with (fail)
        exact ⟨⟨k + 1, by omega, by simp, HS1⟩, by simp [intOf]; omega⟩
    · obtain rfl : k = len := by omega
      obtain ⟨S1, n1, hn1, hJ, hP, _⟩ := HK.out.ex
      rw [List.take_of_length_le (Nat.le_of_eq HLN.out.symm)] at hJ
      have HE := Lib.hid (And.intro hJ (And.intro hP hn1))
      have c0 := hJ.jt.c0
      clear hJ hP HK hn1
      go_wp2_with (fail)
      refine (sync_K (Lib.hid HE.out.1.dk) (by have h1 := HE.out.2.2; have h2 := HF.out.1; have h3 := delG_len ks sg c; have h4 := HF.out.2.1; unfold maxLen; omega) (by rw [delG_wts ks sg c]; exact HF.out.2.2.2.2.2.2.2)).mono ?_
      rintro e w5 ⟨rfl, hD⟩
      have HE2 : Hid (∃ S' n', n' ≤ n + 2 * ks.length ∧ JS w0 w5 j p S' cp n' (held L (delG ks sg c)) [] sg c cnt lst ∧ JP w w5 S S') := Lib.hid ⟨_, _, by have h1 := HE.out.2.2; have h3 := delG_len ks sg c; have := HLN.out; omega, HE.out.1.disk hD.out.1 hD.out.2, HE.out.2.1.trans (JP.of hD.out.2)⟩
      clear HE hD c0
      go_wp2
      go_end0
      obtain ⟨S', n', h1, h2⟩ := HE2.out
      exact ⟨rfl, S', n', h1, Lib.hid h2⟩
end Go.Proofs.YtlflfaldnpcjcaaGreatDoor

namespace Go.Proofs.YtlflfaldnpcjcaaGreatDoor
open Go.RowKit Go.Maps
set_option maxRecDepth 100000 in
set_option maxHeartbeats 4000000 in
theorem lay_G {w0 w : World} {j p n : Nat} {S : Nat → Prop} {cp seg nth cnt lst : Int} {L M : Fs} {cs : List Chg} (name g : ByteArray) (hM : held L cs = M) (h : Hid (JS w0 w j p S cp n L cs seg nth cnt lst)) (hcp : 0 ≤ cp ∧ cp ≤ 9223372036854775807) (hn : n + cs.length ≤ 1099511627776) (hsz : totF M + g.size ≤ 140737488355328) (hsw : totF L + (wts cs + g.size) ≤ 140737488355328) (hroom : (g.size : Int) ≤ cp - totF M)
    (ht : getF M tmpS = none) (hnm : getF M name = none) (hns : 1 ≤ name.size ∧ name.size ≤ 64) (hne : ¬ name = tmpS) :
    Calls Tryz.prog 27 #[.pointer (some ⟨j, 0, none⟩), .string name, .string g] w fun e w' => e = .returned (.int .i64 0) ∧ ∃ S', Hid (JS w0 w' j p S' cp (n + cs.length + 4) (layL M name g) [] seg nth cnt lst ∧ JP w w' S S') := by
  have c0 := h.out.jt.c0
  have hR : appR cp (held L cs) tmpS g = 0 := by
    unfold appR
    rw [hM, if_pos (by show 1 ≤ 3 ∧ 3 ≤ 64; decide), if_neg (by omega)]
  have hC : appC cp L cs tmpS g = cs ++ [.app tmpS g] := by unfold appC; rw [if_pos hR]
  have hL1 := held_tmp g ht
  have hap := append_K tmpS g (Lib.hid h.out.dk) hcp (by unfold maxLen; omega) (by omega) (by rw [hM]; exact hsz)
  rw [hR, hC] at hap
  have hT1 : totF (held M [.app tmpS g]) = totF M + g.size := by
    have := tot_app L cs h.out.dk.srt tmpS g
    rw [held_app, hM] at this
    exact this
  have hHM : held L (cs ++ [.app tmpS g]) = held M [.app tmpS g] := by rw [held_app, hM]
  have hWT : wts (cs ++ [.app tmpS g]) = wts cs + g.size := by rw [wts_app]; simp [wts, wtC]
  have HF := Lib.hid (And.intro hL1 (And.intro hnm (And.intro hns (And.intro hne (And.intro hT1 (And.intro hsz hn))))))
  have HW := Lib.hid (And.intro hHM (And.intro hWT hsw))
  clear hR hC hL1 hnm hns hne hT1 hsz hn hcp hroom ht hHM hWT hsw hM
  go_enter Tryz.func27, Tryz.ntmps27
  go_wp2_with (fail)
  refine hap.mono ?_
  rintro e w1 ⟨rfl, hk⟩
  have H1 := Lib.hid (And.intro (h.out.disk hk.out.1 hk.out.2) (JP.of hk.out.2))
  clear hap hk h c0
  have c0 := H1.out.1.jt.c0
  go_wp2_with (fail)
  refine (sync_K (Lib.hid H1.out.1.dk) (by have := HF.out.2.2.2.2.2.2; unfold maxLen; simp; omega) (by rw [HW.out.2.1]; exact HW.out.2.2)).mono ?_
  rintro e w2 ⟨rfl, hk⟩
  rw [HW.out.1] at hk
  have H2 := Lib.hid (And.intro (H1.out.1.disk hk.out.1 hk.out.2) (H1.out.2.trans (JP.of hk.out.2)))
  clear hk H1 c0
  have c0 := H2.out.1.jt.c0
  have hR : renR (held (held M [.app tmpS g]) []) tmpS name = 0 := by
    unfold renR
    rw [held_nil, if_pos HF.out.2.2.1, HF.out.1, HF.out.1, if_pos rfl, if_neg HF.out.2.2.2.1, HF.out.2.1]
    rfl
  have hre := rename_K tmpS name (Lib.hid H2.out.1.dk) (by show 3 ≤ maxLen; decide) (by have := HF.out.2.2.2.2.2.2; unfold maxLen; simp; omega) (by show 0 ≤ _; omega) (by rw [held_nil, HF.out.2.2.2.2.1]; exact HF.out.2.2.2.2.2.1)
  rw [hR, show renC (held M [.app tmpS g]) [] tmpS name = [.ren tmpS name] by unfold renC; rw [if_pos hR]; rfl] at hre
  clear hR
  go_wp2_with (fail)
  refine hre.mono ?_
  rintro e w3 ⟨rfl, hk⟩
  have H3 := Lib.hid (And.intro (H2.out.1.disk hk.out.1 hk.out.2) (H2.out.2.trans (JP.of hk.out.2)))
  clear hk H2 hre c0
  have c0 := H3.out.1.jt.c0
  go_wp2_with (fail)
  refine (sync_K (Lib.hid H3.out.1.dk) (by have := HF.out.2.2.2.2.2.2; unfold maxLen; simp; omega) (by have h1 := HF.out.2.2.2.2.2.1; have h2 := HF.out.2.2.2.2.1; simp [wts, wtC]; omega)).mono ?_
  rintro e w4 ⟨rfl, hk⟩
  have H4 := Lib.hid (And.intro (H3.out.1.disk hk.out.1 hk.out.2) (H3.out.2.trans (JP.of hk.out.2)))
  clear hk H3 c0
  go_wp2_with (fail)
  go_ret
  have hnn : n + 1 + (cs ++ [Chg.app tmpS g]).length + 1 + [Chg.ren tmpS name].length = n + cs.length + 4 := by simp; omega
  refine ⟨rfl, _, Lib.hid ⟨?_, H4.out.2⟩⟩
  have h9 := H4.out.1
  rw [hnn] at h9
  exact h9
end Go.Proofs.YtlflfaldnpcjcaaGreatDoor

namespace Go.Proofs.YtlflfaldnpcjcaaGreatDoor
open Go.RowKit Go.Maps
set_option maxRecDepth 100000 in
set_option maxHeartbeats 2000000 in
theorem jappend_G {w0 w : World} {j p n : Nat} {S : Nat → Prop} {cp lst : Int} {L : Fs} {cs : List Chg} (sg k c : Nat) (s : ByteArray) (h : Hid (JS w0 w j p S cp n L cs sg k c lst)) (hk : sg ≤ 999999999 ∧ k ≤ 999999999) (hpw : ∀ w', Below w0.heap.size w0 w' → Pw w') (hc : c < 1099511627776) (hh : ∀ w', Below w0.heap.size w0 w' → Half w') (hs : s.size ≤ 1048576) (hcp : 0 ≤ cp ∧ cp ≤ 9223372036854775807) (hn : n < maxLen) (hq : cs.length ≤ 8796093022206) (hsz : totF (held L cs) + (s.size + 12) ≤ 140737488355328) (hroom : ((s.size + 12 : Nat) : Int) ≤ cp - totF (held L cs)) :
    Calls Tryz.prog 8 #[.pointer (some ⟨j, 0, none⟩), .string s] w fun e w' => e = .returned (.int .i64 0) ∧ ∃ S', Hid (JS w0 w' j p S' cp (n + 1) L (cs ++ [.app (edtS sg k) ⟨(frameL s.data.toList).toArray⟩]) sg k (c + 1 : Nat) lst ∧ JQ w w' j S S') := by
  have hdr : Below w.heap.size w w.drew := ⟨rfl, rfl, rfl, Nat.le_refl _, fun _ _ => rfl⟩
  have h0 : ¬ (1048576 : Int) < (s.size : Int) := by omega
  have hfs : (⟨(frameL s.data.toList).toArray⟩ : ByteArray).size = s.size + 12 := by
    show (frameL s.data.toList).toArray.size = _
    rw [List.size_toArray, frameL_length]
    simp
  have hz1 : 1 ≤ (edtS sg k).size := by
    have h3 : (edtS sg k).size = 6 + (digS sg).size + 1 + (digS k).size := by unfold edtS; simp only [ByteArray.size_append]; rfl
    omega
  have hR : appR cp (held L cs) (edtS sg k) ⟨(frameL s.data.toList).toArray⟩ = 0 := by
    unfold appR
    rw [if_pos ⟨hz1, nm_size (.E sg k) hk⟩, if_neg (by rw [hfs]; omega)]
  have hap : ∀ w', Below w.heap.size w w' → _ := fun w' hb => append_K (edtS sg k) ⟨(frameL s.data.toList).toArray⟩ (Lib.hid (h.out.below hb).dk) hcp hn hq (by rw [hfs]; exact hsz)
  rw [hR, show appC cp L cs (edtS sg k) ⟨(frameL s.data.toList).toArray⟩ = cs ++ [.app (edtS sg k) ⟨(frameL s.data.toList).toArray⟩] by unfold appC; rw [if_pos hR]] at hap
  have HF := Lib.hid (And.intro hap (And.intro hk (And.intro hc (And.intro hh hs))))
  have HPW := Lib.hid hpw
  clear hap hk hc hh hs hcp hn hq hsz hroom hR hfs hz1 hpw
  have hc0 : ∀ w', Below w.heap.size w w' → w'.cell? ⟨j, 0, none⟩ = some (.pointer (some ⟨p, 0, none⟩)) := fun w' hb => (hb.cell (p := ⟨j, 0, none⟩) h.out.jt.lt).trans h.out.jt.c0
  have hjed : ∀ w', Below w.heap.size w w' → Calls Tryz.prog 20 #[.pointer (some ⟨j, 0, none⟩)] w' fun e w'' => e = .returned (.string (edtS sg k)) ∧ Below w'.heap.size w' w'' := fun w' hb => by
    exact jedits_g j p sg k c lst w' HF.out.2.1.1 HF.out.2.1.2 (HPW.out w' (h.out.dk.bel.trans (hb.mono h.out.dk.bel.size))) (Lib.hid (h.out.jt.same (hb.block j h.out.jt.lt)))
  have hfra : ∀ w', Below w.heap.size w w' → _ := fun w' hb => frame_any s w' (HF.out.2.2.2.1 w' (h.out.dk.bel.trans (hb.mono h.out.dk.bel.size))) HF.out.2.2.2.2
  have hfin : ∀ w' w'', Below w.heap.size w w' → Hid (DK w0 w'' p (grow S w' w'') cp (n + 1) L (cs ++ [.app (edtS sg k) ⟨(frameL s.data.toList).toArray⟩]) ∧ Tch w' w'' S) → Hid (JS w0 w'' j p (grow S w' w'') cp (n + 1) L (cs ++ [.app (edtS sg k) ⟨(frameL s.data.toList).toArray⟩]) sg k c lst ∧ JQ w w'' j S (grow S w' w'')) := fun w' w'' hb hD => Lib.hid ⟨(h.out.below hb).disk hD.out.1 hD.out.2, (JP.q (JP.bel hb)).trans (JP.q (JP.of hD.out.2))⟩
  have HA := Lib.hid (And.intro hc0 (And.intro hjed (And.intro hfra (And.intro hfin hdr))))
  have hS0 : w.drew.cell? ⟨j, 0, none⟩ = some (.pointer (some ⟨p, 0, none⟩)) := hc0 _ hdr
  clear hc0 hjed hfra hfin hdr
  go_enter Tryz.func8, Tryz.ntmps8
  go_upto_region 5 with (fail)
  go_cut [5] (fun s5 wx => s5 = .int .i64 0 ∧ ∃ S', Hid (JS w0 wx j p S' cp (n + 1) L (cs ++ [.app (edtS sg k) ⟨(frameL s.data.toList).toArray⟩]) sg k c lst ∧ JQ w wx j S S'))
  case first =>
    go_region_held3 (fun w' => w'.cell? ⟨j, 0, none⟩ = some (.pointer (some ⟨p, 0, none⟩))) (assumption)
      (first
        | (go_at_call 20; with_reducible refine (HA.out.2.1 _ (by first | exact hB9 | exact HA.out.2.2.2.2)).mono ?_; rintro e w8 ⟨rfl, hb8⟩; have hB8 : Below w.heap.size w w8 := (by first | exact hB9.trans (hb8.mono hB9.size) | exact HA.out.2.2.2.2.trans (hb8.mono HA.out.2.2.2.2.size)); have hS8 := HA.out.1 _ hB8)
        | (go_at_call 25; with_reducible refine (HA.out.2.2.1 _ (by first | exact hB8 | exact HA.out.2.2.2.2)).mono ?_; rintro e w9 ⟨rfl, hb9⟩; have hB9 : Below w.heap.size w w9 := (by first | exact hB8.trans (hb9.mono hB8.size) | exact HA.out.2.2.2.2.trans (hb9.mono HA.out.2.2.2.2.size)); have hS9 := HA.out.1 _ hB9)
        | (go_at_call 24; with_reducible refine (HF.out.1 _ (by first | exact hB9 | exact hB8)).mono ?_; rintro e w7 ⟨rfl, hD⟩; have HX := (by first | exact HA.out.2.2.2.1 _ _ hB9 hD | exact HA.out.2.2.2.1 _ _ hB8 hD); have hS7 := HX.out.1.jt.c0))
    all_goals try go_wp2
    all_goals try go_meet
    all_goals exact ⟨rfl, _, HX⟩
  case rest =>
    obtain ⟨rfl, S1, HX⟩ := hcut
    have c3 := HX.out.1.jt.c3
    have f3 := HX.out.1.jt.fr 3
    have hw1 : IntKind.i64.wrap ((c : Int) + 1) = ((c + 1 : Nat) : Int) := by rw [IntWalk.i64_in _ (by have := HF.out.2.2.1; omega)]; omega
    go_wp2_with (fail)
    go_ret
    refine ⟨rfl, S1, Lib.hid ⟨HX.out.1.setj ?_, HX.out.2.trans (JQ.set _ _ _ _ _)⟩⟩
    have := jat_cnt (c := ((c + 1 : Nat) : Int)) HX.out.1.jt
    simpa using this
set_option maxRecDepth 100000 in
set_option maxHeartbeats 4000000 in
theorem keep_G {w0 w : World} {j p n : Nat} {S : Nat → Prop} {cp cnt lst : Int} {L : Fs} (s k : Nat) (g : ByteArray) (h : Hid (JS w0 w j p S cp n L [] s k cnt lst)) (hsk : s ≤ 999999999 ∧ k + 1 ≤ 999999999) (hpw : ∀ w', Below w0.heap.size w0 w' → Pw w') (hcp : 0 ≤ cp ∧ cp ≤ 9223372036854775807) (hn : n ≤ 1099511627775) (hsz : totF L + g.size ≤ 140737488355328) (hroom : (g.size : Int) ≤ cp - totF L)
    (ht : getF L tmpS = none) (hnm : getF L (edtS s (k + 1)) = none) :
    Calls Tryz.prog 22 #[.pointer (some ⟨j, 0, none⟩), .string g] w fun e w' => e = .returned (.int .i64 0) ∧ ∃ S', Hid (JS w0 w' j p S' cp (n + 5) (layL L (edtS s (k + 1)) g) [] s (k + 1 : Nat) cnt lst ∧ JQ w w' j S S') := by
  have c0 := h.out.jt.c0
  have hR : delR (held L []) tmpS = 41 := by unfold delR; rw [held_nil, ht]; rfl
  have hde := delete_K tmpS (Lib.hid h.out.dk) (by show 3 ≤ maxLen; decide) (by unfold maxLen; omega) (by show 0 ≤ _; omega) (by rw [held_nil]; omega)
  rw [hR, show delC L [] tmpS = [] by unfold delC; rw [hR]; rfl] at hde
  have HF := Lib.hid (And.intro hsk (And.intro hcp (And.intro hn (And.intro hsz (And.intro hroom (And.intro ht hnm))))))
  have HPW := Lib.hid hpw
  clear hsk hcp hn hsz hroom ht hnm hR hpw
  go_enter Tryz.func22, Tryz.ntmps22
  go_wp2_with (fail)
  refine hde.mono ?_
  rintro e w1 ⟨rfl, hD⟩
  have H1 := Lib.hid (And.intro (h.out.disk hD.out.1 hD.out.2) (JP.q (j := j) (JP.of hD.out.2)))
  clear hde hD c0
  have hw1 : IntKind.i64.wrap ((k : Int) + 1) = (k : Int) + 1 := IntWalk.i64_in _ (by have := HF.out.1; omega)
  have hbd : Below w1.heap.size w1 w1.drew := ⟨rfl, rfl, rfl, Nat.le_refl _, fun _ _ => rfl⟩
  have hcc : ∀ w', Below w1.heap.size w1 w' → w'.cell? ⟨j, 1, none⟩ = some (.int .i64 s) ∧ w'.cell? ⟨j, 2, none⟩ = some (.int .i64 k) := fun w' hb => ⟨(hb.cell (p := ⟨j, 1, none⟩) H1.out.1.jt.lt).trans H1.out.1.jt.c1, (hb.cell (p := ⟨j, 2, none⟩) H1.out.1.jt.lt).trans H1.out.1.jt.c2⟩
  have hen : ∀ w', Below w1.heap.size w1 w' → Calls Tryz.prog 40 #[.int .i64 s, .int .i64 ((k : Int) + 1)] w' fun e w'' => e = .returned (.string (edtS s (k + 1))) ∧ Below w'.heap.size w' w'' := fun w' hb => by
    have h9 := edits_name_g s (k + 1) HF.out.1.1 HF.out.1.2 w' (HPW.out w' (H1.out.1.dk.bel.trans (hb.mono H1.out.1.dk.bel.size)))
    rw [show ((k + 1 : Nat) : Int) = (k : Int) + 1 by omega] at h9
    exact h9
  have hz1 : 1 ≤ (edtS s (k + 1)).size := by
    have h3 : (edtS s (k + 1)).size = 6 + (digS s).size + 1 + (digS (k + 1)).size := by unfold edtS; simp only [ByteArray.size_append]; rfl
    omega
  have hla : ∀ w', Below w1.heap.size w1 w' → _ := fun w' hb => lay_G (edtS s (k + 1)) g rfl (Lib.hid (H1.out.1.below hb)) HF.out.2.1 (by have := HF.out.2.2.1; simp; omega) HF.out.2.2.2.1 (by have := HF.out.2.2.2.1; simp [wts]; omega) HF.out.2.2.2.2.1 HF.out.2.2.2.2.2.1 HF.out.2.2.2.2.2.2 ⟨hz1, nm_size (.E s (k + 1)) HF.out.1⟩ (fun e => by
    have h2 := edt_tmp s (k + 1)
    rw [e] at h2
    exact absurd h2 (by rw [ByteArray.toList_eq]; decide))
  have HA := Lib.hid (And.intro hcc (And.intro hen (And.intro hla hbd)))
  have hS0 := hcc _ hbd
  clear hcc hen hla hbd hz1
  go_wp2_with (fail)
  go_cut [5] (fun s5 wx => s5 = .int .i64 0 ∧ ∃ S', Hid (JS w0 wx j p S' cp (n + 5) (layL L (edtS s (k + 1)) g) [] s k cnt lst ∧ JQ w wx j S S'))
  case first =>
    go_region_held3 (fun w' => w'.cell? ⟨j, 1, none⟩ = some (.int .i64 s) ∧ w'.cell? ⟨j, 2, none⟩ = some (.int .i64 k)) (assumption)
      (first
        | (go_at_call 40; with_reducible refine (HA.out.2.1 _ (by first | exact HA.out.2.2.2)).mono ?_; rintro e w6 ⟨rfl, hb6⟩; have hB6 : Below w1.heap.size w1 w6 := HA.out.2.2.2.trans (hb6.mono HA.out.2.2.2.size); have hS6 := HA.out.1 _ hB6)
        | (go_at_call 27; with_reducible refine (HA.out.2.2.1 _ (by first | exact hB6)).mono ?_; rintro e w7 ⟨rfl, S7, hL7⟩; have hS7 := And.intro hL7.out.1.jt.c1 hL7.out.1.jt.c2))
    all_goals try go_wp2
    all_goals try go_meet
    all_goals exact ⟨rfl, S7, Lib.hid ⟨hL7.out.1, H1.out.2.trans ((JP.q (JP.bel hB6)).trans (JP.q hL7.out.2))⟩⟩
  case rest =>
    obtain ⟨rfl, S7, HX⟩ := hcut
    have c2 := HX.out.1.jt.c2
    have f2 := HX.out.1.jt.fr 2
    have hw2 : IntKind.i64.wrap ((k : Int) + 1) = ((k + 1 : Nat) : Int) := by rw [IntWalk.i64_in _ (by have := HF.out.1; omega)]; omega
    clear hw1
    go_wp2_with (fail)
    go_ret
    refine ⟨rfl, S7, Lib.hid ⟨HX.out.1.setj ?_, HX.out.2.trans (JQ.set _ _ _ _ _)⟩⟩
    have := jat_s2 (b := ((k + 1 : Nat) : Int)) HX.out.1.jt
    simpa using this
end Go.Proofs.YtlflfaldnpcjcaaGreatDoor

namespace Go.Proofs.YtlflfaldnpcjcaaGreatDoor
open Go.RowKit Go.Maps
/-- what is read of an image's file: its body, or 24 -/
def imR (im : Option ByteArray) : ByteArray × Int := match im with
  | none => (⟨#[]⟩, 0)
  | some f => if (allL f.data.toList).2.2 = 0 ∧ (allL f.data.toList).1.length = 1 then (⟨((allL f.data.toList).1.getD 0 []).toArray⟩, 0) else (⟨#[]⟩, 24)
theorem getD_at0 (bs : List (List UInt8)) (h : 0 < bs.length) : bs[0] = bs.getD 0 [] := by simp [List.getD, h]
set_option maxRecDepth 100000 in
set_option maxHeartbeats 4000000 in
theorem readImage_G {w0 w : World} {j p n s : Nat} {S : Nat → Prop} {cp nth cnt lst : Int} {L : Fs} {cs : List Chg} (im : Option ByteArray) (h : Hid (JS w0 w j p S cp n L cs s nth cnt lst)) (hs : s ≤ 999999999) (hpw : ∀ w', Below w0.heap.size w0 w' → Pw w') (hh : ∀ w', Below w0.heap.size w0 w' → Half w') (hi : getF (held L cs) (imgS s) = im) (hsz : ∀ f, im = some f → f.size ≤ 1099511627776) :
    Calls Tryz.prog 19 #[.pointer (some ⟨j, 0, none⟩)] w fun e w' => e = .returned (.tuple #[.string (imR im).1, .int .i64 (imR im).2]) ∧ Below w.heap.size w w' := by
  have hbd : Below w.heap.size w w.drew := ⟨rfl, rfl, rfl, Nat.le_refl _, fun _ _ => rfl⟩
  have hcc : ∀ w', Below w.heap.size w w' → w'.cell? ⟨j, 0, none⟩ = some (.pointer (some ⟨p, 0, none⟩)) := fun w' hb => (hb.cell (p := ⟨j, 0, none⟩) h.out.jt.lt).trans h.out.jt.c0
  have hjm : ∀ w', Below w.heap.size w w' → _ := fun w' hb => jimage_g j p s nth cnt lst w' hs (hpw w' (h.out.dk.bel.trans (hb.mono h.out.dk.bel.size))) (Lib.hid (h.out.jt.same (hb.block j h.out.jt.lt)))
  obtain ⟨X, hX⟩ : ∃ X, X = orE im := ⟨_, rfl⟩
  obtain ⟨Y, hY⟩ : ∃ Y : Int, Y = (if im.isSome then 0 else 41) := ⟨_, rfl⟩
  have HXY := Lib.hid (And.intro hX hY)
  have hrd : ∀ w', Below w.heap.size w w' → Calls Tryz.prog 15 #[.pointer (some ⟨p, 0, none⟩), .string (imgS s)] w' fun e w'' => e = .returned (.tuple #[.string X, .int .i64 Y]) ∧ w' = w'' := fun w' hb => by
    have h9 := read_K (imgS s) (Lib.hid (h.out.dk.below hb)) (Nat.le_trans (nm_size (.I s) hs) (by unfold maxLen; decide))
    rw [show rdS (held L cs) (imgS s) = orE im by unfold rdS; rw [hi], show rdE (held L cs) (imgS s) = (if im.isSome then 0 else 41) by unfold rdE; rw [hi], ← hX, ← hY] at h9
    exact h9
  have HA := Lib.hid (And.intro hcc (And.intro hjm (And.intro hrd hbd)))
  have HH : Hid (∀ w', Below w.heap.size w w' → Half w') := Lib.hid fun w' hb => hh w' (h.out.dk.bel.trans (hb.mono h.out.dk.bel.size))
  have HZ := Lib.hid hsz
  have hS0 := hcc _ hbd
  clear hcc hjm hrd hbd hh hpw hi hs hsz hX hY
  go_enter Tryz.func19, Tryz.ntmps19
  go_upto_region 1 with (fail)
  go_cut [4, 5] (fun s4 s5 wx => s4 = .string X ∧ s5 = .int .i64 Y ∧ Hid (Below w.heap.size w wx))
  case first =>
    go_region_held3 (fun w' => w'.cell? ⟨j, 0, none⟩ = some (.pointer (some ⟨p, 0, none⟩))) (assumption)
      (first
        | (go_at_call 30; with_reducible refine (HA.out.2.1 _ (by first | exact HA.out.2.2.2)).mono ?_; rintro e w6 ⟨rfl, hb6⟩; have hB6 : Below w.heap.size w w6 := HA.out.2.2.2.trans (hb6.mono HA.out.2.2.2.size); have hS6 := HA.out.1 _ hB6)
        | (go_at_call 15; with_reducible refine (HA.out.2.2.1 _ (by first | exact hB6)).mono ?_; rintro e w7 ⟨rfl, rfl⟩))
    all_goals try go_wp2
    all_goals try go_meet
    all_goals exact ⟨rfl, rfl, Lib.hid hB6⟩
  case rest =>
    obtain ⟨rfl, rfl, HB⟩ := hcut
    obtain ⟨rfl, rfl⟩ := HXY.out
    clear HXY
    cases im with
    | none =>
      rw [show (if (none : Option ByteArray).isSome then (0 : Int) else 41) = 41 from rfl]
      go_wp2_with (fail)
      go_ret2
      exact ⟨rfl, HB.out⟩
    | some f =>
      rw [show (if (some f).isSome then (0 : Int) else 41) = 0 from rfl, show orE (some f) = f from rfl]
      have hall := all_any f wc (HZ.out f rfl) (HH.out wc HB.out)
      go_wp2_with (fail)
      refine hall.mono ?_
      intro e w5 hp5
      clear hall
      obtain ⟨bs, hbs⟩ : ∃ bs, bs = (allL f.data.toList).1 := ⟨_, rfl⟩
      obtain ⟨en, hen⟩ : ∃ en, en = (allL f.data.toList).2.1 := ⟨_, rfl⟩
      obtain ⟨er, her⟩ : ∃ er, er = (allL f.data.toList).2.2 := ⟨_, rfl⟩
      obtain ⟨ao, cap, rfl, hrow, hb5⟩ := all_post (show allL f.data.toList = (bs, en, er) by rw [hbs, hen, her]) rfl hp5
      have HR : Hid (imR (some f) = if er = 0 ∧ bs.length = 1 then ((⟨(bs.getD 0 []).toArray⟩ : ByteArray), (0 : Int)) else ((⟨#[]⟩ : ByteArray), (24 : Int))) := Lib.hid (by rw [hbs, her]; rfl)
      have HB5 := Lib.hid (HB.out.trans (hb5.mono HB.out.size))
      clear hp5 hbs hen her hb5
      by_cases e0 : er = 0
      · by_cases e1 : bs.length = 1
        · obtain ⟨g, rfl, _, _, hc⟩ := hrow 0 (by omega)
          have hv : imR (some f) = ((⟨(bs.getD 0 []).toArray⟩ : ByteArray), (0 : Int)) := by rw [HR.out, if_pos ⟨e0, e1⟩]
          have hc2 : w5.cell? ⟨g, 0, none⟩ = some (.string ⟨(bs.getD 0 []).toArray⟩) := by rw [hc, getD_at0 bs (by omega)]; rfl
          have HV := Lib.hid hv
          rw [e0, e1]
          clear hc hrow hv HR
          generalize (⟨(bs.getD 0 []).toArray⟩ : ByteArray) = z at hc2 HV
          go_wp2_with (fail)
          go_ret2
          exact ⟨by rw [HV.out]; rfl, HB5.out⟩
        · have HV := Lib.hid (show imR (some f) = ((⟨#[]⟩ : ByteArray), (24 : Int)) by rw [HR.out, if_neg (fun h => e1 h.2)])
          have e2 : ¬ ((bs.length : Nat) : Int) = 1 := by omega
          rw [e0]
          clear hrow HR
          go_wp2_with (fail)
          go_ret2
          exact ⟨by rw [HV.out]; rfl, HB5.out⟩
      · have HV := Lib.hid (show imR (some f) = ((⟨#[]⟩ : ByteArray), (24 : Int)) by rw [HR.out, if_neg (fun h => e0 h.1)])
        clear hrow HR
        go_wp2_with (fail)
        go_ret2
        exact ⟨by rw [HV.out]; rfl, HB5.out⟩
end Go.Proofs.YtlflfaldnpcjcaaGreatDoor

