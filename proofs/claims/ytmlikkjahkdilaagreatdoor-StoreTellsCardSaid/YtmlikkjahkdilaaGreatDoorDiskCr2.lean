/- Package disk: a crash of a disk with one file, whatever is kept and torn. -/
import Derived.Test.YtmlikkjahkdilaaGreatDoorDiskCr
namespace Go.Proofs.YtmlikkjahkdilaaGreatDoor
open Go.RowKit Go.Maps

theorem cells_of (d : ByteArray) (k : Nat) : ((d.extract 0 k).data.toList).length = min k d.size := by
  have : (d.extract 0 k).size = min k d.size := by rw [ByteArray.size_extract]; omega
  have e : (d.extract 0 k).data.toList.length = (d.extract 0 k).size := by simp
  rw [e, this]
/-- the end of a crash: no change is left, what is held is worked out anew -/
theorem crash_end {w0 w wc : World} {p L : Nat} {cp used : Int} {chg held v v2 : Value} {name : ByteArray} {Y : List UInt8} (hb0 : Below w0.heap.size w0 w) (hp0 : w0.heap.size ≤ p) (hL : w0.heap.size ≤ L) (hap : ∀ b, v2.ownBlock = some b → w0.heap.size ≤ b) (hname : name.size ≤ maxLen) (hY : Y.length ≤ 1099511627776)
    (t : Tch w wc (fun i => i = p ∨ i = L ∨ some i = v2.ownBlock)) (hk : DiskAt wc p cp (.map (some L)) chg held used) (ho : OneM wc w0.heap.size L name Y v true) :
    Calls Tryz.prog 37 #[.pointer (some ⟨p, 0, none⟩)] (wc.setCell ⟨p, 2, none⟩ (.slice none 0 0)) fun e w' => e = .returned (.tuple #[]) ∧ OneD w0 w' p name cp Y [] true := by
  have ts := tch_set wc ⟨p, 2, none⟩ (.slice none 0 0)
  have hb : Below w0.heap.size w0 wc := ⟨t.os.trans hb0.os, t.tape.trans hb0.tape, t.output.trans hb0.output, Nat.le_trans hb0.size t.size, fun i hi => (t.block i (Nat.lt_of_lt_of_le hi hb0.size) (fun e => by
    rcases e with e | e | e
    · omega
    · omega
    · have := hap i e.symm; omega)).trans (hb0.block i hi)⟩
  exact anew_D w0 p L cp used held v name Y _ (hb.setCell hp0 _) hp0 hL (hk.chg _) (ho.tch ts (fun e => ho.ap hk.ty e.symm) (fun b hb => cells_apart (row_at ho.row hb) hk.ty (by decide))) hname hY
theorem calls_int {f : FuncId} {a : Value} {k k' : Int} {w : World} {Q : Ending → World → Prop} (h : k = k') (hc : Calls Tryz.prog f #[a, .int .i64 k'] w Q) : Calls Tryz.prog f #[a, .int .i64 k] w Q := h ▸ hc
set_option maxRecDepth 100000 in
set_option maxHeartbeats 4000000 in
theorem crash_D (w0 : World) (p : Nat) (cp keep tear : Int) (name : ByteArray) (X : List UInt8) (cs : List ByteArray) (w : World) (hD : OneD w0 w p name cp X cs true) (hname : name.size ≤ maxLen) (hsz : (X ++ bytesOf cs).length ≤ 1099511627776) :
    Calls Tryz.prog 15 #[.pointer (some ⟨p, 0, none⟩), .int .i64 keep, .int .i64 tear] w fun e w' => e = .returned (.tuple #[]) ∧ ∃ Y, OneD w0 w' p name cp Y [] true ∧ IsCut X cs Y := by
  obtain ⟨hb0, hp0, L, m, chg, v, v2, hk, hL, hm, hLm, o2, o1, hcs, hv⟩ := hD
  rw [List.length_append] at hsz
  obtain ⟨n, hn, hnq⟩ : ∃ n : Nat, (n : Int) = min (max keep 0) (cs.length : Int) ∧ n ≤ cs.length := ⟨(min (max keep 0) (cs.length : Int)).toNat, by omega, by omega⟩
  have hst := settle_any w0.heap.size p L n cp _ chg (.map (some m)) v2 name X true cs w hk o2 (.inl rfl) hcs hnq hname hb0.size (by omega)
  obtain ⟨a0, c0', hchg⟩ : ∃ a c, chg = .slice a cs.length c := by
    rcases hcs.form with ⟨h1, h2⟩ | ⟨g, c, h1, _⟩
    · exact ⟨none, 0, by rw [h1, h2]; rfl⟩
    · exact ⟨_, _, h1⟩
  have c2 := hk.c2
  rw [hchg] at c2
  have hap : ∀ b, v2.ownBlock = some b → w0.heap.size ≤ b := fun b hb => (o2.row.lt b hb).1
  have HB := Lib.hid (And.intro hb0 (And.intro hp0 (And.intro hL (And.intro hname (And.intro hsz hap)))))
  have HST := Lib.hid hst
  have HN := Lib.hid (And.intro hn hnq)
  obtain ⟨q, hq⟩ : ∃ q, q = cs.length := ⟨_, rfl⟩
  have HQ := Lib.hid hq
  rw [← hq] at c2 hn hnq
  clear hst hk o2 o1 hcs hv hchg hb0 hp0 hL hname hsz hap hLm hm hq
  go_enter Tryz.func15, Tryz.ntmps15
  go_upto_region 1 with (fail)
  go_cut [] (fun wx => Hid (Aft w wx w0.heap.size p L n cp (((X ++ bytesOf cs).length : Nat) : Int) (.map (some m)) v2 name X cs))
  case first =>
    go_wp2_with (fail)
    all_goals
      refine calls_int (k' := (n : Int)) (by omega) (HST.out.mono ?_)
      rintro e w1 ⟨rfl, h1⟩
      have H1 := Lib.hid h1
      clear h1
      go_wp2
      go_meet
      exact H1
  case rest =>
    obtain ⟨v', chg', k1, o1, t1, hx1, a', c', hch, hcell⟩ := hcut.out
    have d2 := k1.c2
    rw [hch, ← HQ.out] at d2
    have K1 := Lib.hid k1
    have O1 := Lib.hid (And.intro o1 t1)
    have HX1 := Lib.hid hx1
    clear k1 o1 t1 hch hx1
    by_cases ht : 0 < tear ∧ n < q
    · obtain ⟨ht1, ht2⟩ := ht
      obtain ⟨d, hd⟩ : ∃ d, cs[n]? = some d := ⟨_, List.getElem?_eq_getElem (by have := HQ.out; omega)⟩
      obtain ⟨g, o, rfl, hx⟩ := hcell d hd
      have HDD := Lib.hid hd
      have hd0 := hd
      have hta : ∀ w : World, (Instr.typeAssert (ap name d) 71 68 true).run Tryz.prog w = .ok (.tuple #[.agg #[.string name, .string d], .bool true]) w := fun _ => by kernel_rfl
      have ht3 : decide (0 < tear) = true := by simpa using ht1
      have ht4 : (0 : Int) < ((q - n : Nat) : Int) := by omega
      have ht5 : 0 < q - n := by omega
      clear hd hcell
      have hlq := bytesOf_take cs n d hd0
      have hle := bytesOf_le cs (n + 1)
      rw [hlq, List.length_append] at hle
      have HLE : Hid (X.length + (bytesOf (cs.take n)).length + d.size ≤ 1099511627776) := Lib.hid (by
        have := HB.out.2.2.2.2.1
        have e : d.data.toList.length = d.size := by simp
        omega)
      clear hd0 hlq hle
      go_upto_region 5 with (fail)
      have TB := Lib.hid (tch_below (w := wc) (fun _ => False) ((Below.refl _ wc).alloc (Nat.le_refl _) (.cells #[.string name, .string d] 68)))
      have b0 : (wc.alloc (.cells #[.string name, .string d] 68)).cell? ⟨wc.heap.size, 0, none⟩ = some (.string name) := by simp
      have b1 : (wc.alloc (.cells #[.string name, .string d] 68)).cell? ⟨wc.heap.size, 1, none⟩ = some (.string d) := by simp
      have K2 := Lib.hid (K1.out.tch TB.out (fun e => e))
      have O2 := Lib.hid (O1.out.1.tch TB.out (fun e => e) (fun _ _ e => e))
      have T2 := Lib.hid (O1.out.2.then TB.out (fun _ _ e => e.elim))
      clear hta d2 TB
      generalize wc.alloc (.cells #[.string name, .string d] 68) = w2 at *
      have e1 := K2.out.c1
      have HC3 : Hid (∀ w3, Below w2.heap.size w2.drew w3 → w3.cell? ⟨p, 1, none⟩ = some (.map (some L))) := Lib.hid (fun w3 hb => (hb.cell (p := ⟨p, 1, none⟩) K2.out.lt).trans K2.out.c1)
      obtain ⟨part, hpart⟩ : ∃ part, part = d.extract 0 (min tear.toNat d.size) := ⟨_, rfl⟩
      have hps : part.data.toList.length ≤ d.size := by rw [hpart, cells_of]; omega
      have hps2 : part.size ≤ d.size := by rw [hpart, ByteArray.size_extract]; omega
      have HDO : Hid (∀ w3, Below w2.heap.size w2.drew w3 → Calls Tryz.prog 36 #[.agg #[.string name, .string part], .map (some L)] w3 fun e w' => e = .returned (.tuple #[]) ∧ ∃ v3, Hid (OneM w' w0.heap.size L name (X ++ bytesOf (cs.take n) ++ part.data.toList) v3 true ∧ Tch w2 w' (fun i => i = L ∨ some i = v'.ownBlock))) := Lib.hid (by
        intro w3 hb
        have hb' : Below w2.heap.size w2 w3 := ⟨hb.os, hb.tape, hb.output, hb.size, hb.block⟩
        have tb := tch_below (fun _ => False) hb'
        refine (do_one w0.heap.size L name part (X ++ bytesOf (cs.take n)) v' true w3 (O2.out.tch tb (fun e => e) (fun _ _ e => e)) HB.out.2.2.2.1 (Nat.le_trans HB.out.1.size (Nat.le_trans T2.out.size hb'.size)) (by
          have := HLE.out
          rw [List.length_append]
          omega)).mono ?_
        rintro e w' ⟨rfl, v3, h1, h2, _⟩
        exact ⟨rfl, v3, Lib.hid ⟨h1, (tch_below (fun i => i = L ∨ some i = v'.ownBlock) hb').then h2 (fun _ _ e => e)⟩⟩)
      have htorn := torn_any tear name d w2.drew ht1 (by have := HLE.out; omega)
      rw [← hpart] at htorn
      have HP := Lib.hid (And.intro hpart hps)
      clear hpart hps hps2
      go_cut [] (fun wx => ∃ v3, Hid (OneM wx w0.heap.size L name (X ++ bytesOf (cs.take n) ++ part.data.toList) v3 true ∧ Tch w2 wx (fun i => i = L ∨ some i = v'.ownBlock)))
      case first =>
        go_region_with (first
          | (go_at_call 35; refine htorn.mono ?_; rintro e w3 ⟨rfl, hb3⟩; have d3 := HC3.out w3 hb3; have hdo := HDO.out w3 hb3)
          | (go_at_call 36; refine hdo.mono ?_; rintro e w4 ⟨rfl, v3, H4⟩))
        all_goals
          first
            | (go_meet; exact ⟨v3, H4⟩)
            | (go_wp2; go_meet; exact ⟨v3, H4⟩)
      case rest =>
        obtain ⟨v3, H4⟩ := hcut
        have K4 : Hid (DiskAt wc p cp (.map (some L)) chg' (.map (some m)) (((X ++ bytesOf cs).length : Nat) : Int)) := Lib.hid (K2.out.tch H4.out.2 (fun h => h.elim (fun e => O2.out.ap K2.out.ty e) (fun e => cells_apart K2.out.ty (row_at O2.out.row e.symm) (by decide) rfl)))
        have T4 : Tch w wc (fun i => i = p ∨ i = L ∨ some i = v2.ownBlock) := T2.out.then H4.out.2 (fun i hi h => h.elim (fun e => .inr (.inl e)) (fun e => (HX1.out i e.symm).elim (fun h => .inr (.inr h.symm)) (fun h => by omega)))
        have hY : (X ++ bytesOf (cs.take n) ++ part.data.toList).length ≤ 1099511627776 := by
          have := HLE.out
          have := HP.out.2
          rw [List.length_append, List.length_append]
          omega
        have hend := crash_end HB.out.1 HB.out.2.1 HB.out.2.2.1 HB.out.2.2.2.2.2 HB.out.2.2.2.1 hY T4 K4.out H4.out.1
        have hcutY : IsCut X cs (X ++ bytesOf (cs.take n) ++ part.data.toList) := by
          rw [HP.out.1]
          exact cut_torn X cs n d HDD.out _
        have HE := Lib.hid (And.intro hend hcutY)
        have f1 := K4.out.c2
        have f2 := K4.out.fr 2
        clear hend hcutY hY T4 htorn e1 b0 b1
        go_wp2_with (fail)
        refine HE.out.1.mono ?_
        rintro e w6 ⟨rfl, hR⟩
        have HR := Lib.hid hR
        clear hR
        go_wp2
        first
          | (go_end0; exact ⟨rfl, _, HR.out, HE.out.2⟩)
          | (go_ret; exact ⟨rfl, _, HR.out, HE.out.2⟩)
          | exact bodyPost_ret (v := .tuple #[]) (results_none rfl _ _ _) rfl ⟨rfl, _, HR.out, HE.out.2⟩
    · have hend := crash_end HB.out.1 HB.out.2.1 HB.out.2.2.1 HB.out.2.2.2.2.2 HB.out.2.2.2.1 (by
        have := bytesOf_le cs n
        have := HB.out.2.2.2.2.1
        rw [List.length_append]
        omega) O1.out.2 K1.out O1.out.1
      have HE := Lib.hid (And.intro hend (cut_take X cs n))
      have f1 := K1.out.c2
      have f2 := K1.out.fr 2
      clear hend hcell f1
      by_cases h1 : 0 < tear
      · have ht3 : decide (0 < tear) = true := by simpa using h1
        have ht4 : ¬ (0 : Int) < ((q - n : Nat) : Int) := by omega
        have ht5 : ¬ 0 < q - n := by omega
        have ht6 : q - n = 0 := by omega
        rw [ht6] at d2
        clear ht ht4 ht5 ht6 h1
        go_wp2_with (fail)
        refine HE.out.1.mono ?_
        rintro e w6 ⟨rfl, hR⟩
        have HR := Lib.hid hR
        clear hR
        go_wp2
        first
          | (go_end0; exact ⟨rfl, _, HR.out, HE.out.2⟩)
          | (go_ret; exact ⟨rfl, _, HR.out, HE.out.2⟩)
          | exact bodyPost_ret (v := .tuple #[]) (results_none rfl _ _ _) rfl ⟨rfl, _, HR.out, HE.out.2⟩
      · have ht3 : decide (0 < tear) = false := by simpa using h1
        clear ht
        go_wp2_with (fail)
        refine HE.out.1.mono ?_
        rintro e w6 ⟨rfl, hR⟩
        have HR := Lib.hid hR
        clear hR
        go_wp2
        first
          | (go_end0; exact ⟨rfl, _, HR.out, HE.out.2⟩)
          | (go_ret; exact ⟨rfl, _, HR.out, HE.out.2⟩)
          | exact bodyPost_ret (v := .tuple #[]) (results_none rfl _ _ _) rfl ⟨rfl, _, HR.out, HE.out.2⟩
end Go.Proofs.YtmlikkjahkdilaaGreatDoor
