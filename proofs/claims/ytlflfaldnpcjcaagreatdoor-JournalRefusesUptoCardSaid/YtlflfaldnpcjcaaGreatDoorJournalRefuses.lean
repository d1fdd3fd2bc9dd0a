/- JournalRefuses: one turned bit of the image or of the synced records: the journal is not opened, and the disk stays as it was. -/
import Derived.Test.YtlflfaldnpcjcaaGreatDoorJourRfS
import Derived.Test.YtlflfaldnpcjcaaGreatDoorJourOpT
import Derived.Test.YtlflfaldnpcjcaaGreatDoorJnlF
import Derived.Test.YtlflfaldnpcjcaaGreatDoorJnlC
import Derived.Test.YtlflfaldnpcjcaaGreatDoorLawEnd
namespace Go.Proofs.YtlflfaldnpcjcaaGreatDoor.fnJournalRefuses
open Go.ChangeShapes Go.WideShapes Go.ChangeAt Go.RowKit Go.WideMaps Go.WideElems
open Go.ChangeMaps (open_string)

open Go.Maps
noncomputable def laidWorld (os : Os) : World := laidWorldJ os
set_option maxRecDepth 100000 in
theorem open_pair {H : Type} {enc : TypeId × Value → H} {W : World} {base : Nat} {v : Value} {d : DataW H} {p : List MemPlace}
    (hv : Value.okWide Tryz.prog W .any base 41 v) (h : DataW.Trod enc Tryz.prog W 0 (fun _ => true) true 41 v d p) :
    ∃ x : Int × Int, v = .agg #[.int .i64 x.1, .int .i64 x.2] ∧ (-9223372036854775808 ≤ x.2 ∧ x.2 ≤ 9223372036854775807) := by
  have hu : Tryz.prog.underlying 41 = some (.array 2 3) := Tryz.underlying41
  simp only [Value.okWide, hu] at hv
  obtain ⟨cs, rfl, hsz, _⟩ := hv
  obtain ⟨fuel, hf⟩ := h
  obtain ⟨ys, m, _, _, hlen, hyl, hg⟩ := DataW.trod_array hu hf
  have c3 : Tryz.prog.cellsOf 3 = 1 := by kernel_rfl
  have c32 : Tryz.prog.cellsOf 41 = 2 := by kernel_rfl
  rw [c32] at hlen hsz
  have hlen' : cs.toList.length = 2 := by simpa [Value.cells] using hlen
  obtain ⟨v0, v1, hcs⟩ : ∃ v0 v1, cs = #[v0, v1] := by
    match hc : cs.toList, hlen' with
    | [v0, v1], _ => exact ⟨v0, v1, by apply Array.ext'; exact hc⟩
  subst hcs
  match ys, hyl with
  | [y0, y1], _ =>
    have g0 : DataW.trod enc Tryz.prog W 0 (fun _ => true) true m 3 [v0] = some y0 := by have := hg 0 (by omega); simpa [c3, Value.cells] using this
    have g1 : DataW.trod enc Tryz.prog W 0 (fun _ => true) true m 3 [v1] = some y1 := by have := hg 1 (by omega); simpa [c3, Value.cells] using this
    obtain ⟨k, e0, _, wk⟩ := DataW.trod_int Tryz.underlying3 g0
    obtain ⟨i, e1, _, wi⟩ := DataW.trod_int Tryz.underlying3 g1
    simp only [List.cons.injEq, and_true] at e0 e1
    subst e0 e1
    exact ⟨(k, i), rfl, i64_of_wf wi⟩
theorem totL_take (bs : List (List UInt8)) (k : Nat) (hk : k < bs.length) : totL (bs.take (k + 1)) = totL (bs.take k) + (bs[k].length + 1) := by
  induction bs generalizing k with
  | nil => simp at hk
  | cons x bs ih =>
    cases k with
    | zero => simp [totL]
    | succ k =>
      have := ih k (by simpa using hk)
      simp only [List.take_succ_cons, totL, this, List.getElem_cons_succ]
      omega
theorem totL_take_le (bs : List (List UInt8)) (k : Nat) : totL (bs.take k) ≤ totL bs := by
  induction bs generalizing k with
  | nil => simp
  | cons x bs ih =>
    cases k with
    | zero => simp [totL]
    | succ k => have := ih k; simp only [List.take_succ_cons, totL]; omega
set_option maxRecDepth 100000 in
set_option maxHeartbeats 8000000 in
theorem walk (img : ByteArray) (A : Option Addr) (len cap : Nat) (bs : List (List UInt8)) (at_ : Int × Int) (W : World) (hh : Half W) (hp : Pw W) (hbl : bs.length = len) (hlc : len ≤ cap) (hT : Texts W W.heap.size A bs) (htot : img.size ≤ 1048576 ∧ totL bs + 1 ≤ 1048576) (hbit : -9223372036854775808 ≤ at_.2 ∧ at_.2 ≤ 9223372036854775807) :
    Calls Tryz.prog 4 #[.string img, .slice A len cap, .agg #[.int .i64 at_.1, .int .i64 at_.2]] W fun e w' => e = .returned (.bool true) ∧ Below W.heap.size W w' := by
  obtain ⟨which, bit⟩ := at_
  have HBIT := Lib.hid hbit
  have HIM := Lib.hid htot.1
  clear hbit
  show Calls Tryz.prog 4 #[.string img, .slice A len cap, .agg #[.int .i64 which, .int .i64 bit]] W fun e w' => e = .returned (.bool true) ∧ Below W.heap.size W w'
  have hsm : Small bs := small_of (by have := htot.2; omega)
  have hsl : (stream bs).length ≤ 12582912 := by have := stream_len bs; omega
  have hlen : len ≤ 1048576 := by have := len_le_tot bs; omega
  have HT : Hid (Tabs W) := Lib.hid ⟨fun w' hb => hh.below hb hh.lt, fun w' hb => hp.below hb⟩
  have HB := Lib.hid (And.intro hbl (And.intro hT (And.intro hsm (And.intro hsl htot))))
  have hs := speaks10_any
  clear hbl hT hsm hsl
  have himg : ¬ (1048576 : Int) < (img.size : Int) := by omega
  have hims : (img.size : Int) ≤ 1048576 := by omega
  obtain ⟨q, hq⟩ : ∃ q, q = W.heap.size := ⟨_, rfl⟩
  obtain ⟨wa, hwa⟩ : ∃ wa, wa = W.alloc (.cells #[.int .i64 which, .int .i64 bit] 41) := ⟨_, rfl⟩
  have hba : Below W.heap.size W wa := by rw [hwa]; exact (Below.refl _ _).alloc (Nat.le_refl _) _
  have hx : wa.heap[q]? = some (.cells #[.int .i64 which, .int .i64 bit] 41 (0, 0)) := by rw [hwa, hq]; exact heap_alloc_new W _
  have x0 : wa.cell? ⟨q, 0, none⟩ = some (.int .i64 which) := by simp [World.cell?, hx]
  have x1 : wa.cell? ⟨q, 1, none⟩ = some (.int .i64 bit) := by simp [World.cell?, hx]
  have HBA := Lib.hid hba
  have hHalf := HT.out.1
  have HHalf := Lib.hid hHalf
  clear hba hx hh hp htot hHalf
  go_enter Tryz.func4, Tryz.ntmps4
  go_upto_region 1 with (fail)
  rw [← hwa, ← hq]
  clear hwa hq
  go_quiet (fail)
  have hb1 : Below W.heap.size W (wa.drewN nq) := below_drewN HBA.out nq
  have hs1 := hs (wa.drewN nq) (HHalf.out _ hb1)
  have HB1 := Lib.hid hb1
  clear hs hb1 x0 x1
  go_wp2_with (fail)
  refine hs1.mono ?_
  rintro e w1 ⟨rfl, hb2⟩
  have hnew := new_K (w0 := W) 1099511627776 (HB1.out.trans (hb2.mono HB1.out.size))
  rw [show (max 1099511627776 0 : Int) = 1099511627776 from rfl] at hnew
  clear hs1 hb2
  go_wp2_with (fail)
  refine hnew.mono ?_
  rintro e w2 ⟨rfl, h2⟩
  obtain ⟨p, hp⟩ : ∃ p, p = w1.heap.size := ⟨_, rfl⟩
  obtain ⟨S0, hS0⟩ : ∃ S0 : Nat → Prop, S0 = fun b => b = w1.heap.size := ⟨_, rfl⟩
  have HD2 : Hid (DK W w2 p S0 1099511627776 0 [] []) := Lib.hid (by rw [hp, hS0]; exact h2.out.1)
  rw [← hp]
  clear h2 hnew hp hS0
  have ho1 := ke_first HD2 HT.out
  go_wp2_with (fail)
  refine ho1.mono ?_
  rintro ex w3 ⟨j, ao, cp0, S3, rfl, hJ3⟩
  have HM0 : ∀ o1, Hid (KE W (w3.alloc o1) p j S3 0 0 none none ⟨#[]⟩ [] 0 0 0) := fun o1 => Lib.hid (hJ3.out.1.below ((Below.refl _ _).alloc (Nat.le_refl _) o1))
  have hro := fun o1 => ke_roll img (HM0 o1) HT.out (Nat.zero_le _) (by omega) (Nat.zero_le _)
  have HRO := Lib.hid hro
  clear ho1 HD2 hJ3 HM0 hro
  go_wp2_with (fail)
  refine (HRO.out _).mono ?_
  rintro ex w4 ⟨rfl, S4, hJ4⟩
  obtain ⟨fr, hfr⟩ : ∃ fr : ByteArray, fr = ⟨(frameL img.data.toList).toArray⟩ := ⟨_, rfl⟩
  have HM4 : Hid (KE W w4 p j S4 1 0 (some fr) none img [] 0 0 1) := Lib.hid (by rw [hfr]; exact hJ4.out.1)
  have HFR := Lib.hid hfr
  clear hJ4 HRO hfr
  go_wp2_with (fail)
  go_loopw [13, 14] (fun z i wr => ∃ (k : Nat) (S : Nat → Prop), k ≤ len ∧ z = .int .i64 ((stream (bs.take k)).length : Int) ∧ i = .int .i64 (k : Int) ∧ Hid (KE W wr p j S 1 0 (some fr) none img (bs.take k) 0 (totL (bs.take k)) (k + 1))) (fun _ i _ => len - (intOf i).toNat)
  case atStart => exact ⟨0, S4, Nat.zero_le _, rfl, rfl, Lib.hid HM4.out⟩
  case round =>
    obtain ⟨k, S, hk, rfl, rfl, HM⟩ := hrel
    clear HM4
    by_cases hlt : k < len
    · have hkl : k < bs.length := by have := HB.out.1; omega
      obtain ⟨b, off, rfl, hbw, hcell⟩ := HB.out.2.1 k hkl
      obtain ⟨z, hz⟩ : ∃ z : ByteArray, z = ⟨bs[k].toArray⟩ := ⟨_, rfl⟩
      have hzl : z.data.toList = bs[k] := by rw [hz]
      have hzs : z.size = bs[k].length := by rw [hz]; show bs[k].toArray.size = _; rw [List.size_toArray]
      have hown := HM.out.own
      have hc : wr.cell? ⟨b, off + k, none⟩ = some (.string z) := (hown.2.2.1.cell (p := ⟨b, off + k, none⟩) hbw).trans (by rw [hz]; exact hcell)
      have hsz1 := HB.out.2.2.1 _ (List.getElem_mem hkl)
      have hts : ¬ (1048576 : Int) < (z.size : Int) := by omega
      have htk := totL_take bs k hkl
      have htl := totL_take_le bs (k + 1)
      have htot := HB.out.2.2.2.2
      have hap := ke_append z HM HT.out (by omega) (by omega)
      have hst : (stream (bs.take (k + 1))).length = (stream (bs.take k)).length + (z.size + 12) := by
        rw [List.take_succ_eq_append_getElem hkl, stream_append, List.length_append]
        simp [stream, frameL_length, hzs]
      have hsx := endAt_le bs (k + 1)
      have hsl := HB.out.2.2.2.1
      unfold endAt at hsx
      rw [hzl, ← List.take_succ_eq_append_getElem hkl, hzs, ← htk] at hap
      obtain ⟨n0, hn0⟩ : ∃ n0, n0 = (stream (bs.take k)).length := ⟨_, rfl⟩
      rw [← hn0] at hst ⊢
      have hn1 : n0 + (z.size + 12) ≤ 12582912 := by omega
      have HN := Lib.hid (And.intro hst hkl)
      have hlt' : (k : Int) < (len : Int) := by omega
      have HAP := Lib.hid hap
      clear hown hbw hcell hz hzl hzs hsz1 htk htl htot hst hsx hsl hap hn0 hkl HM
      go_wp2_with (fail)
      refine HAP.out.mono ?_
      rintro e w5 ⟨rfl, S5, h5⟩
      have HE := Lib.hid h5.out.1
      clear HAP hc h5
      go_wp2_with (fail)
      go_roundw
      case rel => exact ⟨k + 1, S5, by omega, by rw [HN.out.1]; first | rfl | go_num, by first | rfl | go_num, HE⟩
      case measure => simp [intOf]; omega
    · obtain rfl : k = len := by omega
      have hsy := ke_sync HM (by have := totL_take_le bs k; have h9 := HB.out.2.2.2.2; omega) (by have := len_le_tot bs; have h8 := HB.out.1; have h9 := HB.out.2.2.2.2; omega)
      rw [← HB.out.1, List.take_length] at hsy
      have hst : (stream (bs.take k)).length = (stream bs).length := by rw [← HB.out.1, List.take_length]
      obtain ⟨n0, hn0⟩ : ∃ n0, n0 = (stream bs).length := ⟨_, rfl⟩
      rw [hst, ← hn0]
      have hn1 : n0 ≤ 12582912 := by have := HB.out.2.2.2.1; omega
      have HN0 := Lib.hid hn0
      clear hn0 hst
      go_wp2_with (fail)
      refine hsy.mono ?_
      rintro e w5 ⟨rfl, S5, ed2, hed, h5⟩
      have HED := Lib.hid hed
      clear hsy hed HM
      go_upto_region 20 with (fail)
      go_cut [78] (fun s78 wx => ∃ t : Bool, s78 = .bool t ∧ wx = w5 ∧ Hid (t = false → ¬ n0 = 0))
      case first =>
        go_wp2_with (fail)
        all_goals go_meet
        all_goals first
          | exact ⟨true, rfl, rfl, Lib.hid (fun h => by cases h)⟩
          | exact ⟨((n0 : Int) == 0), rfl, rfl, Lib.hid (fun h => by simp at h; omega)⟩
          | exact ⟨(which.tmod 2 == 0 || (n0 : Int) == 0), rfl, rfl, Lib.hid (fun h => by simp at h; omega)⟩
      case rest =>
        obtain ⟨t, rfl, rfl, HT78⟩ := hcut
        go_upto_if 78 with (fail)
        go_cut [13, 15] (fun s13 s15 wx => ∃ (a : ByteArray) (z : Nat), s13 = .int .i64 (z : Int) ∧ s15 = .string a ∧ wx = wc ∧ Hid (0 < z ∧ z ≤ 12582912 ∧ Tgt (some fr) ed2 a z))
        case first =>
          cases t with
          | true =>
            have HI : Hid (Tgt (some fr) ed2 ⟨#[105, 109, 97, 103, 101, 45, 49]⟩ (img.size + 12)) := Lib.hid (by rw [HFR.out]; exact tgt_img img HIM.out ed2)
            go_wp2_with (fail)
            go_meet
            exact ⟨_, img.size + 12, by first | rfl | go_num, rfl, rfl, Lib.hid ⟨by omega, by have := HIM.out; omega, HI.out⟩⟩
          | false =>
            have hz := HT78.out rfl
            have HE : Hid (Tgt (some fr) ed2 ⟨#[101, 100, 105, 116, 115, 45, 49, 45, 48]⟩ n0) := Lib.hid (by rw [HFR.out, HN0.out]; exact tgt_edt img HIM.out bs HB.out.2.2.1 ed2 HED.out (by rw [← HN0.out]; exact hz))
            go_wp2_with (fail)
            go_meet
            exact ⟨_, n0, by first | rfl | go_num, rfl, rfl, Lib.hid ⟨by omega, hn1, HE.out⟩⟩
        case rest =>
          obtain ⟨a, z, rfl, rfl, rfl, HZ⟩ := hcut
          clear HN0 hn1
          go_upto_region 22 with (fail)
          go_cut [89] (fun s89 wx => ∃ t : Bool, s89 = .bool t ∧ wx = wc ∧ Hid (t = false → ∃ b : Nat, bit = (b : Int) ∧ b / 8 < z))
          case first =>
            by_cases hb0 : bit < 0
            · have hb1 : decide (bit < 0) = true := decide_eq_true hb0
              go_wp2_with (fail)
              go_meet
              exact ⟨true, rfl, rfl, Lib.hid (fun h => by cases h)⟩
            · obtain ⟨b, rfl⟩ : ∃ b : Nat, bit = (b : Int) := ⟨bit.toNat, by omega⟩
              have hb1 : decide ((b : Int) < 0) = false := decide_eq_false hb0
              have hq : IntKind.i64.wrap ((b : Int) / 8) = (((b / 8 : Nat)) : Int) := by have := HBIT.out; rw [IntWalk.i64_in _ (by omega)]; omega
              have hq2 : wrap64 ((b : Int) / 8) = (((b / 8 : Nat)) : Int) := by have := HBIT.out; rw [IntWalk.wrap64_in _ ⟨by omega, by omega⟩]; omega
              by_cases hbz : b / 8 < z
              · have hz1 : ¬ (z : Int) ≤ ((b / 8 : Nat) : Int) := by omega
                have hz2 : ¬ (z : Int) ≤ (b : Int) / 8 := by omega
                go_wp2_with (fail)
                go_meet
                exact ⟨false, rfl, rfl, Lib.hid (fun _ => ⟨b, rfl, hbz⟩)⟩
              · have hz1 : (z : Int) ≤ ((b / 8 : Nat) : Int) := by omega
                have hz2 : (z : Int) ≤ (b : Int) / 8 := by omega
                go_wp2_with (fail)
                go_meet
                exact ⟨true, rfl, rfl, Lib.hid (fun h => by cases h)⟩
          case rest =>
            obtain ⟨t, rfl, rfl, HT89⟩ := hcut
            go_upto_if 89 with (fail)
            go_cut [8] (fun s8 wx => ∃ b : Nat, s8 = .int .i64 (b : Int) ∧ wx = wc ∧ Hid (b / 8 < z))
            case first =>
              cases t with
              | true =>
                go_wp2_with (fail)
                go_meet
                exact ⟨0, rfl, rfl, Lib.hid (by have := HZ.out.1; omega)⟩
              | false =>
                go_wp2_with (fail)
                go_meet
                obtain ⟨b, hb, hbz⟩ := HT89.out (by first | rfl | trivial)
                exact ⟨b, by rw [hb], rfl, Lib.hid hbz⟩
            case rest =>
              obtain ⟨b, rfl, rfl, HB8⟩ := hcut
              obtain ⟨z1, z2, hau, d, hg, hdz, hall⟩ := HZ.out
              obtain ⟨im', ed', hput, hsz, h01, hbad⟩ := hall b HB8.out
              have hfl := bst_flip a d b (by have := HB8.out; omega) h5 hau hg (by rw [hdz]; exact HB8.out) hput hsz
              have HA := Lib.hid (And.intro hau (And.intro h01 hbad))
              clear hau hg hdz hall hput hsz h01 hbad HZ z1 z2 h5
              go_wp2_with (fail)
              refine hfl.mono ?_
              rintro e w6 ⟨rfl, S6, H6⟩
              clear hfl
              have hrd := fun w' (hb : Below w6.heap.size w6 w') => bst_read a (Lib.hid (H6.out.below hb)) HA.out.1
              obtain ⟨X, hX⟩ : ∃ X, X = rdS (FL 1 0 im' ed') a := ⟨_, rfl⟩
              obtain ⟨Y, hY⟩ : ∃ Y, Y = rdE (FL 1 0 im' ed') a := ⟨_, rfl⟩
              obtain ⟨M, hM⟩ : ∃ M, M = (namesF (FL 1 0 im' ed')).length := ⟨_, rfl⟩
              have hls := fun w' (hb : Below w6.heap.size w6 w') => bst_list (Lib.hid (H6.out.below hb))
              have hop := fun w' (hb : Below w6.heap.size w6 w') => bst_open (Lib.hid (H6.out.below hb)) HT.out HA.out.2.1 HA.out.2.2
              have hpe := fun w' (hb : Below w6.heap.size w6 w') => bst_pending (Lib.hid (H6.out.below hb))
              rw [← hX, ← hY] at hrd
              rw [← hM] at hls
              have HC := Lib.hid (And.intro hrd (And.intro hls (And.intro hop hpe)))
              have HE6 := Lib.hid (Below.refl w6.heap.size w6)
              have HBW := Lib.hid H6.out.bel
              clear hrd hls hop hpe hX hY hM HA H6
              go_wp2_with (fail)
              refine (HC.out.1 _ HE6.out).mono ?_
              rintro e w7 ⟨rfl, rfl⟩
              go_wp2_with (fail)
              refine (HC.out.2.1 _ HE6.out).mono ?_
              rintro e w7 ⟨a7, c7, rfl, hb7⟩
              go_wp2_with (fail)
              refine (HC.out.2.2.1 _ hb7.out).mono ?_
              rintro e w8 ⟨rfl, hb8⟩
              have HE8 := Lib.hid (hb7.out.trans (hb8.mono hb7.out.size))
              clear hb8 hb7 HE6
              obtain ⟨q8, hq8⟩ : ∃ q8, q8 = w8.heap.size := ⟨_, rfl⟩
              obtain ⟨w9, hw9⟩ : ∃ w9, w9 = w8.alloc (.cells #[.string ⟨#[]⟩, .slice none 0 0] 29) := ⟨_, rfl⟩
              have HE9 := Lib.hid (HE8.out.trans (show Below w6.heap.size w8 w9 by rw [hw9]; exact (Below.refl _ _).alloc HE8.out.size _))
              have hh9 : w9.heap[q8]? = some (.cells #[.string ⟨#[]⟩, .slice none 0 0] 29 (0, 0)) := by rw [hw9, hq8]; exact heap_alloc_new w8 _
              have d0 : w9.cell? ⟨q8, 0, none⟩ = some (.string ⟨#[]⟩) := by simp [World.cell?, hh9]
              have d1 : w9.cell? ⟨q8, 1, none⟩ = some (.slice none 0 0) := by simp [World.cell?, hh9]
              have HD := Lib.hid (And.intro d0 d1)
              clear hh9 d0 d1
              go_wp2_with (fail)
              rw [← hw9, ← hq8]
              clear hw9 hq8
              refine (HC.out.1 _ HE9.out).mono ?_
              rintro e w10 ⟨rfl, rfl⟩
              obtain ⟨d0, d1⟩ := HD.out
              go_wp2_with (fail)
              refine (HC.out.2.1 _ HE9.out).mono ?_
              rintro e w11 ⟨a8, c8, rfl, hb11⟩
              have HE11 := Lib.hid (HE9.out.trans (hb11.out.mono HE9.out.size))
              clear hb11 d0 d1
              go_wp2_with (fail)
              refine (HC.out.2.2.2 _ HE11.out).mono ?_
              rintro e w12 ⟨rfl, rfl⟩
              go_wp2_with (fail)
              go_ret
              exact ⟨rfl, HBW.out.trans (HE11.out.mono HBW.out.size)⟩

set_option maxRecDepth 100000 in
theorem contractUpto (H : Type) (enc : TypeId × Value → H) (W : World) (base : Nat) (args : Array Value) (ds gs : List (DataW H)) (before : List MemPlace)
    (hval : ∀ (j : Nat) t v, Tryz.f4.params[j]? = some t → args[j]? = some v → Value.okWide Tryz.prog W .any base t v)
    (hW : DataW.Whole enc Tryz.prog Tryz.f4.params.toList Rows.journalRefusesSpec.vars false W args.toList ds gs before) (hL : laidMetH Tryz.prog Rows.journalRefusesRow.laid W)
    (hz : (DataW.weightsEach Tryz.prog (Tryz.f4.params.toList ++ []) (ds ++ gs)).all (· ≤ reachBytes) = true) (hk : Rows.uptoSmall H (ds ++ gs) = true) :
    Calls Tryz.prog 4 args W fun e W' => ∃ v, e = .returned v ∧ Rows.journalRefusesSpec.post enc Tryz.prog Tryz.f4 false true false false W args v W' := by
  have hW' := hW
  obtain ⟨p, q, hA0, hV, rfl, hfz, hnd⟩ := hW
  have hA : DataW.TrodAll enc Tryz.prog W 0 (fun _ => true) true Tryz.f4.params.toList args.toList ds p := hA0
  rw [Tryz.params4] at hA hval hz
  obtain ⟨v0, vs0, d0, ds0, p0, q0, hargs, rfl, rfl, h0, r0⟩ := trodAll_cons hA
  obtain ⟨v1, vs1, d1, ds1, p1, q1, rfl, rfl, rfl, h1, r1⟩ := trodAll_cons r0
  obtain ⟨v2, vs2, d2, ds2, p2, q2, rfl, rfl, rfl, h2, r2⟩ := trodAll_cons r1
  obtain ⟨rfl, rfl, rfl⟩ := trodAll_nil r2
  obtain rfl : args = #[v0, v1, v2] := by cases args; simp_all
  obtain ⟨rfl, rfl⟩ := trodVars_none hV
  obtain ⟨x0, rfl, rfl, rfl, w0⟩ := open_string Tryz.underlying9 (hval 0 9 v0 rfl rfl) h0
  have b0 : x0.size ≤ 140737488351232 := by have := sized_string hz (j := 0) (t := 9) rfl rfl; simpa [reachBytes] using this
  have hk0 : Rows.uptoBulk d1 ≤ 1048576 ∧ x0.size ≤ 1048576 := by
    have h := of_decide_eq_true hk
    simp only [List.append_nil, List.cons_append, List.nil_append, Rows.uptoBulkAll, Rows.uptoBulk] at h
    have e : x0.data.toList.length = x0.size := by simp
    omega
  obtain ⟨A, len, cap, bs, rfl, hbl, hlc, hT, htot1⟩ := open_texts2 (hval 1 27 v1 rfl rfl) h1 hk0.1
  have htot : x0.size ≤ 1048576 ∧ totL bs + 1 ≤ 1048576 := ⟨hk0.2, htot1⟩
  obtain ⟨x2, rfl, b2⟩ := open_pair (hval 2 41 v2 rfl rfl) h2
  clear hA0
  refine (walk x0 A len cap bs x2 W (half_in hL) (pow_in hL) hbl hlc hT htot b2).mono fun e W' ⟨he, hb⟩ => ?_
  subst he
  exact ⟨_, rfl, law_end hW' rfl rfl hb laidOut (by kernel_rfl) (by kernel_rfl) Tryz.underlying4⟩

theorem reads (os : Os) {H : Type} (enc : TypeId × Value → H) : ∃ places, DataW.whole enc Tryz.prog ((laidWorld os).forCall (fun _ _ => 0) ⟨#[], #[.string ⟨#[]⟩, .slice none 0 0, .agg #[.int .i64 0, .int .i64 0]], []⟩).memory Tryz.f4.params.toList Rows.journalRefusesSpec.vars false [Value.string ⟨#[]⟩, Value.slice none 0 0, Value.agg #[.int .i64 0, .int .i64 0]] 8 = some ([.lit (.string []), .nil, .agg [.lit (.int .i64 0), .lit (.int .i64 0)]], [], places) :=
  ⟨[], by kernel_rfl⟩

set_option maxRecDepth 100000 in
theorem lifted (os : Os) (started : os.Started) (H : Type) (enc : TypeId × Value → H) (F : Stop.Interp) :
    ReturnsInHanded {} Tryz.checked os 4 .any ((Rows.OpenSpec.upto Rows.journalRefusesSpec).preRow enc Tryz.prog Tryz.f4 Rows.journalRefusesUptoRow.domain false Rows.journalRefusesUptoRow.laid) (((Rows.OpenSpec.upto Rows.journalRefusesSpec).at F).post enc Tryz.prog Tryz.f4 false true false false) := by
  obtain ⟨places, hx⟩ := reads os enc
  have laid_met : laidMet Tryz.prog Rows.journalRefusesUptoRow.laid ((laidWorld os).forCall (fun _ _ => 0) ⟨#[], #[.string ⟨#[]⟩, .slice none 0 0, .agg #[.int .i64 0, .int .i64 0]], []⟩).memory := (laidMet_of_run' 8 (by kernel_rfl) (by kernel_rfl))
  refine returnsInHanded_of_row (C := Tryz.checked) (s := Rows.OpenSpec.upto Rows.journalRefusesSpec) own started (by kernel_rfl) Tryz.func4
    (witness_row_at (enc := enc) (C := Tryz.checked) false (laidWorld os) #[.string ⟨#[]⟩, .slice none 0 0, .agg #[.int .i64 0, .int .i64 0]] rfl (by kernel_rfl) (by kernel_rfl) (by kernel_rfl)
      (OpenSpec.preRow_of_cond 8 hx (by kernel_rfl) (fun k hk => by cases hk; kernel_rfl) (by kernel_rfl) laid_met)) ?_
  intro W base args ds gs before hval hW _ hcond hz hL _ _
  exact contractUpto H enc W base args ds gs before hval hW hL hz (hcond _ rfl)

theorem said : Rows.JournalRefusesUptoSaid :=
  OpenClaim.holds_of_cond 4 Tryz.f4 rfl rfl rfl rfl rfl rfl rfl ⟨rfl, rfl, rfl, rfl, rfl⟩ rfl rfl rfl rfl rfl (by kernel_rfl) Tryz.func4 (by kernel_rfl)
    (of_decide_eq_true (by kernel_rfl)) (by unfold Func.isWrapper; first | (rw [if_pos (by decide +kernel)]; kernel_rfl) | (rw [if_neg (by decide +kernel)]; exact ⟨rfl, rfl⟩))
    (fun os started H enc _ F => by rw [OpenClaim.pre_eq_preRow]; exact lifted os started H enc F)

theorem plain (f : FuncId) (fn : Func) (hf : Tryz.pinned.checked.prog.funcNamed "mahout/mahoutlaw10.JournalRefuses" = some f) (hfn : Tryz.pinned.checked.prog.funcs[f]? = some fn) :
    ∀ (j : Nat) t, fn.params[j]? = some t → Tryz.pinned.checked.prog.wantsStandIn t = false := by
  obtain rfl : f = 4 := Option.some.inj ((show Tryz.prog.funcNamed "mahout/mahoutlaw10.JournalRefuses" = some 4 by kernel_rfl).symm.trans hf) |>.symm
  obtain rfl : fn = Tryz.f4 := (Option.some.inj (Tryz.func4.symm.trans hfn)).symm
  exact fun j t ht => by
    rw [Tryz.params4] at ht
    have hm : t ∈ [9, 27, 41] := by simpa using Array.mem_of_getElem? ht
    have hall : ([9, 27, 41].all fun u => !Tryz.prog.wantsStandIn u) = true := by kernel_rfl
    exact (show Tryz.prog.wantsStandIn t = false by simpa using List.all_eq_true.1 hall t hm)
/-- THE CARD -/
theorem card : Rows.JournalRefusesUptoCardSaid :=
  Claim7.holds_tied_plain_at .later [] _ _ _ _ said (fun _ h => by cases h) (by kernel_rfl) (fun _ h => by cases h) journalRefusesUpto_row_tie rfl ⟨rfl, rfl⟩ (by kernel_rfl) rfl (fun f fn hf hfn => ⟨by kernel_rfl, plain f fn hf hfn⟩) (by kernel_rfl)

end Go.Proofs.YtlflfaldnpcjcaaGreatDoor.fnJournalRefuses
