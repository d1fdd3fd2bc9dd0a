/- Package disk: Flip, whatever lasts. -/
import Derived.Test.YtmlikkjahkdilaaGreatDoorDkFlD
namespace Go.Proofs.YtmlikkjahkdilaaGreatDoor
open Go.RowKit Go.Maps

theorem flipD_size (d : ByteArray) (bit : Int) : (flipD d bit).size = d.size := by
  show ((d.data.toList.set _ _).toArray).size = _
  simp
theorem cells_set (d : ByteArray) (q : Nat) (y : UInt8) : Lib.byteCells (d.data.toList.set q y) = (Lib.byteCells d.data.toList).set q (.int .u8 (y.toNat : Int)) := by
  simp [Lib.byteCells, List.map_set]
theorem FsR.flip {B : Nat} {w : World} {l n : Nat} {V : Hv} {L : Fs} (h : FsR B w l n V L) {a d d' : ByteArray} {g q cap : Nat} {x : Value} (hg : getF L a = some d) (hv : V a = some (.slice (some ⟨g, 0, none⟩) d.size cap)) (hs : d'.size = d.size) (hc : Lib.byteCells d'.data.toList = (Lib.byteCells d.data.toList).set q x) :
    FsR B (w.setCell ⟨g, q, none⟩ x) l n V (putF L a d') := by
  obtain ⟨v, h1, h2⟩ := h.row a d hg
  rw [hv] at h1
  injection h1 with h1
  subst h1
  have ts := tch_set w ⟨g, q, none⟩ x
  refine ⟨h.gf.tch ts (fun e => h.gf.apart (row_at h2 rfl) (show g = l from e.symm)), fun r z hr => ?_, fun r hr => ?_, h.one, srt_putF h.srt _ _⟩
  · rw [getF_putF] at hr
    by_cases e : r = a
    · rw [if_pos e] at hr
      injection hr with hr
      subst hr
      subst e
      refine ⟨_, hv, ?_⟩
      rw [hs, hc]
      exact (h2.stored q x).1
    · rw [if_neg e] at hr
      obtain ⟨u, q1, q2⟩ := h.row r z hr
      refine ⟨u, q1, row_tch q2 ts (fun b hb hx => ?_)⟩
      have hx : b = g := hx
      subst hx
      exact e (h.one r a u _ b q1 hv hb rfl)
  · rw [getF_putF] at hr
    by_cases e : r = a
    · rw [if_pos e] at hr; cases hr
    · rw [if_neg e] at hr
      exact h.non r hr
theorem nm_putF {L : Fs} {q d : ByteArray} (h : NmF L) (hq : q.size ≤ 64) : NmF (putF L q d) := fun x hx => by
  rcases (mem_insF _ _ _).1 hx with rfl | hx
  · exact hq
  · exact h x ((mem_delF _ _ _).1 hx).1
theorem look_nilmap (w : World) (a : ByteArray) : (Instr.lookup 62 (.map none) (.string a) true).run Tryz.prog w = .ok (.tuple #[nilS, .bool false]) w := by kernel_rfl
set_option maxRecDepth 100000 in
set_option maxHeartbeats 4000000 in
theorem flip_K {w0 w : World} {p : Nat} {S : Nat → Prop} {cp : Int} {n : Nat} {L : Fs} {cs : List Chg} (a : ByteArray) (bit : Int) (hbit : -9223372036854775808 ≤ bit ∧ bit ≤ 9223372036854775807) (h : Hid (DK w0 w p S cp n L cs)) (ha : a.size ≤ maxLen) (hn : n + 1 + cs.length < maxLen) (hln : L.length ≤ n) (hsz : totF L + wts cs ≤ 1099511627776) :
    Calls Tryz.prog 17 #[.pointer (some ⟨p, 0, none⟩), .string a, .int .i64 bit] w fun e w' => e = .returned (.int .i64 (flR L a bit)) ∧ Hid (DK w0 w' p (grow S w w') cp (n + 1 + cs.length) (flL L a bit) cs ∧ Tch w w' S) := by
  have HST := Lib.hid (h.out.still (n' := n + 1 + cs.length) (Below.refl _ w) (by omega))
  obtain ⟨last, chg, hel, hk, hcr, hcs, hmp⟩ := h.out.m.st
  have c1 := hk.c1
  rcases hmp with ⟨rfl, hL0, hcs0, hhel⟩ | ⟨l, m, V, U, rfl, rfl, hl, hm, sl, sm, lm, rv, ru, apt⟩
  · have e1 : flR L a bit = 41 := by rw [hL0]; rfl
    have e2 : flL L a bit = L := by rw [hL0]; rfl
    have hlk := fun w => look_nilmap w a
    rw [e1, e2]
    clear hk hcr hcs hhel hL0 hcs0 e1 e2 h
    go_enter Tryz.func17, Tryz.ntmps17
    go_wp2
    go_ret
    exact ⟨rfl, HST⟩
  · have hlk := gf_look hl.gf ha
    cases hg : getF L a with
    | none =>
      have e1 : flR L a bit = 41 := by unfold flR; rw [hg]
      have e2 : flL L a bit = L := by unfold flL; rw [hg]
      rw [hl.non a hg] at hlk
      simp only [Option.getD_none, Option.isSome_none] at hlk
      rw [e1, e2]
      clear hk hcr hcs hl hm rv ru apt e1 e2 h hg
      go_enter Tryz.func17, Tryz.ntmps17
      go_wp2
      go_ret
      exact ⟨rfl, HST⟩
    | some d =>
      obtain ⟨v, hv, hr⟩ := hl.row a d hg
      obtain ⟨va, vc, rfl⟩ := row_slice0 hr
      rw [hv] at hlk
      simp only [Option.getD_some, Option.isSome_some] at hlk
      have hds := size_le_tot hg
      have hmul : IntKind.i64.wrap (8 * (d.size : Int)) = 8 * (d.size : Int) := IntWalk.i64_in _ (by omega)
      have hmul2 : wrap64 (8 * (d.size : Int)) = 8 * (d.size : Int) := IntWalk.wrap64_in _ ⟨by omega, by omega⟩
      by_cases hb : bit < 0 ∨ (d.size : Int) ≤ bit / 8
      · have e1 : flR L a bit = 2 := by unfold flR; rw [hg]; exact if_pos hb
        have e2 : flL L a bit = L := by unfold flL; rw [hg]; exact if_pos hb
        rw [e1, e2]
        clear hk hcr hcs hl hm rv ru apt e1 e2 h hg hr hds
        by_cases hb0 : bit < 0
        · have hb1 : decide (bit < 0) = true := by simpa using hb0
          clear hb hb0
          go_enter Tryz.func17, Tryz.ntmps17
          go_wp2
          go_ret
          exact ⟨rfl, HST⟩
        · have hb1 : decide (bit < 0) = false := by simpa using hb0
          have hb2 : 8 * (d.size : Int) ≤ bit := by omega
          clear hb hb0
          go_enter Tryz.func17, Tryz.ntmps17
          go_wp2
          go_ret
          exact ⟨rfl, HST⟩
      · obtain ⟨b, rfl⟩ : ∃ b : Nat, bit = (b : Int) := ⟨bit.toNat, by omega⟩
        have hb1 : decide ((b : Int) < 0) = false := by simp
        have hb2 : ¬ 8 * (d.size : Int) ≤ (b : Int) := by omega
        obtain ⟨q, hq⟩ : ∃ q : Nat, q = b / 8 := ⟨_, rfl⟩
        obtain ⟨r, hr'⟩ : ∃ r : Nat, r = b % 8 := ⟨_, rfl⟩
        have hqi : (b : Int) / 8 = (q : Int) := by omega
        have hri : (b : Int) % 8 = (r : Int) := by omega
        have hqs : q < d.size := by omega
        have hqs2 : (q : Int) < (d.size : Int) := by omega
        have hql : q < d.data.toList.length := by simpa using hqs
        obtain ⟨y, hy⟩ : ∃ y, d.data.toList[q]? = some y := ⟨_, List.getElem?_eq_getElem hql⟩
        obtain ⟨g, rfl⟩ : ∃ g, va = some ⟨g, 0, none⟩ := by
          rcases hr.2 with ⟨_, e⟩ | ⟨g, cap, cur, e, _⟩
          · omega
          · injection e with e _ _
            exact ⟨g, e⟩
        have hc1 : w.cell? ⟨g, q, none⟩ = some (.int .u8 (y.toNat : Int)) := by
          rw [hr.cellAt q (by omega)]
          simp [Lib.byteCells, hy]
        have hf1 := hr.frozenAt q
        have hwq : IntKind.i64.wrap (q : Int) = (q : Int) := IntWalk.i64_in _ (by omega)
        have hwr : IntKind.i64.wrap (r : Int) = (r : Int) := IntWalk.i64_in _ (by omega)
        have hr8 : r = 0 ∨ r = 1 ∨ r = 2 ∨ r = 3 ∨ r = 4 ∨ r = 5 ∨ r = 6 ∨ r = 7 := by omega
        obtain ⟨z, hz⟩ : ∃ z, z = UInt8.ofNat (2 ^ r) := ⟨_, rfl⟩
        have hxo := u8_xor_of y z
        obtain ⟨yz, hyz⟩ : ∃ yz, yz = y ^^^ z := ⟨_, rfl⟩
        rw [← hyz] at hxo
        have hT : Lib.byteCells (flipD d (b : Int)).data.toList = (Lib.byteCells d.data.toList).set q (.int .u8 (yz.toNat : Int)) := by
          unfold flipD
          rw [show ((b : Int) / 8).toNat = q by omega, hy, bitB_nat, ← hr', ← hz, hyz, ← cells_set]
          rfl
        have has : a.size ≤ 64 := nm_get h.out.m.nm (by rw [hg]; rfl)
        have HAN : Hid (flR L a (b : Int) = 0 ∧ flL L a (b : Int) = putF L a (flipD d (b : Int))) := Lib.hid (by
          unfold flR flL
          rw [hg]
          exact ⟨if_neg hb, if_neg hb⟩)
        have HA : Hid (DkA w0.heap.size (w.setCell ⟨g, q, none⟩ (.int .u8 (yz.toNat : Int))).drew p S cp ((totF (held L cs) : Nat) : Int) (n + 1) (putF L a (flipD d (b : Int))) cs ∧ Tch w (w.setCell ⟨g, q, none⟩ (.int .u8 (yz.toNat : Int))).drew S) := Lib.hid (by
          have hgS : S g := rv g ⟨a, _, hv, rfl⟩
          have ts := tch_set w ⟨g, q, none⟩ (.int .u8 (yz.toNat : Int))
          have td : Tch (w.setCell ⟨g, q, none⟩ (.int .u8 (yz.toNat : Int))) (w.setCell ⟨g, q, none⟩ (.int .u8 (yz.toNat : Int))).drew (fun _ => False) := tch_below _ (Below.refl _ _).drew
          have tw : Tch w (w.setCell ⟨g, q, none⟩ (.int .u8 (yz.toNat : Int))).drew S := (((Tch.refl w S).then ts (fun i _ e => by
            have e : i = g := e
            rw [e]; exact hgS)).then td (fun _ _ e => e.elim))
          have f1 := hl.flip hg hv (flipD_size d b) hT
          have hgp : ¬ g = p := cells_apart (row_at hr rfl) hk.ty (by decide)
          refine ⟨⟨h.out.m.hp, fun x hx => ⟨(h.out.m.own x hx).1, Nat.lt_of_lt_of_le (h.out.m.own x hx).2 tw.size⟩, h.out.m.ok, nm_putF h.out.m.nm has, _, chg, _, (hk.tch ts (fun e => hgp (show p = g from e).symm)).tch td (fun e => e), row_tch (row_tch hcr ts (fun x hx e => ?_)) td (fun _ _ e => e), hcs, .inr ⟨l, V, rfl, (f1.tch td (fun e => e) (fun _ _ e => e)).mono (Nat.le_succ n), sl, rv⟩⟩, tw⟩
          have e : x = g := e
          exact cells_apart (row_at hcr hx) (row_at hr rfl) (by decide) e)
        have HSZ : Hid ((putF L a (flipD d (b : Int))).length ≤ n + 1 ∧ totF (putF L a (flipD d (b : Int))) + wts cs ≤ 1099511627776) := Lib.hid (by
          have h1 := len_putF L a (flipD d (b : Int))
          have h2 := tot_putF h.out.srt a (flipD d (b : Int))
          rw [hg, flipD_size] at h2
          simp only [Option.map_some, Option.getD_some] at h2
          exact ⟨by omega, by omega⟩)
        clear hk hcr hcs hl hm rv ru apt sl sm lm hg hr hds hT hyz hr' hq hqs hql hy has hv HST hb
        go_enter Tryz.func17, Tryz.ntmps17
        go_upto_region 8 with (fail)
        obtain ⟨wz, hwz⟩ : ∃ wz, wz = (w.setCell ⟨g, q, none⟩ (.int .u8 (yz.toNat : Int))).drew := ⟨_, rfl⟩
        have HA2 : Hid (DkA w0.heap.size wz p S cp ((totF (held L cs) : Nat) : Int) (n + 1) (putF L a (flipD d (b : Int))) cs ∧ Tch w wz S) := Lib.hid (by rw [hwz]; exact HA.out)
        clear HA
        go_cut [] (fun wx => wx = wz)
        case first =>
          rcases hr8 with rfl | rfl | rfl | rfl | rfl | rfl | rfl | rfl
          all_goals
            rw [hz] at hxo
            clear hz
            go_region
            go_wp2
            go_meet
            rw [hwz]
            first
              | (rw [show bits BinOp.xor IntKind.u8 (y.toNat : Int) 1 = (yz.toNat : Int) from hxo])
              | (rw [show bits BinOp.xor IntKind.u8 (y.toNat : Int) 2 = (yz.toNat : Int) from hxo])
              | (rw [show bits BinOp.xor IntKind.u8 (y.toNat : Int) 4 = (yz.toNat : Int) from hxo])
              | (rw [show bits BinOp.xor IntKind.u8 (y.toNat : Int) 8 = (yz.toNat : Int) from hxo])
              | (rw [show bits BinOp.xor IntKind.u8 (y.toNat : Int) 16 = (yz.toNat : Int) from hxo])
              | (rw [show bits BinOp.xor IntKind.u8 (y.toNat : Int) 32 = (yz.toNat : Int) from hxo])
              | (rw [show bits BinOp.xor IntKind.u8 (y.toNat : Int) 64 = (yz.toNat : Int) from hxo])
              | (rw [show bits BinOp.xor IntKind.u8 (y.toNat : Int) 128 = (yz.toNat : Int) from hxo])
        case rest =>
          subst hcut
          clear hwz
          have han := anew_F (Lib.hid HA2.out.1) (Nat.le_trans h.out.bel.size HA2.out.2.size) hn HSZ.out.1 HSZ.out.2
          go_wp2_with (fail)
          refine han.mono ?_
          rintro e w2 ⟨rfl, H2⟩
          have HF : Hid (DK w0 w2 p (grow S w w2) cp (n + 1 + cs.length) (flL L a (b : Int)) cs ∧ Tch w w2 S) := Lib.hid (by
            rw [HAN.out.2]
            have t2 : Tch w w2 S := HA2.out.2.then H2.out.2 (fun _ _ e => e)
            refine ⟨⟨bel_tch2 h.out.bel t2 (fun i hi => (h.out.m.own i hi).1), ?_⟩, t2⟩
            exact H2.out.1.wide (fun x hx => hx.imp id (fun k => ⟨Nat.le_trans HA2.out.2.size k.1, k.2⟩)) (grow_own h.out.m.own h.out.bel.size t2.size) (Nat.le_refl _))
          clear han H2
          go_wp2
          go_ret
          exact ⟨by rw [HAN.out.1]; rfl, HF⟩
end Go.Proofs.YtmlikkjahkdilaaGreatDoor
