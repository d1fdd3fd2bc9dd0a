/- The contract of the reference's Split. -/
import Derived.Test.YtlenmcfdoolgbaaDoorPathRef
import Derived.OwnWalk
namespace Go.Proofs.YtlenmcfdoolgbaaDoor
open Go.RowKit

set_option maxHeartbeats 1000000 in
theorem rsplit_short (s : ByteArray) (w : World) (h0 : Ls s ≠ [47]) (h : ¬ (s.size ≤ 256 ∧ (Ls s).head? = some 47)) (hs : s.size ≤ maxLen) :
    Calls Tryd.prog 9 #[.string s] w fun e w' => e = .returned (.tuple #[.slice none 0 0, .bool false]) ∧ Below w.heap.size w w' := by
  unfold maxLen at hs
  have t0 : (s.toList == [47]) = false := by rw [isSlash]; exact decide_eq_false h0
  by_cases hn : s.size = 0
  · have hnil := size_zero hn
    have t1 : s.toList.isEmpty = true := by rw [hnil]; rfl
    clear h h0 hnil hn
    go_enter Tryd.func9, Tryd.ntmps9
    go_wp2
    go_ret2
    exact ⟨rfl, Below.refl _ _⟩
  · have hpos : 0 < s.size := by omega
    have t1 : s.toList.isEmpty = false := by
      rcases h1 : s.toList with _ | ⟨a, l⟩
      · exact absurd h1 (not_nil hpos)
      · rfl
    have hh : (Ls s).head? = some s[0] := by
      have := size_len s
      rcases h1 : s.data.toList with _ | ⟨a, l⟩
      · rw [h1] at this; simp at this; omega
      · have e : s[0] = s.data.toList[0]'(by rw [size_len]; exact hpos) := rfl
        rw [Ls, h1, e]
        simp [h1]
    by_cases h1 : (s[0].toNat : Int) = 47
    · have hb : s[0] = 47 := UInt8.toNat_inj.1 (by simpa using (by omega : s[0].toNat = 47))
      have h2 : ¬ (s.size : Int) ≤ 256 := fun h2 => h ⟨by omega, by rw [hh, hb]⟩
      have d1 : ((s[0].toNat : Int) == 47) = true := beq_iff_eq.2 h1
      have d2 : ((s[0].toNat : Int) != 47) = false := by simp [h1]
      have i2 : decide (256 < (s.size : Int)) = true := decide_eq_true (by omega)
      clear h h0 hh hb hn h1
      go_enter Tryd.func9, Tryd.ntmps9
      go_wp2
      go_ret2
      exact ⟨rfl, Below.refl _ _⟩
    · have d1 : ((s[0].toNat : Int) == 47) = false := beq_eq_false_iff_ne.2 h1
      have d2 : ((s[0].toNat : Int) != 47) = true := by simp [h1]
      clear h h0 hh hn h1
      go_enter Tryd.func9, Tryd.ntmps9
      go_wp2
      go_ret2
      exact ⟨rfl, Below.refl _ _⟩
theorem own_txts {w : World} {B : Nat} {v : Value} {xs : List Path.Bs} (h : w.ownsRow B 9 1 v xs.length (xs.map T)) : ∃ A c, v = .slice A xs.length c ∧ Txts w w.heap.size A xs ∧ xs.length ≤ c := by
  rcases h.2 with ⟨rfl, h0⟩ | ⟨g, cap, cur, rfl, _, hgb, hcp, _⟩
  · have hx : xs = [] := List.length_eq_zero_iff.1 h0
    subst hx
    exact ⟨none, 0, rfl, fun i hi => absurd hi (Nat.not_lt_zero _), Nat.le_refl _⟩
  · refine ⟨_, cap, rfl, fun i hi => ⟨g, 0, rfl, (Array.getElem?_eq_some_iff.1 hgb).1, ?_⟩, hcp⟩
    rw [Nat.zero_add]
    refine (h.cellAt i (by simpa using hi)).trans ?_
    simp [hi]
/-- what the reference's Split hands back -/
def RSplit (s : ByteArray) (w : World) (e : Ending) (w' : World) : Prop :=
  (Path.pp (Ls s) = none ∧ e = .returned (.tuple #[.slice none 0 0, .bool false]) ∧ Below w.heap.size w w') ∨
  ∃ xs A c, Path.pp (Ls s) = some xs ∧ e = .returned (.tuple #[.slice A xs.length c, .bool true]) ∧ Txts w' w'.heap.size A xs ∧ Below w.heap.size w w' ∧ xs.length ≤ c
/-- where the scan stands -/
def SInv (s : ByteArray) (w wr : World) (v : Value) (fr i : Nat) (done : List Path.Bs) : Prop :=
  Path.RS (Ls s) done fr i ∧ wr.ownsRow w.heap.size 9 1 v done.length (done.map T) ∧ Below w.heap.size w wr
theorem SInv.start {s : ByteArray} {w : World} (h : (Ls s).head? = some 47) : SInv s w w (.slice none 0 0) 1 1 [] := ⟨Path.RS.start h, ⟨rfl, .inl ⟨rfl, rfl⟩⟩, Below.refl _ _⟩
theorem SInv.drew {s : ByteArray} {w wr : World} {v : Value} {fr i : Nat} {done : List Path.Bs} (h : SInv s w wr v fr i done) (m : Nat) : SInv s w (wr.drewN m) v fr i done := ⟨h.1, h.2.1, below_drewN h.2.2 m⟩
theorem SInv.skip {s : ByteArray} {w wr : World} {v : Value} {fr i : Nat} {done : List Path.Bs} (h : SInv s w wr v fr i done) (hi : i < s.size) (hb : ¬ (s[i].toNat : Int) = 47) : SInv s w wr v fr (i + 1) done :=
  ⟨h.1.skip (by rw [size_len]; exact hi) (fun e => hb (by have e' : s[i] = 47 := e; rw [e']; rfl)), h.2⟩
theorem piece (s : ByteArray) (fr i : Nat) : (s.extract fr i).data.toList = ((Ls s).drop fr).take (i - fr) := by
  rw [ByteArray.data_extract, Array.toList_extract, List.extract_eq_take_drop]
theorem SInv.more {s : ByteArray} {w wr w2 : World} {v v' : Value} {fr i : Nat} {done : List Path.Bs} {o : Obj} (h : SInv s w wr v fr i done) (hi : i ≤ s.size) (hb : (hi : i < s.size) → (s[i].toNat : Int) = 47)
    (hp : Path.part (s.extract fr i).data.toList = true) (hown : w2.ownsRow w.heap.size 9 1 v' (done.length + 1) (done.map T ++ [.string (s.extract fr i)])) (hg : (wr.alloc o).grownBy w2 v.ownBlock) :
    SInv s w w2 v' (i + 1) (i + 1) (done ++ [(s.extract fr i).data.toList]) := by
  obtain ⟨h1, h2, h3⟩ := h
  have hl := size_len s
  rw [piece] at hp ⊢
  refine ⟨?_, ?_, ?_⟩
  · by_cases hlt : i < s.size
    · refine h1.cut (by rw [size_len]; exact hlt) ?_ hp
      exact UInt8.toNat_inj.1 (by have := hb hlt; show s[i].toNat = 47; omega)
    · exact h1.last (by rw [Ls, hl]; omega) hp
  · have e : (done ++ [((Ls s).drop fr).take (i - fr)]).map T = done.map T ++ [.string (s.extract fr i)] := by
      rw [List.map_append, mkT (s.extract fr i), piece]; rfl
    rw [e, List.length_append, List.length_singleton]
    exact hown
  · have h4 : Below w.heap.size wr (wr.alloc o) := (Below.refl _ _).alloc (by have := h3.size; omega) _
    refine (h3.trans h4).grown hg (by have := h3.size; simp; omega) (fun j ej => ?_)
    rcases h2.2 with ⟨rfl, _⟩ | ⟨g, cap, cur, rfl, hb, _, _⟩
    · simp [Value.ownBlock] at ej
    · obtain rfl : g = j := by simpa [Value.ownBlock] using ej
      exact hb
theorem SInv.bad {s : ByteArray} {w wr : World} {v : Value} {fr i : Nat} {done : List Path.Bs} (h : SInv s w wr v fr i done) (h0 : Ls s ≠ [47]) (hi : i ≤ s.size) (hb : (hi : i < s.size) → (s[i].toNat : Int) = 47)
    (hp : Path.part (s.extract fr i).data.toList = false) (m : Nat) : RSplit s w (.returned (.tuple #[.slice none 0 0, .bool false])) (wr.drewN m) := by
  refine .inl ⟨?_, rfl, below_drewN h.2.2 m⟩
  rw [piece] at hp
  have hm := h.1.mem (by rw [Ls, size_len]; exact hi) (fun hlt => by
    have hlt' : i < s.size := by rw [← size_len s]; exact hlt
    exact UInt8.toNat_inj.1 (by have := hb hlt'; show s[i].toNat = 47; omega))
  exact Path.pp_bad h0 hm hp
theorem SInv.fin {s : ByteArray} {w wr : World} {v : Value} {fr i : Nat} {done : List Path.Bs} (h : SInv s w wr v fr i done) (h0 : Ls s ≠ [47]) (h1 : (s.size : Int) ≤ 256) (h2 : (Ls s).head? = some 47) (hi : ¬ i ≤ s.size) :
    Path.pp (Ls s) = if done.length ≤ 16 then some done else none := by
  have hf := h.1.fin (by rw [Ls, size_len]; exact hi)
  rw [Path.pp_parts h0 (by rw [Ls, size_len]; omega) h2, hf]
  have : done.all Path.part = true := List.all_eq_true.2 h.1.parts
  simp [this]
set_option maxHeartbeats 1000000 in
theorem rsplit_scan (s : ByteArray) (w : World) (h0 : Ls s ≠ [47]) (h1 : (s.size : Int) ≤ 256) (h2 : (Ls s).head? = some 47) :
    Calls Tryd.prog 9 #[.string s] w (RSplit s w) := by
  have t0 : (s.toList == [47]) = false := by rw [isSlash]; exact decide_eq_false h0
  have hpos : 0 < s.size := by
    have := size_len s
    rcases h3 : s.data.toList with _ | ⟨b, l⟩
    · rw [Ls, h3] at h2; cases h2
    · rw [h3] at this; simp at this; omega
  have t1 : s.toList.isEmpty = false := by
    rcases h1 : s.toList with _ | ⟨a, l⟩
    · exact absurd h1 (not_nil hpos)
    · rfl
  have hz : (s[0].toNat : Int) = 47 := by
    have hh : (Ls s).head? = some s[0] := by
      have := size_len s
      rcases h1 : s.data.toList with _ | ⟨a, l⟩
      · rw [h1] at this; simp at this; omega
      · have e : s[0] = s.data.toList[0]'(by rw [size_len]; exact hpos) := rfl
        rw [Ls, h1, e]
        simp [h1]
    rw [hh] at h2
    injection h2 with h2
    rw [h2]; rfl
  have d1 : ((s[0].toNat : Int) == 47) = true := beq_iff_eq.2 hz
  have d2 : ((s[0].toNat : Int) != 47) = false := by simp [hz]
  have HH := Lib.hid h2
  clear h2 hz
  obtain ⟨i0, hi, hz0, hz1, hz2⟩ := info_parts infoStr
  have H0 := Lib.hid h0
  clear h0
  go_enter Tryd.func9, Tryd.ntmps9
  go_wp2
  go_loopw [4, 5, 6] (fun v f i wr => ∃ (fr k : Nat) (done : List Path.Bs), k ≤ s.size + 1 ∧ fr ≤ k ∧ f = .int .i64 fr ∧ i = .int .i64 k ∧ Hid (SInv s w wr v fr k done)) (fun _ _ i _ => s.size + 1 - (intOf i).toNat)
  case atStart => exact ⟨1, 1, [], by omega, Nat.le_refl _, rfl, rfl, Lib.hid (SInv.start HH.out)⟩
  case round =>
    rename_i u4
    obtain ⟨fr, k, done, hk, hfk, rfl, rfl, HI⟩ := hrel
    have hdl := HI.out.1.len
    have hsl := size_len s
    rw [Ls, hsl] at hdl
    have HSL := Lib.hid hsl
    clear hsl
    by_cases hle : k ≤ s.size
    · have hle' : (k : Int) ≤ (s.size : Int) := by omega
      by_cases hskip : ∃ h : k < s.size, ¬ (s[k].toNat : Int) = 47
      · obtain ⟨hlt, hne⟩ := hskip
        have hlt' : (k : Int) < (s.size : Int) := by omega
        have e1 : ((s[k].toNat : Int) == 47) = false := beq_eq_false_iff_ne.2 hne
        have e2 : ((s[k].toNat : Int) != 47) = true := by simp [hne]
        have HN := Lib.hid (HI.out.skip hlt hne)
        clear hne
        go_wp2
        go_roundw
        case rel => exact ⟨fr, k + 1, done, by omega, by omega, rfl, by go_num, HN⟩
        case measure => simp [intOf]; omega
      · have hb : (hi : k < s.size) → (s[k].toNat : Int) = 47 := fun hlt => Classical.not_not.1 (fun hne => hskip ⟨hlt, hne⟩)
        have HBB := Lib.hid hb
        have hps : (s.extract fr k).size ≤ maxLen := by rw [ByteArray.size_extract]; unfold maxLen; omega
        have hpart := rpart_any (s.extract fr k) wr hps
        have hown := HI.out.2.1
        have hBz := HI.out.2.2.size
        obtain ⟨x, hx⟩ : ∃ x, s.extract fr k = x := ⟨_, rfl⟩
        have HXE := Lib.hid hx
        rw [hx] at hpart
        clear hskip hb
        rcases Nat.lt_or_ge k s.size with hlt | hge
        · have hlt' : (k : Int) < (s.size : Int) := by omega
          have hq := HBB.out hlt
          have e1 : ((s[k].toNat : Int) == 47) = true := beq_iff_eq.2 hq
          have e2 : ((s[k].toNat : Int) != 47) = false := by simp [hq]
          clear hq
          go_wp2_with (fail)
          refine hpart.mono ?_
          rintro e w1 ⟨rfl, m, hm⟩
          have HI1 : Hid (SInv s w w1 u4 fr k done) := Lib.hid (hm ▸ HI.out.drew m)
          clear hm HI hown hBz
          have hown := HI1.out.2.1
          have hBz := HI1.out.2.2.size
          rcases hp : Path.part x.data.toList with _ | _
          · have HP := Lib.hid hp
            clear hp
            go_wp2
            go_ret2
            exact HI1.out.bad H0.out hle HBB.out (by rw [HXE.out]; exact HP.out) 0
          · have HP := Lib.hid hp
            clear hp
            go_wp2_with (at_builtin; refine wpList_append_own _ rfl _ _ 23 rfl w.heap.size 9 i0 (.string ByteArray.empty) 1 16 Tryd.underlying23 hi hz0 hz1 hz2 rfl (by decide) _ _ _ rfl (hown.alloc _) ⟨w1.heap.size, 0, none⟩ 1 1 [.string x] rfl rfl ?c1 ?c2 ?c3 ?c4 ?c5 ?_)
            case c1 =>
              intro j u hj
              match j, hj with
              | 0, hj => simp at hj; subst hj; simp [Addr.add]
            case c2 => first | rfl | (intro u hu; simp at hu; subst hu; rfl)
            case c3 => unfold maxLen; omega
            case c4 => omega
            case c5 => simp; omega
            intro v' w2 hown' hgrow' _
            have HST := Lib.hid (HI1.out.more hle HBB.out (by rw [HXE.out]; exact HP.out) (by rw [HXE.out]; simpa using hown') hgrow')
            clear hown hown' hgrow'
            go_wp2
            go_roundw
            case rel => exact ⟨k + 1, k + 1, _, by omega, Nat.le_refl _, by go_num, by go_num, HST⟩
            case measure => simp [intOf]; omega
        · have hge' : ¬ (k : Int) < (s.size : Int) := by omega
          go_wp2_with (fail)
          refine hpart.mono ?_
          rintro e w1 ⟨rfl, m, hm⟩
          have HI1 : Hid (SInv s w w1 u4 fr k done) := Lib.hid (hm ▸ HI.out.drew m)
          clear hm HI hown hBz
          have hown := HI1.out.2.1
          have hBz := HI1.out.2.2.size
          rcases hp : Path.part x.data.toList with _ | _
          · have HP := Lib.hid hp
            clear hp
            go_wp2
            go_ret2
            exact HI1.out.bad H0.out hle HBB.out (by rw [HXE.out]; exact HP.out) 0
          · have HP := Lib.hid hp
            clear hp
            go_wp2_with (at_builtin; refine wpList_append_own _ rfl _ _ 23 rfl w.heap.size 9 i0 (.string ByteArray.empty) 1 16 Tryd.underlying23 hi hz0 hz1 hz2 rfl (by decide) _ _ _ rfl (hown.alloc _) ⟨w1.heap.size, 0, none⟩ 1 1 [.string x] rfl rfl ?c1 ?c2 ?c3 ?c4 ?c5 ?_)
            case c1 =>
              intro j u hj
              match j, hj with
              | 0, hj => simp at hj; subst hj; simp [Addr.add]
            case c2 => first | rfl | (intro u hu; simp at hu; subst hu; rfl)
            case c3 => unfold maxLen; omega
            case c4 => omega
            case c5 => simp; omega
            intro v' w2 hown' hgrow' _
            have HST := Lib.hid (HI1.out.more hle HBB.out (by rw [HXE.out]; exact HP.out) (by rw [HXE.out]; simpa using hown') hgrow')
            clear hown hown' hgrow'
            go_wp2
            go_roundw
            case rel => exact ⟨k + 1, k + 1, _, by omega, Nat.le_refl _, by go_num, by go_num, HST⟩
            case measure => simp [intOf]; omega
    · have hle' : ¬ (k : Int) ≤ (s.size : Int) := by omega
      obtain ⟨A, c, rfl, htx, hcap⟩ := own_txts HI.out.2.1
      have HCP := Lib.hid hcap
      clear hcap
      have HT := Lib.hid htx
      have hf := HI.out.fin H0.out h1 HH.out hle
      have HF := Lib.hid hf
      clear htx hf
      by_cases hd : done.length ≤ 16
      · have hd' : (done.length : Int) ≤ 16 := by omega
        go_wp2
        go_ret2
        exact .inr ⟨done, A, c, by rw [HF.out, if_pos hd], rfl, HT.out, HI.out.2.2, HCP.out⟩
      · have hd' : ¬ (done.length : Int) ≤ 16 := by omega
        go_wp2
        go_ret2
        exact .inl ⟨by rw [HF.out, if_neg hd], rfl, HI.out.2.2⟩
end Go.Proofs.YtlenmcfdoolgbaaDoor
