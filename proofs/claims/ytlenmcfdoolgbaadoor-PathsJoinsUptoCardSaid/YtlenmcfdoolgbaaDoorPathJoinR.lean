/- The contract of the reference's Join. -/
import Derived.Test.YtlenmcfdoolgbaaDoorPathS
namespace Go.Proofs.YtlenmcfdoolgbaaDoor
open Go.RowKit

theorem app_T (a b : Path.Bs) : (⟨a.toArray⟩ : ByteArray) ++ ⟨b.toArray⟩ = ⟨(a ++ b).toArray⟩ := by
  apply ByteArray.ext
  apply Array.toList_inj.1
  simp
theorem glue_snoc {xs : List Path.Bs} {k : Nat} (hk : k < xs.length) : Path.glue (xs.take (k + 1)) = Path.glue (xs.take k) ++ (47 :: xs[k]) := by
  rw [Path.take_moreB hk, Path.glue_append]
  simp [Path.glue]
theorem glue_take_le (xs : List Path.Bs) (k : Nat) : (Path.glue (xs.take k)).length ≤ (Path.glue xs).length := by
  have := Path.glue_append (xs.take k) (xs.drop k)
  rw [List.take_append_drop] at this
  rw [this, List.length_append]; omega
theorem glue_mem {xs : List Path.Bs} {k : Nat} (hk : k < xs.length) : xs[k].length + (Path.glue (xs.take k)).length + 1 ≤ (Path.glue xs).length := by
  have h1 := glue_take_le xs (k + 1)
  rw [glue_snoc hk] at h1
  simp at h1
  omega
/-- what the reference's Join hands back -/
def joinRes (xs : List Path.Bs) : Value := if Path.good xs then .tuple #[T (Path.path xs), .bool true] else .tuple #[T [], .bool false]
theorem pp_not {xs ys : List Path.Bs} (_ : xs ≠ []) (hg : Path.good xs = false) (h : Path.pp (Path.glue xs) = some ys) : xs ≠ ys := by
  intro e
  subst e
  have := (Path.path_pp h).2
  rw [hg] at this
  cases this
theorem pp_glue {xs : List Path.Bs} (h0 : xs ≠ []) (hg : Path.good xs = true) : Path.pp (Path.glue xs) = some xs := by
  have := Path.pp_path hg
  rwa [Path.path, if_neg h0] at this
set_option maxHeartbeats 2000000 in
theorem rjoin_any (xs : List Path.Bs) (A : Option Addr) (cap B : Nat) (w : World) (hA : Txts w B A xs) (hB : B ≤ w.heap.size) (hl : xs.length ≤ 1099511627776) (hlen : (Path.glue xs).length ≤ 1099511627776) :
    Calls Tryd.prog 15 #[.slice A xs.length cap] w fun e w' => e = .returned (joinRes xs) ∧ Below w.heap.size w w' := by
  have HA := Lib.hid hA
  clear hA
  have HG := Lib.hid hlen
  clear hlen
  go_enter Tryd.func15, Tryd.ntmps15
  go_wp2
  go_loop [4, 5] (fun p i => ∃ k : Nat, k ≤ xs.length ∧ i = .int .i64 k ∧ p = T (Path.glue (xs.take k))) (fun _ i => xs.length - (intOf i).toNat)
  case atStart => exact ⟨0, Nat.zero_le _, rfl, rfl⟩
  case round =>
    obtain ⟨k, hk, rfl, rfl⟩ := hrel
    by_cases hlt : k < xs.length
    · obtain ⟨b, off, rfl, _, hc⟩ := HA.out k hlt
      obtain ⟨s, hs⟩ : ∃ s : ByteArray, s = ⟨xs[k].toArray⟩ := ⟨_, rfl⟩
      obtain ⟨p, hp⟩ : ∃ p : ByteArray, p = ⟨(Path.glue (xs.take k)).toArray⟩ := ⟨_, rfl⟩
      have hsum := glue_mem hlt
      have hs1 : s.size = xs[k].length := by rw [hs]; show xs[k].toArray.size = _; simp
      have hp1 : p.size = (Path.glue (xs.take k)).length := by rw [hp]; show (Path.glue (xs.take k)).toArray.size = _; simp
      have hb1 : s.size ≤ 1099511627776 := by have := HG.out; omega
      have hb2 : p.size ≤ 1099511627776 := by have := HG.out; omega
      have HN : Hid (Value.string (p ++ ((⟨#[47]⟩ : ByteArray) ++ s)) = T (Path.glue (xs.take (k + 1)))) := Lib.hid (by
        rw [hs, hp, slash_app, app_T, glue_snoc hlt])
      rw [T, ← hs] at hc
      rw [T, ← hp]
      clear hsum hs1 hp1 hs hp
      go_wp2
      go_round
      case rel => exact ⟨k + 1, by omega, by go_num, HN.out⟩
      case measure => simp [intOf]; omega
    · have HE : Hid (xs.take k = xs) := Lib.hid (List.take_of_length_le (by omega))
      rcases Nat.eq_zero_or_pos xs.length with hz | hpos
      · have hxe := List.length_eq_zero_iff.1 hz
        have hzi : ((xs.length : Int) == 0) = true := beq_iff_eq.2 (by omega)
        have HR : Hid (joinRes xs = .tuple #[T [47], .bool true]) := Lib.hid (by rw [hxe]; rfl)
        clear hz hxe
        go_wp2
        go_ret2
        exact ⟨by rw [HR.out]; rfl, Below.refl _ _⟩
      · have H0 : Hid (xs ≠ []) := Lib.hid (List.length_pos_iff.1 hpos)
        have hzi : ((xs.length : Int) == 0) = false := beq_eq_false_iff_ne.2 (by omega)
        have hzn : (xs.length == 0) = false := beq_eq_false_iff_ne.2 (by omega)
        obtain ⟨p, hp⟩ : ∃ p : ByteArray, p = ⟨(Path.glue xs).toArray⟩ := ⟨_, rfl⟩
        have hps : p.size ≤ maxLen := by
          rw [hp]; show (Path.glue xs).toArray.size ≤ _; have := HG.out; unfold maxLen; simp; omega
        have hpl : Hid (Ls p = Path.glue xs) := Lib.hid (by rw [hp])
        have HTP : Hid (T (Path.glue xs) = .string p) := Lib.hid (by rw [T, hp])
        rw [HE.out, HTP.out]
        clear hp
        rcases hpp : Path.pp (Ls p) with _ | ys
        · have c1 := rsplit_no p w hpp hps
          have HR : Hid (joinRes xs = .tuple #[T [], .bool false]) := Lib.hid (by
            rcases hg : Path.good xs with _ | _
            · simp [joinRes, hg]
            · rw [hpl.out, pp_glue H0.out hg] at hpp; cases hpp)
          clear hpp
          go_wp2_with (fail)
          refine c1.mono ?_
          rintro e w1 ⟨rfl, hb1⟩
          have HB := Lib.hid hb1
          clear hb1
          go_wp2
          go_ret2
          exact ⟨by rw [HR.out]; rfl, HB.out⟩
        · have c1 := rsplit_ok p ys w hpp
          have HPP := Lib.hid hpp
          have ly := (Path.good_parts (good_of hpp)).1
          clear hpp
          go_wp2_with (fail)
          refine c1.mono ?_
          rintro e w1 ⟨A', c', rfl, hy, hb1⟩
          have HY := Lib.hid hy
          have HX := Lib.hid (HA.out.below (hb1.mono hB))
          have HB1 := Lib.hid hb1
          clear hy hb1 c1
          by_cases hxy : ys.length = xs.length
          · have i1 : ((ys.length : Int) == (xs.length : Int)) = true := beq_iff_eq.2 (by omega)
            have i2 : (ys.length == xs.length) = true := beq_iff_eq.2 hxy
            have HL := Lib.hid hxy
            clear hxy
            go_wp2
            go_loopw [8] (fun i wr => ∃ k : Nat, k ≤ xs.length ∧ i = .int .i64 k ∧ Hid (Eqs ys xs k) ∧ ∃ m, wr = w1.drewN m) (fun i _ => xs.length - (intOf i).toNat)
            case atStart => exact ⟨0, Nat.zero_le _, rfl, Lib.hid rfl, 0, rfl⟩
            case round =>
              obtain ⟨k, hk, rfl, HA2, m, rfl⟩ := hrel
              by_cases hlt2 : k < xs.length
              · have hlt : k < ys.length := by rw [HL.out]; exact hlt2
                obtain ⟨b, off, rfl, _, hc⟩ := HY.out k hlt
                obtain ⟨b', off', rfl, _, hc'⟩ := HX.out k hlt2
                obtain ⟨x, hx⟩ : ∃ s : ByteArray, s = ⟨ys[k].toArray⟩ := ⟨_, rfl⟩
                obtain ⟨q, hq⟩ : ∃ t : ByteArray, t = ⟨xs[k].toArray⟩ := ⟨_, rfl⟩
                have hse : Hid (Ls x = ys[k]) := Lib.hid (by rw [hx])
                have hte : Hid (Ls q = xs[k]) := Lib.hid (by rw [hq])
                rw [T, ← hx] at hc
                rw [T, ← hq] at hc'
                clear hx hq
                by_cases he : Ls x = Ls q
                · have t1 : (x.toList == q.toList) = true := by rw [eq_Ls]; exact decide_eq_true he
                  have HN := Lib.hid (HA2.out.next hlt hlt2 (by rw [← hse.out, ← hte.out]; exact he))
                  clear he
                  go_wp2_with (fail)
                  go_quiet (fail)
                  go_wp2
                  go_roundw
                  case rel => exact ⟨k + 1, by omega, by go_num, HN, _, rfl⟩
                  case measure => simp [intOf]; omega
                · have t1 : (x.toList == q.toList) = false := by rw [eq_Ls]; exact decide_eq_false he
                  have HR : Hid (joinRes xs = .tuple #[T [], .bool false]) := Lib.hid (by
                    rcases hg : Path.good xs with _ | _
                    · simp [joinRes, hg]
                    · have h3 := HPP.out
                      rw [hpl.out, pp_glue H0.out hg] at h3
                      injection h3 with h3
                      subst h3
                      exact absurd (by rw [hse.out, hte.out]) he)
                  clear he
                  go_wp2_with (fail)
                  go_quiet (fail)
                  go_wp2
                  go_ret2
                  exact ⟨by rw [HR.out]; rfl, below_drewN (below_drewN HB1.out _) _⟩
              · have HR : Hid (joinRes xs = .tuple #[.string p, .bool true]) := Lib.hid (by
                  have he := HA2.out.all HL.out (by rw [HL.out]; exact hlt2)
                  have hg : Path.good xs = true := by rw [← he]; exact (Path.path_pp HPP.out).2
                  simp [joinRes, hg, Path.path, H0.out, HTP.out])
                go_wp2
                go_ret2
                exact ⟨by rw [HR.out]; rfl, below_drewN HB1.out _⟩
          · have i1 : ((ys.length : Int) == (xs.length : Int)) = false := beq_eq_false_iff_ne.2 (by omega)
            have i2 : (ys.length == xs.length) = false := beq_eq_false_iff_ne.2 hxy
            have HR : Hid (joinRes xs = .tuple #[T [], .bool false]) := Lib.hid (by
              rcases hg : Path.good xs with _ | _
              · simp [joinRes, hg]
              · have h3 := HPP.out
                rw [hpl.out, pp_glue H0.out hg] at h3
                injection h3 with h3
                rw [h3] at hxy; exact absurd rfl hxy)
            clear hxy
            go_wp2
            go_ret2
            exact ⟨by rw [HR.out]; rfl, HB1.out⟩
end Go.Proofs.YtlenmcfdoolgbaaDoor
