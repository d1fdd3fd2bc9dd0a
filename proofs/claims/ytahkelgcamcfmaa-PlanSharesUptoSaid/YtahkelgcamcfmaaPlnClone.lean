/- Package plan: slices.Clone of a list of tasks; the numbers of a list's places. -/
import Derived.Test.YtahkelgcamcfmaaPlnIn
import Derived.Test.YtahkelgcamcfmaaRowAt
import Derived.Laws.MakeOwn
import Derived.Lib.SliceRun
import Derived.Lib.Walk
namespace Go.Proofs.Ytahkelgcamcfmaa
open Go.RowKit

theorem infoTaskC : (Try.prog.info? 30).map (fun i => (i.zero, i.size, i.bytes)) = some (some (.agg #[.int .i64 0, .slice none 0 0]), 2, 32) := by kernel_rfl
theorem eql_nil (w : World) (a : Option Addr) (n c n' c' : Nat) : (binOp .eql 25 (.slice a n c) (.slice none n' c')).run Try.prog w = .ok (.bool a.isNone) w := Lib.run_eql_slice_nil w _ _ a n c n' c' Try.underlying25
theorem clone_nil (w : World) : Calls Try.prog 13 #[.slice none 0 0] w fun e w' => e = .returned (.slice none 0 0) ∧ w = w' := by
  have q22 := eql_nil
  go_enter Try.func13, Try.ntmps13
  go_wp2
  go_ret
  exact ⟨rfl, rfl⟩
set_option maxRecDepth 100000 in
set_option maxHeartbeats 4000000 in
theorem clone_some (b n c : Nat) (news : List Value) (w : World) (hl : news.length = n * 2) (hn : n ≤ 1048576) (hc : ∀ j u, news[j]? = some u → w.cell? ⟨b, j, none⟩ = some u) (h1 : ∀ u ∈ news, u.oneCell' = true) :
    Calls Try.prog 13 #[.slice (some ⟨b, 0, none⟩) n c] w fun e w' => ∃ v', e = .returned v' ∧ w'.ownsRow w.heap.size 30 2 v' n news ∧ Below w.heap.size w w' := by
  obtain ⟨i0, hi, hz0, hz1, hz2⟩ := info_parts infoTaskC
  have HC := Lib.hid hc
  have q22 := eql_nil
  have hn' : 0 + n ≤ maxLen := by unfold maxLen; omega
  have hbig : (0 + n) * 32 ≤ 140737488355328 := by omega
  clear hc
  go_enter Try.func13, Try.ntmps13
  go_wp2_with (at_builtin; refine wpList_append_own _ rfl _ _ 25 rfl w.heap.size 30 i0 _ 2 32 Try.underlying25 hi hz0 hz1 hz2 rfl (by decide) _ _ _ rfl (World.ownsRow_made w #[] 0 (Nat.le_refl _) (Nat.zero_le _) (by simp)) ⟨b, 0, none⟩ n c news rfl hl ?qc2 h1 hn' hbig (by simp) ?_)
  case qc2 =>
    intro j u hj
    rw [Addr.add_lit, Nat.zero_add]
    exact Lib.cell?_alloc_some _ (HC.out j u hj)
  intro v' w1 hown hgrow _
  have HF := Lib.hid (And.intro hown (((Below.refl w.heap.size w).alloc (Nat.le_refl _) (.cells #[] 30)).grown hgrow (by simp) (by intro k hk; simp [Value.ownBlock] at hk; omega)))
  clear hown hgrow
  go_wp2
  go_ret
  exact ⟨v', rfl, by simpa using HF.out.1, HF.out.2⟩
end Go.Proofs.Ytahkelgcamcfmaa
