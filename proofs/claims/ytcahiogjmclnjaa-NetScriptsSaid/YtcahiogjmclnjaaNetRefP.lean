/- The reference's net: New, Send, take, Drop, Deliver, Double, Part, Parted. -/
import Derived.Test.YtcahiogjmclnjaaNetRefM
namespace Go.Proofs.Ytcahiogjmclnjaa
open Go.RowKit
section
variable {w0 : World}
theorem rnew_fin {w w' : World} {N : Int} {Z : Array Value} (hb : Below w0.heap.size w0 w) (h0 : Z[0]? = some (.int .i64 N)) (h1 : Z[1]? = some (.int .i64 0)) (h2 : Z[2]? = some (.slice none 0 0)) (h3 : ∀ j, j < 4096 → Z[3 + j]? = some (.bool false))
    (hw : w' = w.alloc (.cells Z 53)) : RNt w0 w' w.heap.size N 0 [] (fun _ _ => false) ∧ RFr w w' := by
  subst hw
  have hbl : Below w.heap.size w (w.alloc (.cells Z 53)) := (Below.refl _ w).alloc (Nat.le_refl _) _
  have hc : ∀ i u, Z[i]? = some u → (w.alloc (.cells Z 53)).cell? ⟨w.heap.size, i, none⟩ = some u := fun i u hu => by
    rw [World.cell?_alloc_new]
    exact hu
  refine ⟨⟨hb.trans (hbl.mono hb.size), .slice none 0 0, hb.size, ⟨_, heap_alloc_new w _⟩, hc 0 _ h0, hc 1 _ h1, hc 2 _ h2, ⟨rfl, .inl ⟨rfl, rfl⟩⟩, fun a b ha hb' => ?_⟩, fun b hl _ _ => hbl.block b hl⟩
  rw [Nat.add_assoc]
  exact hc _ _ (h3 _ (by omega))
set_option maxRecDepth 100000 in
set_option maxHeartbeats 1000000 in
theorem rnew_any (n N : Int) (hN : N = min (max n 0) 64) (w : World) (hb : Hid (Below w0.heap.size w0 w)) :
    Calls Try.prog 6 #[.int .i64 n] w fun e w' => e = .returned (.pointer (some ⟨w.heap.size, 0, none⟩)) ∧ Hid (RNt w0 w' w.heap.size N 0 [] (fun _ _ => false) ∧ RFr w w') := by
  obtain ⟨Z, hZ, z0, z1, z2, z3⟩ := built_net N
  have HF := Lib.hid (fun w' hw => rnew_fin (w := w) (w' := w') hb.out z0 z1 z2 z3 hw)
  have HZ := Lib.hid hZ
  clear hZ z0 z1 z2 z3
  rcases Int.lt_or_le n 0 with h | h
  · obtain rfl : N = 0 := by omega
    clear hN
    go_enter Try.func6, Try.ntmps6
    go_upto_region 5 with (fail)
    refine wp_region_lit ?_
    refine Great.wpList_readTo rfl (some 7) rfl (.int .i64 0) rfl ?_
    refine wpList_buildTo rfl 53 #[(0, .tmp 7)] rfl (some 8) rfl Z (by have := HZ.out; simpa [Act.put, Act.eval] using this) ?_
    refine Great.wpList_boxTo rfl 53 (.tmp 8) rfl (some 9) rfl w.heap.size rfl Z rfl ?_
    obtain ⟨w2, hw2⟩ : ∃ w2, w2 = w.alloc (.cells Z 53) := ⟨_, rfl⟩
    have HR := Lib.hid (HF.out w2 hw2)
    rw [← hw2]
    clear hw2
    go_wp2
    go_ret
    exact ⟨rfl, HR⟩
  · rcases Int.lt_or_le 64 n with h2 | h2
    · obtain rfl : N = 64 := by omega
      clear hN
      go_enter Try.func6, Try.ntmps6
      go_upto_region 5 with (fail)
      refine wp_region_lit ?_
      refine Great.wpList_readTo rfl (some 7) rfl (.int .i64 64) rfl ?_
      refine wpList_buildTo rfl 53 #[(0, .tmp 7)] rfl (some 8) rfl Z (by have := HZ.out; simpa [Act.put, Act.eval] using this) ?_
      refine Great.wpList_boxTo rfl 53 (.tmp 8) rfl (some 9) rfl w.heap.size rfl Z rfl ?_
      obtain ⟨w2, hw2⟩ : ∃ w2, w2 = w.alloc (.cells Z 53) := ⟨_, rfl⟩
      have HR := Lib.hid (HF.out w2 hw2)
      rw [← hw2]
      clear hw2
      go_wp2
      go_ret
      exact ⟨rfl, HR⟩
    · obtain rfl : N = n := by omega
      clear hN
      go_enter Try.func6, Try.ntmps6
      go_upto_region 5 with (fail)
      refine wp_region_lit ?_
      refine Great.wpList_readTo rfl (some 7) rfl (.int .i64 N) rfl ?_
      refine wpList_buildTo rfl 53 #[(0, .tmp 7)] rfl (some 8) rfl Z (by have := HZ.out; simpa [Act.put, Act.eval] using this) ?_
      refine Great.wpList_boxTo rfl 53 (.tmp 8) rfl (some 9) rfl w.heap.size rfl Z rfl ?_
      obtain ⟨w2, hw2⟩ : ∃ w2, w2 = w.alloc (.cells Z 53) := ⟨_, rfl⟩
      have HR := Lib.hid (HF.out w2 hw2)
      rw [← hw2]
      clear hw2
      go_wp2
      go_ret
      exact ⟨rfl, HR⟩
end
end Go.Proofs.Ytcahiogjmclnjaa
