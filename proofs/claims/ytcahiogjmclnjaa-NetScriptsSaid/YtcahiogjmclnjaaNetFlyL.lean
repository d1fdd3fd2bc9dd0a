/- Package net: all that is under way, whatever the net carries; what is refused. -/
import Derived.Test.YtcahiogjmclnjaaNetPut
import Derived.Laws.MakeOwn
namespace Go.Proofs.Ytcahiogjmclnjaa
open Go.RowKit

/-- one cell more behind a row's cells -/
theorem RowAt.push {w : World} {e : TypeId} {sz g o cap : Nat} {xs : List Value} (h : RowAt w e sz g o cap xs) (i : Nat) (hi : i = o + xs.length) (hfit : xs.length < cap * sz) (v : Value) : RowAt (w.setCell ⟨g, i, none⟩ v) e sz g o cap (xs ++ [v]) := by
  subst hi
  obtain ⟨cur, hg, h1, h2⟩ := h.blk
  have hcl : cur.toList.length = o + cap * sz := by simpa using h1
  refine ⟨by rw [List.length_append]; simp; omega, cur.setIfInBounds (o + xs.length) v, by simp [World.setCell, Array.getElem?_modify, hg], by simpa using h1, ?_⟩
  apply List.ext_getElem?
  intro j
  rw [List.length_append, List.length_singleton]
  by_cases hj : j < xs.length + 1
  · rw [List.getElem?_take_of_lt hj, List.getElem?_drop, Array.toList_setIfInBounds]
    by_cases hj2 : j < xs.length
    · rw [List.getElem?_set_ne (by omega), List.getElem?_append_left hj2]
      conv => rhs; rw [← h2]
      rw [List.getElem?_take_of_lt hj2, List.getElem?_drop]
    · obtain rfl : j = xs.length := by omega
      rw [List.getElem?_set_self (by omega), List.getElem?_append_right (Nat.le_refl _)]
      simp
  · rw [List.getElem?_eq_none (by rw [List.length_take]; omega), List.getElem?_eq_none (by rw [List.length_append]; simp; omega)]
theorem makeL (n : Nat) (hn : n ≤ 65536) : ∀ w : World, ∃ cur : Array Value, cur.size = n * 4 ∧ (Instr.makeSlice 46 (.int .i64 (n : Int)) (.int .i64 (n : Int))).run Try.prog w =
    .ok (.slice (some ⟨w.heap.size, 0, none⟩) n n) (w.alloc (.cells cur 36)) := by
  intro w
  obtain ⟨i, hi, hz0, hz1, hz2⟩ := info_parts infoLetter
  have := run_make (P := Try.prog) w 46 36 i (.agg #[.int .i64 0, .int .i64 0, .int .i64 0, .string ⟨#[]⟩]) Try.underlying46 hi hz0 .i64 .i64 n n (by omega) (by omega) (by rw [hz2]; omega) (by omega)
  refine ⟨_, ?_, this⟩
  rw [size_madeCells]
  simp [hz1, Value.cells]
set_option maxRecDepth 100000 in
set_option maxHeartbeats 4000000 in
theorem flying_L (base p : Nat) (N sent : Int) (cut v : Value) (L : List Letr) (w : World) (hL : L.length ≤ 65536) (hs : ∀ l ∈ L, l.s.size ≤ 1048576) (h : NetL w base p N sent cut v L) :
    Calls Try.prog 17 #[.pointer (some ⟨p, 0, none⟩)] w fun e w' => e = .returned (.slice (some ⟨w.heap.size, 0, none⟩) L.length L.length) ∧ Below w.heap.size w w' ∧ RowL w' w.heap.size 0 L.length L := by
  obtain ⟨cur, hcs, hmk⟩ := makeL L.length hL w
  obtain ⟨a', c', hv⟩ : ∃ a' c', v = .slice a' L.length c' := by
    rcases h.fly.2 with ⟨h1, h2⟩ | ⟨g, o, cap, h1, _⟩
    · exact ⟨_, _, by rw [h1, h2]⟩
    · exact ⟨_, _, h1⟩
  subst hv
  have hb1 : Below w.heap.size w (w.alloc (.cells cur 36)) := (Below.refl _ w).alloc (Nat.le_refl _) _
  have h1 := h.below hb1
  have HH1 := Lib.hid h1
  have HB1 := Lib.hid hb1
  have HGS : Hid (∀ b o, a' = some ⟨b, o, none⟩ → b < w.heap.size) := Lib.hid (fun b o e => (h.fly.lt b (by rw [e]; rfl)).2)
  have HR1 : Hid (RowL (w.alloc (.cells cur 36)) w.heap.size 0 L.length (L.take 0)) := Lib.hid ⟨by simp [cellsOf], cur, heap_alloc_new w _, by omega, by simp [cellsOf]⟩
  have c2 := h.at'.c2
  have d2 := h1.at'.c2
  have hlt := h.ty.lt
  have hne : ¬ w.heap.size = p := by omega
  have HS := Lib.hid hs
  obtain ⟨n, hn⟩ : ∃ n, n = L.length := ⟨_, rfl⟩
  have HN := Lib.hid hn
  rw [← hn] at c2 d2 hmk HH1 HR1 hL ⊢
  have hnn : (n : Int) ≤ 65536 := by omega
  clear h h1 hb1 hcs hs hlt hn
  go_enter Try.func17, Try.ntmps17
  go_wp2
  go_loopw [19] (fun i wr => ∃ k : Nat, k ≤ n ∧ i = .int .i64 k ∧ Hid (NetL wr base p N sent cut (.slice a' n c') L ∧ Below w.heap.size w wr ∧ RowL wr w.heap.size 0 n (L.take k))) (fun i _ => n - (intOf i).toNat)
  case atStart => exact ⟨0, by omega, rfl, Lib.hid ⟨HH1.out, HB1.out, HR1.out⟩⟩
  case round =>
    obtain ⟨k, hk, rfl, HR⟩ := hrel
    clear d2 c2 hmk
    by_cases hkn : k < n
    · have hkn' : (k : Int) < n := by omega
      have hkl : k < L.length := by rw [← HN.out]; exact hkn
      obtain ⟨l, hl⟩ : ∃ l, L[k]? = some l := ⟨_, List.getElem?_eq_getElem hkl⟩
      obtain ⟨g, o, cap, hav, hgs, e0, e1, e2, e3⟩ := HR.out.1.cell hl
      have hav2 : a' = some ⟨g, o, none⟩ := by injection hav
      clear hav
      have HGW : Hid (¬ g = w.heap.size) := Lib.hid (fun e => by have := HGS.out g o hav2; omega)
      subst hav2
      have HK := Lib.hid hl
      have hls := Lib.hid (HS.out l (List.mem_of_getElem? hl))
      have hw1 : wrap64 ((k : Int) + 1) = (k : Int) + 1 := IntWalk.wrap64_in _ ⟨by omega, by omega⟩
      have hk1 : (k : Int) + 1 = ((k + 1 : Nat) : Int) := by omega
      have HK1 := Lib.hid hk1
      have hw2 : IntKind.i64.wrap ((k : Int) + 1) = (k : Int) + 1 := IntWalk.i64_in _ (by omega)
      clear hk1
      clear hl hkl
      go_wp2_with (fail)
      refine (copied_any l.id l.a l.b l.s _ (by have := hls.out; omega)).mono ?_
      rintro e w3 ⟨rfl, hb3⟩
      have hba : Below wr.heap.size wr (wr.alloc (.cells #[.int .i64 l.id, .int .i64 l.a, .int .i64 l.b, .string l.s] 36)) := (Below.refl _ _).alloc (Nat.le_refl _) _
      have hbb := hba.trans (hb3.mono hba.size)
      have hn3 := HR.out.1.below hbb
      have hw3 := HR.out.2.1.trans (hbb.mono HR.out.2.1.size)
      have hr3 : RowL w3 w.heap.size 0 n (L.take k) := HR.out.2.2.same (hbb.block _ HR.out.2.2.lt)
      have hlen : (cellsOf (L.take k)).length = k * 4 := by rw [cellsOf_length, List.length_take]; have := HN.out; omega
      have hcs : ∀ j, j < 4 → (w3.cell? ⟨w.heap.size, k * 4 + j, none⟩).isSome = true := fun j hj => by
        have := hr3.isSome (k * 4 + j) (by omega)
        rwa [Nat.zero_add] at this
      have hfz := hr3.frozen
      obtain ⟨u0, q0⟩ := Option.isSome_iff_exists.1 (hcs 0 (by omega))
      obtain ⟨u1, q1⟩ := Option.isSome_iff_exists.1 (hcs 1 (by omega))
      obtain ⟨u2, q2⟩ := Option.isSome_iff_exists.1 (hcs 2 (by omega))
      obtain ⟨u3, q3⟩ := Option.isSome_iff_exists.1 (hcs 3 (by omega))
      rw [Nat.add_zero] at q0
      have z0 := hfz (k * 4)
      have z1 := hfz (k * 4 + 1)
      have z2 := hfz (k * 4 + 2)
      have z3 := hfz (k * 4 + 3)
      have H3 := Lib.hid (And.intro hn3 (And.intro hw3 (And.intro hr3 hlen)))
      have hpq : ¬ w.heap.size = p := hne
      clear hba hbb hb3 e0 e1 e2 e3 hn3 hw3 hr3 hlen hcs hfz
      go_wp2
      go_round
      case rel =>
        refine ⟨k + 1, by omega, by rw [← HK1.out], Lib.hid ?_⟩
        obtain ⟨hn3, hw3, hr3, hlen⟩ := H3.out
        have hp0 := (((hr3.push (k * 4) (by rw [hlen]; omega) (by rw [hlen]; omega) (.int .i64 l.id)).push (k * 4 + 1) (by rw [List.length_append, hlen]; simp) (by rw [List.length_append, hlen]; simp; omega) (.int .i64 l.a)).push (k * 4 + 2) (by simp only [List.length_append, hlen]; simp) (by simp only [List.length_append, hlen]; simp; omega) (.int .i64 l.b)).push (k * 4 + 3) (by simp only [List.length_append, hlen]; simp) (by simp only [List.length_append, hlen]; simp; omega) (.string l.s)
        have hb4 := (((hw3.setCell (p := ⟨w.heap.size, k * 4, none⟩) (Nat.le_refl _) (.int .i64 l.id)).setCell (p := ⟨w.heap.size, k * 4 + 1, none⟩) (Nat.le_refl _) (.int .i64 l.a)).setCell (p := ⟨w.heap.size, k * 4 + 2, none⟩) (Nat.le_refl _) (.int .i64 l.b)).setCell (p := ⟨w.heap.size, k * 4 + 3, none⟩) (Nat.le_refl _) (.string l.s)
        have hts : Sole w3 ((((w3.setCell ⟨w.heap.size, k * 4, none⟩ (.int .i64 l.id)).setCell ⟨w.heap.size, k * 4 + 1, none⟩ (.int .i64 l.a)).setCell ⟨w.heap.size, k * 4 + 2, none⟩ (.int .i64 l.b)).setCell ⟨w.heap.size, k * 4 + 3, none⟩ (.string l.s)) w.heap.size :=
          (((sole_setCell _ _ _ _).trans (sole_setCell _ _ _ _)).trans (sole_setCell _ _ _ _)).trans (sole_setCell _ _ _ _)
        refine ⟨hn3.tch (tch_sole hts) (fun e => hpq e.symm) (fun b hb => by simp [Value.ownBlock] at hb; subst hb; exact HGW.out), hb4, ?_⟩
        have et : L.take (k + 1) = L.take k ++ [l] := by rw [List.take_add_one, HK.out]; rfl
        rw [et]
        unfold RowL
        rw [← cells_more]
        simpa [cellsL, List.append_assoc] using hp0
      case measure => simp [intOf]; omega
    · obtain rfl : k = n := by omega
      go_wp2
      go_ret
      refine ⟨rfl, HR.out.2.1, ?_⟩
      have e := HN.out
      have := HR.out.2.2
      rw [show L.take k = L by rw [e, List.take_length]] at this
      exact this
end Go.Proofs.Ytcahiogjmclnjaa
