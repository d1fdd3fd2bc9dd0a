/- where.Near's closure: the comparison of two numbers by their distances. -/
import Derived.Test.YtjjmflkdfgneoaaStbSrt
namespace Go.Proofs.Ytjjmflkdfgneoaa
open Go.RowKit Go.Lib Go.Sort Go.Shelf

theorem grown_cell {W : World} {a : Addr} {v : Value} (h : W.cell? a = some v) (hb : a.block < W.heap.size) (n : Nat) (os : Array Obj) : (grow (W.drewN n) os).cell? a = some v := by
  rw [cell?_grow _ _ _ (by simpa using hb)]
  exact h
set_option maxRecDepth 100000 in
set_option maxHeartbeats 4000000 in
theorem near1_ok (n cap db dr : Nat) (D : Nat → Int) (W : World) (x y : Nat) (hx : x < n) (hy : y < n) (hn : n < 4611686018427387904) (hdb : db < W.heap.size) (hdr : dr < W.heap.size) (hb : W.cell? ⟨db, 0, none⟩ = some (.slice (some ⟨dr, 0, none⟩) n cap)) (hD : ∀ i, i < n → W.cell? ⟨dr, i, none⟩ = some (.int .i64 (D i))) :
    Calls Try.prog 26 #[.int .i64 x, .int .i64 y, .pointer (some ⟨db, 0, none⟩)] W fun e w' => e = .returned (.int .i64 (cmpI (D x) (D y))) ∧ ∃ q os', w' = grow (W.drewN q) os' := by
  have mixed : Try.prog.follows Departure.mixedOrders = true := by kernel_rfl
  have eg : ∀ args w, (callFunc 27 args).run Try.prog w = .ok (.enter 27 args) w := enters_of Try.func27 (by kernel_rfl) rfl
  have l0 := grown_cell hb hdb
  have lx := grown_cell (hD x hx) hdr
  have ly := grown_cell (hD y hy) hdr
  have hc : ∀ (m : Nat) (os : Array Obj), Calls Try.prog 27 #[.int .i64 (D x), .int .i64 (D y)] (grow (W.drewN m) os) fun e w' => e = .returned (.int .i64 (cmpI (D x) (D y))) ∧ ∃ q os', w' = grow ((grow (W.drewN m) os).drewN q) os' := fun m os => (compare_ok (D x) (D y) _).mono fun e w' h => ⟨h.1, 0, #[], by rw [h.2, grow_empty]; rfl⟩
  have b1 : (x : Int) < (n : Int) := by omega
  have b2 : (y : Int) < (n : Int) := by omega
  clear hD hx hy hb
  go_enter Try.func26, Try.ntmps26
  go_wp2_with fail
  go_quiet_grown (first | (go_at_fn 27; refine Calls.grown_of (hc _ _)))
  clear l0 lx ly hc
  go_wp2
  first
    | (go_end0; exact ⟨rfl, _, _, rfl⟩)
    | (go_ret; exact ⟨rfl, _, _, rfl⟩)
    | exact bodyPost_ret (v := .int .i64 _) (results_none rfl _ _ _) rfl ⟨rfl, _, _, rfl⟩
def encF (n : Nat) (x : Fin n) : Value := .int .i64 (x.val : Nat)
theorem sortWorld_cell {α : Type} [Inhabited α] (enc : α → Value) (w : World) (blk off m : Nat) (dk : Array α) (os : Array Obj) (a : Addr) (hb : a.block < w.heap.size) (hne : a.block ≠ blk) : (sortWorld enc w blk off m dk os).cell? a = w.cell? a := by
  unfold sortWorld
  rw [cell?_grow _ _ _ (by simpa using hb), cell?_putRow_other _ _ _ _ _ _ (.inl hne), cell?_ahead]
theorem sortWorld_lt {α : Type} [Inhabited α] (enc : α → Value) (w : World) (blk off m : Nat) (dk : Array α) (os : Array Obj) (b : Nat) (hb : b < w.heap.size) : b < (sortWorld enc w blk off m dk os).heap.size := lt_sortWorld enc w b off m #[] os hb |> fun _ => by
  unfold sortWorld
  rw [size_grow]
  simp
  omega
/-- the closure is a comparison as the sort asks for it -/
theorem near1_cmp {n : Nat} [Inhabited (Fin n)] (cap db dr : Nat) (D : Nat → Int) (W : World) (blk off : Nat) (hn : n < 4611686018427387904) (hdb : db < W.heap.size) (hdr : dr < W.heap.size) (hdb' : db ≠ blk) (hdr' : dr ≠ blk) (hb : W.cell? ⟨db, 0, none⟩ = some (.slice (some ⟨dr, 0, none⟩) n cap)) (hD : ∀ i, i < n → W.cell? ⟨dr, i, none⟩ = some (.int .i64 (D i))) :
    Cmp 26 #[.pointer (some ⟨db, 0, none⟩)] (encF n) (fun x y => cmpI (D x.val) (D y.val)) (fun x => D x.val) blk off n W where
  eg := enters_of Try.func26 (by kernel_rfl) rfl
  lays := fun m os dk _ x y => near1_ok n cap db dr D _ x.val y.val x.isLt y.isLt hn (sortWorld_lt _ _ _ _ _ _ _ _ hdb) (sortWorld_lt _ _ _ _ _ _ _ _ hdr)
    (by rw [sortWorld_cell _ _ _ _ _ _ _ _ hdb hdb']; exact hb) (fun i hi => by rw [sortWorld_cell _ _ _ _ _ _ _ _ hdr hdr']; exact hD i hi)
  key := fun x y => cmpI_neg _ _
end Go.Proofs.Ytjjmflkdfgneoaa
