/- Package disk: a crash of a disk with one file, whatever is kept and torn. -/
import Derived.Test.YtmlikkjahkdilaaGreatDoorDiskLog
namespace Go.Proofs.YtmlikkjahkdilaaGreatDoor
open Go.RowKit Go.Maps

/-- behind the settling in a crash: the first n changes last, the others are still there -/
def Aft (w w' : World) (B p L n : Nat) (cp used : Int) (held v : Value) (name : ByteArray) (X : List UInt8) (cs : List ByteArray) : Prop :=
  ∃ (v' chg' : Value), DiskAt w' p cp (.map (some L)) chg' held used ∧ OneM w' B L name (X ++ bytesOf (cs.take n)) v' true ∧ Tch w w' (fun i => i = p ∨ i = L ∨ some i = v.ownBlock) ∧ (∀ b, v'.ownBlock = some b → v.ownBlock = some b ∨ w.heap.size ≤ b) ∧
    ∃ a' c', chg' = .slice a' (cs.length - n) c' ∧ ∀ d, cs[n]? = some d → ∃ g o, a' = some ⟨g, o, none⟩ ∧ w'.cell? ⟨g, o, none⟩ = some (ap name d)
theorem settle_none_any (p : Nat) (cp used : Int) (last held : Value) (w : World) (hk : DiskAt w p cp last (.slice none 0 0) held used) :
    Calls Tryz.prog 34 #[.pointer (some ⟨p, 0, none⟩), .int .i64 0] w fun e w' => e = .returned (.tuple #[]) ∧ w.setCell ⟨p, 2, none⟩ (.slice none 0 0) = w' := by
  obtain ⟨c0, c1, c2, c3, c4, fr, ty⟩ := hk
  clear ty
  have f2 := fr 2
  go_enter Tryz.func34, Tryz.ntmps34
  go_wp2
  go_loopw [13] (fun i wr => i = .int .i64 0 ∧ w = wr) (fun _ _ => 0)
  case atStart => exact ⟨rfl, rfl⟩
  case round =>
    obtain ⟨rfl, rfl⟩ := hrel
    go_wp2
    go_end0
    exact ⟨rfl, rfl⟩
theorem settle_any (B p L n : Nat) (cp used : Int) (chg held v : Value) (name : ByteArray) (X : List UInt8) (h : Bool) (cs : List ByteArray) (w : World) (hk : DiskAt w p cp (.map (some L)) chg held used) (ho : OneM w B L name X v h) (hh0 : h = true ∨ 0 < n)
    (hcs : Chgs w B chg name cs) (hn : n ≤ cs.length) (hname : name.size ≤ maxLen) (hB : B ≤ w.heap.size) (hsz : X.length + (bytesOf cs).length ≤ 140737488355328) :
    Calls Tryz.prog 34 #[.pointer (some ⟨p, 0, none⟩), .int .i64 n] w fun e w' => e = .returned (.tuple #[]) ∧ Aft w w' B p L n cp used held v name X cs := by
  rcases hcs.form with ⟨rfl, rfl⟩ | ⟨g, c, rfl, hc, hc2⟩
  · obtain rfl : n = 0 := by simpa using hn
    obtain rfl : h = true := by rcases hh0 with h | h; exact h; omega
    refine (settle_none_any p cp used _ held w hk).mono ?_
    rintro e w' ⟨he, rfl⟩
    have ts := tch_set w ⟨p, 2, none⟩ (.slice none 0 0)
    exact ⟨he, v, .slice none 0 0, hk.chg _, by simpa [bytesOf] using ho.tch ts (fun e => ho.ap hk.ty e.symm) (fun b hb => cells_apart (row_at ho.row hb) hk.ty (by decide)), (Tch.refl w _).then ts (fun _ _ e => .inl e), fun b hb => .inl hb, none, 0, rfl, fun d hd => by simp at hd⟩
  · refine (settle_n B p L g c n cp used held v name X h cs w hk ho hcs hn hc hc2 hname hB hsz).mono ?_
    rintro e w' ⟨he, v', h', q1, q2, q3, q4, q5, q6⟩
    have hh : h' = true := by
      rcases Nat.eq_zero_or_pos n with h0 | h0
      · exact (q4 h0).trans (by rcases hh0 with h | h; exact h; omega)
      · exact q3 h0
    subst hh
    refine ⟨he, v', _, q1, q2, q5, q6, _, _, rfl, fun d hd => ?_⟩
    have hnl := (List.getElem?_eq_some_iff.1 hd).1
    refine ⟨g, _, rfl, ?_⟩
    rw [if_neg (by omega)]
    have hne : ¬ (g = p ∨ g = L ∨ some g = v.ownBlock) := fun e => by
      rcases e with e | e | e
      · exact cells_apart (row_at hcs rfl) hk.ty (by decide) e
      · exact ho.ap (row_at hcs rfl) e
      · exact cells_apart (row_at ho.row e.symm) (row_at hcs rfl) (by decide) rfl
    have hgl := (World.ownsRow.lt hcs g rfl).2
    exact (cell_eq (q5.block g hgl hne) n).trans (hcs.cell n d hd)
/-- Y is X and a beginning of what was appended -/
def IsCut (X : List UInt8) (cs : List ByteArray) (Y : List UInt8) : Prop := ∃ Z, Y = X ++ Z ∧ Z <+: bytesOf cs
theorem cut_take (X : List UInt8) (cs : List ByteArray) (n : Nat) : IsCut X cs (X ++ bytesOf (cs.take n)) := by
  refine ⟨_, rfl, ?_⟩
  induction cs generalizing n with
  | nil => simp [bytesOf]
  | cons a r ih =>
    cases n with
    | zero => simp [bytesOf]
    | succ n =>
      simp only [List.take_succ_cons, bytesOf]
      exact List.prefix_append_right_inj _ |>.2 (ih n)
theorem cut_torn (X : List UInt8) (cs : List ByteArray) (n : Nat) (d : ByteArray) (hd : cs[n]? = some d) (k : Nat) : IsCut X cs (X ++ bytesOf (cs.take n) ++ (d.extract 0 k).data.toList) := by
  refine ⟨bytesOf (cs.take n) ++ (d.extract 0 k).data.toList, by rw [List.append_assoc], ?_⟩
  have h1 : bytesOf (cs.take (n + 1)) <+: bytesOf cs := by
    obtain ⟨Z, h, hp⟩ := cut_take [] cs (n + 1)
    simpa using (by simpa using h : bytesOf (cs.take (n + 1)) = Z) ▸ hp
  rw [bytesOf_take cs n d hd] at h1
  refine List.IsPrefix.trans ((List.prefix_append_right_inj _).2 ?_) h1
  simp
  exact List.take_prefix _ _
end Go.Proofs.YtmlikkjahkdilaaGreatDoor
