/- Plain mathematics of streams of frames: what is read of them whole, cut short, or changed within four bytes in a row. -/
import Derived.Test.YtcmhmnbffgdblaaDoorAll
import Derived.Test.YtcmhmnbffgdblaaDoorCrcBurst
namespace Go.Proofs.YtcmhmnbffgdblaaDoor
open Go.RowKit

theorem un4_four (n : Nat) (hn : n < 4294967296) (r : List UInt8) : un4 (four n ++ r) = n := by
  show unfour (UInt8.ofNat n) (UInt8.ofNat (n / 256)) (UInt8.ofNat (n / 65536)) (UInt8.ofNat (n / 16777216)) = n
  unfold unfour
  simp only [UInt8.toNat_ofNat']
  omega
theorem un4_app {c : List UInt8} (h : c.length = 4) (r : List UInt8) : un4 (c ++ r) = un4 c := by
  match c, h with
  | [a, b, c, d], _ => rfl
theorem un4_inj {c d : List UInt8} (hc : c.length = 4) (hd : d.length = 4) (h : un4 c = un4 d) : c = d := by
  match c, hc, d, hd with
  | [a, b, c, d], _, [e, f, g, k], _ =>
    have h' : unfour a b c d = unfour e f g k := h
    unfold unfour at h'
    have := a.toNat_lt
    have := b.toNat_lt
    have := c.toNat_lt
    have := d.toNat_lt
    have := e.toNat_lt
    have := f.toNat_lt
    have := g.toNat_lt
    have := k.toNat_lt
    rw [UInt8.toNat_inj.1 (by omega : a.toNat = e.toNat), UInt8.toNat_inj.1 (by omega : b.toNat = f.toNat), UInt8.toNat_inj.1 (by omega : c.toNat = g.toNat), UInt8.toNat_inj.1 (by omega : d.toNat = k.toNat)]
theorem un4_four' (n : Nat) (hn : n < 4294967296) : un4 (four n) = n := by have := un4_four n hn []; simpa using this
theorem sum_test {h c : List UInt8} (hc : c.length = 4) : (Crc.sum h).toNat ≠ un4 c ↔ c ≠ four (Crc.sum h).toNat := by
  constructor
  · intro h1 h2; apply h1; rw [h2, un4_four' _ (Crc.sum h).isLt]
  · intro h1 h2; apply h1; exact un4_inj hc (four_length _) (by rw [un4_four' _ (Crc.sum h).isLt, h2])
theorem nx_pieces {h c r : List UInt8} (hh : h.length = 4) (hc : c.length = 4) :
    nxAt (h ++ (c ++ r)) = if c ≠ four (Crc.sum h).toNat ∨ 1048576 < un4 h then ([], 24) else
      if r.length < un4 h + 4 then ([], 23) else
      if (Crc.sum (r.take (un4 h))).toNat ≠ un4 (r.drop (un4 h)) then ([], 24) else (r.take (un4 h), 0) := by
  have e1 : (h ++ (c ++ r)).take 4 = h := by rw [← hh]; exact List.take_left
  have e2 : (h ++ (c ++ r)).drop 4 = c ++ r := by rw [← hh]; exact List.drop_left
  have e3 : (h ++ (c ++ r)).drop 8 = r := by
    have : (h ++ (c ++ r)).drop 8 = ((h ++ (c ++ r)).drop 4).drop 4 := by rw [List.drop_drop]
    rw [this, e2, show (4 : Nat) = c.length from hc.symm]; exact List.drop_left
  have e4 : (h ++ (c ++ r)).drop (8 + un4 h) = r.drop (un4 h) := by rw [← List.drop_drop, e3]
  have e5 : (h ++ (c ++ r)).length = r.length + 8 := by simp only [List.length_append]; omega
  have e6 := sum_test (h := h) hc
  unfold nxAt
  rw [if_neg (by intro e; rw [e] at e5; simp at e5), if_neg (by omega), e1, e2, e3, un4_app hh, un4_app hc, e4, e5]
  have e7 : ((Crc.sum h).toNat ≠ un4 c ∨ 1048576 < un4 h) = (c ≠ four (Crc.sum h).toNat ∨ 1048576 < un4 h) := by rw [propext e6]
  simp only [e7]
  have e8 : (r.length + 8 < un4 h + 12) = (r.length < un4 h + 4) := by apply propext; omega
  simp only [e8]
theorem frameL_pieces (b : List UInt8) (r : List UInt8) : frameL b ++ r = four b.length ++ (four (Crc.sum (four b.length)).toNat ++ (b ++ (four (Crc.sum b).toNat ++ r))) := by
  unfold frameL headL
  simp only [List.append_assoc]
theorem nx_frame (b r : List UInt8) (hb : b.length ≤ 1048576) : nxAt (frameL b ++ r) = (b, 0) := by
  rw [frameL_pieces, nx_pieces (four_length _) (four_length _), un4_four' _ (by omega)]
  rw [if_neg (by rintro (h | h); exact h rfl; omega), if_neg (by simp only [List.length_append, four_length]; omega)]
  rw [List.take_left, List.drop_left, if_neg]
  intro h
  apply h
  rw [un4_app (four_length _), un4_four' _ (Crc.sum b).isLt]
/-- frames one behind the other -/
def stream : List (List UInt8) → List UInt8
  | [] => []
  | b :: bs => frameL b ++ stream bs
theorem stream_append (a b : List (List UInt8)) : stream (a ++ b) = stream a ++ stream b := by
  induction a with
  | nil => rfl
  | cons x a ih => show frameL x ++ stream (a ++ b) = frameL x ++ stream a ++ stream b; rw [ih, List.append_assoc]
def Small (bs : List (List UInt8)) : Prop := ∀ b ∈ bs, b.length ≤ 1048576
theorem all_frame (b r : List UInt8) (hb : b.length ≤ 1048576) : allL (frameL b ++ r) = (b :: (allL r).1, b.length + 12 + (allL r).2.1, (allL r).2.2) := by
  have h := nx_frame b r hb
  have h0 : (nxAt (frameL b ++ r)).2 = 0 := by rw [h]
  rw [all_more h0, h]
  have e : (frameL b ++ r).drop (b.length + 12) = r := by rw [← frameL_length]; exact List.drop_left
  simp only [e]
theorem nx_nil : nxAt [] = ([], 3) := by unfold nxAt; rw [if_pos rfl]
theorem all_nil : allL [] = ([], 0, 0) := all_end (by rw [nx_nil])
/-- what is read of whole frames and what follows them -/
theorem all_stream (bs : List (List UInt8)) (hb : Small bs) (r : List UInt8) : allL (stream bs ++ r) = (bs ++ (allL r).1, (stream bs).length + (allL r).2.1, (allL r).2.2) := by
  induction bs with
  | nil => simp [stream]
  | cons b bs ih =>
    show allL (frameL b ++ stream bs ++ r) = _
    rw [List.append_assoc, all_frame b _ (hb b (by simp)), ih (fun x hx => hb x (by simp [hx]))]
    simp only [List.cons_append, stream, List.length_append, frameL_length]
    congr 2
    omega
theorem all_whole (bs : List (List UInt8)) (hb : Small bs) : allL (stream bs) = (bs, (stream bs).length, 0) := by
  have := all_stream bs hb []
  rw [all_nil] at this
  simpa using this
/-- a code word's register -/
theorem word_four (X : BitVec 32) : Crc.word (four X.toNat) = X := by
  have hx := X.isLt
  apply BitVec.eq_of_toNat_eq
  have w0 : (Crc.word []).toNat = 0 := rfl
  have w1 := Crc.word_cons (UInt8.ofNat (X.toNat / 16777216)) [] (by rw [w0]; omega)
  have w2 := Crc.word_cons (UInt8.ofNat (X.toNat / 65536)) [UInt8.ofNat (X.toNat / 16777216)] (Crc.word_lt3 _ (by simp))
  have w3 := Crc.word_cons (UInt8.ofNat (X.toNat / 256)) [UInt8.ofNat (X.toNat / 65536), UInt8.ofNat (X.toNat / 16777216)] (Crc.word_lt3 _ (by simp))
  have w4 := Crc.word_cons (UInt8.ofNat X.toNat) [UInt8.ofNat (X.toNat / 256), UInt8.ofNat (X.toNat / 65536), UInt8.ofNat (X.toNat / 16777216)] (Crc.word_lt3 _ (by simp))
  show (Crc.word [UInt8.ofNat X.toNat, UInt8.ofNat (X.toNat / 256), UInt8.ofNat (X.toNat / 65536), UInt8.ofNat (X.toNat / 16777216)]).toNat = X.toNat
  rw [w4, w3, w2, w1, w0]
  simp only [UInt8.toNat_ofNat']
  omega
theorem run_coded (h : List UInt8) : Crc.run (~~~ 0#32) (h ++ four (Crc.sum h).toNat) = Crc.zs 4 (BitVec.allOnes 32) := by
  rw [Crc.run_append, Crc.run_word _ _ (by rw [four_length]; omega), four_length, word_four]
  congr 1
  unfold Crc.sum Crc.ext
  generalize Crc.run (~~~ 0#32) h = q
  ext i hi
  simp only [BitVec.getElem_xor, BitVec.getElem_not, BitVec.getElem_allOnes]
  cases q[i] <;> rfl
/-- two lists that agree but for four places in a row -/
def Near4 (l m : List UInt8) (a : Nat) : Prop := l.length = m.length ∧ ∀ i, i < a ∨ a + 4 ≤ i → l[i]? = m[i]?
theorem near_run {l m : List UInt8} {a : Nat} (h : Near4 l m a) (q : BitVec 32) (hr : Crc.run q l = Crc.run q m) : l = m := by
  obtain ⟨hl, h⟩ := h
  have h1 : l.take a = m.take a := by
    apply List.ext_getElem?
    intro i
    rw [List.getElem?_take, List.getElem?_take]
    split
    · exact h i (.inl (by assumption))
    · rfl
  have h2 : l.drop (a + 4) = m.drop (a + 4) := by
    apply List.ext_getElem?
    intro i
    rw [List.getElem?_drop, List.getElem?_drop]
    exact h _ (.inr (by omega))
  have d1 : l = l.take a ++ ((l.drop a).take 4 ++ l.drop (a + 4)) := by
    rw [← List.drop_drop, List.take_append_drop, List.take_append_drop]
  have d2 : m = m.take a ++ ((m.drop a).take 4 ++ m.drop (a + 4)) := by
    rw [← List.drop_drop, List.take_append_drop, List.take_append_drop]
  rw [d1, d2, Crc.run_append, Crc.run_append, Crc.run_append, Crc.run_append, h1, h2] at hr
  have h3 := Crc.run_inj hr
  have h4 := Crc.mid_inj (by simp [hl]) (by simp; omega) h3
  rw [d1, d2, h1, h2, h4]
theorem near_coded {h h' c' : List UInt8} {a : Nat} (hn : Near4 (h' ++ c') (h ++ four (Crc.sum h).toNat) a) (hne : h' ++ c' ≠ h ++ four (Crc.sum h).toNat) : c' ≠ four (Crc.sum h').toNat := by
  intro e
  apply hne
  apply near_run hn (~~~ 0#32)
  rw [run_coded, e, run_coded]
theorem near_left {p q r s : List UInt8} {a : Nat} (h : Near4 (p ++ q) (r ++ s) a) (hl : p.length = r.length) : Near4 p r a := by
  refine ⟨hl, fun i hi => ?_⟩
  have := h.2 i hi
  by_cases hp : i < p.length
  · rwa [List.getElem?_append_left hp, List.getElem?_append_left (by omega)] at this
  · rw [List.getElem?_eq_none (by omega), List.getElem?_eq_none (by omega)]
theorem near_right {p q r s : List UInt8} {a : Nat} (h : Near4 (p ++ q) (r ++ s) a) (hl : p.length = r.length) : Near4 q s (a - p.length) := by
  refine ⟨by have := h.1; simp only [List.length_append] at this; omega, fun i hi => ?_⟩
  have := h.2 (i + p.length) (by omega)
  rw [List.getElem?_append_right (by omega), List.getElem?_append_right (by omega)] at this
  rwa [show i + p.length - p.length = i by omega, show i + p.length - r.length = i by omega] at this
theorem split_at {l : List UInt8} {n : Nat} (h : n ≤ l.length) : ∃ p q, l = p ++ q ∧ p.length = n := ⟨l.take n, l.drop n, (List.take_append_drop n l).symm, by simp; omega⟩
/-- a changed frame is told as corrupt -/
theorem nx_changed {b t1 t2 : List UInt8} {a : Nat} (hb : b.length ≤ 1048576) (hn : Near4 t1 (frameL b) a) (hne : t1 ≠ frameL b) : nxAt (t1 ++ t2) = ([], 24) := by
  have hl := hn.1
  rw [frameL_length] at hl
  obtain ⟨h', r1, rfl, hh⟩ := split_at (l := t1) (n := 4) (by omega)
  simp only [List.length_append] at hl
  obtain ⟨c', r2, rfl, hc⟩ := split_at (l := r1) (n := 4) (by omega)
  simp only [List.length_append] at hl
  obtain ⟨b', e', rfl, hbl⟩ := split_at (l := r2) (n := b.length) (by omega)
  simp only [List.length_append] at hl
  have he : e'.length = 4 := by omega
  have hf : frameL b = (four b.length ++ four (Crc.sum (four b.length)).toNat) ++ (b ++ four (Crc.sum b).toNat) := by unfold frameL headL; simp only [List.append_assoc]
  have ha : h' ++ (c' ++ (b' ++ e')) = (h' ++ c') ++ (b' ++ e') := by simp only [List.append_assoc]
  rw [ha, hf] at hn hne
  have hlen1 : (h' ++ c').length = (four b.length ++ four (Crc.sum (four b.length)).toNat).length := by simp only [List.length_append, four_length]; omega
  have n1 := near_left hn hlen1
  have n2 := near_right hn hlen1
  have hg : h' ++ (c' ++ (b' ++ e')) ++ t2 = h' ++ (c' ++ (b' ++ (e' ++ t2))) := by simp only [List.append_assoc]
  rw [hg, nx_pieces hh hc]
  by_cases h1 : h' ++ c' = four b.length ++ four (Crc.sum (four b.length)).toNat
  · obtain ⟨rfl, rfl⟩ := List.append_inj h1 (by rw [hh, four_length])
    have h2 : b' ++ e' ≠ b ++ four (Crc.sum b).toNat := by
      intro e; apply hne; rw [e]
    have h3 := near_coded n2 h2
    rw [un4_four' _ (by omega), if_neg (by rintro (h | h); exact h rfl; omega), if_neg (by simp only [List.length_append]; omega)]
    rw [← hbl, List.take_left, List.drop_left, if_pos]
    rw [un4_app he]
    exact (sum_test he).2 h3
  · have h3 := near_coded n1 h1
    rw [if_pos (.inl h3)]
theorem all_corrupt {b t1 t2 : List UInt8} {a : Nat} (hb : b.length ≤ 1048576) (hn : Near4 t1 (frameL b) a) (hne : t1 ≠ frameL b) : allL (t1 ++ t2) = ([], 0, 24) := by
  have hx := nx_changed (t2 := t2) hb hn hne
  rw [all_bad (by rw [hx]; decide) (by rw [hx]; decide), hx]
/-- NO CHANGE WITHIN FOUR BYTES IN A ROW LETS ANYTHING ELSE BE READ -/
theorem all_changed (bs : List (List UInt8)) (hb : Small bs) : ∀ (t : List UInt8) (a : Nat), Near4 t (stream bs) a → t ≠ stream bs →
    ∃ k, k < bs.length ∧ allL t = (bs.take k, (stream (bs.take k)).length, 24) := by
  induction bs with
  | nil =>
    intro t a hn hne
    exfalso
    apply hne
    exact List.eq_nil_of_length_eq_zero hn.1
  | cons b bs ih =>
    intro t a hn hne
    have hl := hn.1
    have hs : stream (b :: bs) = frameL b ++ stream bs := rfl
    rw [hs, List.length_append, frameL_length] at hl
    obtain ⟨t1, t2, rfl, h1⟩ := split_at (l := t) (n := b.length + 12) (by omega)
    have hl1 : t1.length = (frameL b).length := by rw [h1, frameL_length]
    rw [hs] at hn hne
    by_cases he : t1 = frameL b
    · subst he
      have hne2 : t2 ≠ stream bs := fun e => hne (by rw [e])
      obtain ⟨k, hk, hal⟩ := ih (fun x hx => hb x (by simp [hx])) t2 _ (near_right hn rfl) hne2
      refine ⟨k + 1, by simp; omega, ?_⟩
      rw [all_frame b t2 (hb b (by simp)), hal]
      simp only [List.take_succ_cons, stream, List.length_append, frameL_length]
    · exact ⟨0, by simp, all_corrupt (hb b (by simp)) (near_left hn hl1) he⟩
/-- a frame that is cut short is torn -/
theorem all_torn {b p : List UInt8} {n : Nat} (hb : b.length ≤ 1048576) (h0 : 0 < n) (hn : n < b.length + 12) (hp : p = (frameL b).take n) : allL p = ([], 0, 23) := by
  have hl : p.length = n := by rw [hp, List.length_take, frameL_length]; omega
  have hx : nxAt p = ([], 23) := by
    rcases Nat.lt_or_ge n 8 with h8 | h8
    · unfold nxAt
      rw [if_neg (by intro e; rw [e] at hl; simp at hl; omega), if_pos (by omega)]
    · have hf : frameL b = four b.length ++ (four (Crc.sum (four b.length)).toNat ++ (b ++ four (Crc.sum b).toNat)) := by unfold frameL headL; simp only [List.append_assoc]
      have e1 : p = four b.length ++ (four (Crc.sum (four b.length)).toNat ++ (b ++ four (Crc.sum b).toNat).take (n - 8)) := by
        rw [hp, hf, List.take_append, List.take_of_length_le (by rw [four_length]; omega), four_length, List.take_append, List.take_of_length_le (by rw [four_length]; omega), four_length]
        rw [show n - 4 - 4 = n - 8 by omega]
      rw [e1, nx_pieces (four_length _) (four_length _), un4_four' _ (by omega), if_neg (by rintro (h | h); exact h rfl; omega), if_pos]
      rw [List.length_take]
      omega
  rw [all_bad (by rw [hx]; decide) (by rw [hx]; decide), hx]
end Go.Proofs.YtcmhmnbffgdblaaDoor
