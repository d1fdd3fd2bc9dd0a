/- What is decoded: its bounds, its bytes; and what was encoded is decoded as it was. Plain mathematics. -/
import Derived.Test.YtndcmjgjecdgcaaDoorDecode
namespace Go.Proofs.YtndcmjgjecdgcaaDoor
theorem tInt_er {l : List UInt8} {er : Int} (h : er ≠ 0) : Wire.tInt l er = (0, l, er) := by unfold Wire.tInt; rw [if_pos h]
theorem tInt_bd (l : List UInt8) (er : Int) : i64 (Wire.tInt l er).1 := by
  unfold Wire.tInt i64
  split
  · simp
  · split
    · rename_i v n h
      exact Wire.zag_bd (Wire.rd_ok h).1
    · simp
    · simp
theorem tInt_form {l l' : List UInt8} {n : Int} (h : Wire.tInt l 0 = (n, l', 0)) : l = (numS n).data.toList ++ l' := by
  unfold Wire.tInt at h
  rw [if_neg (by simp)] at h
  cases hr : Wire.rd l with
  | ok v m =>
    rw [hr] at h
    simp only [Prod.mk.injEq, and_true] at h
    obtain ⟨h1, h2⟩ := h
    have := Wire.rd_form hr
    rw [h1] at this
    rw [numS_data, ← this, ← h2, List.take_append_drop]
  | short => rw [hr] at h; simp at h
  | wrong => rw [hr] at h; simp at h
theorem tText_form {l l' x : List UInt8} (h : Wire.tText l 0 = (x, l', 0)) : l = textL (S x) ++ l' ∧ x.length ≤ 1048576 := by
  obtain ⟨n, l1, e1, h1⟩ : ∃ n l1 e1, Wire.tInt l 0 = (n, l1, e1) := ⟨_, _, _, rfl⟩
  unfold Wire.tText at h
  rw [h1] at h
  simp only at h
  by_cases he : e1 = 0
  · subst he
    rw [if_neg (by simp)] at h
    by_cases h2 : n < 0
    · rw [if_pos h2] at h; simp at h
    · rw [if_neg h2] at h
      by_cases h3 : 1048576 < n
      · rw [if_pos h3] at h; simp at h
      · rw [if_neg h3] at h
        by_cases h4 : (l1.length : Int) < n
        · rw [if_pos h4] at h; simp at h
        · rw [if_neg h4] at h
          simp only [Prod.mk.injEq, and_true] at h
          obtain ⟨hx, hl⟩ := h
          have hlen : x.length = n.toNat := by rw [← hx, List.length_take]; omega
          refine ⟨?_, by omega⟩
          have hf := tInt_form h1
          unfold textL
          rw [S_size, S_data, hlen, show ((n.toNat : Nat) : Int) = n by omega, List.append_assoc, ← hx, ← hl, List.take_append_drop]
          exact hf
  · rw [if_pos he] at h; simp at h; exact absurd h.2.2 he
theorem takeI_form : ∀ {n : Nat} {l l' : List UInt8} {ns : List Int}, takeI n l 0 = (ns, l', 0) → ns.length = n ∧ l = numsL ns ++ l' ∧ ∀ x ∈ ns, i64 x
  | 0, l, l', ns, h => by
    simp only [takeI, Prod.mk.injEq, and_true] at h
    obtain ⟨rfl, rfl⟩ := h
    exact ⟨rfl, by simp [numsL], by simp⟩
  | n + 1, l, l', ns, h => by
    obtain ⟨x, l1, e1, hx⟩ : ∃ x l1 e1, Wire.tInt l 0 = (x, l1, e1) := ⟨_, _, _, rfl⟩
    by_cases he : e1 = 0
    · subst he
      rw [takeI_ok hx] at h
      obtain ⟨ms, l2, e2, hm⟩ : ∃ ms l2 e2, takeI n l1 0 = (ms, l2, e2) := ⟨_, _, _, rfl⟩
      rw [hm] at h
      simp only [Prod.mk.injEq] at h
      obtain ⟨rfl, rfl, rfl⟩ := h
      obtain ⟨g1, g2, g3⟩ := takeI_form hm
      refine ⟨by simp [g1], ?_, ?_⟩
      · rw [tInt_form hx]
        conv => lhs; rw [g2]
        simp [numsL]
      · intro y hy
        rcases List.mem_cons.1 hy with rfl | hy
        · have := tInt_bd l 0; rw [hx] at this; exact this
        · exact g3 y hy
    · rw [takeI_bad hx he] at h
      simp only [Prod.mk.injEq] at h
      exact absurd h.2.2 he
theorem takeT_form : ∀ {n : Nat} {l l' : List UInt8} {ts : List ByteArray}, takeT n l 0 = (ts, l', 0) → ts.length = n ∧ l = textsL ts ++ l' ∧ ∀ x ∈ ts, x.size ≤ 1048576
  | 0, l, l', ts, h => by
    simp only [takeT, Prod.mk.injEq, and_true] at h
    obtain ⟨rfl, rfl⟩ := h
    exact ⟨rfl, by simp [textsL], by simp⟩
  | n + 1, l, l', ts, h => by
    obtain ⟨x, l1, e1, hx⟩ : ∃ x l1 e1, Wire.tText l 0 = (x, l1, e1) := ⟨_, _, _, rfl⟩
    by_cases he : e1 = 0
    · subst he
      rw [takeT_ok hx] at h
      obtain ⟨ms, l2, e2, hm⟩ : ∃ ms l2 e2, takeT n l1 0 = (ms, l2, e2) := ⟨_, _, _, rfl⟩
      rw [hm] at h
      simp only [Prod.mk.injEq] at h
      obtain ⟨rfl, rfl, rfl⟩ := h
      obtain ⟨g1, g2, g3⟩ := takeT_form hm
      obtain ⟨f1, f2⟩ := tText_form hx
      refine ⟨by simp [g1], ?_, ?_⟩
      · rw [f1]
        conv => lhs; rw [g2]
        simp [textsL]
      · intro y hy
        rcases List.mem_cons.1 hy with rfl | hy
        · rw [S_size]; exact f2
        · exact g3 y hy
    · rw [takeT_bad hx he] at h
      simp only [Prod.mk.injEq] at h
      exact absurd h.2.2 he
theorem listI_er {n : Nat} {l : List UInt8} {er : Int} (h : er ≠ 0) : listI n l er = ([], l, er) := by
  unfold listI; rw [tInt_er h, if_neg (by simp)]; rfl
theorem listI_form {n : Nat} {l l' : List UInt8} {ns : List Int} (h : listI n l 0 = (ns, l', 0)) : l = (numS ns.length).data.toList ++ numsL ns ++ l' ∧ ns.length ≤ n ∧ ∀ x ∈ ns, i64 x := by
  obtain ⟨x, l1, e1, hx⟩ : ∃ x l1 e1, Wire.tInt l 0 = (x, l1, e1) := ⟨_, _, _, rfl⟩
  have hlen := listI_len n l 0
  rw [h] at hlen
  unfold listI at h
  rw [hx] at h
  simp only at h
  by_cases h1 : x < 0 ∨ (n : Int) < x
  · rw [if_pos h1] at h; simp at h
  · rw [if_neg h1] at h
    by_cases he : e1 = 0
    · subst he
      obtain ⟨g1, g2, g3⟩ := takeI_form h
      refine ⟨?_, hlen, g3⟩
      rw [tInt_form hx, g1, show ((x.toNat : Nat) : Int) = x by omega, List.append_assoc, ← g2]
    · have : x = 0 := by
        by_cases hx0 : x.toNat = 0
        · omega
        · obtain ⟨m, hm⟩ : ∃ m, x.toNat = m + 1 := ⟨x.toNat - 1, by omega⟩
          rw [hm, takeI_bad (tInt_er he) he] at h
          simp at h; exact absurd h.2.2 he
      subst this
      simp [takeI] at h
      exact absurd h.2.2 he
theorem listT_form {n : Nat} {l l' : List UInt8} {ts : List ByteArray} (h : listT n l 0 = (ts, l', 0)) : l = (numS ts.length).data.toList ++ textsL ts ++ l' ∧ ts.length ≤ n ∧ ∀ x ∈ ts, x.size ≤ 1048576 := by
  obtain ⟨x, l1, e1, hx⟩ : ∃ x l1 e1, Wire.tInt l 0 = (x, l1, e1) := ⟨_, _, _, rfl⟩
  have hlen := listT_len n l 0
  rw [h] at hlen
  unfold listT at h
  rw [hx] at h
  simp only at h
  by_cases h1 : x < 0 ∨ (n : Int) < x
  · rw [if_pos h1] at h; simp at h
  · rw [if_neg h1] at h
    by_cases he : e1 = 0
    · subst he
      obtain ⟨g1, g2, g3⟩ := takeT_form h
      refine ⟨?_, hlen, g3⟩
      rw [tInt_form hx, g1, show ((x.toNat : Nat) : Int) = x by omega, List.append_assoc, ← g2]
    · have ht : Wire.tText l1 e1 = ([], l1, e1) := by unfold Wire.tText; rw [tInt_er he]; exact if_pos he
      by_cases hx0 : x.toNat = 0
      · rw [hx0] at h; simp [takeT] at h; exact absurd h.2.2 he
      · obtain ⟨m, hm⟩ : ∃ m, x.toNat = m + 1 := ⟨x.toNat - 1, by omega⟩
        rw [hm, takeT_bad ht he] at h
        simp at h; exact absurd h.2.2 he
theorem dec_ok {n : Nat} {L : List UInt8} {k c i : Int} {ns : List Int} {ts : List ByteArray} (h : dec n L = .ok (k, c, i, ns, ts)) :
    L = encL k c i ns ts ∧ validB k ns.length ts.length = true ∧ i64 k ∧ i64 c ∧ i64 i ∧ (∀ x ∈ ns, i64 x) ∧ (∀ x ∈ ts, x.size ≤ 1048576) ∧ ns.length ≤ n ∧ ts.length ≤ n := by
  obtain ⟨k', l1, e1, hk⟩ : ∃ k l1 e1, Wire.tInt L 0 = (k, l1, e1) := ⟨_, _, _, rfl⟩
  obtain ⟨c', l2, e2, hc⟩ : ∃ c l2 e2, Wire.tInt l1 e1 = (c, l2, e2) := ⟨_, _, _, rfl⟩
  obtain ⟨i', l3, e3, hi⟩ : ∃ i l3 e3, Wire.tInt l2 e2 = (i, l3, e3) := ⟨_, _, _, rfl⟩
  obtain ⟨ns', l4, e4, hA⟩ : ∃ ns l4 e4, listI n l3 e3 = (ns, l4, e4) := ⟨_, _, _, rfl⟩
  have h4 : e4 = 0 := by
    by_cases h4 : e4 = 0
    · exact h4
    · rw [dec_a hk hc hi hA h4] at h; cases h
  subst h4
  obtain ⟨ts', l5, e5, hB⟩ : ∃ ts l5 e5, listT n l4 0 = (ts, l5, e5) := ⟨_, _, _, rfl⟩
  have h5 : e5 = 0 := by
    by_cases h5 : e5 = 0
    · exact h5
    · rw [dec_b hk hc hi hA hB h5] at h; cases h
  subst h5
  have h6 : Wire.tEnd l5 0 = 0 := by
    by_cases h6 : Wire.tEnd l5 0 = 0
    · exact h6
    · rw [dec_c hk hc hi hA hB h6] at h; cases h
  have hv : validB k' ns'.length ts'.length = true := by
    cases hv : validB k' ns'.length ts'.length with
    | true => rfl
    | false => rw [dec_d hk hc hi hA hB h6 hv] at h; cases h
  rw [dec_e hk hc hi hA hB h6 hv] at h
  simp only [Except.ok.injEq, Prod.mk.injEq] at h
  obtain ⟨rfl, rfl, rfl, rfl, rfl⟩ := h
  have h3 : e3 = 0 := by
    by_cases h3 : e3 = 0
    · exact h3
    · rw [listI_er h3] at hA; simp at hA; exact absurd hA.2.2 h3
  subst h3
  have h2 : e2 = 0 := by
    by_cases h2 : e2 = 0
    · exact h2
    · rw [tInt_er h2] at hi; simp at hi; exact absurd hi.2.2 h2
  subst h2
  have h1 : e1 = 0 := by
    by_cases h1 : e1 = 0
    · exact h1
    · rw [tInt_er h1] at hc; simp at hc; exact absurd hc.2.2 h1
  subst h1
  have hl5 : l5 = [] := by
    unfold Wire.tEnd at h6
    rw [if_neg (by simp)] at h6
    by_cases hl : l5 = []
    · exact hl
    · rw [if_neg hl] at h6; cases h6
  subst hl5
  obtain ⟨a1, a2, a3⟩ := listI_form hA
  obtain ⟨b1, b2, b3⟩ := listT_form hB
  have k1 := tInt_bd L 0; rw [hk] at k1
  have k2 := tInt_bd l1 0; rw [hc] at k2
  have k3 := tInt_bd l2 0; rw [hi] at k3
  refine ⟨?_, hv, k1, k2, k3, a3, b3, a2, b2⟩
  rw [tInt_form hk, tInt_form hc, tInt_form hi, a1, b1]
  simp [encL, headL]
theorem tint_num {n : Int} (hn : i64 n) (t : List UInt8) : Wire.tInt ((numS n).data.toList ++ t) 0 = (n, t, 0) := by
  unfold Wire.tInt
  rw [if_neg (by simp), numS_data, Wire.num_rd hn]
  simp [Wire.zag_zig]
theorem ttext_form (s : ByteArray) (hs : s.size ≤ 1048576) (t : List UInt8) : Wire.tText (textL s ++ t) 0 = (s.data.toList, t, 0) := by
  have hl : s.data.toList.length = s.size := rfl
  have h1 : Wire.tInt (textL s ++ t) 0 = ((s.size : Int), s.data.toList ++ t, 0) := by
    unfold textL
    rw [List.append_assoc]
    exact tint_num (by unfold i64; omega) _
  unfold Wire.tText
  rw [h1]
  simp only
  rw [if_neg (by simp), if_neg (by omega), if_neg (by omega), if_neg (by rw [List.length_append]; omega)]
  simp only [Int.toNat_natCast]
  rw [← hl, List.take_left, List.drop_left]
theorem takeI_enc : ∀ (ns : List Int) (t : List UInt8), (∀ x ∈ ns, i64 x) → takeI ns.length (numsL ns ++ t) 0 = (ns, t, 0)
  | [], t, _ => by simp [takeI, numsL]
  | x :: ns, t, h => by
    have e : numsL (x :: ns) ++ t = (numS x).data.toList ++ (numsL ns ++ t) := by simp [numsL]
    rw [e, List.length_cons, takeI_ok (tint_num (h x (by simp)) _), takeI_enc ns t (fun y hy => h y (by simp [hy]))]
theorem takeT_enc : ∀ (ts : List ByteArray) (t : List UInt8), (∀ x ∈ ts, x.size ≤ 1048576) → takeT ts.length (textsL ts ++ t) 0 = (ts, t, 0)
  | [], t, _ => by simp [takeT, textsL]
  | x :: ts, t, h => by
    have e : textsL (x :: ts) ++ t = textL x ++ (textsL ts ++ t) := by simp [textsL]
    have ex : S x.data.toList = x := rfl
    rw [e, List.length_cons, takeT_ok (ttext_form x (h x (by simp)) _), takeT_enc ts t (fun y hy => h y (by simp [hy])), ex]
theorem num_pos (n : Int) : 0 < (numS n).data.toList.length := by
  rw [numS_data]
  unfold Wire.num
  rcases Nat.lt_or_ge (Wire.zig n) 128 with h | h
  · rw [Wire.vi_small 9 _ h]; simp
  · rw [Wire.vi_big 9 _ (by omega)]; simp
theorem numsL_len : ∀ ns : List Int, ns.length ≤ (numsL ns).length
  | [] => by simp [numsL]
  | x :: ns => by
    have e : numsL (x :: ns) = (numS x).data.toList ++ numsL ns := by simp [numsL]
    have := num_pos x
    have := numsL_len ns
    rw [e, List.length_append, List.length_cons]; omega
theorem textsL_len : ∀ ts : List ByteArray, ts.length ≤ (textsL ts).length
  | [] => by simp [textsL]
  | x :: ts => by
    have e : textsL (x :: ts) = textL x ++ textsL ts := by simp [textsL]
    have := num_pos x.size
    have := textsL_len ts
    rw [e, List.length_append, List.length_cons]
    unfold textL
    rw [List.length_append]; omega
theorem dec_enc {k c i : Int} {ns : List Int} {ts : List ByteArray} (hv : validB k ns.length ts.length = true) (hk : i64 k) (hc : i64 c) (hi : i64 i) (hn : ∀ x ∈ ns, i64 x) (ht : ∀ x ∈ ts, x.size ≤ 1048576) (nl : i64 ns.length) (tl : i64 ts.length) :
    dec (encL k c i ns ts).length (encL k c i ns ts) = .ok (k, c, i, ns, ts) := by
  have e : encL k c i ns ts = (numS k).data.toList ++ ((numS c).data.toList ++ ((numS i).data.toList ++ ((numS ns.length).data.toList ++ (numsL ns ++ ((numS ts.length).data.toList ++ (textsL ts ++ [])))))) := by simp [encL, headL]
  have l1 := numsL_len ns
  have l2 := textsL_len ts
  have hlen : ns.length ≤ (encL k c i ns ts).length ∧ ts.length ≤ (encL k c i ns ts).length := by rw [e]; simp only [List.length_append]; omega
  have hA : listI (encL k c i ns ts).length ((numS ns.length).data.toList ++ (numsL ns ++ ((numS ts.length).data.toList ++ (textsL ts ++ [])))) 0 = (ns, (numS ts.length).data.toList ++ (textsL ts ++ []), 0) := by
    unfold listI
    rw [tint_num nl]
    simp only
    rw [if_neg (by omega), Int.toNat_natCast]
    exact takeI_enc ns _ hn
  have hB : listT (encL k c i ns ts).length ((numS ts.length).data.toList ++ (textsL ts ++ [])) 0 = (ts, [], 0) := by
    unfold listT
    rw [tint_num tl]
    simp only
    rw [if_neg (by omega), Int.toNat_natCast]
    exact takeT_enc ts _ ht
  have h1 : Wire.tInt (encL k c i ns ts) 0 = (k, (numS c).data.toList ++ ((numS i).data.toList ++ ((numS ns.length).data.toList ++ (numsL ns ++ ((numS ts.length).data.toList ++ (textsL ts ++ []))))), 0) := by
    rw [e]; exact tint_num hk _
  exact dec_e h1 (tint_num hc _) (tint_num hi _) hA hB (by unfold Wire.tEnd; simp) hv
end Go.Proofs.YtndcmjgjecdgcaaDoor
