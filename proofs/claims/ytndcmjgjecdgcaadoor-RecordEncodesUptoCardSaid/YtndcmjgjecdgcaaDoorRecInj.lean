/- A message's bytes tell the message: the forms of numbers, texts and lists of them can be told from what follows. -/
import Derived.Test.YtndcmjgjecdgcaaDoorRecEnc
import Derived.Test.YtndcmjgjecdgcaaDoorWireInv
namespace Go.Proofs.YtndcmjgjecdgcaaDoor
def i64b (n : Int) : Prop := -9223372036854775808 ≤ n ∧ n ≤ 9223372036854775807
theorem numS_data (n : Int) : (numS n).data.toList = Wire.num n := by simp [numS]
theorem num_inj {n m : Int} (hn : i64b n) (hm : i64b m) {t t' : List UInt8} (h : (numS n).data.toList ++ t = (numS m).data.toList ++ t') : n = m ∧ t = t' := by
  rw [numS_data, numS_data] at h
  have e1 := Wire.num_rd hn t
  have e2 := Wire.num_rd hm t'
  rw [h, e2] at e1
  injection e1 with e3 e4
  have hnm : n = m := by
    have := congrArg Wire.zag e3
    rw [Wire.zag_zig, Wire.zag_zig] at this
    exact this.symm
  subst hnm
  exact ⟨rfl, List.append_cancel_left h⟩
theorem text_inj {s s' : ByteArray} (hs : i64b s.size) (hs' : i64b s'.size) {t t' : List UInt8} (h : textL s ++ t = textL s' ++ t') : s = s' ∧ t = t' := by
  unfold textL at h
  rw [List.append_assoc, List.append_assoc] at h
  obtain ⟨hsz, h⟩ := num_inj hs hs' h
  have hl : s.data.toList.length = s'.data.toList.length := by
    rw [size_toList, size_toList]; omega
  obtain ⟨h1, h2⟩ := List.append_inj h hl
  refine ⟨?_, h2⟩
  apply ByteArray.ext
  apply Array.ext'
  exact h1
theorem nums_inj : ∀ {ns ms : List Int} {t t' : List UInt8}, ns.length = ms.length → (∀ n ∈ ns, i64b n) → (∀ n ∈ ms, i64b n) → numsL ns ++ t = numsL ms ++ t' → ns = ms ∧ t = t'
  | [], [], t, t', _, _, _, h => ⟨rfl, h⟩
  | n :: ns, m :: ms, t, t', hl, hn, hm, h => by
    have h' : (numS n).data.toList ++ (numsL ns ++ t) = (numS m).data.toList ++ (numsL ms ++ t') := by simpa [numsL] using h
    obtain ⟨rfl, h2⟩ := num_inj (hn n (by simp)) (hm m (by simp)) h'
    obtain ⟨rfl, h3⟩ := nums_inj (by simpa using hl) (fun x hx => hn x (by simp [hx])) (fun x hx => hm x (by simp [hx])) h2
    exact ⟨rfl, h3⟩
  | [], _ :: _, _, _, hl, _, _, _ => by simp at hl
  | _ :: _, [], _, _, hl, _, _, _ => by simp at hl
theorem texts_inj : ∀ {ns ms : List ByteArray} {t t' : List UInt8}, ns.length = ms.length → (∀ n ∈ ns, i64b n.size) → (∀ n ∈ ms, i64b n.size) → textsL ns ++ t = textsL ms ++ t' → ns = ms ∧ t = t'
  | [], [], t, t', _, _, _, h => ⟨rfl, h⟩
  | n :: ns, m :: ms, t, t', hl, hn, hm, h => by
    have h' : textL n ++ (textsL ns ++ t) = textL m ++ (textsL ms ++ t') := by simpa [textsL] using h
    obtain ⟨rfl, h2⟩ := text_inj (hn n (by simp)) (hm m (by simp)) h'
    obtain ⟨rfl, h3⟩ := texts_inj (by simpa using hl) (fun x hx => hn x (by simp [hx])) (fun x hx => hm x (by simp [hx])) h2
    exact ⟨rfl, h3⟩
  | [], _ :: _, _, _, hl, _, _, _ => by simp at hl
  | _ :: _, [], _, _, hl, _, _, _ => by simp at hl
theorem enc_inj {k c i k' c' i' : Int} {ns ns' : List Int} {ts ts' : List ByteArray} (hk : i64b k) (hc : i64b c) (hi : i64b i) (hk' : i64b k') (hc' : i64b c') (hi' : i64b i')
    (hn : ∀ n ∈ ns, i64b n) (hn' : ∀ n ∈ ns', i64b n) (ht : ∀ t ∈ ts, i64b t.size) (ht' : ∀ t ∈ ts', i64b t.size) (nl : i64b ns.length) (nl' : i64b ns'.length) (tl : i64b ts.length) (tl' : i64b ts'.length)
    (h : encL k c i ns ts = encL k' c' i' ns' ts') : k = k' ∧ c = c' ∧ i = i' ∧ ns = ns' ∧ ts = ts' := by
  unfold encL headL at h
  simp only [List.append_assoc] at h
  obtain ⟨ek, h1⟩ := num_inj hk hk' h
  obtain ⟨ec, h2⟩ := num_inj hc hc' h1
  obtain ⟨ei, h3⟩ := num_inj hi hi' h2
  obtain ⟨hl, h4⟩ := num_inj nl nl' h3
  obtain ⟨en, h5⟩ := nums_inj (by omega) hn hn' h4
  obtain ⟨hl2, h6⟩ := num_inj tl tl' h5
  obtain ⟨et, _⟩ := texts_inj (t := []) (t' := []) (by omega) ht ht' (by simpa using h6)
  exact ⟨ek, ec, ei, en, et⟩
theorem enc_ne (k c i : Int) (ns : List Int) (ts : List ByteArray) : encL k c i ns ts ≠ [] := by
  intro h
  have := congrArg List.length h
  unfold encL headL at this
  have h1 := (numS_size k).1
  have h2 : (numS k).data.toList.length = (numS k).size := size_toList _
  simp only [List.length_append, List.length_nil] at this
  omega
end Go.Proofs.YtndcmjgjecdgcaaDoor
