/-
  What is quoted reads as it was; plain lemmas.
-/
import Derived.Test.YtmnaaohhageihaaDoorB06
namespace Go.Proofs.YtmnaaohhageihaaDoor

theorem u8_of {n : Nat} {c : UInt8} (h : n = c.toNat) : UInt8.ofNat n = c := by subst h; simp
theorem hexV_hexD : ∀ n, n < 16 → hexV (UInt8.ofNat (hexD n)) = some n := by decide
theorem hexD_plain : ∀ n, n < 16 → 32 ≤ (UInt8.ofNat (hexD n)).toNat ∧ (UInt8.ofNat (hexD n)).toNat ≤ 126 := by decide
theorem u8_eq {a b : UInt8} (h : a.toNat = b.toNat) : a = b := UInt8.toNat_inj.1 h
theorem innerP_quote (c : UInt8) (r : List UInt8) : innerP (quoteC c ++ r) = .ok c r := by
  have hc : c.toNat < 256 := c.toNat_lt
  unfold quoteC
  split
  · rename_i h
    have h' : c = 34 ∨ c = 92 := h.imp (fun h => u8_eq h) (fun h => u8_eq h)
    have e1 : plainC (pk ([92, c] ++ r)) = true := by simp [pk]; decide
    unfold innerP
    rw [if_neg (by rw [e1]; simp), if_neg (by simp [pk])]
    simp [pk, h']
  · rename_i h
    split
    · rename_i h2
      have e1 : plainC (pk ([c] ++ r)) = true := by simp [pk, plainC, h2.1, h2.2]
      have e2 : c ≠ 92 := fun e => h (.inr (by subst e; rfl))
      unfold innerP
      rw [if_neg (by rw [e1]; simp), if_pos (by simpa [pk] using e2)]
      simp [pk]
    · have e1 : plainC (pk ([92, 120, UInt8.ofNat (hexD (c.toNat / 16)), UInt8.ofNat (hexD (c.toNat % 16))] ++ r)) = true := by simp [pk]; decide
      unfold innerP
      rw [if_neg (by rw [e1]; simp), if_neg (by simp [pk]), if_neg (by simp [pk]), if_neg (by simp [pk])]
      simp only [List.cons_append, List.nil_append, List.tail_cons]
      have h1 := hexV_hexD (c.toNat / 16) (by omega)
      have h2 := hexV_hexD (c.toNat % 16) (by omega)
      simp only [hex2P, hexP, pk, List.headD_cons, h1, List.tail_cons, h2]
      rw [u8_of (c := c) (by omega)]
theorem quoteC_head (c : UInt8) (r : List UInt8) : pk (quoteC c ++ r) ≠ 34 := by
  unfold quoteC
  split
  · simp [pk]
  · rename_i h
    split
    · intro e
      have e2 : c = 34 := by simpa [pk] using e
      exact h (.inl (by subst e2; rfl))
    · simp [pk]
theorem quoteI_cons (c : UInt8) (l : List UInt8) : quoteI (c :: l) = quoteC c ++ quoteI l := by simp [quoteI]
theorem quoteC_pos (c : UInt8) : 1 ≤ (quoteC c).length := by unfold quoteC; split; simp; split <;> simp
theorem quoteI_ge : ∀ l : List UInt8, l.length ≤ (quoteI l).length
  | [] => by simp
  | c :: r => by
    have h1 := quoteC_pos c
    have h2 := quoteI_ge r
    rw [quoteI_cons, List.length_append, List.length_cons]; omega
theorem bytesF_quote : ∀ (l : List UInt8) (f : Nat) (acc r : List UInt8), l.length < f → bytesF f (quoteI l ++ 34 :: r) acc = .ok (acc ++ l) r
  | [], f, acc, r, h => by
    obtain ⟨g, rfl⟩ : ∃ g, f = g + 1 := ⟨f - 1, by simp at h; omega⟩
    simp [quoteI, bytesF, pk]
  | c :: l, f, acc, r, h => by
    obtain ⟨g, rfl⟩ : ∃ g, f = g + 1 := ⟨f - 1, by simp at h; omega⟩
    rw [quoteI_cons, List.append_assoc, bytesF, if_neg (quoteC_head c _), innerP_quote]
    simp only
    rw [bytesF_quote l g (acc ++ [c]) r (by simp at h; omega)]
    simp
theorem bytesP_quote (l r : List UInt8) : bytesP (quoteL l ++ r) = .ok l r := by
  unfold bytesP quoteL
  rw [if_pos (by simp [pk])]
  have h := quoteI_ge l
  have e : (34 :: (quoteI l ++ [34]) ++ r).tail = quoteI l ++ 34 :: r := by simp
  rw [e, bytesF_quote l _ [] r (by simp; omega)]
  simp
theorem unqP_quote (l : List UInt8) : unqP (quoteL l) = some l := by
  have h := bytesP_quote l []
  rw [List.append_nil] at h
  simp [unqP, h]
theorem quoteL_inj {a b : List UInt8} (h : quoteL a = quoteL b) : a = b := by
  have h1 := unqP_quote a
  rw [h, unqP_quote b] at h1
  exact (Option.some.inj h1).symm
theorem quoteC_plain (c : UInt8) : ∀ b ∈ quoteC c, 32 ≤ b.toNat ∧ b.toNat ≤ 126 := by
  have hc : c.toNat < 256 := c.toNat_lt
  intro b hb
  unfold quoteC at hb
  split at hb
  · rename_i h
    simp only [List.mem_cons, List.not_mem_nil, or_false] at hb
    rcases hb with rfl | rfl
    · decide
    · omega
  · split at hb
    · simp only [List.mem_cons, List.not_mem_nil, or_false] at hb
      subst hb; assumption
    · simp only [List.mem_cons, List.not_mem_nil, or_false] at hb
      rcases hb with rfl | rfl | rfl | rfl
      · decide
      · decide
      · exact hexD_plain _ (by omega)
      · exact hexD_plain _ (by omega)
theorem quoteL_plain (l : List UInt8) : ∀ b ∈ quoteL l, 32 ≤ b.toNat ∧ b.toNat ≤ 126 := by
  intro b hb
  unfold quoteL quoteI at hb
  simp only [List.mem_cons, List.mem_append, List.not_mem_nil, or_false] at hb
  rcases hb with rfl | hb | rfl
  · decide
  · obtain ⟨c, _, h⟩ := List.mem_flatMap.1 hb
    exact quoteC_plain c b h
  · decide
end Go.Proofs.YtmnaaohhageihaaDoor
