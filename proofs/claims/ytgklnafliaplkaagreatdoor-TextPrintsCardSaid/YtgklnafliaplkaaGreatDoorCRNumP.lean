/-
  What a text tells as a number, by its digits; plain lemmas.
-/
import Derived.Test.YtgklnafliaplkaaGreatDoorCRInt
import Derived.Test.YtgklnafliaplkaaGreatDoorB03
namespace Go.Proofs.YtgklnafliaplkaaGreatDoor

theorem foldD_le : ∀ (l : List UInt8) (acc : Nat), acc ≤ foldD acc l
  | [], acc => by simp [foldD]
  | c :: r, acc => by
    have := foldD_le r (acc * 10 + (c.toNat - 48))
    simp only [foldD, List.foldl_cons] at this ⊢
    omega
theorem uint_all : ∀ (l : List UInt8) (acc : Nat), (∀ c ∈ l, digB c = true) → Lib.parseUint10 acc l = if foldD acc l < 18446744073709551616 ∨ l = [] then .ok (foldD acc l) else .range
  | [], acc, _ => by simp [Lib.parseUint10, foldD]
  | c :: r, acc, h => by
    have hc := nq_digB (h c (by simp))
    have ih := uint_all r (acc * 10 + (c.toNat - 48)) fun x hx => h x (by simp [hx])
    have hle := foldD_le r (acc * 10 + (c.toNat - 48))
    have e : foldD acc (c :: r) = foldD (acc * 10 + (c.toNat - 48)) r := rfl
    rw [e]
    simp only [Lib.parseUint10]
    rw [if_pos hc]
    by_cases h1 : 1844674407370955162 ≤ acc
    · rw [if_pos h1, if_neg (by rintro (h2 | h2); · omega
                                · cases h2)]
    · rw [if_neg h1]
      by_cases h2 : 18446744073709551616 ≤ acc * 10 + (c.toNat - 48)
      · rw [if_pos h2, if_neg (by rintro (h3 | h3); · omega
                                  · cases h3)]
      · rw [if_neg h2, ih]
        by_cases h3 : foldD (acc * 10 + (c.toNat - 48)) r < 18446744073709551616
        · rw [if_pos (.inl h3), if_pos (.inl h3)]
        · rw [if_neg (by rintro (h4 | h4)
                         · exact h3 h4
                         · subst h4; simp [foldD] at h3; omega), if_neg (by rintro (h4 | h4)
                                                                            · exact h3 h4
                                                                            · cases h4)]
theorem foldD_snoc (l : List UInt8) (c : UInt8) : foldD 0 (l ++ [c]) = foldD 0 l * 10 + (c.toNat - 48) := by simp [foldD, List.foldl_append]
theorem foldD_app (a b : List UInt8) : foldD 0 a ≤ foldD 0 (a ++ b) := by
  have h := foldD_le b (foldD 0 a)
  have e : foldD 0 (a ++ b) = foldD (foldD 0 a) b := by simp [foldD, List.foldl_append]
  rw [e]; exact h
/-- Where an INT ends with the text: its digits. -/
theorem isI_shape {l : List UInt8} (h1 : isI l = true) (h2 : restI l = []) : digitsP l = .ok () [] ∧ l ≠ [] ∧
    (if pk l = 45 then l = 45 :: l.tail ∧ l.tail ≠ [] ∧ ∀ c ∈ l.tail, digB c = true else ∀ c ∈ l, digB c = true) := by
  unfold isI at h1
  unfold restI at h2
  cases hd : digitsP l with
  | bad a b => rw [hd] at h1; cases h1
  | ok v r =>
    rw [hd] at h2
    simp only at h2
    subst h2
    refine ⟨rfl, by rintro rfl; exact absurd hd (by simp [digitsP, pk, digB]), ?_⟩
    by_cases h48 : pk l = 48
    · rw [if_neg (by rw [h48]; decide)]
      unfold digitsP at hd
      rw [if_pos h48] at hd
      injection hd with _ hd
      cases l with
      | nil => cases h48
      | cons c t =>
        have ht : t = [] := hd
        have hc : c = 48 := h48
        subst ht; subst hc
        intro c hc
        simp only [List.mem_cons, List.not_mem_nil, or_false] at hc
        subst hc; decide
    · rw [digits_more h48] at hd
      by_cases h45 : pk l = 45
      · rw [if_pos h45] at hd ⊢
        unfold moreI at hd
        split at hd
        · cases hd
        · rename_i hn
          injection hd with _ hd
          cases l with
          | nil => cases h45
          | cons c t =>
            have hc : c = 45 := h45
            subst hc
            refine ⟨rfl, ?_, nq_all hd⟩
            rintro e
            apply hn
            rw [e]
            exact .inr (by decide)
      · rw [if_neg h45] at hd ⊢
        unfold moreI at hd
        split at hd
        · cases hd
        · injection hd with _ hd
          exact nq_all hd
def M63 : Nat := 9223372036854775808
/-- The number of a text that ends with its INT. -/
def numI (l : List UInt8) : Option Int :=
  if pk l = 45 then (if foldD 0 l.tail ≤ M63 then some (-(foldD 0 l.tail : Nat)) else none) else (if foldD 0 l < M63 then some (foldD 0 l : Nat) else none)
theorem numP_I {l : List UInt8} (h1 : isI l = true) (h2 : restI l = []) : numP l = numI l := by
  obtain ⟨hd, hne, hs⟩ := isI_shape h1 h2
  have e : numP l = match Lib.atoiAll l with | .ok n => some n | _ => none := by
    simp only [numP, numberP, hd, List.length_nil, Nat.sub_zero, List.take_length]
    cases Lib.atoiAll l <;> simp
  rw [e]
  unfold numI
  by_cases h45 : pk l = 45
  · rw [if_pos h45] at hs ⊢
    obtain ⟨hl, hn, hdg⟩ := hs
    have ha : Lib.atoiAll l = Lib.signed (Lib.parseMag l.tail) := by have := Lib.atoiAll_minus l.tail; rwa [← hl] at this
    rw [ha, mag_of hn, uint_all _ _ hdg]
    by_cases hb : foldD 0 l.tail < 18446744073709551616
    · rw [if_pos (.inl hb)]
      unfold Lib.signed M63
      simp only
      by_cases h3 : foldD 0 l.tail ≤ 9223372036854775808
      · rw [if_pos h3, if_neg (by omega)]
      · rw [if_neg h3, if_pos (by omega)]
    · rw [if_neg (by rintro (h | h)
                     · exact hb h
                     · exact hn h), if_neg (by unfold M63; omega)]
      rfl
  · rw [if_neg h45] at hs ⊢
    rw [plain_of hne hs, uint_all _ _ hs]
    by_cases hb : foldD 0 l < 18446744073709551616
    · rw [if_pos (.inl hb)]
      unfold Lib.signless M63
      simp only
      by_cases h3 : foldD 0 l < 9223372036854775808
      · rw [if_pos h3, if_neg (by omega)]
      · rw [if_neg h3, if_pos (by omega)]
    · rw [if_neg (by rintro (h | h)
                     · exact hb h
                     · exact hne h), if_neg (by unfold M63; omega)]
      rfl
theorem numP_no {l : List UInt8} (h : isI l = false ∨ restI l ≠ []) : numP l = none := by
  unfold isI restI at h
  unfold numP numberP
  cases hd : digitsP l with
  | bad a b => rfl
  | ok v r =>
    rw [hd] at h
    simp only at h ⊢
    rcases h with h | h
    · cases h
    · cases Lib.atoiAll (l.take (l.length - r.length)) with
      | ok n => simp [h]
      | _ => rfl
/-- What stands behind the sign. -/
def bI (l : List UInt8) : Nat := if pk l = 45 then 1 else 0
def dgI (l : List UInt8) (k : Nat) : Nat := foldD 0 ((l.drop (bI l)).take (k - bI l))
theorem dg_zero (l : List UInt8) : dgI l 0 = 0 := by simp [dgI, foldD]
theorem dg_all {l : List UInt8} {k : Nat} (h : l.length ≤ k) : dgI l k = foldD 0 (l.drop (bI l)) := by
  unfold dgI
  rw [List.take_of_length_le (by rw [List.length_drop]; omega)]
theorem dg_mono (l : List UInt8) (k : Nat) : dgI l k ≤ foldD 0 (l.drop (bI l)) := by
  have := foldD_app ((l.drop (bI l)).take (k - bI l)) ((l.drop (bI l)).drop (k - bI l))
  rwa [List.take_append_drop] at this
theorem dg_sign {l : List UInt8} (h : pk l = 45) : dgI l 1 = dgI l 0 := by
  have hb : bI l = 1 := by unfold bI; rw [if_pos h]
  unfold dgI; rw [hb]
theorem dg_step {l : List UInt8} {k : Nat} (hk : k < l.length) (hb : bI l ≤ k) : dgI l (k + 1) = dgI l k * 10 + (l[k].toNat - 48) := by
  unfold dgI
  have e : k + 1 - bI l = k - bI l + 1 := by omega
  have h1 : k - bI l < (l.drop (bI l)).length := by rw [List.length_drop]; omega
  rw [e, List.take_succ_eq_append_getElem h1, foldD_snoc]
  have h2 : (l.drop (bI l))[k - bI l] = l[k] := by
    rw [List.getElem_drop]
    congr 1; omega
  rw [h2]
theorem shape_at {l : List UInt8} (h1 : isI l = true) (h2 : restI l = []) {k : Nat} (hk : k < l.length) : (l[k] = 45 ∧ k = 0 ∧ pk l = 45) ∨ (digB l[k] = true ∧ bI l ≤ k ∧ l[k] ≠ 45) := by
  obtain ⟨_, hne, hs⟩ := isI_shape h1 h2
  have h45 : ∀ c : UInt8, digB c = true → c ≠ 45 := by rintro c hc rfl; exact absurd hc (by decide)
  by_cases hp : pk l = 45
  · rw [if_pos hp] at hs
    cases k with
    | zero =>
      left
      refine ⟨?_, rfl, hp⟩
      cases l with
      | nil => exact absurd rfl hne
      | cons c t => exact hp
    | succ j =>
      right
      have hb : bI l = 1 := by unfold bI; rw [if_pos hp]
      have hd : digB l[j + 1] = true := by
        apply hs.2.2
        cases l with
        | nil => exact absurd rfl hne
        | cons c t => simp
      exact ⟨hd, by omega, h45 _ hd⟩
  · rw [if_neg hp] at hs
    right
    have hb : bI l = 0 := by unfold bI; rw [if_neg hp]
    have hd := hs l[k] (List.getElem_mem hk)
    exact ⟨hd, by omega, h45 _ hd⟩
end Go.Proofs.YtgklnafliaplkaaGreatDoor
