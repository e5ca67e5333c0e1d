/-
  A number's text reads as that number, and what reads as a number is that number's text; plain lemmas.
-/
import Derived.Test.YtmnaaohhageihaaDoorB06
import Derived.Lib.ItoaMem
import Derived.Lib.AtoiAllCases
namespace Go.Proofs.YtmnaaohhageihaaDoor

def foldD (acc : Nat) (l : List UInt8) : Nat := l.foldl (fun a c => a * 10 + (c.toNat - 48)) acc
theorem uint_fold : ∀ (l : List UInt8) (acc u : Nat), Lib.parseUint10 acc l = .ok u → u = foldD acc l
  | [], acc, u, h => by simp only [Lib.parseUint10, Lib.NumEnd.ok.injEq] at h; simp [foldD, h]
  | c :: r, acc, u, h => by
    simp only [Lib.parseUint10] at h
    split at h
    · split at h
      · cases h
      · split at h
        · cases h
        · have := uint_fold r _ u h
          simpa [foldD] using this
    · cases h
theorem nq_digB {c : UInt8} (h : digB c = true) : 48 ≤ c.toNat ∧ c.toNat ≤ 57 := by simpa [digB] using h
theorem nq_of {c : UInt8} (h : 48 ≤ c.toNat ∧ c.toNat ≤ 57) : digB c = true := by simpa [digB] using h
theorem nq_u8 {n : Nat} {c : UInt8} (h : n = c.toNat) : UInt8.ofNat n = c := by subst h; simp
theorem nq_ne {c : UInt8} (h : c ≠ 48) : c.toNat ≠ 48 := fun e => h (UInt8.toNat_inj.1 e)
theorem dec_fold : ∀ (n : Nat) (l : List UInt8), l.length = n + 1 → (∀ c ∈ l, digB c = true) → pk l ≠ 48 → Lib.decDigits (foldD 0 l) = l ∧ 1 ≤ foldD 0 l
  | 0, l, hl, hd, hp => by
    match l, hl with
    | [c], _ =>
      have h1 := nq_digB (hd c (by simp))
      have h2 := nq_ne (c := c) hp
      have e : foldD 0 [c] = c.toNat - 48 := by simp [foldD]
      rw [e]
      refine ⟨?_, by omega⟩
      rw [Lib.decDigits_one (by omega), nq_u8 (c := c) (by omega)]
  | n + 1, l, hl, hd, hp => by
    have hne : l ≠ [] := by rintro rfl; simp at hl
    obtain ⟨m, c, rfl⟩ : ∃ m c, l = m ++ [c] := ⟨l.dropLast, l.getLast hne, (List.dropLast_concat_getLast hne).symm⟩
    have hm : m.length = n + 1 := by simpa using hl
    have hpm : pk (m ++ [c]) = pk m := by
      cases m with
      | nil => simp at hm
      | cons x t => rfl
    rw [hpm] at hp
    obtain ⟨h1, h2⟩ := dec_fold n m hm (fun x hx => hd x (by simp [hx])) hp
    have h3 := nq_digB (hd c (by simp))
    have e : foldD 0 (m ++ [c]) = foldD 0 m * 10 + (c.toNat - 48) := by simp [foldD, List.foldl_append]
    rw [e]
    refine ⟨?_, by omega⟩
    rw [Lib.decDigits, dif_neg (by omega), show (foldD 0 m * 10 + (c.toNat - 48)) / 10 = foldD 0 m by omega, show (foldD 0 m * 10 + (c.toNat - 48)) % 10 = c.toNat - 48 by omega, h1, nq_u8 (c := c) (by omega)]
theorem uint_snoc : ∀ (l : List UInt8) (acc a : Nat) (c : UInt8), Lib.parseUint10 acc l = .ok a → 48 ≤ c.toNat ∧ c.toNat ≤ 57 → a * 10 + (c.toNat - 48) < 18446744073709551616 → Lib.parseUint10 acc (l ++ [c]) = .ok (a * 10 + (c.toNat - 48))
  | [], acc, a, c, h, hc, hb => by
    simp only [Lib.parseUint10, Lib.NumEnd.ok.injEq] at h
    subst h
    simp only [List.nil_append, Lib.parseUint10]
    rw [if_pos hc, if_neg (by omega), if_neg (by omega)]
  | x :: r, acc, a, c, h, hc, hb => by
    simp only [List.cons_append, Lib.parseUint10] at h ⊢
    split at h
    · rename_i hx
      rw [if_pos hx]
      split at h
      · cases h
      · rename_i h1
        rw [if_neg h1]
        split at h
        · cases h
        · rename_i h2
          rw [if_neg h2]
          exact uint_snoc r _ a c h hc hb
    · cases h
theorem nq_to {n : Nat} (h : n < 10) : (UInt8.ofNat (48 + n)).toNat = 48 + n := by simp; omega
theorem dec_facts (N : Nat) : ∀ u, u ≤ N → u < 18446744073709551616 → Lib.parseUint10 0 (Lib.decDigits u) = .ok u ∧ (∀ c ∈ Lib.decDigits u, digB c = true) ∧ Lib.decDigits u ≠ [] ∧ (1 ≤ u → pk (Lib.decDigits u) ≠ 48) := by
  induction N with
  | zero =>
    intro u hu _
    obtain rfl : u = 0 := by omega
    rw [Lib.decDigits_one (by omega)]
    exact ⟨by decide, by decide, by decide, fun h => absurd h (by omega)⟩
  | succ N ih =>
    intro u hu hb
    by_cases h10 : u < 10
    · rw [Lib.decDigits_one h10]
      have h1 := nq_to h10
      refine ⟨?_, ?_, by simp, fun h e => ?_⟩
      · have h2 := uint_snoc [] 0 0 (UInt8.ofNat (48 + u)) rfl (by rw [h1]; omega) (by rw [h1]; omega)
        rw [h1, show 0 * 10 + (48 + u - 48) = u by omega] at h2
        exact h2
      · intro c hc
        simp only [List.mem_cons, List.not_mem_nil, or_false] at hc
        subst hc
        exact nq_of (by rw [h1]; omega)
      · have e2 : UInt8.ofNat (48 + u) = 48 := e
        rw [e2] at h1
        have h3 : (48 : UInt8).toNat = 48 := rfl
        omega
    · obtain ⟨i1, i2, i3, i4⟩ := ih (u / 10) (by omega) (by omega)
      have h1 := nq_to (n := u % 10) (by omega)
      rw [Lib.decDigits, dif_neg h10]
      refine ⟨?_, ?_, by simp, fun _ => ?_⟩
      · have h2 := uint_snoc _ 0 _ (UInt8.ofNat (48 + u % 10)) i1 (by rw [h1]; omega) (by rw [h1]; omega)
        rw [h1, show u / 10 * 10 + (48 + u % 10 - 48) = u by omega] at h2
        exact h2
      · intro c hc
        rcases List.mem_append.1 hc with hc | hc
        · exact i2 c hc
        · simp only [List.mem_cons, List.not_mem_nil, or_false] at hc
          subst hc
          exact nq_of (by rw [h1]; omega)
      · have i5 := i4 (by omega)
        cases hx : Lib.decDigits (u / 10) with
        | nil => exact absurd hx i3
        | cons x t => rw [hx] at i5; exact i5
theorem nq_dropWhile : ∀ {l : List UInt8}, (∀ c ∈ l, digB c = true) → l.dropWhile digB = []
  | [], _ => rfl
  | c :: r, h => by rw [List.dropWhile_cons_of_pos (h c (by simp))]; exact nq_dropWhile fun x hx => h x (by simp [hx])
theorem nq_all : ∀ {l : List UInt8}, l.dropWhile digB = [] → ∀ c ∈ l, digB c = true
  | [], _, c, hc => by simp at hc
  | x :: r, h, c, hc => by
    by_cases hx : digB x = true
    · rw [List.dropWhile_cons_of_pos hx] at h
      rcases List.mem_cons.1 hc with rfl | hc
      · exact hx
      · exact nq_all h c hc
    · rw [List.dropWhile_cons_of_neg hx] at h; cases h
theorem nq_pk {l : List UInt8} (h : l ≠ []) (hd : ∀ c ∈ l, digB c = true) : digB (pk l) = true := by
  cases l with
  | nil => exact absurd rfl h
  | cons c r => exact hd c (by simp)
theorem digitsP_plain {l : List UInt8} (h : l ≠ []) (hd : ∀ c ∈ l, digB c = true) (hp : pk l ≠ 48) : digitsP l = .ok () [] := by
  have h1 := nq_pk h hd
  have h45 : pk l ≠ 45 := fun e => by rw [e] at h1; revert h1; decide
  unfold digitsP
  rw [if_neg hp]
  simp only [if_neg h45]
  rw [if_neg (by simp [hp, h1]), nq_dropWhile hd]
theorem digitsP_minus {l : List UInt8} (h : l ≠ []) (hd : ∀ c ∈ l, digB c = true) (hp : pk l ≠ 48) : digitsP (45 :: l) = .ok () [] := by
  have h1 := nq_pk h hd
  have e45 : pk (45 :: l) = 45 := rfl
  unfold digitsP
  rw [if_neg (by rw [e45]; decide)]
  simp only [if_pos e45, List.tail_cons]
  rw [if_neg (by simp [hp, h1]), nq_dropWhile hd]
theorem numP_of {s : List UInt8} {n : Int} (h : digitsP s = .ok () []) (hv : Lib.atoiAll s = .ok n) : numP s = some n := by
  simp only [numP, numberP, h, List.length_nil, Nat.sub_zero, List.take_length, hv, if_true]
theorem mag_of {l : List UInt8} (h : l ≠ []) : Lib.parseMag l = Lib.parseUint10 0 l := by unfold Lib.parseMag; rw [if_neg h]
theorem plain_of {l : List UInt8} (h : l ≠ []) (hd : ∀ c ∈ l, digB c = true) : Lib.atoiAll l = Lib.signless (Lib.parseUint10 0 l) := by
  cases l with
  | nil => exact absurd rfl h
  | cons c r =>
    have h1 := nq_digB (hd c (by simp))
    rw [Lib.atoiAll_plain c r (by omega) (by omega), mag_of h]
theorem numP_itoa {a : Int} (h0 : -9223372036854775808 ≤ a) (h1 : a ≤ 9223372036854775807) : numP (Lib.itoa a) = some a := by
  rcases Int.lt_trichotomy a 0 with ha | ha | ha
  · obtain ⟨u, rfl⟩ : ∃ u : Nat, a = -(u : Int) := ⟨a.natAbs, by omega⟩
    obtain ⟨f1, f2, f3, f4⟩ := dec_facts u u (Nat.le_refl _) (by omega)
    rw [Lib.itoa_neg u (by omega)]
    refine numP_of (digitsP_minus f3 f2 (f4 (by omega))) ?_
    rw [Lib.atoiAll_minus, mag_of f3, f1]
    simp only [Lib.signed]
    rw [if_neg (by omega)]
  · subst ha
    have e := Lib.itoa_nonneg 0
    rw [Lib.decDigits_one (by omega)] at e
    have e2 : Lib.itoa 0 = [48] := e
    rw [e2]
    decide
  · obtain ⟨u, rfl⟩ : ∃ u : Nat, a = (u : Int) := ⟨a.natAbs, by omega⟩
    obtain ⟨f1, f2, f3, f4⟩ := dec_facts u u (Nat.le_refl _) (by omega)
    rw [Lib.itoa_nonneg u]
    refine numP_of (digitsP_plain f3 f2 (f4 (by omega))) ?_
    rw [plain_of f3 f2, f1]
    simp only [Lib.signless]
    rw [if_neg (by omega)]
theorem itoa_inj {a b : Int} (a0 : -9223372036854775808 ≤ a) (a1 : a ≤ 9223372036854775807) (b0 : -9223372036854775808 ≤ b) (b1 : b ≤ 9223372036854775807) (h : Lib.itoa a = Lib.itoa b) : a = b := by
  have h1 := numP_itoa a0 a1
  rw [h, numP_itoa b0 b1] at h1
  exact (Option.some.inj h1).symm
theorem numP_some {s : List UInt8} {m : Int} (h : numP s = some m) : digitsP s = .ok () [] ∧ Lib.atoiAll s = .ok m := by
  unfold numP numberP at h
  cases hd : digitsP s with
  | bad a b => rw [hd] at h; simp at h
  | ok u l' =>
    rw [hd] at h
    simp only at h
    cases hv : Lib.atoiAll (s.take (s.length - l'.length)) with
    | ok n =>
      rw [hv] at h
      simp only at h
      split at h
      · rename_i hl
        subst hl
        simp only [Option.some.injEq] at h
        subst h
        simp only [List.length_nil, Nat.sub_zero, List.take_length] at hv
        exact ⟨rfl, hv⟩
      · cases h
    | _ => rw [hv] at h; simp at h
theorem itoa_of_num {s : List UInt8} {m : Int} (h : numP s = some m) : Lib.itoa m = s := by
  obtain ⟨hd, hv⟩ := numP_some h
  unfold digitsP at hd
  split at hd
  · rename_i h48
    simp only [Tk.ok.injEq, true_and] at hd
    match s, hd, h48 with
    | [c], _, h48 =>
      have hc : c = 48 := h48
      subst hc
      have e : Lib.atoiAll [48] = .ok 0 := by decide
      rw [e] at hv
      simp only [Lib.NumEnd.ok.injEq] at hv
      subst hv
      have e1 := Lib.itoa_nonneg 0
      rw [Lib.decDigits_one (by omega)] at e1
      exact e1
  · rename_i h48
    by_cases h45 : pk s = 45
    · simp only [if_pos h45] at hd
      match s, h45 with
      | c :: t, h45 =>
        have hc : c = 45 := h45
        subst hc
        have hd2 : (if pk t = 48 ∨ digB (pk t) = false then Tk.bad t 4 else Tk.ok () (t.dropWhile digB)) = Tk.ok () [] := hd
        clear hd
        have hd := hd2
        clear hd2
        split at hd
        · cases hd
        · rename_i hx
          simp only [Tk.ok.injEq, true_and] at hd
          have hx1 : pk t ≠ 48 := fun e => hx (.inl e)
          have hall := nq_all hd
          have hne : t ≠ [] := by rintro rfl; exact hx (.inr (by decide))
          rw [Lib.atoiAll_minus, mag_of hne] at hv
          cases hu : Lib.parseUint10 0 t with
          | ok u =>
            have hf := uint_fold t 0 u hu
            obtain ⟨g1, g2⟩ := dec_fold (t.length - 1) t (by have := List.length_pos_iff.2 hne; omega) hall hx1
            rw [← hf] at g1 g2
            rw [hu] at hv
            simp only [Lib.signed] at hv
            split at hv
            · cases hv
            · simp only [Lib.NumEnd.ok.injEq] at hv
              rw [← hv, Lib.itoa_neg u g2, g1]
          | _ => rw [hu] at hv; cases hv
    · simp only [if_neg h45] at hd
      split at hd
      · cases hd
      · rename_i hx
        simp only [Tk.ok.injEq, true_and] at hd
        have hall := nq_all hd
        have hne : s ≠ [] := by rintro rfl; exact hx (.inr (by decide))
        rw [plain_of hne hall] at hv
        cases hu : Lib.parseUint10 0 s with
        | ok u =>
          have hf := uint_fold s 0 u hu
          obtain ⟨g1, g2⟩ := dec_fold (s.length - 1) s (by have := List.length_pos_iff.2 hne; omega) hall h48
          rw [← hf] at g1 g2
          rw [hu] at hv
          simp only [Lib.signless] at hv
          split at hv
          · cases hv
          · simp only [Lib.NumEnd.ok.injEq] at hv
            rw [← hv, Lib.itoa_nonneg u, g1]
        | _ => rw [hu] at hv; cases hv
theorem num_bounds {s : List UInt8} {m : Int} (h : numP s = some m) : -9223372036854775808 ≤ m ∧ m ≤ 9223372036854775807 := by
  obtain ⟨_, hv⟩ := numP_some h
  unfold Lib.atoiAll at hv
  split at hv
  · cases hv
  · simp only at hv
    split at hv
    · cases hv
    · cases hv
    · rename_i u _
      split at hv
      · cases hv
      · split at hv
        · cases hv
        · simp only [Lib.NumEnd.ok.injEq] at hv
          split at hv <;> omega
end Go.Proofs.YtmnaaohhageihaaDoor
