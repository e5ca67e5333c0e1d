/-
  The document's own 'part' of types: plain lemmas.
-/
import Derived.Test.YtcbbocnblgpbbaaDoorRTPlain
namespace Go.Proofs.YtcbbocnblgpbbaaDoor
open Go.RowKit

theorem allT_flat {t : T} (h1 : t.kind ≠ 1) (h2 : t.kind ≠ 2) (h3 : t.kind ≠ 3) : allT t = soundT t := by
  rw [allT_eq]
  cases hs : soundT t with
  | false => rfl
  | true =>
    have : t.fields.length = 0 ∧ t.of.length = 0 := by
      unfold soundT at hs
      rw [if_neg h1, if_neg (by omega)] at hs
      split at hs
      · simp only [Bool.and_eq_true, decide_eq_true_eq] at hs; exact ⟨hs.1, hs.2.2.2⟩
      split at hs
      · simp only [Bool.and_eq_true, decide_eq_true_eq] at hs; exact ⟨hs.1, hs.2.2.2⟩
      split at hs
      · simp only [Bool.and_eq_true, decide_eq_true_eq] at hs; exact ⟨hs.1, hs.2.2.2.2.2⟩
      split at hs
      · simp only [Bool.and_eq_true, decide_eq_true_eq] at hs; exact ⟨hs.1, hs.2.2.1⟩
      · cases hs
    have hk : t.kids = [] := by
      have e1 := List.eq_nil_of_length_eq_zero this.1
      have e2 := List.eq_nil_of_length_eq_zero this.2
      simp [T.kids, e1, e2]
    rw [hk]; rfl

/-- What stands in the way at once. -/
def NoShape (t : T) : Prop := t.kind < 1 ∨ 7 < t.kind ∨ (t.kind ≠ 1 ∧ 0 < t.fields.length) ∨ (t.kind ≠ 7 ∧ 0 < t.names.length) ∨ (t.kind ≠ 2 ∧ t.kind ≠ 3 ∧ 0 < t.of.length)
theorem allT_shape {t : T} (h : NoShape t) : allT t = false := by
  rw [allT_eq]
  have : soundT t = false := by
    rw [← Bool.not_eq_true]
    intro hs
    unfold NoShape at h
    unfold soundT at hs
    split at hs
    · simp only [Bool.and_eq_true, decide_eq_true_eq] at hs; obtain ⟨a1, a2, a3, a4⟩ := hs; omega
    split at hs
    · simp only [Bool.and_eq_true, decide_eq_true_eq] at hs; obtain ⟨a1, a2, a3, a4, a5⟩ := hs; omega
    split at hs
    · simp only [Bool.and_eq_true, decide_eq_true_eq] at hs; obtain ⟨a1, a2, a3, a4⟩ := hs; omega
    split at hs
    · simp only [Bool.and_eq_true, decide_eq_true_eq] at hs; obtain ⟨a1, a2, a3, a4⟩ := hs; omega
    split at hs
    · simp only [Bool.and_eq_true, decide_eq_true_eq] at hs; obtain ⟨a1, a2, a3, a4, a5, a6⟩ := hs; omega
    split at hs
    · simp only [Bool.and_eq_true, decide_eq_true_eq] at hs; obtain ⟨a1, a2, a3, a4⟩ := hs; omega
    · cases hs
  rw [this]; rfl
theorem soundT4 {t : T} (h : t.kind = 4) : soundT t = (decide (t.fields.length = 0) && (decide (t.names.length = 0) && (decide (t.lo ≤ t.hi) && decide (t.of.length = 0)))) := by
  unfold soundT; rw [if_neg (by omega), if_neg (by omega), if_pos h]
theorem soundT5 {t : T} (h : t.kind = 5) : soundT t = (decide (t.fields.length = 0) && (decide (t.names.length = 0) && (unrB t && decide (t.of.length = 0)))) := by
  unfold soundT; rw [if_neg (by omega), if_neg (by omega), if_neg (by omega), if_pos h]
theorem soundT6 {t : T} (h : t.kind = 6) : soundT t = (decide (t.fields.length = 0) && (decide (t.names.length = 0) && (decide (0 ≤ t.lo) && (decide (t.lo ≤ t.hi) && (decide (t.hi ≤ 256) && decide (t.of.length = 0)))))) := by
  unfold soundT; rw [if_neg (by omega), if_neg (by omega), if_neg (by omega), if_neg (by omega), if_pos h]
theorem soundT7 {t : T} (h : t.kind = 7) : soundT t = (decide (t.fields.length = 0) && (unrB t && (decide (t.of.length = 0) && namedB t.names))) := by
  unfold soundT; rw [if_neg (by omega), if_neg (by omega), if_neg (by omega), if_neg (by omega), if_neg (by omega), if_pos h]
theorem soundT2 {t : T} (h : t.kind = 2 ∨ t.kind = 3) : soundT t = (decide (t.fields.length = 0) && (decide (t.names.length = 0) && (decide (0 ≤ t.lo) && (decide (t.lo ≤ t.hi) && decide (t.of.length = 1))))) := by
  unfold soundT; rw [if_neg (by omega), if_pos h]
theorem soundT1 {t : T} (h : t.kind = 1) : soundT t = (decide (t.names.length = 0) && (unrB t && (decide (t.of.length = 0) && fieldedB t.fields))) := by
  unfold soundT; rw [if_pos h]
end Go.Proofs.YtcbbocnblgpbbaaDoor
