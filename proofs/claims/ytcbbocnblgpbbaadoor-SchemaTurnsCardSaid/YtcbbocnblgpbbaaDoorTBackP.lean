/-
  What is Put is there, and dropped it is as it was: plain lemmas, no program.
-/
import Derived.Test.YtcbbocnblgpbbaaDoorTSmall
namespace Go.Proofs.YtcbbocnblgpbbaaDoor
open Go.RowKit

theorem putV_none {t : T} {f : F} (h : (putV t f).2 ≠ 0) : (putV t f).1 = T.zero := by
  unfold putV at h ⊢
  split
  · rename_i h1
    rw [if_pos h1] at h
    split
    · rfl
    · rename_i h2
      rw [if_neg h2] at h
      split
      · rename_i h3; rw [if_pos h3] at h; exact absurd rfl h
      · rfl
  · rfl
theorem putV_ok {t : T} {f : F} (h : (putV t f).2 = 0) : recordB t = true ∧ nameB f.name = true ∧ rightT f.type = true ∧ fieldOf t f.name < 0 ∧ (putV t f).1 = putT t f ∧ rightT (putT t f) = true := by
  unfold putV at h ⊢
  split at h
  · rename_i h1
    rw [if_pos h1]
    split at h
    · exact absurd h (by decide)
    · rename_i h2
      rw [if_neg h2]
      split at h
      · rename_i h3; rw [if_pos h3]; exact ⟨h1.1, h1.2.1, h1.2.2, by omega, rfl, h3⟩
      · exact absurd h (by decide)
  · exact absurd h (by decide)
theorem record_kind {t : T} (h : recordB t = true) : t.kind = 1 := by
  unfold recordB at h
  simp only [Bool.and_eq_true, decide_eq_true_eq] at h
  exact h.1
theorem fieldIdx_find (p : F → Bool) : ∀ l : List F, (if 0 ≤ fieldIdx p l then l[(fieldIdx p l).toNat]? else none) = l.find? p
  | [] => rfl
  | f :: r => by
    have ih := fieldIdx_find p r
    unfold fieldIdx
    by_cases hp : p f = true
    · rw [if_pos hp, List.find?_cons_of_pos hp]; rfl
    · rw [if_neg hp, List.find?_cons_of_neg (by simpa using hp), ← ih]
      rcases fieldIdx_cases p r with ⟨h, _⟩ | ⟨i, hi, h, _⟩
      · rw [h]; rfl
      · have e : (if fieldIdx p r = -1 then (-1 : Int) else fieldIdx p r + 1) = (i : Int) + 1 := by rw [h, if_neg (by omega)]
        rw [e, h, if_pos (by omega), if_pos (by omega)]
        have e1 : ((i : Int) + 1).toNat = i + 1 := by omega
        rw [e1]; rfl
theorem inside_rec {t : T} (h : t.kind = 1) (s : ByteArray) : inside t s = (t.fields.find? (calledB s)).map F.type := by
  unfold inside fieldOf
  rw [if_pos h, if_pos h, ← fieldIdx_find]
  split <;> rfl
theorem goAt_one (t : T) (s : ByteArray) : goAt t [s] = inside t s := by
  simp only [goAt]
  cases inside t s <;> rfl
theorem putT_kind (t : T) (f : F) : (putT t f).kind = t.kind := rfl
theorem fieldOf_absent {t : T} {s : ByteArray} (hk : t.kind = 1) (h : fieldOf t s < 0) : ∀ x ∈ t.fields, calledB s x = false := by
  unfold fieldOf at h
  rw [if_pos hk] at h
  rcases fieldIdx_cases (calledB s) t.fields with ⟨_, h1⟩ | ⟨i, hi, h1, _⟩
  · intro x hx
    obtain ⟨i, hi, rfl⟩ := List.mem_iff_getElem.1 hx
    exact h1 i hi
  · rw [h1] at h; omega
theorem called_self (f : F) : calledB f.name f = true := by simp [calledB]
theorem fieldOf_put {t : T} {f : F} (hk : t.kind = 1) (h : fieldOf t f.name < 0) : fieldOf (putT t f) f.name = putAt t.fields f.name := by
  have hab := fieldOf_absent hk h
  have hle := putAt_le t.fields f.name
  have hlen : (t.fields.take (putAt t.fields f.name)).length = putAt t.fields f.name := by simp; omega
  unfold fieldOf
  rw [if_pos (show (putT t f).kind = 1 from hk), putT_fields]
  refine fieldIdx_at (by simp; omega) ?_ fun j hj => ?_
  · rw [List.getElem_append_right (by omega)]
    simp only [hlen, Nat.sub_self, List.getElem_cons_zero]
    exact called_self f
  · rw [List.getElem_append_left (by omega)]
    exact hab _ (List.mem_of_mem_take (List.getElem_mem _))
theorem put_field {t : T} {f : F} : (putT t f).fields[putAt t.fields f.name]? = some f := by
  have hle := putAt_le t.fields f.name
  have hlen : (t.fields.take (putAt t.fields f.name)).length = putAt t.fields f.name := by simp; omega
  rw [putT_fields, List.getElem?_append_right (by omega), hlen, Nat.sub_self]; rfl
theorem put_at {t : T} {f : F} (hk : t.kind = 1) (h : fieldOf t f.name < 0) : goAt (putT t f) [f.name] = some f.type := by
  have hab := fieldOf_absent hk h
  rw [goAt_one, inside_rec (t := putT t f) hk, putT_fields, List.find?_append,
    List.find?_eq_none.2 (fun x hx => by simpa using hab x (List.mem_of_mem_take hx)), List.find?_cons_of_pos (called_self f)]
  rfl
theorem put_else {t : T} {f : F} {s : ByteArray} (hk : t.kind = 1) (hs : s ≠ f.name) : goAt (putT t f) [s] = goAt t [s] := by
  rw [goAt_one, goAt_one, inside_rec (t := putT t f) hk, inside_rec hk, putT_fields, List.find?_append, List.find?_cons_of_neg (by simp only [calledB, decide_eq_true_eq]; exact fun e => hs e.symm), ← List.find?_append, List.take_append_drop]
theorem put_drop {t : T} {f : F} (hk : t.kind = 1) (h : fieldOf t f.name < 0) (hr : rightT (putT t f) = true) : dropV (putT t f) f.name = (t, 0) := by
  have hle := putAt_le t.fields f.name
  have hlen : (t.fields.take (putAt t.fields f.name)).length = putAt t.fields f.name := by simp; omega
  unfold dropV
  have hrec : recordB (putT t f) = true := by simp [recordB, hr, putT_kind, hk]
  rw [if_pos hrec, fieldOf_put hk h, if_neg (by omega)]
  have e : dropT (putT t f) (putAt t.fields f.name) = t := by
    unfold dropT
    rw [putT_fields, List.take_append_of_le_length (by omega), List.take_of_length_le (by omega), List.drop_append, List.drop_eq_nil_of_le (by omega), hlen, Nat.add_sub_cancel_left]
    simp only [List.nil_append, List.drop_succ_cons, List.drop_zero, List.take_append_drop]
    obtain ⟨_, _, _, _, _, _⟩ := t
    rfl
  simp only [Int.toNat_natCast, e]
theorem put_fit {t : T} {f : F} (hf : t.Fit) (hl : t.fields.length ≤ 5000) (hn : f.name.size ≤ 10000) (hf2 : f.type.Fit) : (putT t f).Fit := by
  obtain ⟨kind, lo, hi, names, fields, of⟩ := t
  simp only [T.Fit, T.fields] at hf hl
  obtain ⟨h1, h2, h3, h4, h5, h6⟩ := hf
  have hle := putAt_le fields f.name
  have app : ∀ a b : List F, T.FitsF a → T.FitsF b → T.FitsF (a ++ b) := by
    intro a b ha hb
    induction a with
    | nil => exact hb
    | cons x r ih => simp only [T.FitsF, List.cons_append] at ha ⊢; exact ⟨ha.1, ih ha.2⟩
  have sub : ∀ a : List F, (∀ x ∈ a, T.FitF x) → T.FitsF a := by
    intro a
    induction a with
    | nil => intro _; simp only [T.FitsF]
    | cons x r ih => intro h; simp only [T.FitsF]; exact ⟨h x (by simp), ih fun y hy => h y (by simp [hy])⟩
  have mem : ∀ x ∈ fields, T.FitF x := fun x hx => by
    obtain ⟨i, hi, rfl⟩ := List.mem_iff_getElem.1 hx
    exact h5.at_ hi
  have hff : T.FitF f := by obtain ⟨n, o, ty⟩ := f; simp only [T.FitF]; exact ⟨hn, hf2⟩
  simp only [putT, T.kind, T.lo, T.hi, T.names, T.fields, T.of, T.Fit]
  refine ⟨h1, by simp; omega, h3, h4, ?_, h6⟩
  refine app _ _ (sub _ fun x hx => mem x (List.mem_of_mem_take hx)) ?_
  simp only [T.FitsF]
  exact ⟨hff, sub _ fun x hx => mem x (List.mem_of_mem_drop hx)⟩
theorem name_size {s : ByteArray} (h : nameB s = true) : s.size ≤ 16 := by
  simp only [nameB, Bool.and_eq_true, decide_eq_true_eq] at h
  exact h.1.2
end Go.Proofs.YtcbbocnblgpbbaaDoor
