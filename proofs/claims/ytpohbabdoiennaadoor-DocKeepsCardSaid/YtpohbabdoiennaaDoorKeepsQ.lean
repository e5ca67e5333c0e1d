/-
  DocKeeps: what Put does to what is got.
-/
import Derived.Test.YtpohbabdoiennaaDoorKeepsO
namespace Go.Proofs.YtpohbabdoiennaaDoor
open Go.RowKit

theorem key_kind {kind : Int} {s : ByteArray} (h : keyOfB kind s = true) : kind = 1 ∨ kind = 2 := by
  unfold keyOfB at h
  by_cases e : kind = 1
  · exact .inl e
  · rw [if_neg e] at h
    by_cases e2 : kind = 2
    · exact .inr e2
    · rw [if_neg e2] at h; cases h
/-- The three ways in which a part is set. -/
theorem set_ways {d x d' : D} {s : ByteArray} (h : setD d s x = some d') :
    (∃ i, stepD d s = some i ∧ d' = d.setKid i x) ∨ (stepD d s = none ∧ (d.kind = 1 ∨ d.kind = 2) ∧ d' = d.ins s x) ∨ (stepD d s = none ∧ d.kind = 3 ∧ placeI s = d.kids.length ∧ d' = d.snoc x) := by
  unfold setD at h
  cases hs : stepD d s with
  | some i =>
    rw [hs] at h
    simp only [Option.some.injEq] at h
    exact .inl ⟨i, rfl, h.symm⟩
  | none =>
    rw [hs] at h
    simp only at h
    by_cases hk : keyOfB d.kind s = true
    · rw [if_pos hk] at h
      simp only [Option.some.injEq] at h
      exact .inr (.inl ⟨rfl, key_kind hk, h.symm⟩)
    · rw [if_neg hk] at h
      by_cases h3 : d.kind = 3 ∧ placeI s = d.kids.length
      · rw [if_pos h3] at h
        simp only [Option.some.injEq] at h
        exact .inr (.inr ⟨rfl, h3.1, h3.2, h.symm⟩)
      · rw [if_neg h3] at h; cases h
theorem take_len (ks : List ByteArray) (s : ByteArray) : (ks.takeWhile fun k => decide (scmp k s = -1)).length ≤ ks.length := (List.takeWhile_prefix _).length_le
theorem ins_look {d : D} (s : ByteArray) (x : D) (t : ByteArray) (hk : d.kind = 1 ∨ d.kind = 2) (hl : d.keys.length = d.kids.length) :
    kidAt (d.ins s x) t = look (d.keys.take (d.keys.takeWhile fun k => decide (scmp k s = -1)).length ++ s :: d.keys.drop (d.keys.takeWhile fun k => decide (scmp k s = -1)).length) (d.kids.take (d.keys.takeWhile fun k => decide (scmp k s = -1)).length ++ x :: d.kids.drop (d.keys.takeWhile fun k => decide (scmp k s = -1)).length) t := by
  refine (kidAt_look (d := d.ins s x) t hk ?_).1
  simp only [D.ins, D.keys, D.kids, List.length_append, List.length_cons, List.length_take, List.length_drop]
  have : d.keys.length = d.kids.length := hl
  simp only [D.keys, D.kids] at this
  omega
theorem snoc_find {d : D} {x : D} {t : ByteArray} (hk : d.kind = 3) : findI (d.snoc x) t = if placeI t = d.kids.length then (d.kids.length : Int) else findI d t := by
  have e0 : find0 (d.snoc x) t = placeI t := by
    unfold find0
    rw [if_neg (show ¬ ((d.snoc x).kind = 1 ∨ (d.snoc x).kind = 2) from fun h => by have e : (d.snoc x).kind = 3 := hk; omega), if_pos (show (d.snoc x).kind = 3 from hk)]
  have e1 : find0 d t = placeI t := by unfold find0; rw [if_neg (by omega), if_pos hk]
  have el : (d.snoc x).kids.length = d.kids.length + 1 := by simp [D.snoc, D.kids]
  unfold findI
  rw [e0, e1, el]
  by_cases h1 : placeI t = d.kids.length
  · rw [if_pos h1, h1, if_neg (by omega)]
  · rw [if_neg h1]
    by_cases h2 : (d.kids.length : Int) ≤ placeI t
    · rw [if_pos h2, if_pos (by omega)]
    · rw [if_neg h2, if_neg (by omega)]
theorem find_below (d : D) (t : ByteArray) (h : 0 ≤ findI d t) : findI d t < d.kids.length := by
  unfold findI at h ⊢
  by_cases h2 : (d.kids.length : Int) ≤ find0 d t
  · rw [if_pos h2] at h; omega
  · rw [if_neg h2]; omega
theorem snoc_step {d : D} {x : D} {t : ByteArray} (hk : d.kind = 3) : kidAt (d.snoc x) t = if placeI t = d.kids.length then some x else kidAt d t := by
  have el : (d.snoc x).kids = d.kids ++ [x] := rfl
  unfold kidAt stepD
  rw [snoc_find hk, el]
  by_cases h1 : placeI t = d.kids.length
  · rw [if_pos h1, if_pos h1, if_pos (by omega)]
    simp
  · rw [if_neg h1, if_neg h1]
    by_cases h3 : 0 ≤ findI d t
    · have hb := find_below d t h3
      rw [if_pos h3]
      simp only [Option.bind_some]
      rw [List.getElem?_append_left (by omega)]
    · rw [if_neg h3]; rfl
theorem one_get (x d d' : D) (s : ByteArray) (h : setD d s x = some d') (hp : partB d = true) : kidAt d' s = some x := by
  rcases set_ways h with ⟨i, hs, rfl⟩ | ⟨hs, hk, rfl⟩ | ⟨hs, hk, hpl, rfl⟩
  · unfold kidAt
    rw [step_setKid, hs]
    simp only [Option.bind_some, kids_setKid]
    exact List.getElem?_set_self (step_lt hs).1
  · have hl := part_len hp hk
    rw [ins_look s x s hk hl]
    exact (look_ins s x d.keys d.kids _ hl (take_len _ _)).2 ((kidAt_look s hk hl).2.1 hs)
  · rw [snoc_step hk, if_pos hpl]
theorem one_apart (x d d' : D) (s t : ByteArray) (h : setD d s x = some d') (hp : partB d = true) (hne : s ≠ t) : kidAt d' t = kidAt d t := by
  rcases set_ways h with ⟨i, hs, rfl⟩ | ⟨hs, hk, rfl⟩ | ⟨hs, hk, hpl, rfl⟩
  · unfold kidAt
    rw [step_setKid]
    cases ht : stepD d t with
    | none => rfl
    | some j =>
      simp only [Option.bind_some, kids_setKid]
      have hij : i ≠ j := fun e => by subst e; exact hne (step_diff hp hs ht)
      rw [List.getElem?_set_ne hij]
  · have hl := part_len hp hk
    rw [ins_look s x t hk hl, (kidAt_look t hk hl).1]
    exact (look_ins s x d.keys d.kids _ hl (take_len _ _)).1 t hne
  · rw [snoc_step hk, if_neg fun h2 => hne (place_inj hpl h2)]
/-- What was put is got. -/
theorem put_got {x d p : D} {ps : List ByteArray} (hd : partB d = true) (h : putR d ps x = some p) : D.get p ps = some x :=
  get_put x (one_get x) (fun _ _ _ => part_kid) ps d p hd h
/-- What is apart is as it was. -/
theorem put_apart {x d p : D} {ps qs : List ByteArray} (hd : partB d = true) (h : putR d ps x = some p) (ha : ∃ (i : Nat) (h : i < ps.length) (h2 : i < qs.length), ps[i] ≠ qs[i]) : D.get p qs = D.get d qs :=
  get_apart x (one_apart x) (fun _ _ _ => part_kid) (fun _ _ _ _ hp hs ht _ => step_diff hp hs ht) ps qs d p hd h ha
end Go.Proofs.YtpohbabdoiennaaDoor
