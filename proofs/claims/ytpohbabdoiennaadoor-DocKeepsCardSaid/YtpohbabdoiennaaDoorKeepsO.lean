/-
  DocKeeps: one part of a path.
-/
import Derived.Test.YtpohbabdoiennaaDoorKeepsP
namespace Go.Proofs.YtpohbabdoiennaaDoor
open Go.RowKit

theorem part_kid {d : D} {i : Nat} {k : D} (hd : partB d = true) (h : d.kids[i]? = some k) : partB k = true :=
  partB_sub [i] d k hd (by simp [D.subAt, h])
theorem step_lt {d : D} {s : ByteArray} {i : Nat} (h : stepD d s = some i) : i < d.kids.length ∧ find0 d s = i := by
  unfold stepD findI at h
  by_cases h1 : (d.kids.length : Int) ≤ find0 d s
  · rw [if_pos h1] at h; simp at h
  · rw [if_neg h1] at h
    by_cases h2 : 0 ≤ find0 d s
    · rw [if_pos h2] at h
      injection h with h
      omega
    · rw [if_neg h2] at h; cases h
/-- What stands at a key. -/
def look : List ByteArray → List D → ByteArray → Option D
  | k :: ks, d :: ds, t => if k = t then some d else look ks ds t
  | _, _, _ => none
theorem look_idx (t : ByteArray) : ∀ (ks : List ByteArray) (ds : List D) (n : Nat), ks.length = ds.length → (Lib.idxFromS ks t n = -1 ∧ look ks ds t = none ∧ t ∉ ks) ∨ ∃ j : Nat, Lib.idxFromS ks t n = ((n + j : Nat) : Int) ∧ j < ks.length ∧ ds[j]? = look ks ds t ∧ ks[j]? = some t
  | [], _, n, _ => .inl ⟨rfl, by simp [look], by simp⟩
  | k :: ks, [], n, h => by simp at h
  | k :: ks, d :: ds, n, h => by
    by_cases he : k = t
    · subst he
      exact .inr ⟨0, by simp [Lib.idxFromS], by simp, by simp [look], by simp⟩
    · have e1 : Lib.idxFromS (k :: ks) t n = Lib.idxFromS ks t (n + 1) := by
        simp only [Lib.idxFromS]; rw [if_neg (by simpa using he)]
      have e2 : look (k :: ks) (d :: ds) t = look ks ds t := by simp only [look]; rw [if_neg he]
      rcases look_idx t ks ds (n + 1) (by simpa using h) with ⟨h1, h2, h3⟩ | ⟨j, h1, h2, h3, h4⟩
      · exact .inl ⟨by rw [e1, h1], by rw [e2, h2], by simp [h3]; exact fun h => he h.symm⟩
      · exact .inr ⟨j + 1, by rw [e1, h1]; omega, by simp; omega, by rw [e2, ← h3]; simp, by simpa using h4⟩
theorem kidAt_look {d : D} (t : ByteArray) (hk : d.kind = 1 ∨ d.kind = 2) (hl : d.keys.length = d.kids.length) : kidAt d t = look d.keys d.kids t ∧ (stepD d t = none → t ∉ d.keys) ∧ ∀ i, stepD d t = some i → d.keys[i]? = some t := by
  have e0 : find0 d t = Lib.idxFromS d.keys t 0 := by unfold find0; rw [if_pos hk]; rfl
  rcases look_idx t d.keys d.kids 0 hl with ⟨h1, h2, h3⟩ | ⟨j, h1, h2, h3, h4⟩
  · have hs : stepD d t = none := stepD_none (by unfold findI; rw [e0, h1]; split <;> decide)
    refine ⟨by unfold kidAt; rw [hs, h2]; rfl, fun _ => h3, fun i hi => absurd hi (by rw [hs]; simp)⟩
  · have hf : findI d t = (j : Int) := by unfold findI; rw [e0, h1, if_neg (by omega)]; omega
    have hs : stepD d t = some j := by rw [stepD_some (by omega), hf]; simp
    refine ⟨by unfold kidAt; rw [hs, ← h3]; rfl, fun h => absurd h (by rw [hs]; simp), fun i hi => by rw [hs] at hi; injection hi with hi; rw [← hi]; exact h4⟩
theorem look_ins (s : ByteArray) (x : D) : ∀ (ks : List ByteArray) (ds : List D) (p : Nat), ks.length = ds.length → p ≤ ks.length →
    (∀ t, s ≠ t → look (ks.take p ++ s :: ks.drop p) (ds.take p ++ x :: ds.drop p) t = look ks ds t) ∧ (s ∉ ks → look (ks.take p ++ s :: ks.drop p) (ds.take p ++ x :: ds.drop p) s = some x)
  | ks, ds, 0, _, _ => by
    refine ⟨fun t ht => ?_, fun _ => ?_⟩
    · simp only [List.take_zero, List.drop_zero, List.nil_append, look]; rw [if_neg ht]
    · simp [look]
  | [], _, p + 1, _, h => by simp at h
  | _ :: _, [], p + 1, h, _ => by simp at h
  | k :: ks, d :: ds, p + 1, h, hp => by
    have ih := look_ins s x ks ds p (by simpa using h) (by simpa using hp)
    refine ⟨fun t ht => ?_, fun hn => ?_⟩
    · simp only [List.take_succ_cons, List.drop_succ_cons, List.cons_append, look]
      rw [ih.1 t ht]
    · simp only [List.take_succ_cons, List.drop_succ_cons, List.cons_append, look]
      have hne : ¬ k = s := fun e => hn (by simp [e])
      rw [if_neg hne]
      exact ih.2 fun h => hn (by simp [h])
theorem bytes_ext {a b : ByteArray} (h : a.data.toList = b.data.toList) : a = b := by
  cases a with | mk x => cases b with | mk y => congr 1; exact Array.toList_inj.1 h
theorem place_inj {s t : ByteArray} {i : Nat} (hs : placeI s = i) (ht : placeI t = i) : s = t := by
  have one : ∀ u : ByteArray, placeI u = i → Lib.itoa i = u.data.toList := by
    intro u hu
    unfold placeI at hu
    split at hu
    · rename_i n _
      by_cases h1 : n < 0
      · rw [if_pos h1] at hu; omega
      · rw [if_neg h1] at hu
        by_cases h2 : Lib.itoa n = u.data.toList
        · rw [if_pos h2] at hu; rw [← hu]; exact h2
        · rw [if_neg h2] at hu; omega
    · omega
  exact bytes_ext ((one s hs).symm.trans (one t ht))
theorem part_len {x : D} (h : partB x = true) (hk : x.kind = 1 ∨ x.kind = 2) : x.keys.length = x.kids.length := by
  rw [partB_eq, Bool.and_eq_true] at h
  have h1 := h.1
  simp only [soundB, Bool.and_eq_true] at h1
  have h2 := h1.2.2
  have h3 : keyedB x = true := by
    unfold formB at h2
    rcases hk with e | e
    · rwa [if_pos e] at h2
    · rwa [if_neg (by omega), if_pos e] at h2
  simp only [keyedB, Bool.and_eq_true, decide_eq_true_eq] at h3
  exact h3.1
theorem step_kind {d : D} {s : ByteArray} {i : Nat} (h : stepD d s = some i) : d.kind = 1 ∨ d.kind = 2 ∨ (d.kind = 3 ∧ placeI s = i) := by
  have h1 := (step_lt h).2
  unfold find0 at h1
  by_cases hk : d.kind = 1 ∨ d.kind = 2
  · rcases hk with e | e
    · exact .inl e
    · exact .inr (.inl e)
  · rw [if_neg hk] at h1
    by_cases h3 : d.kind = 3
    · rw [if_pos h3] at h1; exact .inr (.inr ⟨h3, h1⟩)
    · rw [if_neg h3] at h1; omega
theorem step_diff {d : D} {s t : ByteArray} {i : Nat} (hp : partB d = true) (hs : stepD d s = some i) (ht : stepD d t = some i) : s = t := by
  have key : (d.kind = 1 ∨ d.kind = 2) → s = t := fun hk => by
    have h1 := (kidAt_look s hk (part_len hp hk)).2.2 i hs
    have h2 := (kidAt_look t hk (part_len hp hk)).2.2 i ht
    rw [h1] at h2; injection h2
  rcases step_kind hs with h | h | ⟨h, h1⟩
  · exact key (.inl h)
  · exact key (.inr h)
  · rcases step_kind ht with g | g | ⟨_, h2⟩
    · omega
    · omega
    · exact place_inj h1 h2
end Go.Proofs.YtpohbabdoiennaaDoor
