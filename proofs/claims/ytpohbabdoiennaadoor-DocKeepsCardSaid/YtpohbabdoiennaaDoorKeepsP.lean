/-
  DocKeeps: what it says of the tree of values (begun).
-/
import Derived.Test.YtpohbabdoiennaaDoorGrowsP
namespace Go.Proofs.YtpohbabdoiennaaDoor
open Go.RowKit

/-- Put, part after part. -/
def putR : D → List ByteArray → D → Option D
  | _, [], x => some x
  | d, [s], x => setD d s x
  | d, s :: t :: r, x => match stepD d s with
    | none => none
    | some i => match d.kids[i]? with
      | none => none
      | some k => (putR k (t :: r) x).map (d.setKid i)
theorem putV_path (x : D) : ∀ (ps : List ByteArray) (d : D), ps ≠ [] → (match D.locate d ps.dropLast with
    | none => none
    | some is => match D.subAt d is with
      | none => none
      | some k => (setD k (ps.getLastD ByteArray.empty) x).map (D.repl d is)) = putR d ps x
  | [], _, h => absurd rfl h
  | [s], d, _ => by
    simp only [List.dropLast, D.locate, D.subAt, List.getLastD, List.getLast, putR]
    cases setD d s x <;> simp [D.repl]
  | s :: t :: r, d, _ => by
    have ih := fun k => putV_path x (t :: r) k (by simp)
    simp only [List.dropLast_cons_cons, D.locate, putR]
    cases hs : stepD d s with
    | none => rfl
    | some i =>
      simp only
      cases hk : d.kids[i]? with
      | none => rfl
      | some k =>
        simp only
        rw [← ih k]
        cases hl : D.locate k (t :: r).dropLast with
        | none => rfl
        | some is =>
          simp only [Option.map_some, D.subAt, hk]
          cases hsub : D.subAt k is with
          | none => rfl
          | some y =>
            have e : (s :: t :: r).getLastD ByteArray.empty = (t :: r).getLastD ByteArray.empty := by simp [List.getLastD]
            simp only [e, Option.map_map]
            cases setD y ((t :: r).getLastD ByteArray.empty) x <;> simp [D.repl, hk]
theorem get_cons (d : D) (s : ByteArray) (r : List ByteArray) : D.get d (s :: r) = ((stepD d s).bind fun i => d.kids[i]?).bind fun k => D.get k r := by
  unfold D.get
  simp only [D.locate]
  cases stepD d s with
  | none => rfl
  | some i =>
    simp only [Option.bind_some]
    cases hk : d.kids[i]? with
    | none => rfl
    | some k =>
      simp only [Option.bind_some]
      cases D.locate k r <;> simp [D.subAt, hk]
theorem step_setKid (d : D) (i : Nat) (y : D) (s : ByteArray) : stepD (d.setKid i y) s = stepD d s := by
  have e : findI (d.setKid i y) s = findI d s := by
    have hl : (d.setKid i y).kids.length = d.kids.length := by simp [D.setKid, D.kids]
    unfold findI; rw [hl]; rfl
  unfold stepD; rw [e]
theorem kids_setKid (d : D) (i : Nat) (y : D) : (d.setKid i y).kids = d.kids.set i y := rfl
theorem some_lt {l : List D} {i : Nat} {k : D} (h : l[i]? = some k) : i < l.length := by
  rcases Nat.lt_or_ge i l.length with h1 | h1
  · exact h1
  · rw [List.getElem?_eq_none h1] at h; cases h
/-- What is got one part on. -/
def kidAt (d : D) (s : ByteArray) : Option D := (stepD d s).bind fun i => d.kids[i]?
theorem get_kid (d : D) (s : ByteArray) (r : List ByteArray) : D.get d (s :: r) = (kidAt d s).bind fun k => D.get k r := get_cons d s r
/-- What was put is got, once that holds of one part. -/
theorem get_put (x : D) (hone : ∀ (d d' : D) (s : ByteArray), setD d s x = some d' → partB d = true → kidAt d' s = some x) (hpart : ∀ (d : D) (i : Nat) (k : D), partB d = true → d.kids[i]? = some k → partB k = true) :
    ∀ (ps : List ByteArray) (d p : D), partB d = true → putR d ps x = some p → D.get p ps = some x
  | [], d, p, _, h => by
    simp only [putR, Option.some.injEq] at h
    subst h
    simp [D.get, D.locate, D.subAt]
  | [s], d, p, hd, h => by
    simp only [putR] at h
    rw [get_kid, hone d p s h hd]
    simp [D.get, D.locate, D.subAt]
  | s :: t :: r, d, p, hd, h => by
    simp only [putR] at h
    cases hs : stepD d s with
    | none => rw [hs] at h; cases h
    | some i =>
      rw [hs] at h
      simp only at h
      cases hk : d.kids[i]? with
      | none => rw [hk] at h; cases h
      | some k =>
        rw [hk] at h
        simp only at h
        cases hq : putR k (t :: r) x with
        | none => rw [hq] at h; cases h
        | some q =>
          rw [hq] at h
          simp only [Option.map_some, Option.some.injEq] at h
          subst h
          rw [get_kid]
          unfold kidAt
          rw [step_setKid, hs]
          simp only [Option.bind_some, kids_setKid]
          rw [List.getElem?_set_self (some_lt hk)]
          exact get_put x hone hpart (t :: r) k q (hpart d i k hd hk) hq
/-- What is not on the way is as it was, once that holds of one part. -/
theorem get_apart (x : D) (hone : ∀ (d d' : D) (s t : ByteArray), setD d s x = some d' → partB d = true → s ≠ t → kidAt d' t = kidAt d t) (hpart : ∀ (d : D) (i : Nat) (k : D), partB d = true → d.kids[i]? = some k → partB k = true)
    (hdiff : ∀ (d : D) (s t : ByteArray) (i : Nat), partB d = true → stepD d s = some i → stepD d t = some i → i < d.kids.length → s = t) :
    ∀ (ps qs : List ByteArray) (d p : D), partB d = true → putR d ps x = some p → (∃ (i : Nat) (h : i < ps.length) (h2 : i < qs.length), ps[i] ≠ qs[i]) → D.get p qs = D.get d qs
  | [], _, _, _, _, _, h => by obtain ⟨i, h1, _⟩ := h; simp at h1
  | _ :: _, [], _, _, _, _, h => by obtain ⟨i, _, h2, _⟩ := h; simp at h2
  | [s], u :: qs, d, p, hd, hp, h => by
    obtain ⟨i, h1, h2, hne⟩ := h
    obtain rfl : i = 0 := by simpa using h1
    simp only [putR] at hp
    rw [get_kid, get_kid, hone d p s u hp hd hne]
  | s :: t :: r, u :: qs, d, p, hd, hp, h => by
    simp only [putR] at hp
    cases hs : stepD d s with
    | none => rw [hs] at hp; cases hp
    | some i =>
      rw [hs] at hp
      simp only at hp
      cases hk : d.kids[i]? with
      | none => rw [hk] at hp; cases hp
      | some k =>
        rw [hk] at hp
        simp only at hp
        cases hq : putR k (t :: r) x with
        | none => rw [hq] at hp; cases hp
        | some q =>
          rw [hq] at hp
          simp only [Option.map_some, Option.some.injEq] at hp
          subst hp
          rw [get_kid, get_kid]
          unfold kidAt
          rw [step_setKid]
          cases hu : stepD d u with
          | none => rfl
          | some j =>
            simp only [Option.bind_some, kids_setKid]
            by_cases hij : i = j
            · subst hij
              have hsu : s = u := hdiff d s u i hd hs hu (some_lt hk)
              subst hsu
              rw [List.getElem?_set_self (some_lt hk), hk]
              simp only [Option.bind_some]
              refine get_apart x hone hpart hdiff (t :: r) qs k q (hpart d i k hd hk) hq ?_
              obtain ⟨m, h1, h2, hne⟩ := h
              cases m with
              | zero => exact absurd rfl hne
              | succ m => exact ⟨m, by simpa using h1, by simpa using h2, by simpa using hne⟩
            · rw [List.getElem?_set_ne hij]
end Go.Proofs.YtpohbabdoiennaaDoor
