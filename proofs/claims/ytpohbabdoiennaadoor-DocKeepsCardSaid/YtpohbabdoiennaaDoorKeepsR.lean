/-
  DocKeeps: what Put and Drop tell, part after part.
-/
import Derived.Test.YtpohbabdoiennaaDoorKeepsQ
namespace Go.Proofs.YtpohbabdoiennaaDoor
open Go.RowKit

theorem putV_ok {d x p : D} {er : Int} {ps : List ByteArray} (h : putV d x ps = (p, er)) :
    (er ≠ 0 → p = D.zero) ∧ (er = 0 → rightB d = true ∧ rightB x = true ∧ putR d ps x = some p) := by
  unfold putV at h
  by_cases h1 : rightB d = false ∨ rightB x = false
  · rw [if_pos h1] at h; injection h with e1 e2; exact ⟨fun _ => e1.symm, fun e => by omega⟩
  · rw [if_neg h1] at h
    have hd : rightB d = true := by cases e : rightB d with | true => rfl | false => exact absurd (.inl e) h1
    have hx : rightB x = true := by cases e : rightB x with | true => rfl | false => exact absurd (.inr e) h1
    by_cases h2 : ps = []
    · rw [if_pos h2] at h; injection h with e1 e2
      subst h2
      exact ⟨fun e => absurd e2.symm e, fun _ => ⟨hd, hx, by simp only [putR]; rw [e1]⟩⟩
    · rw [if_neg h2] at h
      have hp := putV_path x ps d h2
      cases hl : D.locate d ps.dropLast with
      | none => rw [hl] at h; injection h with e1 e2; exact ⟨fun _ => e1.symm, fun e => by omega⟩
      | some is =>
        rw [hl] at h hp
        simp only at h hp
        cases hsub : D.subAt d is with
        | none => rw [hsub] at h; injection h with e1 e2; exact ⟨fun _ => e1.symm, fun e => by omega⟩
        | some k =>
          rw [hsub] at h hp
          simp only at h hp
          cases hset : setD k (ps.getLastD ByteArray.empty) x with
          | none => rw [hset] at h; injection h with e1 e2; exact ⟨fun _ => e1.symm, fun e => by omega⟩
          | some k' =>
            rw [hset] at h hp
            simp only [Option.map_some] at h hp
            injection h with e1 e2
            exact ⟨fun e => absurd e2.symm e, fun _ => ⟨hd, hx, by rw [← hp, e1]⟩⟩

/-- Drop, part after part. -/
def dropR : D → List ByteArray → Option D
  | _, [] => none
  | d, [s] => (stepD d s).map d.dropKid
  | d, s :: t :: r => match stepD d s with
    | none => none
    | some i => match d.kids[i]? with
      | none => none
      | some k => (dropR k (t :: r)).map (d.setKid i)
theorem drop_path : ∀ (ps : List ByteArray) (d : D), ps ≠ [] → (match D.locate d ps.dropLast with
    | none => none
    | some is => match D.subAt d is with
      | none => none
      | some k => (stepD k (ps.getLastD ByteArray.empty)).map fun i => D.repl d is (k.dropKid i)) = dropR d ps
  | [], _, h => absurd rfl h
  | [s], d, _ => by
    simp only [List.dropLast, D.locate, D.subAt, List.getLastD, List.getLast, dropR]
    cases stepD d s <;> simp [D.repl]
  | s :: t :: r, d, _ => by
    have ih := fun k => drop_path (t :: r) k (by simp)
    simp only [List.dropLast_cons_cons, D.locate, dropR]
    cases hs : stepD d s with
    | none => rfl
    | some i =>
      simp only
      cases hk : d.kids[i]? with
      | none => rfl
      | some k =>
        simp only
        rw [← ih k]
        cases hl : D.locate k (t :: r).dropLast with
        | none => rfl
        | some is =>
          simp only [Option.map_some, D.subAt, hk]
          cases hsub : D.subAt k is with
          | none => rfl
          | some y =>
            have e : (s :: t :: r).getLastD ByteArray.empty = (t :: r).getLastD ByteArray.empty := by simp [List.getLastD]
            simp only [e, Option.map_map]
            cases stepD y ((t :: r).getLastD ByteArray.empty) <;> simp [D.repl, hk]
theorem drop_some : ∀ (ps : List ByteArray) (d : D), ps ≠ [] → (dropR d ps).isSome = (D.get d ps).isSome
  | [], _, h => absurd rfl h
  | [s], d, _ => by
    simp only [dropR]
    rw [get_kid]
    unfold kidAt
    cases hs : stepD d s with
    | none => rfl
    | some i =>
      simp only [Option.bind_some, Option.map_some]
      rw [List.getElem?_eq_getElem (step_lt hs).1]
      simp [D.get, D.locate, D.subAt]
  | s :: t :: r, d, _ => by
    have ih := fun k => drop_some (t :: r) k (by simp)
    simp only [dropR]
    rw [get_kid]
    unfold kidAt
    cases hs : stepD d s with
    | none => rfl
    | some i =>
      simp only [Option.bind_some]
      rw [List.getElem?_eq_getElem (step_lt hs).1]
      simp only [Option.bind_some, Option.isSome_map]
      exact ih _
theorem drop_less : ∀ (ps : List ByteArray) (d r : D), dropR d ps = some r → r.size < d.size
  | [], _, _, h => by simp [dropR] at h
  | [s], d, r, h => by
    simp only [dropR] at h
    cases hs : stepD d s with
    | none => rw [hs] at h; cases h
    | some i =>
      rw [hs] at h
      simp only [Option.map_some, Option.some.injEq] at h
      subst h
      have hi := (step_lt hs).1
      have h1 : D.sizes d.kids = D.sizes (d.kids.take i) + D.sizes (d.kids.drop i) := by rw [← D.sizes_append, List.take_append_drop]
      rw [List.drop_eq_getElem_cons hi] at h1
      have hpos := D.size_pos d.kids[i]
      have e1 : d.size = D.sizes d.kids + 1 := by obtain ⟨_, _, _, _, _⟩ := d; rfl
      have e2 : (d.dropKid i).size = D.sizes (d.kids.take i ++ d.kids.drop (i + 1)) + 1 := by simp only [D.dropKid, D.size]
      rw [e1, e2, D.sizes_append, h1]
      simp only [D.sizes]
      omega
  | s :: t :: u, d, r, h => by
    simp only [dropR] at h
    cases hs : stepD d s with
    | none => rw [hs] at h; cases h
    | some i =>
      rw [hs] at h
      have hi := (step_lt hs).1
      simp only [List.getElem?_eq_getElem hi] at h
      cases hq : dropR d.kids[i] (t :: u) with
      | none => rw [hq] at h; cases h
      | some q =>
        rw [hq] at h
        simp only [Option.map_some, Option.some.injEq] at h
        subst h
        have ih := drop_less (t :: u) _ _ hq
        have hz := sizes_set d.kids i hi q
        have e1 : d.size = D.sizes d.kids + 1 := by obtain ⟨_, _, _, _, _⟩ := d; rfl
        have e2 : (d.setKid i q).size = D.sizes (d.kids.set i q) + 1 := by simp only [D.setKid, D.size]
        omega
/-- What Drop tells. -/
theorem dropV_ok {d r : D} {er : Int} {ps : List ByteArray} (hd : rightB d = true) (h : dropV d ps = (r, er)) :
    (decide (er = 0) = (((getV d ps).2) && decide (0 < ps.length))) ∧ (er = 0 → r.size < d.size) := by
  have hg : (getV d ps).2 = (D.get d ps).isSome := by unfold getV; cases D.get d ps <;> rfl
  unfold dropV at h
  by_cases h1 : ps = []
  · rw [if_pos (.inr h1)] at h; injection h with e1 e2
    subst h1
    exact ⟨by simp; omega, fun e => by omega⟩
  · rw [if_neg (fun h => by rcases h with h | h; (rw [hd] at h; cases h); exact h1 h)] at h
    have hlen : 0 < ps.length := List.length_pos_iff.2 h1
    have hp := drop_path ps d h1
    have hsome := drop_some ps d h1
    have hless := drop_less ps d
    rw [hg, ← hsome, ← hp]
    rw [← hp] at hless
    cases hl : D.locate d ps.dropLast with
    | none => rw [hl] at h; injection h with e1 e2; exact ⟨by simp; omega, fun e => by omega⟩
    | some is =>
      rw [hl] at h hless
      simp only at h hless ⊢
      cases hsub : D.subAt d is with
      | none => rw [hsub] at h; injection h with e1 e2; exact ⟨by simp; omega, fun e => by omega⟩
      | some k =>
        rw [hsub] at h hless
        simp only at h hless ⊢
        cases hst : stepD k (ps.getLastD ByteArray.empty) with
        | none => rw [hst] at h; injection h with e1 e2; exact ⟨by simp; omega, fun e => by omega⟩
        | some i =>
          rw [hst] at h hless
          simp only [Option.map_some] at h hless ⊢
          injection h with e1 e2
          exact ⟨by simp; exact ⟨fun _ => hlen, fun _ => e2.symm⟩, fun _ => hless r (by rw [e1])⟩
/-- A part that was put fits. -/
theorem set_fit {d x d' : D} {s : ByteArray} (hd : d.Fit6) (hx : x.Fit) (h : setD d s x = some d') : d'.Fit := by
  have FD := hd.fit
  have h6 := (D.fit6_eq d).1 hd
  have hw := h
  unfold setD at hw
  rcases set_ways h with ⟨i, hs, rfl⟩ | ⟨hs, hk, rfl⟩ | ⟨hs, hk, hpl, rfl⟩
  · obtain ⟨k, n, st, ks, l⟩ := d
    simp only [D.setKid, D.kids, D.kind, D.num, D.str, D.keys]
    rw [fit_parts] at FD ⊢
    refine ⟨FD.1, FD.2.1, by rw [List.length_set]; exact FD.2.2.1, FD.2.2.2.1, ?_⟩
    rw [fits_mem] at *
    intro y hy
    rcases List.mem_or_eq_of_mem_set hy with h | rfl
    · exact FD.2.2.2.2 y h
    · exact hx
  · have hks : s.size ≤ 256 := by
      rw [hs] at hw
      simp only at hw
      by_cases hky : keyOfB d.kind s = true
      · exact key_size hky
      · rw [if_neg hky, if_neg (fun h => by omega)] at hw; cases hw
    clear hw h
    obtain ⟨k, n, st, ks, l⟩ := d
    simp only [D.ins, D.kids, D.kind, D.num, D.str, D.keys] at *
    rw [fit_parts] at FD ⊢
    rw [fits_mem] at *
    refine ⟨FD.1, ?_, ?_, ?_, ?_⟩
    · simp only [List.length_append, List.length_take, List.length_cons, List.length_drop]; omega
    · simp only [List.length_append, List.length_take, List.length_cons, List.length_drop]; omega
    · intro k' hk'
      rcases List.mem_append.1 hk' with h | h
      · exact FD.2.2.2.1 _ (List.mem_of_mem_take h)
      · rcases List.mem_cons.1 h with rfl | h
        · omega
        · exact FD.2.2.2.1 _ (List.mem_of_mem_drop h)
    · intro y hy
      rcases List.mem_append.1 hy with h | h
      · exact FD.2.2.2.2 _ (List.mem_of_mem_take h)
      · rcases List.mem_cons.1 h with rfl | h
        · exact hx
        · exact FD.2.2.2.2 _ (List.mem_of_mem_drop h)
  · clear hw h
    obtain ⟨k, n, st, ks, l⟩ := d
    simp only [D.snoc, D.kids, D.kind, D.num, D.str, D.keys] at *
    rw [fit_parts] at FD ⊢
    rw [fits_mem] at *
    refine ⟨FD.1, FD.2.1, by simp; omega, FD.2.2.2.1, ?_⟩
    intro y hy
    rcases List.mem_append.1 hy with h | h
    · exact FD.2.2.2.2 _ h
    · rcases List.mem_cons.1 h with rfl | h
      · exact hx
      · cases h
theorem put_fit {x : D} (hx : x.Fit) : ∀ (ps : List ByteArray) (d p : D), d.Fit6 → putR d ps x = some p → p.Fit
  | [], _, p, _, h => by simp only [putR, Option.some.injEq] at h; rw [← h]; exact hx
  | [s], d, p, hd, h => set_fit hd hx h
  | s :: t :: r, d, p, hd, h => by
    simp only [putR] at h
    cases hs : stepD d s with
    | none => rw [hs] at h; cases h
    | some i =>
      rw [hs] at h
      have hi := (step_lt hs).1
      simp only [List.getElem?_eq_getElem hi] at h
      cases hq : putR d.kids[i] (t :: r) x with
      | none => rw [hq] at h; cases h
      | some q =>
        rw [hq] at h
        simp only [Option.map_some, Option.some.injEq] at h
        subst h
        have h6 := (D.fit6_eq d).1 hd
        have hqf := put_fit hx (t :: r) _ _ (D.Fits6.at_ h6.2.2.2.2 hi) hq
        have FD := hd.fit
        obtain ⟨k, n, st, ks, l⟩ := d
        simp only [D.setKid, D.kids, D.kind, D.num, D.str, D.keys] at *
        rw [fit_parts] at FD ⊢
        refine ⟨FD.1, FD.2.1, by rw [List.length_set]; exact FD.2.2.1, FD.2.2.2.1, ?_⟩
        rw [fits_mem] at *
        intro y hy
        rcases List.mem_or_eq_of_mem_set hy with h | rfl
        · exact FD.2.2.2.2 y h
        · exact hqf
end Go.Proofs.YtpohbabdoiennaaDoor
