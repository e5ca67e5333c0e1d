/-
  DocGrows: what it says of the tree of values.
-/
import Derived.Test.YtpohbabdoiennaaDoorPutAll
namespace Go.Proofs.YtpohbabdoiennaaDoor
open Go.RowKit

theorem getV_one {d : D} {s : ByteArray} {i : Nat} (h : stepD d s = some i) (hi : i < d.kids.length) : getV d [s] = (d.kids[i], true) := by
  have e : D.get d [s] = some d.kids[i] := by
    simp only [D.get, D.locate, h, List.getElem?_eq_getElem hi, Option.map_some, Option.bind_some, D.subAt]
  unfold getV; rw [e]
theorem getV_none {d : D} {s : ByteArray} (h : stepD d s = none) : getV d [s] = (D.zero, false) := by
  have e : D.get d [s] = none := by simp only [D.get, D.locate, h, Option.bind_none]
  unfold getV; rw [e]
theorem putV_one {d x : D} {s : ByteArray} (hd : rightB d = true) (hx : rightB x = true) : putV d x [s] = match setD d s x with | none => (D.zero, 3) | some x' => (x', 0) := by
  unfold putV
  rw [if_neg (by rw [hd, hx]; simp), if_neg (by simp)]
  simp only [List.dropLast, D.locate, D.subAt, List.getLastD, List.getLast]
  cases setD d s x <;> simp [D.repl]
theorem sizes_set : ∀ (l : List D) (i : Nat) (h : i < l.length) (x : D), D.sizes (l.set i x) + (l[i]).size = D.sizes l + x.size
  | d :: r, 0, h, x => by simp only [List.set_cons_zero, D.sizes, List.getElem_cons_zero]; omega
  | d :: r, i + 1, h, x => by
    have := sizes_set r i (by simpa using h) x
    simp only [List.set_cons_succ, D.sizes, List.getElem_cons_succ]; omega
theorem sizes_ins (l : List D) (p : Nat) (x : D) : D.sizes (l.take p ++ x :: l.drop p) = D.sizes l + x.size := by
  have h : D.sizes l = D.sizes (l.take p) + D.sizes (l.drop p) := by rw [← D.sizes_append, List.take_append_drop]
  rw [D.sizes_append, h]; simp only [D.sizes]; omega
theorem depths_mem : ∀ {l : List D} {x : D}, x ∈ l → x.depth ≤ D.depths l
  | d :: r, x, h => by
    simp only [D.depths]
    rcases List.mem_cons.1 h with rfl | h
    · omega
    · have := depths_mem h; omega
theorem depths_le : ∀ {l : List D} {n : Nat}, (∀ x ∈ l, x.depth ≤ n) → D.depths l ≤ n
  | [], n, _ => by simp [D.depths]
  | d :: r, n, h => by
    have h1 := h d (by simp)
    have h2 := depths_le (l := r) (n := n) fun x hx => h x (by simp [hx])
    simp only [D.depths]; omega
theorem depths_take (l : List D) (k : Nat) (h : k < l.length) : D.depths (l.take (k + 1)) = max (D.depths (l.take k)) (l[k]).depth := by
  have ha : ∀ a b : List D, D.depths (a ++ b) = max (D.depths a) (D.depths b) := by
    intro a
    induction a with
    | nil => intro b; simp [D.depths]
    | cons d r ih => intro b; simp only [List.cons_append, D.depths, ih]; omega
  rw [List.take_succ_eq_append_getElem h, ha]; simp [D.depths]
theorem fits_mem {l : List D} : D.Fits l ↔ ∀ x ∈ l, x.Fit := by
  induction l with
  | nil => simp [D.Fits]
  | cons d r ih => simp [D.Fits, ih]
theorem few_depths {d : D} (h : FewP d 20) : ∀ x ∈ d.kids, x.depth ≤ 19 := by
  have h1 := h.depth
  obtain ⟨k, n, s, ks, l⟩ := d
  intro x hx
  simp only [D.kids] at hx
  have := depths_mem hx
  simp only [D.depth] at h1
  omega
theorem fit_parts {k n : Int} {s : ByteArray} {ks : List ByteArray} {l : List D} : (D.mk k n s ks l).Fit ↔ s.size ≤ 10000 ∧ ks.length ≤ 10000 ∧ l.length ≤ 10000 ∧ (∀ k ∈ ks, k.size ≤ 10000) ∧ D.Fits l := by simp [D.Fit]
theorem key_size {kind : Int} {s : ByteArray} (h : keyOfB kind s = true) : s.size ≤ 256 := by
  unfold keyOfB at h
  split at h
  · simp only [nameB, Bool.and_eq_true, decide_eq_true_eq] at h; omega
  · split at h
    · simpa using h
    · cases h

/-- All that the law says of what was put. -/
structure Grown (d x : D) (s : ByteArray) : Prop where
  fit : (putV d x [s]).1.Fit
  size : ((putV d x [s]).1.size : Int) = d.size + (if (getV d [s]).2 = true then (x.size : Int) - (getV d [s]).1.size else x.size)
  deep : (putV d x [s]).1.depth ≤ 21
  under : x.depth < (putV d x [s]).1.depth
  kids : (putV d x [s]).1.depth = D.depths (putV d x [s]).1.kids + 1
  small : (putV d x [s]).1.size ≤ 1400
theorem grown_of {d x : D} {s : ByteArray} {p : D} (hp : (putV d x [s]).1 = p) (l : List D) (hl : p.kids = l) (hsz : (D.sizes l : Int) + 1 = d.size + (if (getV d [s]).2 = true then (x.size : Int) - (getV d [s]).1.size else x.size)) (hm : x ∈ l) (hf : p.Fit) (hk : ∀ y ∈ l, y.depth ≤ 20) (hs : D.sizes l ≤ 1399) : Grown d x s := by
  obtain ⟨k, n, st, ks, l'⟩ := p
  simp only [D.kids] at hl
  subst hl
  have h1 := depths_le hk
  have h2 := depths_mem hm
  refine ⟨by rw [hp]; exact hf, by rw [hp]; simp only [D.size]; omega, by rw [hp]; simp only [D.depth]; omega, by rw [hp]; simp only [D.depth]; omega, by rw [hp]; simp only [D.depth, D.kids], by rw [hp]; simp only [D.size]; omega⟩
theorem grows_ok {d x : D} {s : ByteArray} (hd : FewP d 20) (hx : FewP x 20) (hk : d.kind = 1 ∨ d.kind = 2) (h0 : (putV d x [s]).2 = 0) : Grown d x s := by
  have FD := hd.fit.fit
  have FX := hx.fit.fit
  have hrd : rightB d = true := by
    cases h : rightB d with
    | true => rfl
    | false => unfold putV at h0; rw [if_pos (.inl h)] at h0; cases h0
  have hrx : rightB x = true := by
    cases h : rightB x with
    | true => rfl
    | false => unfold putV at h0; rw [if_pos (.inr h)] at h0; cases h0
  have e := putV_one (s := s) hrd hrx
  have hsd := hd.size
  have hsx := hx.size
  have hdx : x.depth ≤ 20 := hx.depth
  have hkd := few_depths hd
  have hdl : d.size = D.sizes d.kids + 1 := by obtain ⟨_, _, _, _, _⟩ := d; rfl
  have hkl : d.kids.length ≤ 699 := by have := D.len_le_sizes d.kids; omega
  cases hst : stepD d s with
  | some i =>
    obtain ⟨hi, _⟩ := stepD_lt FD.keys hst
    have hg := getV_one hst hi
    have hset : setD d s x = some (d.setKid i x) := by unfold setD; rw [hst]
    rw [hset] at e
    have hs := sizes_set d.kids i hi x
    have hpos := D.size_pos d.kids[i]
    refine grown_of (p := d.setKid i x) (by rw [e]) (d.kids.set i x) rfl ?_ (List.mem_set hi x) ?_ ?_ (by omega)
    · rw [hg]; simp only [if_true]; omega
    · obtain ⟨k, n, st, ks, l⟩ := d
      simp only [D.setKid, D.kids, D.kind, D.num, D.str, D.keys]
      rw [fit_parts] at FD ⊢
      refine ⟨FD.1, FD.2.1, by rw [List.length_set]; exact FD.2.2.1, FD.2.2.2.1, ?_⟩
      rw [fits_mem] at *
      intro y hy
      rcases List.mem_or_eq_of_mem_set hy with h | rfl
      · exact FD.2.2.2.2 y h
      · exact FX
    · intro y hy
      rcases List.mem_or_eq_of_mem_set hy with h | rfl
      · have := hkd y h; omega
      · exact hdx
  | none =>
    have hg := getV_none hst
    have hky : keyOfB d.kind s = true := by
      cases h : keyOfB d.kind s with
      | true => rfl
      | false =>
        have hset : setD d s x = none := by
          unfold setD; rw [hst]; simp only; rw [h, if_neg (by simp), if_neg (fun hp => by rcases hk with e | e <;> rw [e] at hp <;> exact absurd hp.1 (by decide))]
        rw [hset] at e; rw [e] at h0; cases h0
    have hset : setD d s x = some (d.ins s x) := by unfold setD; rw [hst]; simp only; rw [if_pos hky]
    rw [hset] at e
    have hks := key_size hky
    refine grown_of (p := d.ins s x) (by rw [e]) (d.kids.take (d.keys.takeWhile fun k => decide (scmp k s = -1)).length ++ x :: d.kids.drop (d.keys.takeWhile fun k => decide (scmp k s = -1)).length) rfl ?_ (by simp) ?_ ?_ (by rw [sizes_ins]; omega)
    · rw [hg, sizes_ins]; simp; omega
    · have h6 := (D.fit6_eq d).1 hd.fit
      obtain ⟨k, n, st, ks, l⟩ := d
      simp only [D.ins, D.kids, D.kind, D.num, D.str, D.keys] at *
      rw [fit_parts] at FD ⊢
      rw [fits_mem] at *
      refine ⟨FD.1, ?_, ?_, ?_, ?_⟩
      · simp only [List.length_append, List.length_take, List.length_cons, List.length_drop]; omega
      · simp only [List.length_append, List.length_take, List.length_cons, List.length_drop]; omega
      · intro k' hk'
        rcases List.mem_append.1 hk' with h | h
        · exact FD.2.2.2.1 _ (List.mem_of_mem_take h)
        · rcases List.mem_cons.1 h with rfl | h
          · omega
          · exact FD.2.2.2.1 _ (List.mem_of_mem_drop h)
      · intro y hy
        rcases List.mem_append.1 hy with h | h
        · exact FD.2.2.2.2 _ (List.mem_of_mem_take h)
        · rcases List.mem_cons.1 h with rfl | h
          · exact FX
          · exact FD.2.2.2.2 _ (List.mem_of_mem_drop h)
    · intro y hy
      rcases List.mem_append.1 hy with h | h
      · have := hkd y (List.mem_of_mem_take h); omega
      · rcases List.mem_cons.1 h with rfl | h
        · exact hdx
        · have := hkd y (List.mem_of_mem_drop h); omega
theorem grows_no {d x : D} {s : ByteArray} (hk : d.kind = 1 ∨ d.kind = 2) (h0 : (putV d x [s]).2 ≠ 0) : rightB d = false ∨ rightB x = false ∨ (d.kind = 1 ∧ nameB s = false) ∨ 256 < s.size := by
  cases hrd : rightB d with
  | false => exact .inl rfl
  | true =>
  cases hrx : rightB x with
  | false => exact .inr (.inl rfl)
  | true =>
    have e := putV_one (s := s) hrd hrx
    right; right
    cases hst : stepD d s with
    | some i =>
      have hset : setD d s x = some (d.setKid i x) := by unfold setD; rw [hst]
      rw [hset] at e; rw [e] at h0; exact absurd rfl h0
    | none =>
      cases hky : keyOfB d.kind s with
      | true =>
        have hset : setD d s x = some (d.ins s x) := by unfold setD; rw [hst]; simp only; rw [if_pos hky]
        rw [hset] at e; rw [e] at h0; exact absurd rfl h0
      | false =>
        unfold keyOfB at hky
        rcases hk with e1 | e2
        · rw [if_pos e1] at hky; exact .inl ⟨e1, hky⟩
        · rw [if_neg (by omega), if_pos e2] at hky
          right; simp at hky; omega
/-- The same, of what is named. -/
structure Grown2 (a b : D) (old : D) (had : Bool) (p : D) : Prop where
  fit : p.Fit
  size : (p.size : Int) = a.size + (if had = true then (b.size : Int) - old.size else b.size)
  deep : p.depth ≤ 21
  under : b.depth < p.depth
  kids : p.depth = D.depths p.kids + 1
  small : p.size ≤ 1400
theorem grown2 {a b old p : D} {s : ByteArray} {had : Bool} (ha : FewP a 20) (hb : FewP b 20) (hk : a.kind = 1 ∨ a.kind = 2) (hg : getV a [s] = (old, had)) (hp : putV a b [s] = (p, 0)) : Grown2 a b old had p := by
  have h := grows_ok ha hb hk (by rw [hp])
  obtain ⟨h1, h2, h3, h4, h5, h6⟩ := h
  rw [hp] at h1 h2 h3 h4 h5 h6
  rw [hg] at h2
  exact ⟨h1, h2, h3, h4, h5, h6⟩
theorem old_small {a old : D} {s : ByteArray} (ha : FewP a 20) (hg : getV a [s] = (old, true)) : old.size ≤ 699 := by
  have hs := ha.size
  cases hst : stepD a s with
  | none => rw [getV_none hst] at hg; cases hg
  | some i =>
    obtain ⟨hi, _⟩ := stepD_lt ha.fit.fit.keys hst
    rw [getV_one hst hi] at hg
    have e : a.kids[i] = old := congrArg Prod.fst hg
    have h1 := D.sizes_take_succ a.kids i hi
    have h2 := D.sizes_take_le a.kids (i + 1)
    have hdl : a.size = D.sizes a.kids + 1 := by obtain ⟨_, _, _, _, _⟩ := a; rfl
    rw [e] at h1
    omega
theorem no_of {a b p : D} {s : ByteArray} {er : Int} (hk : a.kind = 1 ∨ a.kind = 2) (hp : putV a b [s] = (p, er)) (h0 : er ≠ 0) : rightB a = false ∨ rightB b = false ∨ (a.kind = 1 ∧ nameB s = false) ∨ 256 < s.size :=
  grows_no hk (by rw [hp]; exact h0)
end Go.Proofs.YtpohbabdoiennaaDoor
