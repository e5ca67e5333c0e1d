/-
  Records of keys and kids in whatever order they come: plain facts. What is put key by key, and what is kept of the sorted places, are the one rising record of which the last kid of each key is told.
  doc.rising at up to 39 keys: the places of the keys, sorted; alike ones in their order.
  The document's own Rec, of up to 39 keys.
-/
import Derived.Test.YtdcempejdggkpaaGreatDoorB30
import Derived.Test.YtdcempejdggkpaaGreatDoorB06
import Derived.Test.YtdcempejdggkpaaGreatDoorB02
import Derived.Test.YtdcempejdggkpaaGreatDoorB05
import Derived.Test.YtdcempejdggkpaaGreatDoorB28
import Derived.Test.YtdcempejdggkpaaGreatDoorB33
import Derived.Shelf.Abstract
import Derived.Test.YtdcempejdggkpaaGreatDoorB34
import Derived.StillTailTactics
namespace Go.Proofs.YtdcempejdggkpaaGreatDoor
open Go.RowKit Go.Sort

abbrev Pair := ByteArray × D
def RisingP (ps : List Pair) : Prop := ps.Pairwise fun p q => scmp p.1 q.1 = -1
theorem slt_ne {a b : ByteArray} (h : scmp a b = -1) : a ≠ b := fun e => by
  subst e
  rw [scmp_ordered.refl a trivial] at h
  cases h
theorem sgt_of {a b : ByteArray} (h1 : scmp a b ≠ -1) (h2 : a ≠ b) : scmp b a = -1 := by
  rcases scmp_ordered.cases a b trivial trivial with h | h | h
  · exact absurd h h1
  · exact absurd ((scmp_ordered.eq a b trivial trivial).1 h) h2
  · rw [scmp_ordered.flip a b trivial trivial, h]
/-- The key s, put where it belongs. -/
def ins (s : ByteArray) (x : D) : List Pair → List Pair
  | [] => [(s, x)]
  | p :: r => if scmp p.1 s = -1 then p :: ins s x r else if p.1 = s then (s, x) :: r else (s, x) :: p :: r
theorem ins_mem {s : ByteArray} {x : D} : ∀ {ps : List Pair}, RisingP ps → ∀ q, q ∈ ins s x ps ↔ q = (s, x) ∨ (q.1 ≠ s ∧ q ∈ ps)
  | [], _, q => by simp [ins]
  | p :: r, h, q => by
    have hr := (List.pairwise_cons.1 h)
    unfold ins
    split
    · rename_i h1
      rw [List.mem_cons, ins_mem hr.2 q, List.mem_cons]
      have : p.1 ≠ s := slt_ne h1
      constructor
      · rintro (rfl | h | ⟨h, h'⟩)
        · exact .inr ⟨this, .inl rfl⟩
        · exact .inl h
        · exact .inr ⟨h, .inr h'⟩
      · rintro (h | ⟨h, rfl | h'⟩)
        · exact .inr (.inl h)
        · exact .inl rfl
        · exact .inr (.inr ⟨h, h'⟩)
    · rename_i h1
      split
      · rename_i h2
        rw [List.mem_cons, List.mem_cons]
        constructor
        · rintro (h | h)
          · exact .inl h
          · exact .inr ⟨fun e => slt_ne (hr.1 q h) (h2.trans e.symm), .inr h⟩
        · rintro (h0 | ⟨h0, rfl | h'⟩)
          · exact .inl h0
          · exact absurd h2 h0
          · exact .inr h'
      · rename_i h2
        have h3 := sgt_of h1 h2
        rw [List.mem_cons, List.mem_cons]
        constructor
        · rintro (h | rfl | h)
          · exact .inl h
          · exact .inr ⟨h2, .inl rfl⟩
          · refine .inr ⟨fun e => ?_, .inr h⟩
            have := scmp_ordered.trans _ _ _ trivial trivial trivial h3 (hr.1 q h)
            exact slt_ne this e.symm
        · rintro (h | ⟨h, rfl | h'⟩)
          · exact .inl h
          · exact .inr (.inl rfl)
          · exact .inr (.inr h')
theorem ins_rising {s : ByteArray} {x : D} : ∀ {ps : List Pair}, RisingP ps → RisingP (ins s x ps)
  | [], _ => by simp [ins, RisingP]
  | p :: r, h => by
    have hr := (List.pairwise_cons.1 h)
    unfold ins
    split
    · rename_i h1
      refine List.pairwise_cons.2 ⟨fun q hq => ?_, ins_rising hr.2⟩
      rcases (ins_mem hr.2 q).1 hq with rfl | ⟨_, h'⟩
      · exact h1
      · exact hr.1 q h'
    · rename_i h1
      split
      · rename_i h2
        exact List.pairwise_cons.2 ⟨fun q hq => by have := hr.1 q hq; rwa [h2] at this, hr.2⟩
      · rename_i h2
        have h3 := sgt_of h1 h2
        refine List.pairwise_cons.2 ⟨fun q hq => ?_, h⟩
        rcases List.mem_cons.1 hq with rfl | hq
        · exact h3
        · exact scmp_ordered.trans _ _ _ trivial trivial trivial h3 (hr.1 q hq)
/-- Two rising rows of the same parts are one. -/
theorem rising_unique : ∀ {a b : List Pair}, RisingP a → RisingP b → (∀ q, q ∈ a ↔ q ∈ b) → a = b
  | [], [], _, _, _ => rfl
  | [], q :: _, _, _, h => by have := (h q).2 (by simp); cases this
  | q :: _, [], _, _, h => by have := (h q).1 (by simp); cases this
  | p :: r, q :: t, ha, hb, h => by
    have ha' := List.pairwise_cons.1 ha
    have hb' := List.pairwise_cons.1 hb
    have e : p = q := by
      rcases List.mem_cons.1 ((h p).1 (by simp)) with e | e
      · exact e
      · rcases List.mem_cons.1 ((h q).2 (by simp)) with e' | e'
        · exact e'.symm
        · have h1 := hb'.1 p e
          have h2 := ha'.1 q e'
          rw [scmp_ordered.flip _ _ trivial trivial, h1] at h2
          cases h2
    subst e
    rw [rising_unique ha'.2 hb'.2 fun q => ?_]
    constructor
    · intro hq
      rcases List.mem_cons.1 ((h q).1 (List.mem_cons_of_mem _ hq)) with e | e
      · subst e; exact absurd rfl (slt_ne (ha'.1 _ hq))
      · exact e
    · intro hq
      rcases List.mem_cons.1 ((h q).2 (List.mem_cons_of_mem _ hq)) with e | e
      · subst e; exact absurd rfl (slt_ne (hb'.1 _ hq))
      · exact e
/-- What the document's own Rec makes, key by key. -/
def insAll : List Pair → List Pair → List Pair
  | acc, [] => acc
  | acc, p :: r => insAll (ins p.1 p.2 acc) r
/-- The last of each key. -/
def Last (l : List Pair) (q : Pair) : Prop := ∃ i, ∃ h : i < l.length, l[i] = q ∧ ∀ j, i < j → (h' : j < l.length) → (l[j]).1 ≠ q.1
theorem last_cons {p : Pair} {l : List Pair} {q : Pair} : Last (p :: l) q ↔ Last l q ∨ (p = q ∧ ∀ j, (h : j < l.length) → (l[j]).1 ≠ q.1) := by
  constructor
  · rintro ⟨i, h, e, hl⟩
    cases i with
    | zero => exact .inr ⟨e, fun j hj => by have := hl (j + 1) (by omega) (by simp; omega); simpa using this⟩
    | succ i => exact .inl ⟨i, by simpa using h, by simpa using e, fun j hj h' => by have := hl (j + 1) (by omega) (by simp; omega); simpa using this⟩
  · rintro (⟨i, h, e, hl⟩ | ⟨e, hl⟩)
    · refine ⟨i + 1, by simp; omega, by simpa using e, fun j hj h' => ?_⟩
      obtain ⟨j, rfl⟩ : ∃ j', j = j' + 1 := ⟨j - 1, by omega⟩
      have := hl j (by omega) (by simpa using h')
      simpa using this
    · refine ⟨0, by simp, by simpa using e, fun j hj h' => ?_⟩
      obtain ⟨j, rfl⟩ : ∃ j', j = j' + 1 := ⟨j - 1, by omega⟩
      have := hl j (by simpa using h')
      simpa using this
theorem insAll_spec : ∀ {l acc : List Pair}, RisingP acc → RisingP (insAll acc l) ∧ ∀ q, q ∈ insAll acc l ↔ Last l q ∨ (q ∈ acc ∧ ∀ j, (h : j < l.length) → (l[j]).1 ≠ q.1)
  | [], acc, h => ⟨h, fun q => by simp [insAll, Last]⟩
  | p :: r, acc, h => by
    obtain ⟨h1, h2⟩ := insAll_spec (l := r) (ins_rising (s := p.1) (x := p.2) h)
    refine ⟨h1, fun q => ?_⟩
    show q ∈ insAll (ins p.1 p.2 acc) r ↔ _
    rw [h2 q, last_cons, ins_mem h q]
    constructor
    · rintro (h | ⟨rfl | ⟨h3, h4⟩, h5⟩)
      · exact .inl (.inl h)
      · exact .inl (.inr ⟨rfl, h5⟩)
      · refine .inr ⟨h4, fun j hj => ?_⟩
        cases j with
        | zero => simpa using h3.symm
        | succ j => simpa using h5 j (by simpa using hj)
    · rintro ((h | ⟨rfl, h5⟩) | ⟨h4, h5⟩)
      · exact .inl h
      · exact .inr ⟨.inl rfl, h5⟩
      · refine .inr ⟨.inr ⟨fun e => ?_, h4⟩, fun j hj => ?_⟩
        · have := h5 0 (by simp); simp at this; exact this e.symm
        · have := h5 (j + 1) (by simp; omega); simpa using this
/-- Places, by their keys, and then by themselves. -/
def placeLt (ks : List ByteArray) (i j : Nat) : Bool := decide (scmp (ks.getD i ⟨#[]⟩) (ks.getD j ⟨#[]⟩) = -1) || (decide (scmp (ks.getD i ⟨#[]⟩) (ks.getD j ⟨#[]⟩) = 0) && decide (i < j))
theorem placeLt_iff {ks : List ByteArray} {i j : Nat} : placeLt ks i j = true ↔ scmp (ks.getD i ⟨#[]⟩) (ks.getD j ⟨#[]⟩) = -1 ∨ (ks.getD i ⟨#[]⟩ = ks.getD j ⟨#[]⟩ ∧ i < j) := by
  unfold placeLt
  rw [Bool.or_eq_true, Bool.and_eq_true, decide_eq_true_eq, decide_eq_true_eq, decide_eq_true_eq, scmp_ordered.eq _ _ trivial trivial]
theorem placeLt_total {ks : List ByteArray} {i j : Nat} (h : placeLt ks i j = false) : i = j ∨ placeLt ks j i = true := by
  by_cases e : i = j
  · exact .inl e
  · refine .inr (placeLt_iff.2 ?_)
    have hn : ¬ (placeLt ks i j = true) := by simp [h]
    rw [placeLt_iff] at hn
    rcases scmp_ordered.cases (ks.getD i ⟨#[]⟩) (ks.getD j ⟨#[]⟩) trivial trivial with c | c | c
    · exact absurd (.inl c) hn
    · have c' := (scmp_ordered.eq _ _ trivial trivial).1 c
      exact .inr ⟨c'.symm, by
        rcases Nat.lt_trichotomy i j with h1 | h1 | h1
        · exact absurd (.inr ⟨c', h1⟩) hn
        · exact absurd h1 e
        · exact h1⟩
    · exact .inl (by rw [scmp_ordered.flip _ _ trivial trivial, c])
theorem placeLt_trans {ks : List ByteArray} {i j k : Nat} (h1 : placeLt ks i j = true) (h2 : placeLt ks j k = true) : placeLt ks i k = true := by
  rw [placeLt_iff] at *
  rcases h1 with h1 | ⟨e1, h1⟩
  · rcases h2 with h2 | ⟨e2, h2⟩
    · exact .inl (scmp_ordered.trans _ _ _ trivial trivial trivial h1 h2)
    · exact .inl (e2 ▸ h1)
  · rcases h2 with h2 | ⟨e2, h2⟩
    · exact .inl (e1 ▸ h2)
    · exact .inr ⟨e1.trans e2, by omega⟩
theorem placeLt_irrefl {ks : List ByteArray} (i : Nat) : placeLt ks i i = false := by
  cases h : placeLt ks i i with
  | false => rfl
  | true =>
    rcases placeLt_iff.1 h with c | ⟨_, c⟩
    · exact absurd rfl (slt_ne c)
    · omega
theorem placeLt_swo (ks : List ByteArray) : SWO (placeLt ks) where
  irrefl := placeLt_irrefl
  trans _ _ _ h1 h2 := placeLt_trans h1 h2
  ntrans x y z h1 h2 := by
    rcases placeLt_total h1 with rfl | h1
    · exact h2
    · rcases placeLt_total h2 with rfl | h2
      · cases h : placeLt ks x y with
        | false => rfl
        | true => have := placeLt_trans h h1; rw [placeLt_irrefl] at this; cases this
      · cases h : placeLt ks x z with
        | false => rfl
        | true => have := placeLt_trans (placeLt_trans h h2) h1; rw [placeLt_irrefl] at this; cases this
/-- The places of n keys, sorted. -/
structure Sorted (ks : List ByteArray) (o : List Nat) : Prop where
  perm : o.Perm (List.range ks.length)
  pw : o.Pairwise fun i j => placeLt ks i j = true
def recPair (ks : List ByteArray) (l : List D) (i : Nat) : Pair := (ks.getD i ⟨#[]⟩, l.getD i D.zero)
theorem recSkip_iff {ks : List ByteArray} {o : List Nat} {i : Nat} : recSkip ks o i = true ↔ i + 1 < o.length ∧ ks.getD (o.getD (i + 1) 0) ⟨#[]⟩ = ks.getD (o.getD i 0) ⟨#[]⟩ := by
  unfold recSkip
  rw [Bool.and_eq_true, decide_eq_true_eq, Lib.bytes_beq_iff]
theorem kept_mem {ks : List ByteArray} {o : List Nat} : ∀ {n : Nat}, ∀ p, p ∈ recKept ks o n ↔ ∃ i, i < n ∧ recSkip ks o i = false ∧ o.getD i 0 = p
  | 0, p => by simp [recKept]
  | n + 1, p => by
    unfold recKept
    split
    · rename_i h
      rw [kept_mem p]
      constructor
      · rintro ⟨i, h1, h2, h3⟩; exact ⟨i, by omega, h2, h3⟩
      · rintro ⟨i, h1, h2, h3⟩
        refine ⟨i, ?_, h2, h3⟩
        rcases Nat.lt_succ_iff_lt_or_eq.1 h1 with h4 | rfl
        · exact h4
        · rw [h] at h2; cases h2
    · rename_i h
      rw [List.mem_append, kept_mem p, List.mem_singleton]
      constructor
      · rintro (⟨i, h1, h2, h3⟩ | rfl)
        · exact ⟨i, by omega, h2, h3⟩
        · exact ⟨n, by omega, by simpa using h, rfl⟩
      · rintro ⟨i, h1, h2, h3⟩
        rcases Nat.lt_succ_iff_lt_or_eq.1 h1 with h4 | rfl
        · exact .inl ⟨i, h4, h2, h3⟩
        · exact .inr h3.symm
theorem sorted_at_lt {ks : List ByteArray} {o : List Nat} (h : Sorted ks o) {i j : Nat} (hij : i < j) (hj : j < o.length) : placeLt ks (o.getD i 0) (o.getD j 0) = true := by
  have := List.pairwise_iff_getElem.1 h.pw i j (by omega) hj hij
  rw [List.getD_eq_getElem?_getD, List.getD_eq_getElem?_getD, List.getElem?_eq_getElem (by omega), List.getElem?_eq_getElem hj]
  exact this
/-- A place that is kept is ahead, by its key, of all behind. -/
theorem kept_lt {ks : List ByteArray} {o : List Nat} (h : Sorted ks o) {i j : Nat} (hij : i < j) (hj : j < o.length) (hs : recSkip ks o i = false) : scmp (ks.getD (o.getD i 0) ⟨#[]⟩) (ks.getD (o.getD j 0) ⟨#[]⟩) = -1 := by
  have h1 := placeLt_iff.1 (sorted_at_lt h (i := i) (j := i + 1) (by omega) (by omega))
  have hn : scmp (ks.getD (o.getD i 0) ⟨#[]⟩) (ks.getD (o.getD (i + 1) 0) ⟨#[]⟩) = -1 := by
    rcases h1 with h1 | ⟨e, _⟩
    · exact h1
    · have : recSkip ks o i = true := recSkip_iff.2 ⟨by omega, e.symm⟩
      rw [hs] at this; cases this
  rcases Nat.eq_or_lt_of_le (show i + 1 ≤ j from hij) with e | e
  · subst e; exact hn
  · rcases placeLt_iff.1 (sorted_at_lt h e hj) with h2 | ⟨h2, _⟩
    · exact scmp_ordered.trans _ _ _ trivial trivial trivial hn h2
    · rw [← h2]; exact hn
theorem kept_rising {ks : List ByteArray} {l : List D} {o : List Nat} (h : Sorted ks o) : ∀ {n : Nat}, n ≤ o.length → RisingP ((recKept ks o n).map (recPair ks l))
  | 0, _ => by simp [recKept, RisingP]
  | n + 1, hn => by
    unfold recKept
    split
    · exact kept_rising h (by omega)
    · rw [List.map_append]
      refine List.pairwise_append.2 ⟨kept_rising h (by omega), by simp, fun a ha b hb => ?_⟩
      obtain ⟨p, hp, rfl⟩ := List.mem_map.1 ha
      simp only [List.map_cons, List.map_nil, List.mem_singleton] at hb
      subst hb
      obtain ⟨i, h1, h2, rfl⟩ := (kept_mem p).1 hp
      exact kept_lt h h1 (by omega) h2
theorem getD_nat {o : List Nat} {i : Nat} (h : i < o.length) : o.getD i 0 = o[i] := by simp [h]
theorem kept_last {ks : List ByteArray} {l : List D} {o : List Nat} (h : Sorted ks o) (hl : l.length = ks.length) (q : Pair) : q ∈ (recKept ks o ks.length).map (recPair ks l) ↔ Last (ks.zip l) q := by
  have ho : o.length = ks.length := by rw [h.perm.length_eq, List.length_range]
  have hz : (ks.zip l).length = ks.length := by simp [hl]
  have hat : ∀ i (hi : i < (ks.zip l).length), (ks.zip l)[i] = recPair ks l i := fun i hi => by
    rw [List.getElem_zip]
    rw [hz] at hi
    simp [recPair, hi, hl]
  rw [List.mem_map]
  constructor
  · rintro ⟨p, hp, rfl⟩
    obtain ⟨i, h1, h2, rfl⟩ := (kept_mem p).1 hp
    have hpl : o.getD i 0 < ks.length := by
      rw [getD_nat (by omega)]
      exact List.mem_range.1 ((h.perm.mem_iff).1 (List.getElem_mem _))
    refine ⟨o.getD i 0, by omega, hat _ _, fun j hj h' e => ?_⟩
    rw [hat _ _] at e
    rw [hz] at h'
    obtain ⟨k, hk, hk2⟩ := List.mem_iff_getElem.1 ((h.perm.mem_iff).2 (List.mem_range.2 h'))
    have hko : o.getD k 0 = j := by rw [getD_nat hk]; exact hk2
    simp only [recPair] at e
    rcases Nat.lt_trichotomy i k with c | c | c
    · have := kept_lt h c hk h2
      rw [hko] at this
      exact slt_ne this e.symm
    · subst c; omega
    · have := sorted_at_lt h c (by omega)
      rw [hko] at this
      rcases placeLt_iff.1 this with c2 | ⟨_, c2⟩
      · exact slt_ne c2 e
      · omega
  · rintro ⟨p, hp, rfl, hl2⟩
    have hp' := hp
    rw [hz] at hp'
    obtain ⟨i, hi, hi2⟩ := List.mem_iff_getElem.1 ((h.perm.mem_iff).2 (List.mem_range.2 hp'))
    have hio : o.getD i 0 = p := by rw [getD_nat hi]; exact hi2
    refine ⟨p, (kept_mem p).2 ⟨i, by omega, ?_, hio⟩, (hat p hp).symm⟩
    cases hs : recSkip ks o i with
    | false => rfl
    | true =>
      obtain ⟨h1, h2⟩ := recSkip_iff.1 hs
      have h3 := placeLt_iff.1 (sorted_at_lt h (i := i) (j := i + 1) (by omega) h1)
      have hlt : o.getD i 0 < o.getD (i + 1) 0 := by
        rcases h3 with h3 | ⟨_, h3⟩
        · exact absurd h2.symm (slt_ne h3)
        · exact h3
      have hnl : o.getD (i + 1) 0 < ks.length := by
        rw [getD_nat h1]
        exact List.mem_range.1 ((h.perm.mem_iff).1 (List.getElem_mem _))
      have := hl2 (o.getD (i + 1) 0) (by omega) (by omega)
      rw [hat _ _, hat _ _] at this
      simp only [recPair] at this
      rw [← hio] at this
      exact absurd h2 this
/-- What doc.Rec keeps is what is put key by key. -/
theorem kept_ins {ks : List ByteArray} {l : List D} {o : List Nat} (h : Sorted ks o) (hl : l.length = ks.length) : (recKept ks o ks.length).map (recPair ks l) = insAll [] (ks.zip l) := by
  have ho : o.length = ks.length := by rw [h.perm.length_eq, List.length_range]
  obtain ⟨h1, h2⟩ := insAll_spec (l := ks.zip l) (acc := []) (by simp [RisingP])
  exact rising_unique (kept_rising h (by omega)) h1 fun q => by rw [kept_last h hl q, h2 q]; simp
/-- ins, by places: as the document's own Rec finds them. -/
def lead (s : ByteArray) : List ByteArray → Nat
  | [] => 0
  | x :: r => if scmp x s = -1 then lead s r + 1 else 0
theorem idxFrom_shift (s : ByteArray) : ∀ (zs : List ByteArray) (i : Nat), Lib.idxFromS zs s i = if Lib.idxFromS zs s 0 < 0 then -1 else Lib.idxFromS zs s 0 + i
  | [], i => by simp [Lib.idxFromS]
  | z :: zs, i => by
    unfold Lib.idxFromS
    by_cases e : z = s
    · simp [e]
    · rw [if_neg e, if_neg e, idxFrom_shift s zs (i + 1), idxFrom_shift s zs (0 + 1)]
      split <;> (split <;> omega)
theorem idx_nonneg_mem (s : ByteArray) : ∀ {zs : List ByteArray}, 0 ≤ Lib.idxFromS zs s 0 → s ∈ zs
  | [], h => by simp [Lib.idxFromS] at h
  | z :: zs, h => by
    unfold Lib.idxFromS at h
    by_cases e : z = s
    · simp [e]
    · rw [if_neg e, idxFrom_shift] at h
      split at h
      · omega
      · exact List.mem_cons_of_mem _ (idx_nonneg_mem s (by omega))
theorem ins_hit {s : ByteArray} {x : D} : ∀ {ps : List Pair}, RisingP ps → 0 ≤ Lib.idxOfS (ps.map (·.1)) s → ins s x ps = ps.take (Lib.idxOfS (ps.map (·.1)) s).toNat ++ (s, x) :: ps.drop ((Lib.idxOfS (ps.map (·.1)) s).toNat + 1)
  | [], _, h => by simp [Lib.idxOfS, Lib.idxFromS] at h
  | p :: r, hp, h => by
    have hr := (List.pairwise_cons.1 hp)
    unfold Lib.idxOfS at h ⊢
    simp only [List.map_cons] at h ⊢
    unfold Lib.idxFromS at h ⊢
    by_cases e : p.1 = s
    · rw [if_pos e]
      have : scmp p.1 s ≠ -1 := fun h => slt_ne h e
      unfold ins
      rw [if_neg this, if_pos e]
      simp
    · rw [if_neg e] at h ⊢
      rw [idxFrom_shift] at h ⊢
      have hge : ¬ Lib.idxFromS (r.map (·.1)) s 0 < 0 := fun hc => by rw [if_pos hc] at h; omega
      rw [if_neg hge]
      have hm := idx_nonneg_mem s (show 0 ≤ Lib.idxFromS (r.map (·.1)) s 0 by omega)
      obtain ⟨q, hq, rfl⟩ := List.mem_map.1 hm
      have ih := ins_hit (s := q.1) (x := x) hr.2 (show 0 ≤ Lib.idxOfS (r.map (·.1)) q.1 by unfold Lib.idxOfS; omega)
      unfold Lib.idxOfS at ih
      obtain ⟨k, hk⟩ : ∃ k : Nat, Lib.idxFromS (r.map (·.1)) q.1 0 = k := ⟨_, (Int.toNat_of_nonneg (by omega)).symm⟩
      rw [hk] at ih ⊢
      simp only [Int.toNat_natCast] at ih
      rw [show ((k : Int) + ((0 + 1 : Nat) : Int)).toNat = k + 1 by omega]
      unfold ins
      rw [if_pos (hr.1 q hq), ih]
      simp
theorem ins_miss {s : ByteArray} {x : D} : ∀ {ps : List Pair}, RisingP ps → Lib.idxOfS (ps.map (·.1)) s < 0 → ins s x ps = ps.take (lead s (ps.map (·.1))) ++ (s, x) :: ps.drop (lead s (ps.map (·.1)))
  | [], _, h => by simp [ins, lead]
  | p :: r, hp, h => by
    have hr := (List.pairwise_cons.1 hp)
    unfold Lib.idxOfS at h
    simp only [List.map_cons] at h ⊢
    unfold Lib.idxFromS at h
    by_cases e : p.1 = s
    · rw [if_pos e] at h; omega
    · rw [if_neg e, idxFrom_shift] at h
      have hlt : Lib.idxFromS (r.map (·.1)) s 0 < 0 := by
        rcases Int.lt_or_le (Lib.idxFromS (r.map (·.1)) s 0) 0 with c | c
        · exact c
        · rw [if_neg (by omega)] at h; omega
      unfold ins lead
      by_cases c : scmp p.1 s = -1
      · rw [if_pos c, if_pos c, ins_miss hr.2 (by unfold Lib.idxOfS; exact hlt)]
        simp
      · rw [if_neg c, if_neg c, if_neg e]
        simp
theorem lead_le (s : ByteArray) : ∀ (xs : List ByteArray), lead s xs ≤ xs.length
  | [] => by simp [lead]
  | x :: r => by
    have := lead_le s r
    unfold lead
    split <;> simp <;> omega
theorem ins_len {s : ByteArray} {x : D} : ∀ (ps : List Pair), (ins s x ps).length ≤ ps.length + 1
  | [] => by simp [ins]
  | p :: r => by
    have := ins_len (s := s) (x := x) r
    unfold ins
    split
    · simp; omega
    · split <;> simp
end Go.Proofs.YtdcempejdggkpaaGreatDoor
namespace Go.Proofs.YtdcempejdggkpaaGreatDoor
open Go.RowKit

theorem infoI : (Tryz.prog.info? 3).map (fun i => (i.zero, i.size, i.bytes)) = some (some (.int .i64 0), 1, 8) := by kernel_rfl
/-- The places, sorted. -/
def orderOf (ks : List ByteArray) : List Nat := ((List.ofFn fun i : Fin ks.length => i).mergeSort fun x y => !placeLt ks y.val x.val).map (·.val)
theorem ofFn_val (n : Nat) : (List.ofFn fun i : Fin n => i).map (·.val) = List.range n := by
  apply List.ext_getElem
  · simp
  · intro i h1 h2; simp
theorem le_trans_place (ks : List ByteArray) {n : Nat} : ∀ a b c : Fin n, (!placeLt ks b.val a.val) = true → (!placeLt ks c.val b.val) = true → (!placeLt ks c.val a.val) = true := fun a b c h1 h2 => by
  simp only [Bool.not_eq_true'] at *
  exact (placeLt_swo ks).ntrans _ _ _ h2 h1
theorem le_total_place (ks : List ByteArray) {n : Nat} : ∀ a b : Fin n, ((!placeLt ks b.val a.val) || (!placeLt ks a.val b.val)) = true := fun a b => by
  cases h : placeLt ks b.val a.val with
  | false => rfl
  | true => rw [(placeLt_swo ks).asymmA h]; rfl
theorem orderOf_sorted (ks : List ByteArray) : Sorted ks (orderOf ks) := by
  have hp : (orderOf ks).Perm (List.range ks.length) := by
    rw [← ofFn_val ks.length]
    exact (List.mergeSort_perm _ _).map _
  refine ⟨hp, ?_⟩
  have h1 : (orderOf ks).Pairwise fun i j => placeLt ks j i = false := by
    unfold orderOf
    rw [List.pairwise_map]
    exact (List.pairwise_mergeSort (le_trans_place ks) (le_total_place ks) _).imp fun h => by simpa using h
  have h2 : (orderOf ks).Pairwise fun i j => i ≠ j := hp.nodup_iff.2 List.nodup_range
  refine (h1.and h2).imp fun h => ?_
  rcases placeLt_total h.1 with e | e
  · exact absurd e.symm h.2
  · exact e
theorem orderOf_len (ks : List ByteArray) : (orderOf ks).length = ks.length := by rw [(orderOf_sorted ks).perm.length_eq, List.length_range]
theorem orderOf_lt (ks : List ByteArray) : ∀ i < (orderOf ks).length, (orderOf ks).getD i 0 < ks.length := fun i hi => by
  rw [getD_nat hi]
  exact List.mem_range.1 (((orderOf_sorted ks).perm.mem_iff).1 (List.getElem_mem _))
theorem sw_far {α : Type} [Inhabited α] {enc : α → Value} {w0 W : World} {blk off : Nat} {dk : Array α} (h : SW enc w0 blk off dk W) : W.os = w0.os ∧ W.tape = w0.tape ∧ W.output = w0.output ∧ w0.heap.size ≤ W.heap.size ∧ ∀ k, k < w0.heap.size → k ≠ blk → W.heap[k]? = w0.heap[k]? := by
  obtain ⟨n, os, rfl⟩ := h
  refine ⟨rfl, rfl, rfl, ?_, fun k hk hb => ?_⟩
  · unfold sortWorld; rw [Sort.size_grow, size_putRow]; exact Nat.le_add_right _ _
  · unfold sortWorld Sort.grow Sort.putRow Sort.mapBlock Sort.ahead
    simp only
    rw [Array.getElem?_append_left (by simpa using hk), Array.getElem?_modify, if_neg (fun e => hb e.symm)]
set_option maxHeartbeats 4000000 in
set_option maxRecDepth 100000 in
theorem rising_some {ks : List ByteArray} {A : Option Addr} {c : Nat} {w : World} {B : Nat} (hs : Strs w B (.slice A ks.length c) ks) (hB : B ≤ w.heap.size) (h0 : 0 < ks.length) (hn : ks.length ≤ 39) :
    Calls Tryz.prog 27 #[.slice A ks.length c] w (fun e w' => ∃ g, e = .returned (.slice (some ⟨g, 0, none⟩) ks.length ks.length) ∧ w.heap.size ≤ g ∧ g < w'.heap.size ∧ (∀ i < ks.length, w'.cell? ⟨g, i, none⟩ = some (.int .i64 ((orderOf ks).getD i 0 : Nat))) ∧ Below w.heap.size w w') := by
  obtain ⟨A', c', e, hc, hcells⟩ := hs
  injection e with e1 _ e3
  subst e1 e3
  obtain ⟨b, off, rfl, hb, hcl⟩ := hcells h0
  have HCL := Lib.hid hcl
  clear hcells hcl hc
  obtain ⟨n, hn'⟩ : ∃ n, n = ks.length := ⟨_, rfl⟩
  have HN := Lib.hid hn'
  obtain ⟨i0, hi, hz0, hz1, hz2⟩ := info_parts infoI
  obtain ⟨mc, hmc⟩ : ∃ mc, mc = madeCells (Value.int .i64 0).cells n := ⟨_, rfl⟩
  have hmcs : mc.size = n := by rw [hmc]; exact size_madeCells _ _
  have hmk : ∀ w, (Instr.makeSlice 48 (.int .i64 (n : Int)) (.int .i64 (n : Int))).run Tryz.prog w = .ok (.slice (some ⟨w.heap.size, 0, none⟩) n n) (w.alloc (.cells mc 3)) := fun w => by
    have h := run_make (P := Tryz.prog) w 48 3 i0 (.int .i64 0) Tryz.underlying48 hi hz0 .i64 .i64 n n (by omega) (Int.le_refl _) (by rw [hz2]; omega) (by omega)
    rw [hz1, Nat.mul_one] at h
    simp only [Int.toNat_natCast] at h
    rw [← hmc] at h
    exact h
  clear hi hz0 hz1 hz2 hmc
  rw [← hn'] at hn h0 ⊢
  have hn2 : (n : Int) < 40 := by omega
  clear hn'
  have hsz1 : (w.alloc (.cells #[.slice (some ⟨b, off, none⟩) n c] 22)).heap.size = w.heap.size + 1 := World.size_alloc _ _
  go_enter Tryz.func27, Tryz.ntmps27
  go_wp2_with fail
  obtain ⟨W2, hW2⟩ : ∃ W2, W2 = (w.alloc (.cells #[.slice (some ⟨b, off, none⟩) n c] 22)).alloc (.cells mc 3) := ⟨_, rfl⟩
  have hg2 : W2.heap[w.heap.size + 1]? = some (.cells mc 3 (0, 0)) := by rw [hW2, ← hsz1]; exact heap_alloc_new _ _
  have hk2 : W2.heap[w.heap.size]? = some (.cells #[.slice (some ⟨b, off, none⟩) n c] 22 (0, 0)) := by rw [hW2]; exact (Below.heap_alloc (w.alloc _) _ w.heap.size (by simp)).trans (heap_alloc_new w _)
  have hbw : Below w.heap.size w W2 := by rw [hW2]; exact ((Below.refl w.heap.size w).alloc (Nat.le_refl _) _).alloc (by simp) _
  have hz2 : W2.heap.size = w.heap.size + 2 := by rw [hW2]; simp
  rw [← hW2]
  have HG2 := Lib.hid hg2; have HK2 := Lib.hid hk2; have HBW := Lib.hid hbw; have HMK := Lib.hid hmk
  clear hW2 hg2 hk2 hbw hmk hsz1
  go_loopg [10] n (fun g1 vi wr => ∃ (k : Nat) (cs : Array Value), vi = .int .i64 k ∧ k ≤ n ∧ n - k ≤ g1 ∧ cs.size = n ∧ Hid (wr.heap[w.heap.size + 1]? = some (.cells cs 3 (0, 0))) ∧ Hid (∀ j, j < k → cs[j]? = some (.int .i64 (j : Nat))) ∧ Hid (Below (w.heap.size + 1) W2 wr))
  case atStart => exact ⟨0, _, rfl, Nat.zero_le _, Nat.le_refl _, hmcs, HG2.out, fun j hj => by omega, Below.refl _ _⟩
  case round =>
    obtain ⟨k, cs, rfl, hkn, hg1, hcs, HC, HJ, HB⟩ := hrel
    by_cases hlt : k < n
    · have hlt2 : (k : Int) < (n : Int) := by omega
      have hk0 : (0 : Int) ≤ (k : Int) := by omega
      have c0 : wr.cell? ⟨w.heap.size + 1, k, none⟩ = some (cs[k]'(by omega)) := (e_cell_block HC.out k).trans (by simp [hcs, hlt])
      have f0 : wr.frozen? ⟨w.heap.size + 1, k, none⟩ = false := frozen_row HC.out k
      go_wp2_with fail
      go_roundg (n - (k + 1))
      case measure => omega
      case rel =>
        have r1 : (wr.setCell ⟨w.heap.size + 1, k, none⟩ (.int .i64 (k : Nat))).heap[w.heap.size + 1]? = some (.cells (cs.setIfInBounds k (.int .i64 (k : Nat))) 3 (0, 0)) := by
          simp [World.setCell, Array.getElem?_modify, HC.out]
        have r2 : ∀ j, j < k + 1 → (cs.setIfInBounds k (.int .i64 (k : Nat)))[j]? = some (.int .i64 (j : Nat)) := by
          intro j hj
          rw [Array.getElem?_setIfInBounds]
          by_cases e : k = j
          · subst e; simp [hcs, hlt]
          · rw [if_neg e]; exact HJ.out j (by omega)
        exact ⟨k + 1, cs.setIfInBounds k (.int .i64 (k : Nat)), by go_num, hlt, Nat.le_refl _, by simpa using hcs, r1, r2, HB.out.setCell (p := ⟨w.heap.size + 1, k, none⟩) (Nat.le_refl _) _⟩
    · obtain rfl : k = n := by omega
      have hlt2 : ¬ (k : Int) < (k : Int) := by omega
      haveI : Inhabited (Fin k) := ⟨⟨0, h0⟩⟩
      obtain ⟨d, hd⟩ : ∃ d : Array (Fin k), d = Array.ofFn (fun i => i) := ⟨_, rfl⟩
      have hds : d.size = k := by rw [hd]; simp
      have hdi : ∀ (j : Nat) (h : j < k), d[j]! = ⟨j, h⟩ := fun j h => by rw [hd, getElem!_pos _ j (by simpa using h)]; simp
      have hH : Sort.Holds (fun x : Fin k => Value.int .i64 (x.val : Nat)) wr (w.heap.size + 1) 0 d := fun j hj => by
        rw [hds] at hj
        rw [hdi j hj, Nat.zero_add]
        exact ⟨(e_cell_block HC.out j).trans (HJ.out j hj), frozen_row HC.out j⟩
      have hzr := HB.out.size
      have R : Row1 (fun x : Fin k => Value.int .i64 (x.val : Nat)) wr (w.heap.size + 1) 0 d := ⟨fun _ => rfl, hH, by omega⟩
      have hb1 : ∀ p : Addr, p.block < w.heap.size → wr.cell? p = w.cell? p := fun p hp => (HB.out.cell (by omega)).trans (HBW.out.cell hp)
      have hkb : wr.cell? ⟨w.heap.size, 0, none⟩ = some (.slice (some ⟨b, off, none⟩) k c) := by
        rw [HB.out.cell (show w.heap.size < w.heap.size + 1 by omega), e_cell_block HK2.out]; rfl
      have hcmp : CmpLays1 Tryz.prog 39 #[.pointer (some ⟨w.heap.size, 0, none⟩)] (fun x : Fin k => Value.int .i64 (x.val : Nat)) (fun x y => scmp (ks.getD x.val ⟨#[]⟩) (ks.getD y.val ⟨#[]⟩)) (w.heap.size + 1) 0 d.size wr := fun m os dk hdk x y => by
        have hsw := sw_far (show SW (fun x : Fin k => Value.int .i64 (x.val : Nat)) wr (w.heap.size + 1) 0 dk _ from ⟨m, os, rfl⟩)
        have hcell : ∀ p : Addr, p.block ≤ w.heap.size → (sortWorld (fun x : Fin k => Value.int .i64 (x.val : Nat)) wr (w.heap.size + 1) 0 m dk os).cell? p = wr.cell? p := fun p hp => World.cell?_of_block (a := p) (hsw.2.2.2.2 p.block (by omega) (by omega))
        have hst : ∀ i (hi : i < k), (sortWorld (fun x : Fin k => Value.int .i64 (x.val : Nat)) wr (w.heap.size + 1) 0 m dk os).cell? ⟨b, off + i, none⟩ = some (.string (ks.getD i ⟨#[]⟩)) := fun i hi => by
          rw [hcell _ (by show b ≤ w.heap.size; omega), hb1 _ (by show b < w.heap.size; omega), HCL.out i (by have := HN.out; omega)]
          have : i < ks.length := by have := HN.out; omega
          simp [this]
        refine (less_two w.heap.size b off k c x.val y.val _ _ _ x.isLt y.isLt ((hcell _ (Nat.le_refl _)).trans hkb) (hst _ x.isLt) (hst _ y.isLt)).mono ?_
        rintro e w' ⟨rfl, rfl⟩
        exact ⟨rfl, 1, #[], by rw [Sort.grow_empty]; rfl⟩
      have hcl : ∀ x y : Fin k, x.val < y.val → (scmp (ks.getD y.val ⟨#[]⟩) (ks.getD x.val ⟨#[]⟩) < 0 ↔ placeLt ks y.val x.val = true) := fun x y hxy => by
        rw [placeLt_iff]
        constructor
        · intro h
          rcases scmp_ordered.cases (ks.getD y.val ⟨#[]⟩) (ks.getD x.val ⟨#[]⟩) trivial trivial with c1 | c1 | c1 <;> omega
        · rintro (h | ⟨_, h⟩) <;> omega
      have hS : Sort.SWO (fun x y : Fin k => placeLt ks x.val y.val) := ⟨fun x => (placeLt_swo ks).irrefl x.val, fun x y z => (placeLt_swo ks).trans x.val y.val z.val, fun x y z => (placeLt_swo ks).ntrans x.val y.val z.val⟩
      have hcall := sortStable_any (T := fun x y : Fin k => placeLt ks x.val y.val) (L := fun x y : Fin k => x.val < y.val) (cf := fun x y : Fin k => scmp (ks.getD x.val ⟨#[]⟩) (ks.getD y.val ⟨#[]⟩)) hS hcl (fun x : Fin k => Value.int .i64 (x.val : Nat)) 39 #[.pointer (some ⟨w.heap.size, 0, none⟩)] (w.heap.size + 1) 0 k d wr (enters_of Tryz.func39 (by kernel_rfl) rfl) hcmp R (by omega) fun i j hij hj => by
        rw [hds] at hj
        rw [hdi i (by omega), hdi j hj]; exact hij
      rw [hds] at hcall
      have HCALL := Lib.hid hcall
      have hfin : ∀ (d' : Array (Fin k)), Sort.PermIn 0 k d d' → Sort.SortedIn (fun x y : Fin k => placeLt ks x.val y.val) 0 k d' → ∀ (i : Nat) (h : i < k), (d'[i]!).val = (orderOf ks).getD i 0 := fun d' hp hso i hi => by
        have h := Sort.sorted_unique_holds hS (fun x y h1 h2 => by
          rcases placeLt_total h1 with e | e
          · exact Fin.ext e
          · rw [h2] at e; cases e) d d' (Eq.subst (motive := fun m => Sort.PermIn 0 m d d') hds.symm hp) (Eq.subst (motive := fun m => Sort.SortedIn (fun x y : Fin k => placeLt ks x.val y.val) 0 m d') hds.symm hso)
        have hsz : d'.size = k := hp.1.trans hds
        have e1 : d'[i]! = d'.toList[i]'(by rw [Array.length_toList, hsz]; exact hi) := by rw [getElem!_pos d' i (by omega)]; simp
        have hN := HN.out
        subst hN
        have e2 : orderOf ks = d'.toList.map (·.val) := by
          unfold orderOf
          rw [h, hd]
          simp
        rw [e2, e1, getD_nat (by rw [List.length_map, Array.length_toList, hsz]; exact hi)]
        simp
      have HFIN := Lib.hid hfin
      have hds' := Lib.hid hds; have HR := Lib.hid R
      clear hcall hfin hcmp hcl hS R hH hkb hb1 hdi hd hds
      go_wp2_with fail
      refine HCALL.out.mono ?_
      rintro e w3 ⟨rfl, d', hs', S', hp', ho'⟩
      have hho := S'.holds HR.out.hblk HR.out.hH hs'
      have hcells : ∀ i, i < k → w3.cell? ⟨w.heap.size + 1, i, none⟩ = some (.int .i64 ((orderOf ks).getD i 0 : Nat)) := fun i hi => by
        have h := (hho i (by rw [hs', hds'.out]; exact hi)).1
        rw [Nat.zero_add] at h
        rw [h]
        show some (Value.int .i64 ((d'[i]!).val : Nat)) = _
        rw [HFIN.out d' hp' ho' i hi]
      have hbel : Below w.heap.size w w3 := by
        obtain ⟨h1, h2, h3, h4, h5⟩ := sw_far S'
        exact HBW.out.trans ((HB.out.mono (by omega)).trans ⟨h1, h2, h3, h4, fun q hq => h5 q (by omega) (by omega)⟩)
      have hgl : w.heap.size + 1 < w3.heap.size := by have := (sw_far S').2.2.2.1; omega
      have K := Lib.hid (And.intro hcells hbel)
      clear hcells hbel S' hp' ho' hho hs'
      go_wp2_with fail
      go_ret
      exact ⟨w.heap.size + 1, rfl, by omega, hgl, K.out.1, K.out.2⟩
set_option maxRecDepth 100000 in
theorem insertion_none (v : Value) (A : Option Addr) (c : Nat) (w : World) : Calls Tryz.prog 68 #[.slice A 0 c, .int .i64 0, .int .i64 0, v] w (fun e w' => e = .returned (.tuple #[]) ∧ w' = w) := by
  go_enter Tryz.func68, Tryz.ntmps68
  go_wp2_with fail
  refine wp_loop_rounds 1 ?_
  rw [rounds_succ]
  go_wp2_with fail
  go_end0
  exact ⟨rfl, rfl⟩
set_option maxRecDepth 100000 in
theorem stable_none (v : Value) (A : Option Addr) (c : Nat) (w : World) : Calls Tryz.prog 54 #[.slice A 0 c, .int .i64 0, v] w (fun e w' => e = .returned (.tuple #[]) ∧ w' = w) := by
  go_enter Tryz.func54, Tryz.ntmps54
  go_wp2_with fail
  refine wp_loop_rounds 1 ?_
  rw [rounds_succ]
  go_wp2_with fail
  refine (insertion_none v A c w).mono ?_
  rintro e w' ⟨rfl, rfl⟩
  go_wp2_with fail
  refine wp_loop_rounds 1 ?_
  rw [rounds_succ]
  go_wp2_with fail
  go_end0
  exact ⟨rfl, rfl⟩
set_option maxRecDepth 100000 in
theorem sortStable_none (v : Value) (A : Option Addr) (c : Nat) (w : World) : Calls Tryz.prog 38 #[.slice A 0 c, v] w (fun e w' => e = .returned (.tuple #[]) ∧ w' = w) := by
  go_enter Tryz.func38, Tryz.ntmps38
  go_wp2_with fail
  refine (stable_none v A c w).mono ?_
  rintro e w' ⟨rfl, rfl⟩
  go_wp2_with fail
  go_end0
  exact ⟨rfl, rfl⟩
set_option maxRecDepth 100000 in
theorem rising_none (A : Option Addr) (c : Nat) (w : World) :
    Calls Tryz.prog 27 #[.slice A 0 c] w (fun e w' => ∃ g, e = .returned (.slice (some ⟨g, 0, none⟩) 0 0) ∧ w.heap.size ≤ g ∧ g < w'.heap.size ∧ Below w.heap.size w w') := by
  have hmk : ∀ w, (Instr.makeSlice 48 (.int .i64 0) (.int .i64 0)).run Tryz.prog w = .ok (.slice (some ⟨w.heap.size, 0, none⟩) 0 0) (w.alloc (.cells #[] 3)) := fun _ => by kernel_rfl
  have hb := ((Below.refl w.heap.size w).alloc (Nat.le_refl _) (.cells #[.slice A 0 c] 22)).alloc (by simp) (.cells #[] 3)
  have HB := Lib.hid hb
  clear hb
  go_enter Tryz.func27, Tryz.ntmps27
  go_wp2_with fail
  refine wp_loop_rounds 1 ?_
  rw [rounds_succ]
  go_wp2_with fail
  refine (sortStable_none _ _ _ _).mono ?_
  rintro e w' ⟨rfl, rfl⟩
  go_wp2_with fail
  go_ret
  exact ⟨w.heap.size + 1, rfl, by omega, by simp, HB.out⟩
/-- doc.rising of up to 39 keys. -/
theorem rising_any {ks : List ByteArray} {A : Option Addr} {c : Nat} {w : World} {B : Nat} (hs : Strs w B (.slice A ks.length c) ks) (hB : B ≤ w.heap.size) (hn : ks.length ≤ 39) :
    Calls Tryz.prog 27 #[.slice A ks.length c] w (fun e w' => ∃ g, e = .returned (.slice (some ⟨g, 0, none⟩) ks.length ks.length) ∧ w.heap.size ≤ g ∧ g < w'.heap.size ∧ (∀ i < ks.length, w'.cell? ⟨g, i, none⟩ = some (.int .i64 ((orderOf ks).getD i 0 : Nat))) ∧ Below w.heap.size w w') := by
  rcases Nat.eq_zero_or_pos ks.length with h0 | h0
  · rw [h0]
    refine (rising_none A c w).mono ?_
    rintro e w' ⟨g, h1, h2, h3, h4⟩
    exact ⟨g, h1, h2, h3, fun i hi => by omega, h4⟩
  · exact rising_some hs hB h0 hn
/-- doc.Rec of as many keys as kids: the rising record of the last kid of each key. -/
theorem recAll_any (ks : List ByteArray) (l : List D) (v u : Value) (w : World) (B : Nat) (hlen : l.length = ks.length) (hn : ks.length ≤ 39) (hf : D.Fits l) (hB : B ≤ w.heap.size) (hs : Strs w B v ks) (hv : KidsV w B l u) :
    Calls Tryz.prog 8 #[v, u] w (MadeDoc w.heap.size w (.mk 1 0 ⟨#[]⟩ ((insAll [] (ks.zip l)).map (·.1)) ((insAll [] (ks.zip l)).map (·.2)))) := by
  obtain ⟨A, c, e, h⟩ := hs
  subst e
  have h1 := rec_of ks l (orderOf ks) A c u w B hlen (by omega) hf hB ⟨A, c, rfl, h⟩ hv (orderOf_len ks) (orderOf_lt ks) fun w1 hb => rising_any (B := B) (Strs.keep (fun p hp => hb.cell (by omega)) ⟨A, c, rfl, h⟩) (Nat.le_trans hB hb.size) hn
  have e := kept_ins (orderOf_sorted ks) hlen
  have e1 : (insAll [] (ks.zip l)).map (·.1) = recKeys ks (recKept ks (orderOf ks) ks.length) := by rw [← e, List.map_map]; rfl
  have e2 : (insAll [] (ks.zip l)).map (·.2) = recKids l (recKept ks (orderOf ks) ks.length) := by rw [← e, List.map_map]; rfl
  rw [e1, e2]
  exact h1
end Go.Proofs.YtdcempejdggkpaaGreatDoor
namespace Go.Proofs.YtdcempejdggkpaaGreatDoor
open Go.RowKit

def recD (ps : List Pair) : D := .mk 1 0 ⟨#[]⟩ (ps.map (·.1)) (ps.map (·.2))
/-- The record that grows in the variable behind the result's. -/
structure RAcc (w wr : World) (acc : D) (v3 v4 : Value) : Prop where
  bx : Box5 wr (w.heap.size + 1) (.int .i64 acc.kind) (.int .i64 acc.num) (.string acc.str) v3 v4
  rs : Box5 wr w.heap.size (.int .i64 0) (.int .i64 0) (.string ⟨#[]⟩) (.slice none 0 0) (.slice none 0 0)
  ds : DocS wr (fun q => q < w.heap.size ∨ (w.heap.size + 2 ≤ q ∧ q < wr.heap.size)) acc (.int .i64 acc.kind) (.int .i64 acc.num) (.string acc.str) v3 v4
  bl : Below w.heap.size w wr
  le : w.heap.size + 2 ≤ wr.heap.size
theorem RAcc.next {w wr w' : World} {acc : D} {v3 v4 : Value} (h : RAcc w wr acc v3 v4) (hb : Below wr.heap.size wr w') : RAcc w w' acc v3 v4 := by
  have hz := hb.size
  have hl := h.le
  refine ⟨h.bx.same (hb.block _ (by omega)), h.rs.same (hb.block _ (by omega)), h.ds.keep (fun q hq => ?_) fun p hp => hb.cell (by omega), h.bl.trans (hb.mono (by omega)), by omega⟩
  rcases hq with hq | hq
  · exact .inl hq
  · exact .inr ⟨hq.1, by omega⟩
theorem below_drew (w : World) : Below w.heap.size w w.drew := (Below.refl _ _).drew
theorem RAcc.drewN {w wr : World} {acc : D} {v3 v4 : Value} (h : RAcc w wr acc v3 v4) (m : Nat) : RAcc w (wr.drewN m) acc v3 v4 := h.next (below_drewN _ m)
theorem RAcc.store {w X w5 : World} {acc res : D} {v3 v4 y0 y1 y2 y3 y4 : Value} (h : RAcc w X acc v3 v4) (hb : Below X.heap.size X w5)
    (hd : DocS w5 (fun q => (q < w.heap.size ∨ (w.heap.size + 2 ≤ q ∧ q < X.heap.size)) ∨ (X.heap.size + 4 ≤ q ∧ q < w5.heap.size)) res y0 y1 y2 y3 y4) :
    RAcc w (((((w5.setCell ⟨w.heap.size + 1, 0, none⟩ y0).setCell ⟨w.heap.size + 1, 1, none⟩ y1).setCell ⟨w.heap.size + 1, 2, none⟩ y2).setCell ⟨w.heap.size + 1, 3, none⟩ y3).setCell ⟨w.heap.size + 1, 4, none⟩ y4) res y3 y4 := by
  have h5 := h.next hb
  have hz := hb.size
  have hl := h.le
  have hf : ∀ q, q ≠ w.heap.size + 1 → (((((w5.setCell ⟨w.heap.size + 1, 0, none⟩ y0).setCell ⟨w.heap.size + 1, 1, none⟩ y1).setCell ⟨w.heap.size + 1, 2, none⟩ y2).setCell ⟨w.heap.size + 1, 3, none⟩ y3).setCell ⟨w.heap.size + 1, 4, none⟩ y4).heap[q]? = w5.heap[q]? := fun q hq => by
    rw [Below.heap_setCell _ _ _ q hq, Below.heap_setCell _ _ _ q hq, Below.heap_setCell _ _ _ q hq, Below.heap_setCell _ _ _ q hq, Below.heap_setCell _ _ _ q hq]
  have hs : (((((w5.setCell ⟨w.heap.size + 1, 0, none⟩ y0).setCell ⟨w.heap.size + 1, 1, none⟩ y1).setCell ⟨w.heap.size + 1, 2, none⟩ y2).setCell ⟨w.heap.size + 1, 3, none⟩ y3).setCell ⟨w.heap.size + 1, 4, none⟩ y4).heap.size = w5.heap.size := by simp [World.setCell]
  obtain ⟨A3, e3, A4, e4, f0, f1, f2, f3, f4⟩ := hd.forms
  have hbx := ((((h5.bx.set0 y0).set1 y1).set2 y2).set3 y3).set4 y4
  rw [f0, f1, f2] at hbx hd hf hs ⊢
  refine ⟨hbx, h5.rs.same (hf _ (by omega)), hd.keep (fun q hq => ?_) fun p hp => World.cell?_of_block (hf p.block ?_), ?_, by omega⟩
  · rw [hs]
    rcases hq with (hq | hq) | hq
    · exact .inl hq
    · exact .inr ⟨hq.1, by omega⟩
    · exact .inr ⟨by omega, hq.2⟩
  · rcases hp with (hq | hq) | hq <;> omega
  · exact ((((h5.bl.setCell (by show w.heap.size ≤ w.heap.size + 1; omega) _).setCell (by show w.heap.size ≤ w.heap.size + 1; omega) _).setCell (by show w.heap.size ≤ w.heap.size + 1; omega) _).setCell (by show w.heap.size ≤ w.heap.size + 1; omega) _).setCell (by show w.heap.size ≤ w.heap.size + 1; omega) _
theorem lead_eq {s : ByteArray} : ∀ {xs : List ByteArray} {k : Nat}, k ≤ xs.length → (∀ j (h : j < xs.length), j < k → scmp xs[j] s = -1) → (∀ h : k < xs.length, scmp xs[k] s ≠ -1) → lead s xs = k
  | [], k, hk, _, _ => by simp at hk; subst hk; rfl
  | x :: r, 0, _, _, h => by
    have := h (by simp)
    unfold lead
    rw [if_neg (by simpa using this)]
  | x :: r, k + 1, hk, h1, h2 => by
    have h0 := h1 0 (by simp) (by omega)
    unfold lead
    rw [if_pos (by simpa using h0), lead_eq (by simpa using hk) (fun j hj hjk => by have := h1 (j + 1) (by simp; omega) (by omega); rwa [List.getElem_cons_succ] at this) fun h => by have := h2 (by simp; omega); rwa [List.getElem_cons_succ] at this]
theorem insAll_snoc : ∀ (l : List Pair) (acc : List Pair) (p : Pair), insAll acc (l ++ [p]) = ins p.1 p.2 (insAll acc l)
  | [], acc, p => rfl
  | q :: r, acc, p => by show insAll (ins q.1 q.2 acc) (r ++ [p]) = _; rw [insAll_snoc r]; rfl
theorem insAll_len : ∀ (l : List Pair) (acc : List Pair), (insAll acc l).length ≤ acc.length + l.length
  | [], acc => by simp [insAll]
  | q :: r, acc => by
    have h1 := insAll_len r (ins q.1 q.2 acc)
    have h2 := ins_len (s := q.1) (x := q.2) acc
    show (insAll (ins q.1 q.2 acc) r).length ≤ _
    simp only [List.length_cons]; omega
set_option maxHeartbeats 8000000 in
set_option maxRecDepth 100000 in
theorem rrec_any (ks : List ByteArray) (l : List D) (v u : Value) (w : World) (B : Nat) (hlen : l.length = ks.length) (hn : ks.length ≤ 39) (hB : B ≤ w.heap.size) (hs : Strs w B v ks) (hv : KidsV w B l u) :
    Calls Tryz.prog 9 #[v, u] w (fun e w' => ∃ z, e = .returned z ∧ DocV w' w'.heap.size (recD (insAll [] (ks.zip l))) z ∧ Below w.heap.size w w') := by
  have HSK := Lib.hid hs; have HVK := Lib.hid hv
  obtain ⟨A, c, rfl, hc, hkc⟩ := hs
  obtain ⟨A', c', rfl, hc', hlc⟩ := hv
  have HKC := Lib.hid hkc; have HLC := Lib.hid hlc
  clear hkc hlc
  obtain ⟨n, hn'⟩ : ∃ n, n = ks.length := ⟨_, rfl⟩
  have HN := Lib.hid hn'
  rw [hlen, ← hn']
  have hzl : (ks.zip l).length = n := by simp [hlen, hn']
  have HZL := Lib.hid hzl; have HLEN := Lib.hid hlen
  rw [← hn'] at hn
  clear hn' hlen hc hc' hzl
  obtain ⟨W2, hW2⟩ : ∃ W2, W2 = (w.alloc (.cells #[.int .i64 0, .int .i64 0, .string ⟨#[]⟩, .slice none 0 0, .slice none 0 0] 27)).alloc (.cells #[.int .i64 1, .int .i64 0, .string ⟨#[]⟩, .slice none 0 0, .slice none 0 0] 27) := ⟨_, rfl⟩
  have hst : RAcc w W2 (recD (insAll [] ((ks.zip l).take 0))) (.slice none 0 0) (.slice none 0 0) := by
    rw [hW2]
    refine ⟨Box5.new' (by simp) _ _ _ _ _, (Box5.new w _ _ _ _ _).alloc _, ?_, ((Below.refl _ _).alloc (Nat.le_refl _) _).alloc (by simp) _, by simp⟩
    simp only [recD, List.take_zero, insAll, List.map_nil, DocS, D.kind, D.num, D.str]
    exact ⟨trivial, trivial, trivial, ⟨none, 0, rfl, Nat.le_refl _, fun h => absurd h (by simp)⟩, ⟨none, 0, rfl, Nat.le_refl _, fun h => absurd h (by simp)⟩⟩
  have ST2 := Lib.hid hst; have HW2 := Lib.hid hW2
  clear hst hW2
  have hne : ((n : Int) != (n : Int)) = false := by simp
  go_enter Tryz.func9, Tryz.ntmps9
  go_wp2_with fail
  rw [← HW2.out]
  go_loopw [6] (fun i wr => ∃ (k : Nat) (v3 v4 : Value), k ≤ n ∧ i = .int .i64 k ∧ RAcc w wr (recD (insAll [] ((ks.zip l).take k))) v3 v4) (fun i _ => n - (intOf i).toNat)
  case atStart => exact ⟨0, _, _, Nat.zero_le _, rfl, ST2.out⟩
  case round =>
    obtain ⟨i, v3, v4, hin, rfl, hst⟩ := hrel
    obtain ⟨wo, hwo⟩ : ∃ wo, wo = wr := ⟨_, rfl⟩
    subst hwo
    have ST := Lib.hid hst
    have hrise : RisingP (insAll [] ((ks.zip l).take i)) := (insAll_spec (l := (ks.zip l).take i) (acc := []) (by simp [RisingP])).1
    have hplen : (insAll [] ((ks.zip l).take i)).length ≤ 39 := by
      have h1 := insAll_len ((ks.zip l).take i) []
      have h2 : ((ks.zip l).take i).length ≤ n := by rw [List.length_take, HZL.out]; omega
      simp only [List.length_nil] at h1; omega
    obtain ⟨ps, hps⟩ : ∃ ps, ps = insAll [] ((ks.zip l).take i) := ⟨_, rfl⟩
    rw [← hps] at hst hrise hplen
    have HPS := Lib.hid hps
    have HRISE := Lib.hid hrise
    have STP := Lib.hid hst
    obtain ⟨B3, e3, B4, e4, _, _, _, f3, f4⟩ := hst.ds.forms
    subst f3 f4
    have hle := hst.le
    clear hst hps ST hrise
    by_cases hlt : i < n
    · have hik0 : (0 : Int) ≤ (i : Int) := by omega
      have hik : (i : Int) < (n : Int) := by omega
      have hks : i < ks.length := by have := HN.out; omega
      have hls : i < l.length := by have := HN.out; have := HLEN.out; omega
      obtain ⟨b, off, rfl, hb, hcx⟩ := HKC.out (by omega)
      obtain ⟨b', off', rfl, hb', hkx⟩ := HLC.out (by omega)
      have HCX := Lib.hid (hcx i hks)
      obtain ⟨u0, u1, u2, u3, u4, g0, g1, g2, g3, g4, hdk⟩ := KidsIn.at_ hkx i hls
      rw [Nat.zero_add] at g0 g1 g2 g3 g4
      obtain ⟨X3, x3, X4, x4, rfl, rfl, rfl, rfl, rfl⟩ := hdk.forms
      have HG := Lib.hid (And.intro g0 (And.intro g1 (And.intro g2 (And.intro g3 g4))))
      have HDK := Lib.hid hdk
      obtain ⟨s, hs'⟩ : ∃ s, s = ks[i] := ⟨_, rfl⟩
      obtain ⟨x, hx'⟩ : ∃ x, x = l[i] := ⟨_, rfl⟩
      have HSX : Hid (insAll [] ((ks.zip l).take (i + 1)) = ins s x ps) := Lib.hid (by
        rw [List.take_succ_eq_append_getElem (by rw [HZL.out]; exact hlt), insAll_snoc, HPS.out, hs', hx', List.getElem_zip])
      have HS2 := Lib.hid hs'; have HX2 := Lib.hid hx'
      clear hcx hkx g0 g1 g2 g3 g4 hdk hs' hx'
      -- region 7: the place of the key
      have cB : ∀ (W : World), Below wo.heap.size wo W → ∀ p : Addr, p.block < w.heap.size → W.cell? p = w.cell? p := fun W hW p hp => (hW.cell (by omega)).trans (STP.out.bl.cell hp)
      have CB := Lib.hid cB
      clear cB
      obtain ⟨q0, q1, q2, q3, q4⟩ := STP.out.bx.cells
      have sK : wo.cell? ⟨b, off + i, none⟩ = some (.string s) := by rw [CB.out wo (Below.refl _ _) _ (by show b < w.heap.size; omega), HCX.out, HS2.out]
      obtain ⟨acc, hacc⟩ : ∃ acc, acc = recD ps := ⟨_, rfl⟩
      rw [← hacc] at q0 q1 q2 q3 q4 STP
      have hak : acc.kind = 1 := by rw [hacc]; rfl
      have hkl : acc.keys.length = ps.length := by rw [hacc]; simp [recD, D.keys]
      have hkl2 : acc.kids.length = ps.length := by rw [hacc]; simp [recD, D.kids]
      have hkeys : acc.keys = ps.map (·.1) := by rw [hacc]; rfl
      have hkids : acc.kids = ps.map (·.2) := by rw [hacc]; rfl
      have hat : acc = .mk acc.kind acc.num acc.str acc.keys acc.kids := by rw [hacc]; rfl
      have hk39 : acc.keys.length ≤ 39 := by omega
      have hl39 : acc.kids.length ≤ 39 := by omega
      have hll : acc.keys.length = acc.kids.length := by omega
      have HFND := Lib.hid (rfind_rec (d := acc) (s := s) (w := wo.drew) (B := wo.heap.size) hak hll (Nat.le_refl _) ⟨_, _, _, _, _, rfl, DocIn.keep (w := wo) (w' := wo.drew) (Nat.le_refl _) (fun _ _ => rfl) (STP.out.ds.toIn (B := wo.heap.size) fun q hq => by omega)⟩ (by omega))
      obtain ⟨m, hm⟩ : ∃ m, m = acc.keys.length := ⟨_, rfl⟩
      have HM := Lib.hid hm; have HKEYS := Lib.hid hkeys; have HKIDS := Lib.hid hkids; have HACC := Lib.hid hacc; have HAK := Lib.hid hak; have HLL := Lib.hid hll; have HKL := Lib.hid hkl
      have hm39 : m ≤ 39 := by omega
      clear hm hkeys hkids hacc hak hll hkl hkl2 hat
      go_wp2_with fail
      refine wp_region_still_tail 5 (by kernel_rfl) (by kernel_rfl) ?_
      change wpStill _ _ (World.drew wo) (fun a' => wpList _ _ _ _ a' (World.drew wo)) _ _
      simp only [List.take_succ_cons, List.take_zero, List.drop_succ_cons, List.drop_zero]
      repeat still_step
      refine wpStill_nil ?_
      go_wp2_with fail
      refine HFND.out.mono ?_
      rintro e w4 ⟨rfl, hb4⟩
      have hb4' : Below wo.heap.size wo w4 := (below_drew wo).trans hb4
      have HB4 := Lib.hid hb4'
      have hz4 := hb4'.size
      have ST4 := Lib.hid (STP.out.next hb4')
      clear hb4 hb4' q0 q1 q2 q3 q4 sK HFND
      have hrg := idxOfS_range acc.keys s
      rcases Int.lt_or_le (Lib.idxOfS acc.keys s) 0 with hneg | hpos
      · have hng : decide (Lib.idxOfS acc.keys s ≥ 0) = false := by simp; omega
        have hng2 : ¬ (0 : Int) ≤ Lib.idxOfS acc.keys s := by omega
        obtain ⟨ix, hix⟩ : ∃ ix, ix = Lib.idxOfS acc.keys s := ⟨_, rfl⟩
        rw [← hix] at hneg hng hng2 ⊢
        have HIX := Lib.hid hix
        have HNEG := Lib.hid hneg
        clear hix hrg hneg
        go_wp2_with fail
        go_loopw [7] (fun j wx => ∃ k : Nat, k ≤ acc.keys.length ∧ j = .int .i64 k ∧ Hid (∀ j (h : j < acc.keys.length), j < k → scmp acc.keys[j] s = -1) ∧ Hid (Below wo.heap.size wo wx) ∧ Hid (RAcc w wx acc (.slice B3 acc.keys.length e3) (.slice B4 acc.kids.length e4))) (fun j _ => acc.keys.length - (intOf j).toNat)
        case atStart => exact ⟨0, Nat.zero_le _, rfl, fun j h hj => by omega, HB4.out, ST4.out⟩
        case round =>
          obtain ⟨wx, hwx⟩ : ∃ wx, wx = wr := ⟨_, rfl⟩
          subst hwx
          obtain ⟨k, hkl, rfl, HALL, HBX, STX⟩ := hrel
          have hk0 : (0 : Int) ≤ (k : Int) := by omega
          have stop : (∀ h : k < acc.keys.length, scmp acc.keys[k] s ≠ -1) → lead s acc.keys = k := fun h => lead_eq hkl HALL.out h
          have STOP := Lib.hid stop
          clear stop
          have hzx := HBX.out.size
          obtain ⟨q0, q1, q2, q3, q4⟩ := STX.out.bx.cells
          have sK : wx.cell? ⟨b, off + i, none⟩ = some (.string s) := by rw [CB.out wx HBX.out _ (by show b < w.heap.size; omega), HCX.out, HS2.out]
          by_cases hkm : k < acc.keys.length
          · have hk1 : (k : Int) < (acc.keys.length : Int) := by omega
            obtain ⟨AK, cK, eK, _, hcK⟩ := STX.out.ds.keys_
            injection eK with eK1 _ eK3
            subst eK1
            obtain ⟨bk, offk, rfl, hbk, hck⟩ := hcK (by omega)
            have hkk := hck k hkm
            obtain ⟨y, hy⟩ : ∃ y, y = acc.keys[k] := ⟨_, rfl⟩
            rw [← hy] at hkk
            have HY := Lib.hid hy
            clear hcK hck hy eK3
            by_cases hl : scmp y s = -1
            · have hless := scmp_lt hl
              have HL := Lib.hid (HY.out ▸ hl : scmp acc.keys[k] s = -1)
              clear hl
              go_wp2_with fail
              go_quiet (fail)
              go_wp2_with fail
              clear q0 q1 q2 q3 q4 sK hkk
              go_roundw
              case rel => exact ⟨k + 1, hkm, by go_num, fun j h hj => by
                rcases Nat.lt_or_ge j k with h1 | h1
                · exact HALL.out j h h1
                · obtain rfl : j = k := by omega
                  exact HL.out, HBX.out.trans ((below_drewN wx _).mono hzx), STX.out.drewN _⟩
              case measure => simp [intOf]; omega
            · have hless := scmp_nlt hl
              have HLD := Lib.hid (STOP.out fun h => by rw [← HY.out]; exact hl)
              clear hl
              go_wp2_with fail
              go_quiet (fail)
              clear q0 q1 q2 q3 q4 sK hkk hless
              obtain ⟨wy, hwy⟩ : ∃ wy, wy = wx.drewN nq := ⟨_, rfl⟩
              have HBY : Hid (Below wo.heap.size wo wy) := by rw [hwy]; exact HBX.out.trans ((below_drewN wx _).mono hzx)
              have STY : Hid (RAcc w wy acc (.slice (some ⟨bk, offk, none⟩) acc.keys.length e3) (.slice B4 acc.kids.length e4)) := by rw [hwy]; exact STX.out.drewN _
              have hzy := HBY.out.size
              rw [← hwy]
              clear hwy
              go_wp2_with fail
              obtain ⟨q0, q1, q2, q3, q4⟩ := STY.out.bx.cells
              have sK : wy.cell? ⟨b, off + i, none⟩ = some (.string s) := by rw [CB.out wy HBY.out _ (by show b < w.heap.size; omega), HCX.out, HS2.out]
              have HGX : Hid (wy.cell? ⟨b', off' + i * 5, none⟩ = some (.int .i64 x.kind) ∧ wy.cell? ⟨b', off' + i * 5 + 1, none⟩ = some (.int .i64 x.num) ∧ wy.cell? ⟨b', off' + i * 5 + 2, none⟩ = some (.string x.str) ∧ wy.cell? ⟨b', off' + i * 5 + 3, none⟩ = some (.slice X3 x.keys.length x3) ∧ wy.cell? ⟨b', off' + i * 5 + 4, none⟩ = some (.slice X4 x.kids.length x4)) := by
                rw [CB.out wy HBY.out _ (by show b' < w.heap.size; omega), CB.out wy HBY.out _ (by show b' < w.heap.size; omega), CB.out wy HBY.out _ (by show b' < w.heap.size; omega), CB.out wy HBY.out _ (by show b' < w.heap.size; omega), CB.out wy HBY.out _ (by show b' < w.heap.size; omega), HX2.out]
                exact HG.out
              obtain ⟨g0, g1, g2, g3, g4⟩ := HGX.out
              have HXV : Hid (DocSV wy.drew (fun q => q < w.heap.size ∨ (w.heap.size + 2 ≤ q ∧ q < wy.heap.size)) x (.agg #[.int .i64 x.kind, .int .i64 x.num, .string x.str, .slice X3 x.keys.length x3, .slice X4 x.kids.length x4])) := by
                refine ⟨_, _, _, _, _, rfl, ?_⟩
                rw [HX2.out]
                exact DocS.keep (w' := wy.drew) (S' := fun q => q < w.heap.size ∨ (w.heap.size + 2 ≤ q ∧ q < wy.heap.size)) (fun q hq => .inl (by omega)) (fun p hp => CB.out wy HBY.out p (by omega)) HDK.out.toS
              have HAV : Hid (DocSV wy.drew (fun q => q < w.heap.size ∨ (w.heap.size + 2 ≤ q ∧ q < wy.heap.size)) acc (.agg #[.int .i64 acc.kind, .int .i64 acc.num, .string acc.str, .slice (some ⟨bk, offk, none⟩) acc.keys.length e3, .slice B4 acc.kids.length e4])) := ⟨_, _, _, _, _, rfl, DocS.keep (w := wy) (w' := wy.drew) (fun _ h => h) (fun _ _ => rfl) STY.out.ds⟩
              have HWI := Lib.hid (with_any (k := k) (b := k) (mo := true) (s := s) (w := wy.drew) (by rw [HAK.out]; decide) (by simp) (by omega) (by omega) (by have := HLL.out; omega) (by have := HLL.out; omega) (by omega) (by omega) (fun q hq => by show q < wy.heap.size; have := STY.out.le; omega) HAV.out HXV.out)
              go_wp2_with fail
              refine wp_region_still_tail 10 (by kernel_rfl) (by kernel_rfl) ?_
              change wpStill _ _ (World.drew wy) (fun a' => wpList _ _ _ _ a' (World.drew wy)) _ _
              simp only [List.take_succ_cons, List.take_zero, List.drop_succ_cons, List.drop_zero]
              repeat still_step
              refine wpStill_nil ?_
              go_wp2_with fail
              refine HWI.out.mono ?_
              rintro e w5 ⟨z, rfl, ⟨y0, y1, y2, y3, y4, rfl, hdz⟩, hb5⟩
              obtain ⟨res, hres⟩ : ∃ res, res = D.mk acc.kind acc.num acc.str (acc.keys.take k ++ s :: acc.keys.drop (k)) (acc.kids.take k ++ x :: acc.kids.drop (k)) := ⟨_, rfl⟩
              rw [← hres] at hdz
              have HRES := Lib.hid hres
              have HST6 := Lib.hid ((STY.out.next (below_drew wy)).store hb5 hdz)
              have hs5 := STY.out.next ((below_drew wy).trans hb5)
              obtain ⟨Y3, ye3, Y4, ye4, rfl, rfl, rfl, rfl, rfl⟩ := hdz.forms
              clear q0 q1 q2 q3 q4 sK g0 g1 g2 g3 g4 hdz hb5 hres
              obtain ⟨q0, q1, q2, q3, q4⟩ := hs5.bx.cells
              have q5 := hs5.bx.frozen
              clear hs5
              go_wp2_with fail
              clear q0 q1 q2 q3 q4 q5
              go_roundw
              case rel =>
                refine ⟨i + 1, .slice Y3 res.keys.length ye3, .slice Y4 res.kids.length ye4, by omega, by go_num, ?_⟩
                have e : recD (ins s x ps) = res := by
                  rw [HRES.out]
                  have h1 := ins_miss (s := s) (x := x) HRISE.out (by rw [← HKEYS.out, ← HIX.out]; exact HNEG.out)
                  rw [← HKEYS.out, HLD.out] at h1
                  rw [h1, HKEYS.out, HKIDS.out, HACC.out]
                  simp [recD, List.map_take, List.map_drop, D.kind, D.num, D.str]
                rw [HSX.out, e]
                exact HST6.out
              case measure => simp [intOf]; omega
          · have hk1 : ¬ (k : Int) < (acc.keys.length : Int) := by omega
            have HLD := Lib.hid (STOP.out fun h => absurd h hkm)
            go_wp2_with fail
            go_quiet (fail)
            clear q0 q1 q2 q3 q4 sK
            obtain ⟨wy, hwy⟩ : ∃ wy, wy = wx.drewN nq := ⟨_, rfl⟩
            have HBY : Hid (Below wo.heap.size wo wy) := by rw [hwy]; exact HBX.out.trans ((below_drewN wx _).mono hzx)
            have STY : Hid (RAcc w wy acc (.slice B3 acc.keys.length e3) (.slice B4 acc.kids.length e4)) := by rw [hwy]; exact STX.out.drewN _
            have hzy := HBY.out.size
            rw [← hwy]
            clear hwy
            go_wp2_with fail
            obtain ⟨q0, q1, q2, q3, q4⟩ := STY.out.bx.cells
            have sK : wy.cell? ⟨b, off + i, none⟩ = some (.string s) := by rw [CB.out wy HBY.out _ (by show b < w.heap.size; omega), HCX.out, HS2.out]
            have HGX : Hid (wy.cell? ⟨b', off' + i * 5, none⟩ = some (.int .i64 x.kind) ∧ wy.cell? ⟨b', off' + i * 5 + 1, none⟩ = some (.int .i64 x.num) ∧ wy.cell? ⟨b', off' + i * 5 + 2, none⟩ = some (.string x.str) ∧ wy.cell? ⟨b', off' + i * 5 + 3, none⟩ = some (.slice X3 x.keys.length x3) ∧ wy.cell? ⟨b', off' + i * 5 + 4, none⟩ = some (.slice X4 x.kids.length x4)) := by
              rw [CB.out wy HBY.out _ (by show b' < w.heap.size; omega), CB.out wy HBY.out _ (by show b' < w.heap.size; omega), CB.out wy HBY.out _ (by show b' < w.heap.size; omega), CB.out wy HBY.out _ (by show b' < w.heap.size; omega), CB.out wy HBY.out _ (by show b' < w.heap.size; omega), HX2.out]
              exact HG.out
            obtain ⟨g0, g1, g2, g3, g4⟩ := HGX.out
            have HXV : Hid (DocSV wy.drew (fun q => q < w.heap.size ∨ (w.heap.size + 2 ≤ q ∧ q < wy.heap.size)) x (.agg #[.int .i64 x.kind, .int .i64 x.num, .string x.str, .slice X3 x.keys.length x3, .slice X4 x.kids.length x4])) := by
              refine ⟨_, _, _, _, _, rfl, ?_⟩
              rw [HX2.out]
              exact DocS.keep (w' := wy.drew) (S' := fun q => q < w.heap.size ∨ (w.heap.size + 2 ≤ q ∧ q < wy.heap.size)) (fun q hq => .inl (by omega)) (fun p hp => CB.out wy HBY.out p (by omega)) HDK.out.toS
            have HAV : Hid (DocSV wy.drew (fun q => q < w.heap.size ∨ (w.heap.size + 2 ≤ q ∧ q < wy.heap.size)) acc (.agg #[.int .i64 acc.kind, .int .i64 acc.num, .string acc.str, .slice B3 acc.keys.length e3, .slice B4 acc.kids.length e4])) := ⟨_, _, _, _, _, rfl, DocS.keep (w := wy) (w' := wy.drew) (fun _ h => h) (fun _ _ => rfl) STY.out.ds⟩
            have HWI := Lib.hid (with_any (k := k) (b := k) (mo := true) (s := s) (w := wy.drew) (by rw [HAK.out]; decide) (by simp) (by omega) (by omega) (by have := HLL.out; omega) (by have := HLL.out; omega) (by omega) (by omega) (fun q hq => by show q < wy.heap.size; have := STY.out.le; omega) HAV.out HXV.out)
            go_wp2_with fail
            refine wp_region_still_tail 10 (by kernel_rfl) (by kernel_rfl) ?_
            change wpStill _ _ (World.drew wy) (fun a' => wpList _ _ _ _ a' (World.drew wy)) _ _
            simp only [List.take_succ_cons, List.take_zero, List.drop_succ_cons, List.drop_zero]
            repeat still_step
            refine wpStill_nil ?_
            go_wp2_with fail
            refine HWI.out.mono ?_
            rintro e w5 ⟨z, rfl, ⟨y0, y1, y2, y3, y4, rfl, hdz⟩, hb5⟩
            obtain ⟨res, hres⟩ : ∃ res, res = D.mk acc.kind acc.num acc.str (acc.keys.take k ++ s :: acc.keys.drop (k)) (acc.kids.take k ++ x :: acc.kids.drop (k)) := ⟨_, rfl⟩
            rw [← hres] at hdz
            have HRES := Lib.hid hres
            have HST6 := Lib.hid ((STY.out.next (below_drew wy)).store hb5 hdz)
            have hs5 := STY.out.next ((below_drew wy).trans hb5)
            obtain ⟨Y3, ye3, Y4, ye4, rfl, rfl, rfl, rfl, rfl⟩ := hdz.forms
            clear q0 q1 q2 q3 q4 sK g0 g1 g2 g3 g4 hdz hb5 hres
            obtain ⟨q0, q1, q2, q3, q4⟩ := hs5.bx.cells
            have q5 := hs5.bx.frozen
            clear hs5
            go_wp2_with fail
            clear q0 q1 q2 q3 q4 q5
            go_roundw
            case rel =>
              refine ⟨i + 1, .slice Y3 res.keys.length ye3, .slice Y4 res.kids.length ye4, by omega, by go_num, ?_⟩
              have e : recD (ins s x ps) = res := by
                rw [HRES.out]
                have h1 := ins_miss (s := s) (x := x) HRISE.out (by rw [← HKEYS.out, ← HIX.out]; exact HNEG.out)
                rw [← HKEYS.out, HLD.out] at h1
                rw [h1, HKEYS.out, HKIDS.out, HACC.out]
                simp [recD, List.map_take, List.map_drop, D.kind, D.num, D.str]
              rw [HSX.out, e]
              exact HST6.out
            case measure => simp [intOf]; omega
      · obtain ⟨k, hk⟩ : ∃ k : Nat, Lib.idxOfS acc.keys s = k := ⟨_, (Int.toNat_of_nonneg hpos).symm⟩
        have hkm : k < acc.keys.length := by omega
        have HK := Lib.hid hk
        rw [hk]
        clear hk hrg hpos
        have hk0 : (0 : Int) ≤ (k : Int) := by omega
        obtain ⟨q0, q1, q2, q3, q4⟩ := ST4.out.bx.cells
        have sK : w4.cell? ⟨b, off + i, none⟩ = some (.string s) := by rw [CB.out w4 HB4.out _ (by show b < w.heap.size; omega), HCX.out, HS2.out]
        have HGX : Hid (w4.cell? ⟨b', off' + i * 5, none⟩ = some (.int .i64 x.kind) ∧ w4.cell? ⟨b', off' + i * 5 + 1, none⟩ = some (.int .i64 x.num) ∧ w4.cell? ⟨b', off' + i * 5 + 2, none⟩ = some (.string x.str) ∧ w4.cell? ⟨b', off' + i * 5 + 3, none⟩ = some (.slice X3 x.keys.length x3) ∧ w4.cell? ⟨b', off' + i * 5 + 4, none⟩ = some (.slice X4 x.kids.length x4)) := by
          rw [CB.out w4 HB4.out _ (by show b' < w.heap.size; omega), CB.out w4 HB4.out _ (by show b' < w.heap.size; omega), CB.out w4 HB4.out _ (by show b' < w.heap.size; omega), CB.out w4 HB4.out _ (by show b' < w.heap.size; omega), CB.out w4 HB4.out _ (by show b' < w.heap.size; omega), HX2.out]
          exact HG.out
        obtain ⟨g0, g1, g2, g3, g4⟩ := HGX.out
        have HXV : Hid (DocSV w4.drew (fun q => q < w.heap.size ∨ (w.heap.size + 2 ≤ q ∧ q < w4.heap.size)) x (.agg #[.int .i64 x.kind, .int .i64 x.num, .string x.str, .slice X3 x.keys.length x3, .slice X4 x.kids.length x4])) := by
          refine ⟨_, _, _, _, _, rfl, ?_⟩
          rw [HX2.out]
          exact DocS.keep (w' := w4.drew) (S' := fun q => q < w.heap.size ∨ (w.heap.size + 2 ≤ q ∧ q < w4.heap.size)) (fun q hq => .inl (by omega)) (fun p hp => CB.out w4 HB4.out p (by omega)) HDK.out.toS
        have HAV : Hid (DocSV w4.drew (fun q => q < w.heap.size ∨ (w.heap.size + 2 ≤ q ∧ q < w4.heap.size)) acc (.agg #[.int .i64 acc.kind, .int .i64 acc.num, .string acc.str, .slice B3 acc.keys.length e3, .slice B4 acc.kids.length e4])) := ⟨_, _, _, _, _, rfl, DocS.keep (w := w4) (w' := w4.drew) (fun _ h => h) (fun _ _ => rfl) ST4.out.ds⟩
        have HWI := Lib.hid (with_any (k := k) (b := k + 1) (mo := false) (s := s) (w := w4.drew) (by rw [HAK.out]; decide) (by simp) (by omega) (by omega) (by have := HLL.out; omega) (by have := HLL.out; omega) (by omega) (by omega) (fun q hq => by show q < w4.heap.size; have := ST4.out.le; omega) HAV.out HXV.out)
        go_wp2_with fail
        refine wp_region_still_tail 10 (by kernel_rfl) (by kernel_rfl) ?_
        change wpStill _ _ (World.drew w4) (fun a' => wpList _ _ _ _ a' (World.drew w4)) _ _
        simp only [List.take_succ_cons, List.take_zero, List.drop_succ_cons, List.drop_zero]
        repeat still_step
        refine wpStill_nil ?_
        go_wp2_with fail
        refine HWI.out.mono ?_
        rintro e w5 ⟨z, rfl, ⟨y0, y1, y2, y3, y4, rfl, hdz⟩, hb5⟩
        obtain ⟨res, hres⟩ : ∃ res, res = D.mk acc.kind acc.num acc.str (acc.keys.take k ++ s :: acc.keys.drop (k + 1)) (acc.kids.take k ++ x :: acc.kids.drop (k + 1)) := ⟨_, rfl⟩
        rw [← hres] at hdz
        have HRES := Lib.hid hres
        have HST6 := Lib.hid ((ST4.out.next (below_drew w4)).store hb5 hdz)
        have hs5 := ST4.out.next ((below_drew w4).trans hb5)
        obtain ⟨Y3, ye3, Y4, ye4, rfl, rfl, rfl, rfl, rfl⟩ := hdz.forms
        clear q0 q1 q2 q3 q4 sK g0 g1 g2 g3 g4 hdz hb5 hres
        obtain ⟨q0, q1, q2, q3, q4⟩ := hs5.bx.cells
        have q5 := hs5.bx.frozen
        clear hs5
        go_wp2_with fail
        clear q0 q1 q2 q3 q4 q5
        go_roundw
        case rel =>
          refine ⟨i + 1, .slice Y3 res.keys.length ye3, .slice Y4 res.kids.length ye4, by omega, by go_num, ?_⟩
          have e : recD (ins s x ps) = res := by
            rw [HRES.out]
            have h1 := ins_hit (s := s) (x := x) HRISE.out (by rw [← HKEYS.out, HK.out]; omega)
            rw [← HKEYS.out, HK.out, Int.toNat_natCast] at h1
            rw [h1, HKEYS.out, HKIDS.out, HACC.out]
            simp [recD, List.map_take, List.map_drop, D.kind, D.num, D.str]
          rw [HSX.out, e]
          exact HST6.out
        case measure => simp [intOf]; omega
    · have hik : ¬ (i : Int) < (n : Int) := by omega
      obtain rfl : i = n := by omega
      obtain ⟨acc, hacc⟩ : ∃ acc, acc = recD ps := ⟨_, rfl⟩
      rw [← hacc] at STP
      have HACC := Lib.hid hacc
      have HFULL : Hid (recD (insAll [] (ks.zip l)) = acc) := Lib.hid (by rw [hacc, HPS.out, List.take_of_length_le (by rw [HZL.out]; exact Nat.le_refl _)])
      clear hacc
      obtain ⟨q0, q1, q2, q3, q4⟩ := STP.out.bx.cells
      obtain ⟨r0, r1, r2, r3, r4⟩ := STP.out.rs.cells
      have r5 := STP.out.rs.frozen
      go_wp2_with fail
      clear q0 q1 q2 q3 q4 r0 r1 r2 r3 r4 r5
      have hfin := ((((STP.out.rs.set0 (.int .i64 acc.kind)).set1 (.int .i64 acc.num)).set2 (.string acc.str)).set3 (.slice B3 acc.keys.length e3)).set4 (.slice B4 acc.kids.length e4)
      have hsf : ∀ q, q ≠ w.heap.size → (((((wo.setCell ⟨w.heap.size, 0, none⟩ (.int .i64 acc.kind)).setCell ⟨w.heap.size, 1, none⟩ (.int .i64 acc.num)).setCell ⟨w.heap.size, 2, none⟩ (.string acc.str)).setCell ⟨w.heap.size, 3, none⟩ (.slice B3 acc.keys.length e3)).setCell ⟨w.heap.size, 4, none⟩ (.slice B4 acc.kids.length e4)).heap[q]? = wo.heap[q]? := fun q hq => by
        rw [Below.heap_setCell _ _ _ q hq, Below.heap_setCell _ _ _ q hq, Below.heap_setCell _ _ _ q hq, Below.heap_setCell _ _ _ q hq, Below.heap_setCell _ _ _ q hq]
      have hbf : Below w.heap.size w (((((wo.setCell ⟨w.heap.size, 0, none⟩ (.int .i64 acc.kind)).setCell ⟨w.heap.size, 1, none⟩ (.int .i64 acc.num)).setCell ⟨w.heap.size, 2, none⟩ (.string acc.str)).setCell ⟨w.heap.size, 3, none⟩ (.slice B3 acc.keys.length e3)).setCell ⟨w.heap.size, 4, none⟩ (.slice B4 acc.kids.length e4)) :=
        ((((STP.out.bl.setCell (Nat.le_refl _) _).setCell (Nat.le_refl _) _).setCell (Nat.le_refl _) _).setCell (Nat.le_refl _) _).setCell (Nat.le_refl _) _
      have hszf : (((((wo.setCell ⟨w.heap.size, 0, none⟩ (.int .i64 acc.kind)).setCell ⟨w.heap.size, 1, none⟩ (.int .i64 acc.num)).setCell ⟨w.heap.size, 2, none⟩ (.string acc.str)).setCell ⟨w.heap.size, 3, none⟩ (.slice B3 acc.keys.length e3)).setCell ⟨w.heap.size, 4, none⟩ (.slice B4 acc.kids.length e4)).heap.size = wo.heap.size := by simp [World.setCell]
      refine ret_cell5 rfl rfl hfin.load rfl ?_
      generalize (((((wo.setCell ⟨w.heap.size, 0, none⟩ (.int .i64 acc.kind)).setCell ⟨w.heap.size, 1, none⟩ (.int .i64 acc.num)).setCell ⟨w.heap.size, 2, none⟩ (.string acc.str)).setCell ⟨w.heap.size, 3, none⟩ (.slice B3 acc.keys.length e3)).setCell ⟨w.heap.size, 4, none⟩ (.slice B4 acc.kids.length e4)) = Wf at hfin hsf hbf hszf ⊢
      refine ⟨_, rfl, ⟨_, _, _, _, _, rfl, ?_⟩, hbf⟩
      rw [HFULL.out, hszf]
      exact (STP.out.ds.keep (w' := Wf) (fun _ h => h) fun p hp => World.cell?_of_block (hsf p.block (by omega))).toIn fun q hq => by have := STP.out.le; omega
end Go.Proofs.YtdcempejdggkpaaGreatDoor
