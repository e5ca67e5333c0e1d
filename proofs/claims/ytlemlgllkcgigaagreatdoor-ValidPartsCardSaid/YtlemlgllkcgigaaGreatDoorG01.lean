/-
  narrow, and that Least is right where the type is narrow.
  ValidParts: what is put into a field of a record, and what is dropped of one: plain lemmas.
-/
import Derived.Test.YtlemlgllkcgigaaGreatDoorF40
import Derived.Deep.CutRange
import Derived.Deep.CutBlock
import Derived.Deep.DeepCutAuto
namespace Go.Proofs.YtlemlgllkcgigaaGreatDoor
open Go.RowKit

theorem keyedB_up {d : D} (hl : d.keys.length = d.kids.length) (hu : Up d.keys) (hk : ∀ k ∈ d.keys, keyOfB d.kind k = true) : keyedB d = true := by
  refine keyedB_true hl fun i hi => ?_
  unfold keyAt
  rw [List.getElem?_eq_getElem hi]
  simp only [Bool.and_eq_true]
  refine ⟨hk _ (List.getElem_mem hi), ?_⟩
  cases i with
  | zero => rfl
  | succ j =>
    simp only [List.getElem?_eq_getElem (by omega : j < d.keys.length)]
    exact decide_eq_true (hu.at_ (by omega) hi (by omega))
theorem names_name {t : T} (hk : t.kind = 1) (h : soundT t = true) : ∀ f ∈ t.fields, nameB f.name = true := by
  unfold soundT at h
  rw [if_pos hk] at h
  simp only [Bool.and_eq_true] at h
  have hf := h.2.2.2
  unfold fieldedB rowB at hf
  simp only [Bool.and_eq_true, decide_eq_true_eq] at hf
  intro f hff
  obtain ⟨i, hi, rfl⟩ := List.mem_iff_getElem.1 hff
  have h2 := hf.2 i (by simpa [fieldNames] using hi)
  unfold rowAt at h2
  rw [Bool.and_eq_true] at h2
  have h3 := h2.1
  rw [List.getD_eq_getElem?_getD, List.getElem?_eq_getElem (by simpa [fieldNames] using hi)] at h3
  simpa [fieldNames] using h3
theorem ns_short {t : T} (hk : t.kind = 7) (h : soundT t = true) : ∀ s ∈ t.names, s.size ≤ 256 := by
  unfold soundT at h
  rw [if_neg (by omega), if_neg (by omega), if_neg (by omega), if_neg (by omega), if_neg (by omega), if_pos hk] at h
  simp only [Bool.and_eq_true] at h
  have hf := h.2.2.2
  unfold namedB rowB at hf
  simp only [Bool.and_eq_true, decide_eq_true_eq] at hf
  intro s hs
  obtain ⟨i, hi, rfl⟩ := List.mem_iff_getElem.1 hs
  have h2 := hf.2.2 i hi
  unfold rowAt at h2
  rw [Bool.and_eq_true] at h2
  have h3 := h2.1
  rw [List.getD_eq_getElem?_getD, List.getElem?_eq_getElem hi] at h3
  simpa [shortB] using h3
theorem rowV_mem {g : F → Option D} {l : List F} {x : D} (h : x ∈ rowV g l) : ∃ f ∈ l, g f = some x := by
  obtain ⟨f, hf, e⟩ := List.mem_filterMap.1 h; exact ⟨f, hf, e⟩
theorem leastG_some {f : F} {x : D} (h : leastG f = some x) : x = f.type.least := by
  unfold leastG at h
  by_cases ho : f.opt = true
  · rw [if_pos ho] at h; cases h
  · rw [if_neg ho] at h; injection h with h; exact h.symm
theorem sizes_row : ∀ {l : List F}, (∀ f ∈ l, f.type.least.size ≤ f.type.size) → D.sizes (rowV leastG l) ≤ T.sizes (l.map F.type)
  | [], _ => by simp [rowV, D.sizes]
  | f :: r, h => by
    have ih := sizes_row (l := r) fun g hg => h g (by simp [hg])
    have h0 := h f (by simp)
    rw [rowV_cons, D.sizes_append, List.map_cons, T.sizes]
    cases hg : leastG f with
    | none => simp [D.sizes]; omega
    | some x => rw [leastG_some hg]; simp [D.sizes]; omega
theorem dps_mem {l : List D} {m : Nat} (h : ∀ x ∈ l, x.depth ≤ m) : D.depths l ≤ m := D.depths_le fun _ hi => h _ (List.getElem_mem hi)
theorem parts_mem {l : List D} (h : ∀ x ∈ l, partB x = true) : partsB l = true := partsB_all fun _ hi => h _ (List.getElem_mem hi)
/-- Least is right, and no greater than its type. -/
theorem least_part (m : Nat) : ∀ t : T, t.depth ≤ m → allT t = true → narrowB t = true → partB t.least = true ∧ t.least.depth ≤ t.depth ∧ t.least.size ≤ t.size := by
  induction m with
  | zero => intro t h; have := T.depth_pos t; omega
  | succ m ih =>
    intro t hm hall hn
    have hs := allT_sound hall
    have hok := leastOk_of hs
    have hk := hok.kind
    have hdp := T.depth_pos t
    by_cases h1 : t.kind = 1
    · have ihf : ∀ f ∈ t.fields, partB f.type.least = true ∧ f.type.least.depth ≤ f.type.depth ∧ f.type.least.size ≤ f.type.size := fun f hf => ih f.type (by have := field_depth_mem hf; omega) (allT_field hall hf) (narrow_field hn hf)
      obtain ⟨d, hd⟩ : ∃ d, d = t.least := ⟨_, rfl⟩
      have e := least_rec h1 hok
      have hkd : d.kind = 1 := by rw [hd, e]; rfl
      have hK : d.keys = rowK leastG t.fields := by rw [hd, e]; rfl
      have hV : d.kids = rowV leastG t.fields := by rw [hd, e]; rfl
      have hN : d.num = 0 := by rw [hd, e]; rfl
      have hS : d.str = ⟨#[]⟩ := by rw [hd, e]; rfl
      rw [← hd]
      clear hd e
      have hmem : ∀ x ∈ d.kids, ∃ f ∈ t.fields, x = f.type.least := fun x hx => by
        rw [hV] at hx; obtain ⟨f, hf, e⟩ := rowV_mem hx; exact ⟨f, hf, leastG_some e⟩
      refine ⟨?_, ?_, ?_⟩
      · rw [partB_eq, Bool.and_eq_true]
        refine ⟨?_, parts_mem fun x hx => ?_⟩
        · have hkey : keyedB d = true := keyedB_up (by rw [hK, hV, rowK_len]) (by rw [hK]; exact rowK_up (names_up h1 hs)) fun k hkk => by
            rw [hK] at hkk
            obtain ⟨f, hf, e, _⟩ := rowK_mem hkk
            rw [hkd, ← e]; simpa [keyOfB] using names_name h1 hs f hf
          unfold soundB numB strB formB
          rw [if_pos hkd, hkey, hN, hS]; rfl
        · obtain ⟨f, hf, rfl⟩ := hmem x hx; exact (ihf f hf).1
      · rw [D.depth_eq]
        have : D.depths d.kids ≤ t.depth - 1 := dps_mem fun x hx => by
          obtain ⟨f, hf, rfl⟩ := hmem x hx
          have := (ihf f hf).2.1; have := field_depth_mem hf; omega
        omega
      · rw [D.size_eq, T.size_eq, hV]
        have := sizes_row fun f hf => (ihf f hf).2.2
        omega
    by_cases h23 : t.kind = 2 ∨ t.kind = 3
    · obtain ⟨x, hx⟩ := hok.of1 h23
      have hxm : x ∈ t.of := by rw [hx]; simp
      obtain ⟨i1, i2, i3⟩ := ih x (by have := of_depth_mem hxm; omega) (allT_of hall hxm) (narrow_of hn hxm)
      have hxd := of_depth_mem hxm
      obtain ⟨_, hn1⟩ := leastN_narrow hn hok h23
      obtain ⟨d, hd⟩ : ∃ d, d = t.least := ⟨_, rfl⟩
      have e := least_many h23 hok hx
      generalize leastN t.lo = n at e hn1
      have hkd : d.kind = t.kind := by rw [hd, e]; rfl
      have hK : d.keys = if t.kind = 2 then kKeys n else [] := by rw [hd, e]; rfl
      have hV : d.kids = List.replicate n x.least := by rw [hd, e]; rfl
      have hN : d.num = 0 := by rw [hd, e]; rfl
      have hS : d.str = ⟨#[]⟩ := by rw [hd, e]; rfl
      rw [← hd]
      clear hd e
      have hmem : ∀ y ∈ d.kids, y = x.least := fun y hy => by rw [hV] at hy; exact (List.mem_replicate.1 hy).2
      refine ⟨?_, ?_, ?_⟩
      · rw [partB_eq, Bool.and_eq_true]
        refine ⟨?_, parts_mem fun y hy => by rw [hmem y hy]; exact i1⟩
        rcases h23 with h2 | h3
        · have hkey : keyedB d = true := keyedB_up (by rw [hK, hV, if_pos h2, kKeys_len, List.length_replicate]) (by
              rw [hK, if_pos h2]
              have : n = 0 ∨ n = 1 := by omega
              rcases this with rfl | rfl <;> simp [kKeys, Up, List.range_succ]) fun k hkk => by
            rw [hK, if_pos h2] at hkk
            simp only [kKeys, List.mem_map] at hkk
            obtain ⟨i, _, rfl⟩ := hkk
            rw [hkd, h2]; simp [keyOfB, kKey, ByteArray.size]
          unfold soundB numB strB formB
          rw [if_neg (by omega), if_pos (by omega), hkey, hN, hS]; rfl
        · unfold soundB numB strB formB
          rw [if_neg (by omega), if_neg (by omega), if_pos (by omega), hK, if_neg (by omega), hN, hS]; rfl
      · rw [D.depth_eq]
        have : D.depths d.kids ≤ x.depth := dps_mem fun y hy => by rw [hmem y hy]; exact i2
        omega
      · rw [D.size_eq, T.size_eq, hV, hx]
        have : n = 0 ∨ n = 1 := by omega
        rcases this with rfl | rfl <;> simp [D.sizes, T.sizes] <;> omega
    · obtain ⟨d, hd⟩ : ∃ d, d = t.least := ⟨_, rfl⟩
      have e := least_lone (by omega) hok
      have hkd : d.kind = leastKind t.kind := by rw [hd, e]; rfl
      have hK : d.keys = [] := by rw [hd, e]; rfl
      have hV : d.kids = [] := by rw [hd, e]; rfl
      have hN : d.num = leastNum t.kind t.lo t.hi := by rw [hd, e]; rfl
      have hS : d.str = leastStr t.kind t.lo t.names := by rw [hd, e]; rfl
      rw [← hd]
      clear hd e
      have hk46 : d.kind = 4 ∨ d.kind = 5 ∨ d.kind = 6 := by rw [hkd]; unfold leastKind; split <;> omega
      have hnum : d.num = 0 ∨ d.kind = 4 := by
        rw [hN, hkd]; unfold leastNum leastKind
        by_cases h4 : t.kind = 4
        · exact .inr (by rw [if_neg (by omega)]; exact h4)
        · exact .inl (if_neg h4)
      have hstr : d.str.size = 0 ∨ (d.kind = 6 ∧ d.str.size ≤ 256) := by
        rw [hS, hkd]; unfold leastStr leastKind
        by_cases h6 : t.kind = 6
        · have := hok.lo6 h6; have := hok.lo (by omega)
          rw [if_pos h6, aStr_size, if_neg (by omega)]; exact .inr ⟨h6, by omega⟩
        · rw [if_neg h6]
          by_cases h7 : t.kind = 7
          · rw [if_pos h7, if_pos h7]
            obtain ⟨y, r, e⟩ := List.exists_cons_of_length_pos (hok.ns h7)
            exact .inr ⟨rfl, by have := ns_short h7 hs y (by rw [e]; simp); rw [e]; exact this⟩
          · rw [if_neg h7]; exact .inl rfl
      refine ⟨?_, ?_, ?_⟩
      · rw [partB_eq, Bool.and_eq_true]
        refine ⟨?_, by rw [hV]; rfl⟩
        unfold soundB numB strB formB
        rw [if_neg (by omega), if_neg (by omega), if_neg (by omega), if_pos hk46, hK, hV]
        simp only [Bool.and_eq_true, Bool.or_eq_true, decide_eq_true_eq, List.length_nil, and_true]
        exact ⟨.inl hnum, hstr⟩
      · rw [D.depth_eq, hV]; simp [D.depths]; omega
      · rw [D.size_eq, hV]; simp [D.sizes]; exact T.size_pos t
theorem least_both {t : T} (hr : rightT t = true) (hn : narrowB t = true) : bothB t t.least = true := by
  obtain ⟨h1, h2, h3⟩ := rightT_small hr
  obtain ⟨a, b, c⟩ := least_part t.depth t (Nat.le_refl _) h3 hn
  unfold bothB rightB
  rw [hr, Bool.true_and, okB_iff]
  exact ⟨by omega, by omega, a⟩
theorem least_is {t : T} (hr : rightT t = true) (hn : narrowB t = true) : isV t t.least = true := by
  rw [isV_iff]; unfold allV
  rw [if_pos (least_both hr hn), least_ok t.depth t [] (Nat.le_refl _) (rightT_small hr).2.2 hn]; rfl
end Go.Proofs.YtlemlgllkcgigaaGreatDoor
namespace Go.Proofs.YtlemlgllkcgigaaGreatDoor
open Go.RowKit

theorem drop_one {d r : D} {s : ByteArray} {er : Int} (hd : rightB d = true) (h : dropV d [s] = (r, er)) : (stepD d s = none ∧ er ≠ 0) ∨ ∃ i, stepD d s = some i ∧ er = 0 ∧ r = d.dropKid i := by
  unfold dropV at h
  rw [if_neg (by rw [hd]; simp)] at h
  simp only [List.dropLast, D.locate, D.subAt, List.getLastD, List.getLast] at h
  cases hs : stepD d s with
  | none => rw [hs] at h; injection h with h1 h2; exact .inl ⟨rfl, by omega⟩
  | some i => rw [hs] at h; injection h with h1 h2; exact .inr ⟨i, rfl, h2.symm, by rw [← h1]; simp [D.repl]⟩
/-- A record without its i-th key. -/
structure Less (d r : D) (i : Nat) : Prop where
  kind : r.kind = d.kind
  num : r.num = d.num
  str : r.str = d.str
  keys : r.keys = d.keys.take i ++ d.keys.drop (i + 1)
  kids : r.kids = d.kids.take i ++ d.kids.drop (i + 1)
theorem less_of {d : D} (hk : d.kind = 1) (i : Nat) : Less d (d.dropKid i) i := by
  refine ⟨rfl, rfl, rfl, ?_, rfl⟩
  simp [D.dropKid, D.keys, hk]
theorem take_drop_sub {α : Type} (l : List α) (i : Nat) : (l.take i ++ l.drop (i + 1)).Sublist l := by
  have h : l.take i ++ l.drop i = l := List.take_append_drop i l
  have h2 : (l.drop (i + 1)).Sublist (l.drop i) := by
    rw [← List.drop_drop]; exact List.drop_sublist 1 _
  have h3 := List.Sublist.append (List.Sublist.refl (l.take i)) h2
  rwa [h] at h3
theorem take_drop_at {α β : Type} {a : List α} {b : List β} (hl : a.length = b.length) (i j : Nat) (h1 : j < (a.take i ++ a.drop (i + 1)).length) (h2 : j < (b.take i ++ b.drop (i + 1)).length) :
    ∃ (m : Nat) (ha : m < a.length) (hb : m < b.length), m ≠ i ∧ (a.take i ++ a.drop (i + 1))[j] = a[m] ∧ (b.take i ++ b.drop (i + 1))[j] = b[m] := by
  simp only [List.length_append, List.length_take, List.length_drop] at h1 h2
  by_cases hj : j < i
  · refine ⟨j, by omega, by omega, by omega, ?_, ?_⟩
    · rw [List.getElem_append_left (by simp; omega), List.getElem_take]
    · rw [List.getElem_append_left (by simp; omega), List.getElem_take]
  · refine ⟨j + 1, by omega, by omega, by omega, ?_, ?_⟩
    · rw [List.getElem_append_right (by simp; omega), List.getElem_drop]; congr 1; simp; omega
    · rw [List.getElem_append_right (by simp; omega), List.getElem_drop]; congr 1; simp; omega
theorem less_part {d r : D} {i : Nat} (hd : partB d = true) (hk : d.kind = 1) (h : Less d r i) : partB r = true := by
  have hl := (docOk_of (part_sound hd)).same (.inl hk)
  have hlr : r.keys.length = r.kids.length := by rw [h.keys, h.kids]; simp; omega
  have hs := part_sound hd
  simp only [soundB, Bool.and_eq_true] at hs
  rw [partB_eq, Bool.and_eq_true]
  refine ⟨?_, parts_mem fun x hx => ?_⟩
  · have hkey : keyedB r = true := keyedB_up hlr (by rw [h.keys]; exact List.Pairwise.sublist (take_drop_sub _ _) (keys_up (.inl hk) (part_sound hd))) fun u hu => by
      rw [h.keys] at hu
      have hu2 := (take_drop_sub d.keys i).subset hu
      obtain ⟨j, hj, rfl⟩ := List.mem_iff_getElem.1 hu2
      have h3 := hs.2.2
      unfold formB at h3
      rw [if_pos hk] at h3
      simp only [keyedB, Bool.and_eq_true, decide_eq_true_eq] at h3
      have h4 := h3.2 j hj
      unfold keyAt at h4
      rw [List.getElem?_eq_getElem hj] at h4
      simp only [Bool.and_eq_true] at h4
      rw [h.kind]; exact h4.1
    unfold soundB
    have e1 : numB r = numB d := by unfold numB; rw [h.num, h.kind]
    have e2 : strB r = strB d := by unfold strB; rw [h.str, h.kind]
    have e3 : formB r = true := by unfold formB; rw [if_pos (by rw [h.kind]; exact hk)]; exact hkey
    rw [e1, e2, e3, hs.1, hs.2.1]; rfl
  · rw [h.kids] at hx
    obtain ⟨j, hj, rfl⟩ := List.mem_iff_getElem.1 ((take_drop_sub d.kids i).subset hx)
    exact kid_in hd hj
theorem depths_sub {l l' : List D} (h : l'.Sublist l) : D.depths l' ≤ D.depths l := by
  refine dps_mem fun x hx => ?_
  exact depths_mem (h.subset hx)
theorem less_right {d r : D} {i : Nat} (hd : rightB d = true) (hk : d.kind = 1) (h : Less d r i) : rightB r = true := by
  have h1 := okB_iff.1 hd
  unfold rightB
  rw [okB_iff]
  refine ⟨?_, ?_, less_part h1.2.2 hk h⟩
  · have := D.depth_eq r; have := D.depth_eq d; have := depths_sub (take_drop_sub d.kids i); rw [← h.kids] at this; have := h1.1; omega
  · have e : D.sizes r.kids ≤ D.sizes d.kids := by
      rw [h.kids, D.sizes_append]
      have a := D.sizes_append (d.kids.take i) (d.kids.drop i)
      rw [List.take_append_drop] at a
      have b : D.sizes (d.kids.drop (i + 1)) ≤ D.sizes (d.kids.drop i) := by
        have c := D.sizes_append ((d.kids.drop i).take 1) ((d.kids.drop i).drop 1)
        rw [List.take_append_drop, List.drop_drop] at c
        omega
      omega
    have := D.size_eq r; have := D.size_eq d; have := h1.2.1; omega
theorem less_kids {d r : D} {i : Nat} {s : ByteArray} (hd : partB d = true) (hk : d.kind = 1) (hs : stepD d s = some i) (h : Less d r i) : kidAt r s = none ∧ ∀ u, u ≠ s → kidAt r u = kidAt d u := by
  have hr := less_part hd hk h
  have hrk : r.kind = 1 := by rw [h.kind]; exact hk
  have hl := (docOk_of (part_sound hd)).same (.inl hk)
  have hup := keys_up (.inl hk) (part_sound hd)
  have hki := (kidAt_look s (.inl hk) hl).2.2 i hs
  obtain ⟨hi, ei⟩ := List.getElem?_eq_some_iff.1 hki
  refine ⟨(kid_none hr (.inl hrk)).2 fun hm => ?_, fun u hu => ?_⟩
  · obtain ⟨j, hj, e⟩ := List.mem_iff_getElem.1 hm
    have hj2 : j < (d.keys.take i ++ d.keys.drop (i + 1)).length := by rw [← h.keys]; exact hj
    obtain ⟨m, ha, _, hne, e1, _⟩ := take_drop_at (b := d.keys) rfl i j hj2 hj2
    have e2 : r.keys[j] = d.keys[m] := by simp only [h.keys]; exact e1
    rw [e2, ← ei] at e
    have h1 := up_idx hup ha; have h2 := up_idx hup hi
    rw [e] at h1; omega
  · cases hz : kidAt r u with
    | none =>
      have h1 := (kid_none hr (.inl hrk)).1 hz
      cases hy : kidAt d u with
      | none => rfl
      | some y =>
        exfalso
        obtain ⟨j, hj, hj2, e1, e2, _⟩ := kid_some hd (.inl hk) hy
        have hji : j ≠ i := fun e => hu (by subst e; rw [← e1, ← ei])
        refine h1 ?_
        rw [h.keys, List.mem_append]
        rcases Nat.lt_or_ge j i with hlt | hge
        · exact .inl (by rw [← e1]; exact List.mem_take_iff_getElem.2 ⟨j, by omega, rfl⟩)
        · exact .inr (by rw [← e1]; exact List.mem_drop_iff_getElem.2 ⟨j - (i + 1), by omega, by congr 1; omega⟩)
    | some z =>
      obtain ⟨j, hj, hj2, e1, e2, _⟩ := kid_some hr (.inl hrk) hz
      have hj3 : j < (d.keys.take i ++ d.keys.drop (i + 1)).length := by rw [← h.keys]; exact hj
      have hj4 : j < (d.kids.take i ++ d.kids.drop (i + 1)).length := by rw [← h.kids]; exact hj2
      obtain ⟨m, ha, hb, _, f1, f2⟩ := take_drop_at hl i j hj3 hj4
      have g1 : r.keys[j] = d.keys[m] := by simp only [h.keys]; exact f1
      have g2 : r.kids[j] = d.kids[m] := by simp only [h.kids]; exact f2
      have := kid_at hd (.inl hk) ha hb
      rw [← g1, e1, ← g2, e2] at this
      exact this.symm
theorem right_kid {d y : D} {s : ByteArray} (hd : rightB d = true) (hk : d.kind = 1) (h : kidAt d s = some y) : rightB y = true := by
  have h1 := okB_iff.1 hd
  obtain ⟨j, _, hj, _, e, _⟩ := kid_some h1.2.2 (.inl hk) h
  unfold rightB
  rw [okB_iff, ← e]
  have a := D.size_at d.kids j hj; have b := D.size_eq d; have c := D.depth_eq d
  have dd := depths_mem (List.getElem_mem hj)
  exact ⟨by omega, by omega, kid_in h1.2.2 hj⟩
theorem same_field {t : T} (hk : t.kind = 1) (hs : soundT t = true) {f g : F} (hf : f ∈ t.fields) (hg : g ∈ t.fields) (e : g.name = f.name) : g = f := by
  have hu := names_up hk hs
  obtain ⟨i, hi, rfl⟩ := List.mem_iff_getElem.1 hf
  obtain ⟨j, hj, rfl⟩ := List.mem_iff_getElem.1 hg
  have h1 := up_idx hu (k := i) (by simpa using hi); have h2 := up_idx hu (k := j) (by simpa using hj)
  rw [List.getElem_map] at h1 h2
  rw [e] at h2
  have : i = j := by omega
  subst this; rfl
/-- A record whose kids are those of another one, but for one field's. -/
theorem rec_but {t : T} {d p : D} {f : F} (hk : t.kind = 1) (hs : soundT t = true) (hf : f ∈ t.fields) (hd : isV t d = true) (hp : rightB p = true) (hpk : p.kind = 1) (hap : ∀ u, u ≠ f.name → kidAt p u = kidAt d u) :
    isV t p = decide (faultsF1 f p [] = []) := by
  obtain ⟨hdk, hff, hmore⟩ := is_rec hk hd
  have hbd := isV_both hd
  have hrt : rightT t = true := by unfold bothB at hbd; rw [Bool.and_eq_true] at hbd; exact hbd.1
  have hrd : rightB d = true := by unfold bothB at hbd; rw [Bool.and_eq_true] at hbd; exact hbd.2
  have hb : bothB t p = true := by unfold bothB; rw [hrt, hp]; rfl
  have hdp := right_part hrd; have hpp := right_part hp
  have h0 : fitsV t p = 0 := fits_rec hk hpk
  have hm : moreV t p.keys = [] := by
    unfold moreV
    rw [List.filter_eq_nil_iff]
    intro u hu
    by_cases e : u = f.name
    · simpa using fieldOf_there hk ⟨f, hf, e.symm⟩
    · have h3 : kidAt p u ≠ none := fun h => (kid_none hpp (.inl hpk)).1 h hu
      rw [hap u e] at h3
      have h4 : u ∈ d.keys := by
        by_cases h5 : u ∈ d.keys
        · exact h5
        · exact absurd ((kid_none hdp (.inl hdk)).2 h5) h3
      unfold moreV at hmore
      rw [List.filter_eq_nil_iff] at hmore
      exact hmore u h4
  rw [isV_right hb, faults_eq, h0, if_pos rfl, if_neg (by decide), if_pos hk, hm]
  simp only [List.nil_append, List.map_nil, List.append_nil]
  rw [decide_eq_decide]
  constructor
  · intro h; exact faultsF_none h f hf
  · intro h
    refine faultsF_nil fun g hg => ?_
    by_cases e : g.name = f.name
    · rw [same_field hk hs hf hg e]; exact h
    · have h1 := hff g hg
      rw [faultsF1_kid hdp hdk] at h1
      rw [faultsF1_kid hpp hpk, hap g.name e]; exact h1
/-- What the law asks of a field of a record that is of the type. -/
structure PartsLaw (t : T) (d x : D) (f : F) : Prop where
  had : (getV d [f.name]).2 = true → isV f.type (getV d [f.name]).1 = true
  hadnt : (getV d [f.name]).2 = false → f.opt = true
  put : ∀ p, putV d x [f.name] = (p, 0) → rightB p = true → isV t p = isV f.type x
  drop : ∀ r, dropV d [f.name] = (r, 0) → isV t r = f.opt
theorem parts_law {t : T} {d : D} {f : F} (x : D) (hk : t.kind = 1) (hf : f ∈ t.fields) (hd : isV t d = true) : PartsLaw t d x f := by
  obtain ⟨hdk, hff, hmore⟩ := is_rec hk hd
  have hbd := isV_both hd
  have hrt : rightT t = true := by unfold bothB at hbd; rw [Bool.and_eq_true] at hbd; exact hbd.1
  have hrd : rightB d = true := by unfold bothB at hbd; rw [Bool.and_eq_true] at hbd; exact hbd.2
  have hs := allT_sound (rightT_small hrt).2.2
  have hdp := right_part hrd
  have hft : rightT f.type = true := by obtain ⟨i, hi, rfl⟩ := List.mem_iff_getElem.1 hf; exact rightT_field hrt hi
  have hl := (docOk_of (part_sound hdp)).same (.inl hdk)
  have h1 := hff f hf
  rw [faultsF1_kid hdp hdk] at h1
  have hget : getV d [f.name] = match kidAt d f.name with | some y => (y, true) | none => (D.zero, false) := by
    cases hst : stepD d f.name with
    | none => rw [getV_none hst]; unfold kidAt; rw [hst]; rfl
    | some i =>
      have hi := (kidAt_look f.name (.inl hdk) hl).2.2 i hst
      obtain ⟨hi1, _⟩ := List.getElem?_eq_some_iff.1 hi
      have hi2 : i < d.kids.length := by omega
      rw [getV_one hst hi2]; unfold kidAt; rw [hst]; simp only [Option.bind_some, List.getElem?_eq_getElem hi2]
  refine ⟨fun h => ?_, fun h => ?_, fun p hp hr => ?_, fun r hr => ?_⟩
  · rw [hget] at h ⊢
    cases hy : kidAt d f.name with
    | none => rw [hy] at h; cases h
    | some y =>
      rw [hy] at h1
      have hb : bothB f.type y = true := by unfold bothB; rw [hft, right_kid hrd hdk hy]; rfl
      simp only
      rw [isV_right hb, decide_eq_true_eq]
      exact nil_path _ f.type y _ [] (Nat.le_refl _) h1
  · rw [hget] at h
    cases hy : kidAt d f.name with
    | some y => rw [hy] at h; cases h
    | none =>
      rw [hy] at h1
      by_cases ho : f.opt = true
      · exact ho
      · simp only [if_neg ho] at h1; cases h1
  · obtain ⟨_, hrx, hset⟩ := put_one hp
    have hpk : p.kind = 1 := by rw [set_kind hset, hdk]
    have hb : bothB f.type x = true := by unfold bothB; rw [hft, hrx]; rfl
    rw [rec_but hk hs hf hd hr hpk fun u hu => one_apart x d p f.name u hset hdp fun e => hu e.symm, isV_right hb, faultsF1_kid (right_part hr) hpk, one_get x d p f.name hset hdp, decide_eq_decide]
    exact ⟨fun h => nil_path _ f.type x _ [] (Nat.le_refl _) h, fun h => nil_path _ f.type x _ _ (Nat.le_refl _) h⟩
  · rcases drop_one hrd hr with ⟨_, h⟩ | ⟨i, hst, _, rfl⟩
    · exact absurd rfl h
    · have hls := less_of hdk i
      have hlk := less_kids hdp hdk hst hls
      have hrr := less_right hrd hdk hls
      have hrk : (d.dropKid i).kind = 1 := by rw [hls.kind]; exact hdk
      rw [rec_but hk hs hf hd hrr hrk hlk.2, faultsF1_kid (right_part hrr) hrk, hlk.1]
      cases f.opt <;> simp
end Go.Proofs.YtlemlgllkcgigaaGreatDoor
