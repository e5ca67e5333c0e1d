/-
  A right document, as the program tells it, is one whose text reads back; how long texts are. Plain lemmas.
  How long the texts of documents without quotes are; plain lemmas.
-/
import Derived.Test.YtgklnafliaplkaaGreatDoorB29
import Derived.Test.YtgklnafliaplkaaGreatDoorB35
import Derived.Test.YtgklnafliaplkaaGreatDoorB26
import Derived.Lib.ItoaLen
import Derived.Test.YtgklnafliaplkaaGreatDoorB07
namespace Go.Proofs.YtgklnafliaplkaaGreatDoor

theorem okAt_nam {i : Nat} {c : UInt8} (h : okAt i c = true) : namB c = true := by
  simp only [okAt, smallB, digitB, namB, lowB, digB, Bool.or_eq_true, Bool.and_eq_true, decide_eq_true_eq] at h ⊢
  omega
theorem nameL_of {s : ByteArray} (h : nameB s = true) : NameL s.data.toList := by
  simp only [nameB, Bool.and_eq_true, decide_eq_true_eq] at h
  obtain ⟨⟨h1, h2⟩, h3⟩ := h
  have hl : s.data.toList.length = s.size := rfl
  have hat : ∀ (i : Nat) (h : i < s.data.toList.length), okAt i s.data.toList[i] = true := fun i h => h3 i (by omega)
  refine ⟨?_, ?_, by omega⟩
  · have h0 := hat 0 (by omega)
    cases hx : s.data.toList with
    | nil => rw [hx] at hl; simp at hl; omega
    | cons c r =>
      simp only [hx, List.getElem_cons_zero] at h0
      simpa [okAt, smallB, lowB, pk] using h0
  · intro c hc
    obtain ⟨i, hi, rfl⟩ := List.mem_iff_getElem.1 hc
    exact okAt_nam (hat i hi)
theorem keyed_facts {d : D} (h : keyedB d = true) : d.keys.length = d.kids.length ∧ Rising d.keys ∧ ∀ k ∈ d.keys, keyOfB d.kind k = true := by
  simp only [keyedB, Bool.and_eq_true, decide_eq_true_eq] at h
  obtain ⟨h1, h2⟩ := h
  refine ⟨h1, fun i hi => ?_, fun k hk => ?_⟩
  · have := h2 (i + 1) hi
    rw [keyAt_succ hi] at this
    simp only [Bool.and_eq_true, decide_eq_true_eq] at this
    exact this.2
  · obtain ⟨i, hi, rfl⟩ := List.mem_iff_getElem.1 hk
    have := h2 i hi
    cases i with
    | zero => rw [keyAt_zero hi] at this; exact this
    | succ j => rw [keyAt_succ hi] at this; simp only [Bool.and_eq_true] at this; exact this.1
theorem empty_of {s : ByteArray} (h : s.size = 0) : s = ⟨#[]⟩ := by
  cases s with
  | mk a =>
    have h' : a.size = 0 := h
    rw [Array.eq_empty_of_size_eq_zero h']
theorem formB_mk (k n : Int) (s : ByteArray) (ks : List ByteArray) (l : List D) : formB (.mk k n s ks l) = if k = 1 then keyedB (.mk k n s ks l) else if k = 2 then keyedB (.mk k n s ks l) else if k = 3 then decide (ks.length = 0)
  else if k = 4 ∨ k = 5 ∨ k = 6 then decide (ks.length = 0) && decide (l.length = 0) else false := rfl
theorem okN_of {k n : Int} {s : ByteArray} {ks : List ByteArray} {l : List D} (h : soundB (.mk k n s ks l) = true) (hn : -9223372036854775808 ≤ n ∧ n ≤ 9223372036854775807) : OkN k n s ks l.length := by
  have h0 := h
  simp only [soundB, Bool.and_eq_true] at h0
  obtain ⟨a1, a2, a3⟩ := h0
  rw [numB_mk] at a1
  rw [strB_mk] at a2
  simp only [Bool.or_eq_true, Bool.and_eq_true, decide_eq_true_eq] at a1 a2
  rw [formB_mk] at a3
  have hsz : s.data.toList.length = s.size := rfl
  by_cases k1 : k = 1
  · subst k1
    rw [if_pos rfl] at a3
    obtain ⟨f1, f2, f3⟩ := keyed_facts a3
    simp only [D.kind, D.keys, D.kids] at f1 f2 f3
    refine .inl ⟨rfl, by omega, empty_of (by omega), f1, f2, fun x hx => nameL_of ?_⟩
    simpa [keyOfB] using f3 x hx
  by_cases k2 : k = 2
  · subst k2
    rw [if_neg (by decide), if_pos rfl] at a3
    obtain ⟨f1, f2, f3⟩ := keyed_facts a3
    simp only [D.kind, D.keys, D.kids] at f1 f2 f3
    refine .inr (.inl ⟨rfl, by omega, empty_of (by omega), f1, f2, fun x hx => ?_⟩)
    have := f3 x hx
    simpa [keyOfB] using this
  by_cases k3 : k = 3
  · subst k3
    rw [if_neg (by decide), if_neg (by decide), if_pos rfl] at a3
    simp only [decide_eq_true_eq] at a3
    exact .inr (.inr (.inl ⟨rfl, by omega, empty_of (by omega), List.eq_nil_of_length_eq_zero a3⟩))
  rw [if_neg k1, if_neg k2, if_neg k3] at a3
  by_cases k4 : k = 4
  · subst k4
    rw [if_pos (.inl rfl)] at a3
    simp only [Bool.and_eq_true, decide_eq_true_eq] at a3
    exact .inr (.inr (.inr (.inl ⟨rfl, hn, empty_of (by omega), List.eq_nil_of_length_eq_zero a3.1, a3.2⟩)))
  by_cases k5 : k = 5
  · subst k5
    rw [if_pos (.inr (.inl rfl))] at a3
    simp only [Bool.and_eq_true, decide_eq_true_eq] at a3
    exact .inr (.inr (.inr (.inr (.inl ⟨rfl, by omega, empty_of (by omega), List.eq_nil_of_length_eq_zero a3.1, a3.2⟩))))
  by_cases k6 : k = 6
  · subst k6
    rw [if_pos (.inr (.inr rfl))] at a3
    simp only [Bool.and_eq_true, decide_eq_true_eq] at a3
    exact .inr (.inr (.inr (.inr (.inr ⟨rfl, by omega, by omega, List.eq_nil_of_length_eq_zero a3.1, a3.2⟩))))
  · rw [if_neg (by omega)] at a3
    cases a3
mutual
theorem okD_of : ∀ {d : D}, partB d = true → d.Nums → OkD d
  | .mk k n s ks l, h, hn => by
    simp only [partB, Bool.and_eq_true] at h
    simp only [D.Nums] at hn
    simp only [OkD]
    exact ⟨okN_of h.1 hn.1, okDs_of h.2 hn.2⟩
theorem okDs_of : ∀ {l : List D}, partsB l = true → D.NumsL l → OkDs l
  | [], _, _ => by simp [OkDs]
  | d :: r, h, hn => by
    simp only [partsB, Bool.and_eq_true] at h
    simp only [D.NumsL] at hn
    simp only [OkDs]
    exact ⟨okD_of h.1 hn.1, okDs_of h.2 hn.2⟩
end
/-- What a right document's text tells. -/
theorem right_reads {d : D} (h : rightB d = true) (hn : d.Nums) : readP (printD d) = .ok d [] := by
  obtain ⟨h1, h2, h3⟩ := okB_iff.1 h
  exact readP_print h1 (okD_of h3 hn) (by omega)
theorem right_more {d : D} (h : rightB d = true) (hn : d.Nums) (h4 : d.kind ≠ 4) (c : UInt8) : readP (printD d ++ [c]) = if blankC c = true then .ok d [] else .bad [c] 4 := by
  obtain ⟨h1, h2, h3⟩ := okB_iff.1 h
  exact readP_more h1 (okD_of h3 hn) (by omega) h4 c
-- how long texts are
/-- Each part's own text is no longer. -/
def LimN (K : Nat) (kind num : Int) (str : ByteArray) (keys : List ByteArray) : Prop :=
  (kind = 1 ∧ 5 ≤ K ∧ ∀ k ∈ keys, k.data.toList.length + 5 ≤ K) ∨ (kind = 2 ∧ 4 ≤ K ∧ ∀ k ∈ keys, (quoteL k.data.toList).length + 4 ≤ K) ∨ (kind = 3 ∧ 2 ≤ K) ∨
  (kind ≠ 1 ∧ kind ≠ 2 ∧ kind ≠ 3 ∧ (nodeD kind num str [] []).length ≤ K)
theorem rowD_sum {K : Nat} : ∀ (ps : List (List UInt8)) (ns : List Nat), ps.length ≤ ns.length → (∀ (i : Nat) (h : i < ps.length) (h' : i < ns.length), ps[i].length + 2 ≤ (2 * K + 2) * ns[i]) → (rowD ps).length ≤ (2 * K + 2) * ns.sum
  | [], ns, _, _ => by simp [rowD]
  | x :: r, [], h, _ => by simp at h
  | x :: r, n :: ns, h, hp => by
    have h0 := hp 0 (by simp) (by simp)
    have hr := rowD_sum r ns (by simpa using h) fun i a b => by have := hp (i + 1) (by simpa using a) (by simpa using b); simpa using this
    simp only [List.getElem_cons_zero] at h0
    simp only [List.sum_cons, Nat.mul_add]
    cases r with
    | nil => simp only [rowD, List.append_nil]; omega
    | cons y t => simp only [rowD, List.length_append, List.length_cons] at hr ⊢; omega
mutual
def LimD (K : Nat) : D → Prop
  | .mk k n s ks l => LimN K k n s ks ∧ LimDs K l
def LimDs (K : Nat) : List D → Prop
  | [] => True
  | d :: r => LimD K d ∧ LimDs K r
end
theorem sizes_sum : ∀ l : List D, (l.map D.size).sum = D.sizes l
  | [] => rfl
  | d :: r => by simp [D.sizes, sizes_sum r]
theorem nodeD_leaf {kind num : Int} {str : ByteArray} {keys : List ByteArray} {ps : List (List UInt8)} (h1 : kind ≠ 1) (h2 : kind ≠ 2) (h3 : kind ≠ 3) : nodeD kind num str keys ps = nodeD kind num str [] [] := by
  simp [nodeD, h1, h2, h3]
mutual
theorem lim_len {K : Nat} : ∀ (d : D), LimD K d → (printD d).length + K ≤ (2 * K + 2) * d.size
  | .mk k n s ks l, h => by
    simp only [LimD] at h
    obtain ⟨hN, hL⟩ := h
    have hk := lims_len l hL
    have hpl := printsD_len l
    have hss := sizes_sum l
    have hml : (l.map D.size).length = l.length := by simp
    simp only [printD, D.size, Nat.mul_add, Nat.mul_one]
    rcases hN with ⟨rfl, hK, hky⟩ | ⟨rfl, hK, hky⟩ | ⟨rfl, hK⟩ | ⟨h1, h2, h3, hle⟩
    · have := rowD_sum (K := K) (recK ks (printsD l)) (l.map D.size) (by simp [recK, hpl]; omega) fun i a b => by
        have ha : i < ks.length ∧ i < (printsD l).length := by simp only [recK, List.length_zipWith] at a; omega
        have hi : i < l.length := by omega
        have h1 := hky ks[i] (List.getElem_mem ha.1)
        have h2 := hk i hi
        simp only [recK, List.getElem_zipWith, List.getElem_map, List.length_append, List.length_cons, List.length_nil]
        rw [printsD_at l i hi]
        omega
      rw [hss] at this
      have e : nodeD 1 n s ks (printsD l) = 123 :: (rowD (recK ks (printsD l)) ++ [125]) := by simp [nodeD]
      rw [e]
      simp only [List.length_cons, List.length_append, List.length_nil]
      omega
    · have := rowD_sum (K := K) (dictK ks (printsD l)) (l.map D.size) (by simp [dictK, hpl]; omega) fun i a b => by
        have ha : i < ks.length ∧ i < (printsD l).length := by simp only [dictK, List.length_zipWith] at a; omega
        have hi : i < l.length := by omega
        have h1 := hky ks[i] (List.getElem_mem ha.1)
        have h2 := hk i hi
        simp only [dictK, List.getElem_zipWith, List.getElem_map, List.length_append, List.length_cons, List.length_nil]
        rw [printsD_at l i hi]
        omega
      rw [hss] at this
      have e : nodeD 2 n s ks (printsD l) = 60 :: (rowD (dictK ks (printsD l)) ++ [62]) := by simp [nodeD]
      rw [e]
      simp only [List.length_cons, List.length_append, List.length_nil]
      omega
    · have := rowD_sum (K := K) (printsD l) (l.map D.size) (by omega) fun i a b => by
        have hi : i < l.length := by omega
        have h2 := hk i hi
        simp only [List.getElem_map]
        rw [printsD_at l i hi]
        omega
      rw [hss] at this
      have e : nodeD 3 n s ks (printsD l) = 91 :: (rowD (printsD l) ++ [93]) := by simp [nodeD]
      rw [e]
      simp only [List.length_cons, List.length_append, List.length_nil]
      omega
    · rw [nodeD_leaf h1 h2 h3]
      omega
theorem lims_len {K : Nat} : ∀ (l : List D), LimDs K l → ∀ (i : Nat) (h : i < l.length), (printD l[i]).length + K ≤ (2 * K + 2) * l[i].size
  | [], _, i, hi => by simp at hi
  | d :: r, h, 0, _ => by simp only [LimDs] at h; exact lim_len d h.1
  | d :: r, h, i + 1, hi => by simp only [LimDs] at h; simpa using lims_len r h.2 i (by simpa using hi)
end
theorem quoteL_len (l : List UInt8) : (quoteL l).length ≤ 4 * l.length + 2 := by
  have h1 := quoteI_len l
  simp only [quoteL, List.length_cons, List.length_append, List.length_nil]; omega
theorem limN_few {kind num : Int} {str : ByteArray} {keys : List ByteArray} (hn : -9223372036854775808 ≤ num ∧ num ≤ 9223372036854775807) (hs : str.size ≤ 600) (hk : ∀ k ∈ keys, k.size ≤ 600) : LimN 2410 kind num str keys := by
  have hz : ∀ s : ByteArray, s.data.toList.length = s.size := fun _ => rfl
  by_cases k1 : kind = 1
  · exact .inl ⟨k1, by omega, fun k h => by have := hk k h; have := hz k; omega⟩
  by_cases k2 : kind = 2
  · exact .inr (.inl ⟨k2, by omega, fun k h => by have := hk k h; have := hz k; have := quoteL_len k.data.toList; omega⟩)
  by_cases k3 : kind = 3
  · exact .inr (.inr (.inl ⟨k3, by omega⟩))
  refine .inr (.inr (.inr ⟨k1, k2, k3, ?_⟩))
  unfold nodeD
  rw [if_neg k1, if_neg k2, if_neg k3]
  split
  · have := Lib.itoa_length_le num hn.1 hn.2; omega
  split
  · unfold boolL; split <;> simp
  split
  · have := quoteL_len str.data.toList; have := hz str; omega
  · simp
mutual
theorem lim_few : ∀ {d : D}, d.Fit6 → d.Nums → LimD 2410 d
  | .mk _ _ _ _ _, h, hn => by
    simp only [D.Fit6] at h
    simp only [D.Nums] at hn
    simp only [LimD]
    exact ⟨limN_few hn.1 h.1 h.2.2.2.1, lims_few h.2.2.2.2 hn.2⟩
theorem lims_few : ∀ {l : List D}, D.Fits6 l → D.NumsL l → LimDs 2410 l
  | [], _, _ => by simp [LimDs]
  | d :: r, h, hn => by
    simp only [D.Fits6] at h
    simp only [D.NumsL] at hn
    simp only [LimDs]
    exact ⟨lim_few h.1 hn.1, lims_few h.2 hn.2⟩
end
theorem few_len {d : D} (h : fewB d = true) (hn : d.Nums) : (printD d).length ≤ 4000000 := by
  have h' : FewP d 20 := by simpa [fewB] using h
  have h1 := lim_len d (lim_few h'.fit hn)
  have h2 := h'.size
  omega
theorem few_fit_ {d : D} (h : fewB d = true) : d.Fit := by
  have h' : FewP d 20 := by simpa [fewB] using h
  exact h'.fit.fit
end Go.Proofs.YtgklnafliaplkaaGreatDoor
namespace Go.Proofs.YtgklnafliaplkaaGreatDoor

theorem mem_rowD {c : UInt8} : ∀ {l : List (List UInt8)} {x : List UInt8}, x ∈ l → c ∈ x → c ∈ rowD l
  | [], _, h, _ => by cases h
  | y :: r, x, h, hc => by
    rcases List.mem_cons.1 h with rfl | h
    · simp only [rowD, List.mem_append]; exact .inl hc
    · have := mem_rowD h hc
      cases r with
      | nil => cases h
      | cons z t => exact List.mem_append_right _ (List.mem_cons_of_mem _ (List.mem_cons_of_mem _ this))
theorem noq_item {l : List (List UInt8)} (h : (34 : UInt8) ∉ rowD l) : ∀ x ∈ l, (34 : UInt8) ∉ x := fun _ hx hc => h (mem_rowD hx hc)
theorem noq_rec {ks : List ByteArray} {ps : List (List UInt8)} (hl : ks.length = ps.length) (h : (34 : UInt8) ∉ rowD (recK ks ps)) : ∀ p ∈ ps, (34 : UInt8) ∉ p := by
  intro p hp hc
  obtain ⟨i, hi, rfl⟩ := List.mem_iff_getElem.1 hp
  have hi2 : i < (recK ks ps).length := by rw [recK_lenB ks ps hl]; omega
  refine noq_item h _ (List.getElem_mem hi2) ?_
  simp only [recK, List.getElem_zipWith, List.mem_append]
  exact .inr (.inr hc)
theorem noq_dict {ks : List ByteArray} {ps : List (List UInt8)} (hl : ks.length = ps.length) (h : (34 : UInt8) ∉ rowD (dictK ks ps)) : ks = [] := by
  cases ks with
  | nil => rfl
  | cons k r =>
    exfalso
    have hi2 : 0 < (dictK (k :: r) ps).length := by rw [dictK_lenB _ ps hl]; simp
    refine noq_item h _ (List.getElem_mem hi2) ?_
    simp only [dictK, List.getElem_zipWith, List.mem_append, List.getElem_cons_zero, quoteL]
    exact .inl (by simp)
mutual
theorem lim_noq : ∀ {d : D}, OkD d → (34 : UInt8) ∉ printD d → LimD 22 d
  | .mk k n s ks l, ho, h => by
    simp only [OkD] at ho
    obtain ⟨hn, hk⟩ := ho
    have hpl := printsD_len l
    simp only [LimD]
    simp only [printD] at h
    rcases hn with ⟨rfl, rfl, rfl, hl, hri, hnm⟩ | ⟨rfl, rfl, rfl, hl, hri, hnm⟩ | ⟨rfl, rfl, rfl, rfl⟩ | ⟨rfl, hb, rfl, rfl, hm⟩ | ⟨rfl, hb, rfl, rfl, hm⟩ | ⟨rfl, rfl, hb, rfl, hm⟩
    · have e : nodeD 1 0 ⟨#[]⟩ ks (printsD l) = 123 :: (rowD (recK ks (printsD l)) ++ [125]) := by simp [nodeD]
      rw [e] at h
      simp only [List.mem_cons, List.mem_append, not_or] at h
      exact ⟨.inl ⟨rfl, by omega, fun k hk => by have := (hnm k hk).2.2; omega⟩, lims_noq hk (noq_rec (by omega) h.2.1)⟩
    · have e : nodeD 2 0 ⟨#[]⟩ ks (printsD l) = 60 :: (rowD (dictK ks (printsD l)) ++ [62]) := by simp [nodeD]
      rw [e] at h
      simp only [List.mem_cons, List.mem_append, not_or] at h
      have hz := noq_dict (by omega) h.2.1
      subst hz
      have hlz : l = [] := List.eq_nil_of_length_eq_zero (by simpa using hl.symm)
      subst hlz
      exact ⟨.inr (.inl ⟨rfl, by omega, by simp⟩), by simp [LimDs]⟩
    · have e : nodeD 3 0 ⟨#[]⟩ [] (printsD l) = 91 :: (rowD (printsD l) ++ [93]) := by simp [nodeD]
      rw [e] at h
      simp only [List.mem_cons, List.mem_append, not_or] at h
      exact ⟨.inr (.inr (.inl ⟨rfl, by omega⟩)), lims_noq hk (noq_item h.2.1)⟩
    · have hkz : l = [] := List.eq_nil_of_length_eq_zero hm
      subst hkz
      refine ⟨.inr (.inr (.inr ⟨by decide, by decide, by decide, ?_⟩)), by simp [LimDs]⟩
      have := Lib.itoa_length_le n hb.1 hb.2
      simp [nodeD]; omega
    · have hkz : l = [] := List.eq_nil_of_length_eq_zero hm
      subst hkz
      refine ⟨.inr (.inr (.inr ⟨by decide, by decide, by decide, ?_⟩)), by simp [LimDs]⟩
      simp only [nodeD, boolL]
      rcases hb with rfl | rfl <;> simp
    · exfalso
      have hkz : l = [] := List.eq_nil_of_length_eq_zero hm
      subst hkz
      apply h
      simp [nodeD, quoteL]
theorem lims_noq : ∀ {l : List D}, OkDs l → (∀ p ∈ printsD l, (34 : UInt8) ∉ p) → LimDs 22 l
  | [], _, _ => by simp [LimDs]
  | d :: r, ho, h => by
    simp only [OkDs] at ho
    simp only [LimDs]
    exact ⟨lim_noq ho.1 (h _ (by simp [printsD])), lims_noq ho.2 fun p hp => h p (by simp [printsD, hp])⟩
end
theorem noq_len {d : D} (h : rightB d = true) (hn : d.Nums) (hs : d.size ≤ 100) (hq : (34 : UInt8) ∉ printD d) : (printD d).length ≤ 4600 := by
  obtain ⟨h1, h2, h3⟩ := okB_iff.1 h
  have := lim_len d (lim_noq (okD_of h3 hn) hq)
  omega
end Go.Proofs.YtgklnafliaplkaaGreatDoor
