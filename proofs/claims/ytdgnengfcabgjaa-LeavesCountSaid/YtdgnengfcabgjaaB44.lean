/-
  LeavesCount: plain facts of a right document's leaves.
-/
import Derived.Test.YtdgnengfcabgjaaB29
import Derived.Test.YtdgnengfcabgjaaB10
import Derived.Test.YtdgnengfcabgjaaB43
namespace Go.Proofs.Ytdgnengfcabgjaa

/-- How great the leaves' documents are together. -/
def lsum (l : List Lf) : Nat := (l.map fun x => x.doc.size).sum
theorem lsum_append (a b : List Lf) : lsum (a ++ b) = lsum a + lsum b := by simp [lsum]
theorem lsum_perm {a b : List Lf} (h : a.Perm b) : lsum a = lsum b := by
  induction h with
  | nil => rfl
  | cons x h ih => simp only [lsum, List.map_cons, List.sum_cons] at ih ⊢; omega
  | swap x y l => simp only [lsum, List.map_cons, List.sum_cons]; omega
  | trans _ _ ih1 ih2 => omega
theorem lsum_take {l : List Lf} {k : Nat} (h : k < l.length) : lsum (l.take (k + 1)) = lsum (l.take k) + (l[k]).doc.size := by
  rw [List.take_succ_eq_append_getElem h, lsum_append]; simp [lsum]
theorem part_keyed {kind num : Int} {str : ByteArray} {keys : List ByteArray} {kids : List D} (h : partB (.mk kind num str keys kids) = true) (hk : kind = 1 ∨ kind = 2) : kids.length = keys.length := by
  rw [partB_eq, Bool.and_eq_true] at h
  have h1 := h.1
  simp only [soundB, Bool.and_eq_true] at h1
  have h2 := h1.2.2
  have h3 : keyedB (.mk kind num str keys kids) = true := by
    unfold formB at h2
    simp only [D.kind] at h2
    rcases hk with rfl | rfl
    · simpa using h2
    · simpa using h2
  simp only [keyedB, Bool.and_eq_true, D.keys, D.kids] at h3
  exact (of_decide_eq_true h3.1).symm
theorem part_kids {kind num : Int} {str : ByteArray} {keys : List ByteArray} {kids : List D} (h : partB (.mk kind num str keys kids) = true) : partsB kids = true := by
  rw [partB_eq, Bool.and_eq_true] at h; exact h.2
mutual
theorem vis_sum (p : List ByteArray) : ∀ d : D, partB d = true → lsum (vis p d) = d.size
  | .mk kind num str keys kids, h => by
    rw [vis]
    split
    · rename_i hk
      have h1 := visK_sum p kids keys (part_keyed h hk) (part_kids h)
      simp only [lsum, List.map_cons, List.sum_cons, D.size, D.sizes] at h1 ⊢
      omega
    · simp [lsum]
theorem visK_sum (p : List ByteArray) : ∀ (ds : List D) (ks : List ByteArray), ds.length = ks.length → partsB ds = true → lsum (visK p ds ks) = D.sizes ds
  | [], _, _, _ => by simp [visK, lsum, D.sizes]
  | d :: ds, [], h, _ => by simp at h
  | d :: ds, k :: ks, h, hp => by
    simp only [partsB, Bool.and_eq_true] at hp
    rw [visK, lsum_append, vis_sum (p ++ [k]) d hp.1, visK_sum p ds ks (by simpa using h) hp.2, D.sizes]
end
mutual
theorem vis_home (p : List ByteArray) : ∀ d : D, ∀ x ∈ vis p d, p.length ≤ x.path.length ∧ (x.path = p ∨ ∃ y ∈ vis p d, y.path = x.path.take (x.path.length - 1))
  | .mk kind num str keys kids, x, hx => by
    rw [vis] at hx ⊢
    split at hx
    · rename_i hk
      rw [if_pos hk]
      rcases List.mem_cons.1 hx with rfl | hx
      · exact ⟨Nat.le_refl _, .inl rfl⟩
      · obtain ⟨h1, h2⟩ := visK_home p kids keys x hx
        refine ⟨by omega, .inr ?_⟩
        rcases h2 with ⟨k, h2⟩ | ⟨y, hy, e⟩
        · exact ⟨_, List.mem_cons_self, by rw [h2]; simp⟩
        · exact ⟨y, List.mem_cons_of_mem _ hy, e⟩
    · simp only [List.mem_singleton] at hx
      subst hx
      exact ⟨Nat.le_refl _, .inl rfl⟩
theorem visK_home (p : List ByteArray) : ∀ (ds : List D) (ks : List ByteArray), ∀ x ∈ visK p ds ks, p.length < x.path.length ∧ ((∃ k, x.path = p ++ [k]) ∨ ∃ y ∈ visK p ds ks, y.path = x.path.take (x.path.length - 1))
  | [], _, x, hx => by simp [visK] at hx
  | d :: ds, [], x, hx => by simp [visK] at hx
  | d :: ds, k :: ks, x, hx => by
    rw [visK] at hx ⊢
    rcases List.mem_append.1 hx with hx | hx
    · obtain ⟨h1, h2⟩ := vis_home (p ++ [k]) d x hx
      simp only [List.length_append, List.length_singleton] at h1
      refine ⟨by omega, ?_⟩
      rcases h2 with h2 | ⟨y, hy, e⟩
      · exact .inl ⟨k, h2⟩
      · exact .inr ⟨y, List.mem_append_left _ hy, e⟩
    · obtain ⟨h1, h2⟩ := visK_home p ds ks x hx
      refine ⟨h1, ?_⟩
      rcases h2 with h2 | ⟨y, hy, e⟩
      · exact .inl h2
      · exact .inr ⟨y, List.mem_append_right _ hy, e⟩
end
theorem vis_root (d : D) : ∃ r rest, vis [] d = r :: rest ∧ r.path = [] ∧ ∀ x ∈ rest, 0 < x.path.length := by
  by_cases hk : d.kind = 1 ∨ d.kind = 2
  · rw [vis_keyed [] hk]
    exact ⟨_, _, rfl, rfl, fun x hx => by simpa using (visK_home [] _ _ x hx).1⟩
  · rw [vis_leaf [] hk]
    exact ⟨_, [], rfl, rfl, by simp⟩
theorem kcmp_nil {p : List ByteArray} (h : kcmp p [] ≤ 0) : p = [] := by
  cases p with
  | nil => rfl
  | cons a p => simp [kcmp] at h
/-- Among the sorted leaves the root is the first, and no other one. -/
theorem root_only (d : D) : 0 < (lsrt (vis [] d)).length ∧ ∀ i, (h : i < (lsrt (vis [] d)).length) → (((lsrt (vis [] d))[i]).path.length = 0 ↔ i = 0) := by
  obtain ⟨r, rest, e, hr, hrest⟩ := vis_root d
  have hp := lsrt_perm (vis [] d)
  have hs := lsrt_sorted (vis [] d)
  have hc : (lsrt (vis [] d)).countP (fun x => decide (x.path.length = 0)) = 1 := by
    rw [hp.countP_eq, e, List.countP_cons, List.countP_eq_zero.2 (fun x hx => by have := hrest x hx; simp; intro h; rw [h] at this; simp at this)]
    simp [hr]
  have hrm : r ∈ lsrt (vis [] d) := hp.mem_iff.2 (by rw [e]; simp)
  generalize lsrt (vis [] d) = L at *
  cases L with
  | nil => simp at hrm
  | cons x L =>
    rw [List.pairwise_cons] at hs
    have hx : x.path = [] := by
      rcases List.mem_cons.1 hrm with rfl | h
      · exact hr
      · have := hs.1 r h; rw [hr] at this; exact kcmp_nil this
    refine ⟨by simp, fun i hi => ⟨fun h => ?_, fun h => by subst h; simp [hx]⟩⟩
    cases i with
    | zero => rfl
    | succ i =>
      exfalso
      rw [List.countP_cons, if_pos (by simp [hx])] at hc
      have h0 : L.countP (fun x => decide (x.path.length = 0)) = 0 := by omega
      rw [List.countP_eq_zero] at h0
      have := h0 (L[i]'(by simpa using hi)) (List.getElem_mem _)
      simp only [List.getElem_cons_succ] at h
      simp at this
      exact this (List.eq_nil_of_length_eq_zero h)
theorem lfind_pos {path : List ByteArray} : ∀ (l : List Lf) (i : Nat), (∃ y ∈ l, y.path = path) → (i : Int) ≤ lfind path l i
  | [], _, h => by obtain ⟨y, hy, _⟩ := h; simp at hy
  | x :: xs, i, h => by
    rw [lfind]
    split
    · exact Int.le_refl _
    · rename_i hne
      have := lfind_pos (path := path) xs (i + 1) (by
        obtain ⟨y, hy, e⟩ := h
        rcases List.mem_cons.1 hy with rfl | hy
        · exact absurd e hne
        · exact ⟨y, hy, e⟩)
      omega
theorem home_there {d : D} {x : Lf} (hx : x ∈ lsrt (vis [] d)) (h0 : 0 < x.path.length) : 0 ≤ lfind (x.path.take (x.path.length - 1)) (lsrt (vis [] d)) 0 := by
  have hp := lsrt_perm (vis [] d)
  have := (vis_home [] d x (hp.mem_iff.1 hx)).2
  rcases this with e | ⟨y, hy, e⟩
  · rw [e] at h0; simp at h0
  · exact lfind_pos _ 0 ⟨y, hp.mem_iff.2 hy, e⟩
theorem lfew_is {d : D} (h : fewB d = true) : d.Fit := by
  have h' : FewP d 20 := by simpa [fewB] using h
  exact h'.fit.fit
mutual
theorem vis_depth (p : List ByteArray) : ∀ d : D, ∀ x ∈ vis p d, x.doc.size ≤ d.size ∧ x.doc.depth ≤ d.depth
  | .mk kind num str keys kids, x, hx => by
    rw [vis] at hx
    split at hx
    · rcases List.mem_cons.1 hx with rfl | hx
      · simp only [D.size, D.sizes, D.depth, D.depths]; exact ⟨by omega, by omega⟩
      · have := visK_depth p kids keys x hx
        simp only [D.size, D.depth]; exact ⟨by omega, by omega⟩
    · simp only [List.mem_singleton] at hx
      subst hx; exact ⟨Nat.le_refl _, Nat.le_refl _⟩
theorem visK_depth (p : List ByteArray) : ∀ (ds : List D) (ks : List ByteArray), ∀ x ∈ visK p ds ks, x.doc.size ≤ D.sizes ds ∧ x.doc.depth ≤ D.depths ds
  | [], _, x, hx => by simp [visK] at hx
  | d :: ds, [], x, hx => by simp [visK] at hx
  | d :: ds, k :: ks, x, hx => by
    rw [visK] at hx
    rcases List.mem_append.1 hx with hx | hx
    · have := vis_depth (p ++ [k]) d x hx
      simp only [D.sizes, D.depths]; exact ⟨by omega, by omega⟩
    · have := visK_depth p ds ks x hx
      simp only [D.sizes, D.depths]; exact ⟨by omega, by omega⟩
end
end Go.Proofs.Ytdgnengfcabgjaa
