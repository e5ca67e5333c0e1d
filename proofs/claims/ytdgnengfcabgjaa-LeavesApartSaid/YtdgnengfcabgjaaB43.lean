/-
  LeavesCount: plain facts of a right document's leaves.
  Stage 3: a right document is made again of its leaves: plain facts.
  Stage 3: a right document's leaves are told by rising paths; what Tree tells of them, in whatever order: plain facts.
-/
import Derived.Test.YtdgnengfcabgjaaB29
import Derived.Test.YtdgnengfcabgjaaB10
import Derived.Test.YtdgnengfcabgjaaB42
namespace Go.Proofs.Ytdgnengfcabgjaa

/-- How great the leaves' documents are together. -/
def lsum (l : List Lf) : Nat := (l.map fun x => x.doc.size).sum
theorem lsum_append (a b : List Lf) : lsum (a ++ b) = lsum a + lsum b := by simp [lsum]
theorem lsum_perm {a b : List Lf} (h : a.Perm b) : lsum a = lsum b := by
  induction h with
  | nil => rfl
  | cons x h ih => simp only [lsum, List.map_cons, List.sum_cons] at ih ⊢; omega
  | swap x y l => simp only [lsum, List.map_cons, List.sum_cons]; omega
  | trans _ _ ih1 ih2 => omega
theorem lsum_take {l : List Lf} {k : Nat} (h : k < l.length) : lsum (l.take (k + 1)) = lsum (l.take k) + (l[k]).doc.size := by
  rw [List.take_succ_eq_append_getElem h, lsum_append]; simp [lsum]
theorem part_keyed {kind num : Int} {str : ByteArray} {keys : List ByteArray} {kids : List D} (h : partB (.mk kind num str keys kids) = true) (hk : kind = 1 ∨ kind = 2) : kids.length = keys.length := by
  rw [partB_eq, Bool.and_eq_true] at h
  have h1 := h.1
  simp only [soundB, Bool.and_eq_true] at h1
  have h2 := h1.2.2
  have h3 : keyedB (.mk kind num str keys kids) = true := by
    unfold formB at h2
    simp only [D.kind] at h2
    rcases hk with rfl | rfl
    · simpa using h2
    · simpa using h2
  simp only [keyedB, Bool.and_eq_true, D.keys, D.kids] at h3
  exact (of_decide_eq_true h3.1).symm
theorem part_kids {kind num : Int} {str : ByteArray} {keys : List ByteArray} {kids : List D} (h : partB (.mk kind num str keys kids) = true) : partsB kids = true := by
  rw [partB_eq, Bool.and_eq_true] at h; exact h.2
mutual
theorem vis_sum (p : List ByteArray) : ∀ d : D, partB d = true → lsum (vis p d) = d.size
  | .mk kind num str keys kids, h => by
    rw [vis]
    split
    · rename_i hk
      have h1 := visK_sum p kids keys (part_keyed h hk) (part_kids h)
      simp only [lsum, List.map_cons, List.sum_cons, D.size, D.sizes] at h1 ⊢
      omega
    · simp [lsum]
theorem visK_sum (p : List ByteArray) : ∀ (ds : List D) (ks : List ByteArray), ds.length = ks.length → partsB ds = true → lsum (visK p ds ks) = D.sizes ds
  | [], _, _, _ => by simp [visK, lsum, D.sizes]
  | d :: ds, [], h, _ => by simp at h
  | d :: ds, k :: ks, h, hp => by
    simp only [partsB, Bool.and_eq_true] at hp
    rw [visK, lsum_append, vis_sum (p ++ [k]) d hp.1, visK_sum p ds ks (by simpa using h) hp.2, D.sizes]
end
mutual
theorem vis_home (p : List ByteArray) : ∀ d : D, ∀ x ∈ vis p d, p.length ≤ x.path.length ∧ (x.path = p ∨ ∃ y ∈ vis p d, y.path = x.path.take (x.path.length - 1))
  | .mk kind num str keys kids, x, hx => by
    rw [vis] at hx ⊢
    split at hx
    · rename_i hk
      rw [if_pos hk]
      rcases List.mem_cons.1 hx with rfl | hx
      · exact ⟨Nat.le_refl _, .inl rfl⟩
      · obtain ⟨h1, h2⟩ := visK_home p kids keys x hx
        refine ⟨by omega, .inr ?_⟩
        rcases h2 with ⟨k, h2⟩ | ⟨y, hy, e⟩
        · exact ⟨_, List.mem_cons_self, by rw [h2]; simp⟩
        · exact ⟨y, List.mem_cons_of_mem _ hy, e⟩
    · simp only [List.mem_singleton] at hx
      subst hx
      exact ⟨Nat.le_refl _, .inl rfl⟩
theorem visK_home (p : List ByteArray) : ∀ (ds : List D) (ks : List ByteArray), ∀ x ∈ visK p ds ks, p.length < x.path.length ∧ ((∃ k, x.path = p ++ [k]) ∨ ∃ y ∈ visK p ds ks, y.path = x.path.take (x.path.length - 1))
  | [], _, x, hx => by simp [visK] at hx
  | d :: ds, [], x, hx => by simp [visK] at hx
  | d :: ds, k :: ks, x, hx => by
    rw [visK] at hx ⊢
    rcases List.mem_append.1 hx with hx | hx
    · obtain ⟨h1, h2⟩ := vis_home (p ++ [k]) d x hx
      simp only [List.length_append, List.length_singleton] at h1
      refine ⟨by omega, ?_⟩
      rcases h2 with h2 | ⟨y, hy, e⟩
      · exact .inl ⟨k, h2⟩
      · exact .inr ⟨y, List.mem_append_left _ hy, e⟩
    · obtain ⟨h1, h2⟩ := visK_home p ds ks x hx
      refine ⟨h1, ?_⟩
      rcases h2 with h2 | ⟨y, hy, e⟩
      · exact .inl h2
      · exact .inr ⟨y, List.mem_append_right _ hy, e⟩
end
theorem vis_root (d : D) : ∃ r rest, vis [] d = r :: rest ∧ r.path = [] ∧ ∀ x ∈ rest, 0 < x.path.length := by
  by_cases hk : d.kind = 1 ∨ d.kind = 2
  · rw [vis_keyed [] hk]
    exact ⟨_, _, rfl, rfl, fun x hx => by simpa using (visK_home [] _ _ x hx).1⟩
  · rw [vis_leaf [] hk]
    exact ⟨_, [], rfl, rfl, by simp⟩
theorem kcmp_nil {p : List ByteArray} (h : kcmp p [] ≤ 0) : p = [] := by
  cases p with
  | nil => rfl
  | cons a p => simp [kcmp] at h
/-- Among the sorted leaves the root is the first, and no other one. -/
theorem root_only (d : D) : 0 < (lsrt (vis [] d)).length ∧ ∀ i, (h : i < (lsrt (vis [] d)).length) → (((lsrt (vis [] d))[i]).path.length = 0 ↔ i = 0) := by
  obtain ⟨r, rest, e, hr, hrest⟩ := vis_root d
  have hp := lsrt_perm (vis [] d)
  have hs := lsrt_sorted (vis [] d)
  have hc : (lsrt (vis [] d)).countP (fun x => decide (x.path.length = 0)) = 1 := by
    rw [hp.countP_eq, e, List.countP_cons, List.countP_eq_zero.2 (fun x hx => by have := hrest x hx; simp; intro h; rw [h] at this; simp at this)]
    simp [hr]
  have hrm : r ∈ lsrt (vis [] d) := hp.mem_iff.2 (by rw [e]; simp)
  generalize lsrt (vis [] d) = L at *
  cases L with
  | nil => simp at hrm
  | cons x L =>
    rw [List.pairwise_cons] at hs
    have hx : x.path = [] := by
      rcases List.mem_cons.1 hrm with rfl | h
      · exact hr
      · have := hs.1 r h; rw [hr] at this; exact kcmp_nil this
    refine ⟨by simp, fun i hi => ⟨fun h => ?_, fun h => by subst h; simp [hx]⟩⟩
    cases i with
    | zero => rfl
    | succ i =>
      exfalso
      rw [List.countP_cons, if_pos (by simp [hx])] at hc
      have h0 : L.countP (fun x => decide (x.path.length = 0)) = 0 := by omega
      rw [List.countP_eq_zero] at h0
      have := h0 (L[i]'(by simpa using hi)) (List.getElem_mem _)
      simp only [List.getElem_cons_succ] at h
      simp at this
      exact this (List.eq_nil_of_length_eq_zero h)
theorem lfind_pos {path : List ByteArray} : ∀ (l : List Lf) (i : Nat), (∃ y ∈ l, y.path = path) → (i : Int) ≤ lfind path l i
  | [], _, h => by obtain ⟨y, hy, _⟩ := h; simp at hy
  | x :: xs, i, h => by
    rw [lfind]
    split
    · exact Int.le_refl _
    · rename_i hne
      have := lfind_pos (path := path) xs (i + 1) (by
        obtain ⟨y, hy, e⟩ := h
        rcases List.mem_cons.1 hy with rfl | hy
        · exact absurd e hne
        · exact ⟨y, hy, e⟩)
      omega
theorem home_there {d : D} {x : Lf} (hx : x ∈ lsrt (vis [] d)) (h0 : 0 < x.path.length) : 0 ≤ lfind (x.path.take (x.path.length - 1)) (lsrt (vis [] d)) 0 := by
  have hp := lsrt_perm (vis [] d)
  have := (vis_home [] d x (hp.mem_iff.1 hx)).2
  rcases this with e | ⟨y, hy, e⟩
  · rw [e] at h0; simp at h0
  · exact lfind_pos _ 0 ⟨y, hp.mem_iff.2 hy, e⟩
theorem lfew_is {d : D} (h : fewB d = true) : d.Fit := by
  have h' : FewP d 20 := by simpa [fewB] using h
  exact h'.fit.fit
mutual
theorem vis_depth (p : List ByteArray) : ∀ d : D, ∀ x ∈ vis p d, x.doc.size ≤ d.size ∧ x.doc.depth ≤ d.depth
  | .mk kind num str keys kids, x, hx => by
    rw [vis] at hx
    split at hx
    · rcases List.mem_cons.1 hx with rfl | hx
      · simp only [D.size, D.sizes, D.depth, D.depths]; exact ⟨by omega, by omega⟩
      · have := visK_depth p kids keys x hx
        simp only [D.size, D.depth]; exact ⟨by omega, by omega⟩
    · simp only [List.mem_singleton] at hx
      subst hx; exact ⟨Nat.le_refl _, Nat.le_refl _⟩
theorem visK_depth (p : List ByteArray) : ∀ (ds : List D) (ks : List ByteArray), ∀ x ∈ visK p ds ks, x.doc.size ≤ D.sizes ds ∧ x.doc.depth ≤ D.depths ds
  | [], _, x, hx => by simp [visK] at hx
  | d :: ds, [], x, hx => by simp [visK] at hx
  | d :: ds, k :: ks, x, hx => by
    rw [visK] at hx
    rcases List.mem_append.1 hx with hx | hx
    · have := vis_depth (p ++ [k]) d x hx
      simp only [D.sizes, D.depths]; exact ⟨by omega, by omega⟩
    · have := visK_depth p ds ks x hx
      simp only [D.sizes, D.depths]; exact ⟨by omega, by omega⟩
end
end Go.Proofs.Ytdgnengfcabgjaa
namespace Go.Proofs.Ytdgnengfcabgjaa

theorem gr_nil_plus (d : D) : d.plus [] [] = d := D.plus_nil d
mutual
theorem gr_vis (q : List ByteArray) : ∀ d : D, partB d = true → ∃ (x : Lf) (r : List Lf) (ks : List ByteArray) (ds : List D), vis q d = x :: r ∧ x.path = q ∧ x.doc.plus ks ds = d ∧ ∀ tail, Stop q.length tail → Gr q.length (r ++ tail) ks ds tail
  | .mk kind num str keys kids, h => by
    rw [vis]
    split
    · rename_i hk
      refine ⟨_, _, keys, kids, rfl, rfl, by simp [D.plus, D.kind, D.num, D.str, D.keys, D.kids], fun tail ht => gr_visK q kids keys (part_keyed h hk) (part_kids h) tail ht⟩
    · exact ⟨_, [], [], [], rfl, rfl, D.plus_nil _, fun tail _ => .refl _ _⟩
theorem gr_visK (q : List ByteArray) : ∀ (ds : List D) (ks : List ByteArray), ds.length = ks.length → partsB ds = true → ∀ tail, Stop q.length tail → Gr q.length (visK q ds ks ++ tail) ks ds tail
  | [], [], _, _, tail, _ => by rw [visK]; exact .refl _ _
  | [], _ :: _, h, _, _, _ => by simp at h
  | _ :: _, [], h, _, _, _ => by simp at h
  | d :: ds, k :: ks, h, hp, tail, ht => by
    simp only [partsB, Bool.and_eq_true] at hp
    have hl : ds.length = ks.length := by simpa using h
    obtain ⟨x, r, ks', ds', e, hx, hd, hg⟩ := gr_vis (q ++ [k]) d hp.1
    have hlen : x.path.length = q.length + 1 := by rw [hx]; simp
    have hst : Stop (q ++ [k]).length (visK q ds ks ++ tail) := by
      intro y r' e'
      cases ds with
      | nil =>
        cases ks with
        | nil => rw [visK, List.nil_append] at e'; have := ht y r' e'; simp; omega
        | cons _ _ => simp at hl
      | cons d2 ds2 =>
        cases ks with
        | nil => simp at hl
        | cons k2 ks2 =>
          simp only [partsB, Bool.and_eq_true] at hp
          obtain ⟨x2, r2, _, _, e2, hx2, _, _⟩ := gr_vis (q ++ [k2]) d2 hp.2.1
          rw [visK, e2, List.cons_append, List.cons_append] at e'
          injection e' with e3 _
          rw [← e3, hx2]; simp
    have hr := gr_visK q ds ks hl hp.2 tail ht
    have hkid := hg (visK q ds ks ++ tail) hst
    rw [visK, e, List.append_assoc, List.cons_append]
    have hdep : q.length < x.path.length := by omega
    have hkey : x.path[q.length] = k := by simp [hx]
    have hlq : (q ++ [k]).length = x.path.length := by rw [hx]
    rw [hlq] at hkid hst
    have := Gr.kid (dep := q.length) hdep hkid hst hr
    rwa [hkey, hd] at this
end
theorem grown_vis {d : D} (h : partB d = true) : grownD (vis [] d) = d := by
  obtain ⟨x, r, ks, ds, e, hx, hd, hg⟩ := gr_vis [] d h
  have := hg [] (fun _ _ e => by cases e)
  rw [List.append_nil] at this
  rw [e, grownD_of (by rw [hx]; exact this) (fun _ _ e => by cases e), hd]
theorem begs_trans {p q r : List ByteArray} (h1 : begs p (q ++ r) = true) : begs p q = true := by
  simp only [begs, Bool.and_eq_true, decide_eq_true_eq, List.length_append] at h1 ⊢
  refine ⟨by omega, ?_⟩
  have := congrArg (List.take q.length) h1.2
  rw [List.take_take, Nat.min_eq_left (by omega), List.take_left' rfl] at this
  exact this
theorem begs_self (q : List ByteArray) : begs q q = true := by simp [begs]
mutual
theorem miss_vis (q : List ByteArray) : ∀ (d : D) (prev : List ByteArray), begs prev (q.take (q.length - 1)) = true → ∃ last, begs last q = true ∧ ∀ tail, missK prev (vis q d ++ tail) = missK last tail
  | .mk kind num str keys kids, prev, hb => by
    rw [vis]
    split
    · obtain ⟨last, hl, ht⟩ := miss_visK q kids keys q (begs_self q)
      refine ⟨last, hl, fun tail => ?_⟩
      rw [List.cons_append, missK]
      simp only [hb, Bool.not_true, Bool.false_or]
      exact ht tail
    · refine ⟨q, begs_self q, fun tail => ?_⟩
      rw [List.cons_append, missK]
      simp only [hb, Bool.not_true, Bool.false_or, List.nil_append]
theorem miss_visK (q : List ByteArray) : ∀ (ds : List D) (ks : List ByteArray) (prev : List ByteArray), begs prev q = true → ∃ last, begs last q = true ∧ ∀ tail, missK prev (visK q ds ks ++ tail) = missK last tail
  | [], _, prev, hb => ⟨prev, hb, fun tail => by rw [visK, List.nil_append]⟩
  | _ :: _, [], prev, hb => ⟨prev, hb, fun tail => by rw [visK, List.nil_append]⟩
  | d :: ds, k :: ks, prev, hb => by
    obtain ⟨l1, h1, t1⟩ := miss_vis (q ++ [k]) d prev (by simpa using hb)
    obtain ⟨l2, h2, t2⟩ := miss_visK q ds ks l1 (begs_trans h1)
    refine ⟨l2, h2, fun tail => ?_⟩
    rw [visK, List.append_assoc, t1, t2]
end
theorem missL_vis (d : D) : missL (vis [] d) = false := by
  obtain ⟨kind, num, str, keys, kids⟩ := d
  rw [vis]
  split
  · obtain ⟨last, _, ht⟩ := miss_visK [] kids keys [] (begs_self [])
    have := ht []
    rw [List.append_nil] at this
    simp [missL, this, missK]
  · simp [missL, missK]
end Go.Proofs.Ytdgnengfcabgjaa
namespace Go.Proofs.Ytdgnengfcabgjaa

theorem lup_next : ∀ {l : List ByteArray}, (∀ (j : Nat) (h : j + 1 < l.length), scmp l[j] l[j + 1] = -1) → l.Pairwise fun a b => scmp a b = -1
  | [], _ => List.Pairwise.nil
  | [_], _ => by simp
  | a :: b :: l, h => by
    have ih := lup_next (l := b :: l) fun j hj => h (j + 1) (by simpa using hj)
    rw [List.pairwise_cons]
    refine ⟨fun x hx => ?_, ih⟩
    have hab : scmp a b = -1 := h 0 (by simp)
    rcases List.mem_cons.1 hx with rfl | hx
    · exact hab
    · exact scmp_ordered.trans a b x trivial trivial trivial hab ((List.pairwise_cons.1 ih).1 x hx)
theorem part_up {kind num : Int} {str : ByteArray} {keys : List ByteArray} {kids : List D} (h : partB (.mk kind num str keys kids) = true) (hk : kind = 1 ∨ kind = 2) : keys.Pairwise fun a b => scmp a b = -1 := by
  rw [partB_eq, Bool.and_eq_true] at h
  have h1 := h.1
  simp only [soundB, Bool.and_eq_true] at h1
  have h2 := h1.2.2
  have h3 : keyedB (.mk kind num str keys kids) = true := by
    unfold formB at h2
    simp only [D.kind] at h2
    rcases hk with rfl | rfl
    · simpa using h2
    · simpa using h2
  simp only [keyedB, Bool.and_eq_true, D.keys, D.kids] at h3
  have h4 := of_decide_eq_true h3.2
  refine lup_next fun j hj => ?_
  have h5 := h4 (j + 1) hj
  rw [keyAt_succ (d := .mk kind num str keys kids) hj, Bool.and_eq_true] at h5
  exact of_decide_eq_true h5.2
theorem scmp_self (a : ByteArray) : scmp a a = 0 := (scmp_ordered.eq a a trivial trivial).2 rfl
theorem kcmp_app : ∀ (p a b : List ByteArray), kcmp (p ++ a) (p ++ b) = kcmp a b
  | [], _, _ => rfl
  | x :: p, a, b => by simp only [List.cons_append, kcmp, scmp_self, if_true]; exact kcmp_app p a b
mutual
theorem vis_pre (q : List ByteArray) : ∀ d : D, ∀ x ∈ vis q d, ∃ r, x.path = q ++ r
  | .mk kind num str keys kids, x, hx => by
    rw [vis] at hx
    split at hx
    · rcases List.mem_cons.1 hx with rfl | hx
      · exact ⟨[], by simp⟩
      · obtain ⟨k, _, r, e⟩ := visK_pre q kids keys x hx
        exact ⟨k :: r, e⟩
    · simp only [List.mem_singleton] at hx
      subst hx; exact ⟨[], by simp⟩
theorem visK_pre (q : List ByteArray) : ∀ (ds : List D) (ks : List ByteArray), ∀ x ∈ visK q ds ks, ∃ k ∈ ks, ∃ r, x.path = q ++ k :: r
  | [], _, x, hx => by simp [visK] at hx
  | _ :: _, [], x, hx => by simp [visK] at hx
  | d :: ds, k :: ks, x, hx => by
    rw [visK] at hx
    rcases List.mem_append.1 hx with hx | hx
    · obtain ⟨r, e⟩ := vis_pre (q ++ [k]) d x hx
      exact ⟨k, by simp, r, by simpa using e⟩
    · obtain ⟨k', hk', r, e⟩ := visK_pre q ds ks x hx
      exact ⟨k', by simp [hk'], r, e⟩
end
mutual
theorem vis_up (q : List ByteArray) : ∀ d : D, partB d = true → (vis q d).Pairwise fun a b => kcmp a.path b.path = -1
  | .mk kind num str keys kids, h => by
    rw [vis]
    split
    · rename_i hk
      rw [List.pairwise_cons]
      refine ⟨fun x hx => ?_, visK_up q kids keys (part_up h hk) (part_kids h)⟩
      obtain ⟨k, _, r, e⟩ := visK_pre q kids keys x hx
      rw [e]
      have := kcmp_app q [] (k :: r)
      rw [List.append_nil] at this
      rw [this]; rfl
    · simp
theorem visK_up (q : List ByteArray) : ∀ (ds : List D) (ks : List ByteArray), (ks.Pairwise fun a b => scmp a b = -1) → partsB ds = true → (visK q ds ks).Pairwise fun a b => kcmp a.path b.path = -1
  | [], _, _, _ => by simp [visK]
  | _ :: _, [], _, _ => by simp [visK]
  | d :: ds, k :: ks, hu, hp => by
    simp only [partsB, Bool.and_eq_true] at hp
    rw [List.pairwise_cons] at hu
    rw [visK, List.pairwise_append]
    refine ⟨vis_up (q ++ [k]) d hp.1, visK_up q ds ks hu.2 hp.2, fun x hx y hy => ?_⟩
    obtain ⟨r, e⟩ := vis_pre (q ++ [k]) d x hx
    obtain ⟨k', hk', r', e'⟩ := visK_pre q ds ks y hy
    rw [e, e', List.append_assoc, kcmp_app]
    have h1 := hu.1 k' hk'
    simp only [List.cons_append, kcmp, h1]
    rfl
end
theorem srt_of {β : Type} {c : β → β → Int} (l : List β) : l.Pairwise (fun a b => c a b ≤ 0) → srt c l = l := by
  induction l using snoc_induction with
  | nil => intro _; rfl
  | snoc l x ih =>
    intro h
    rw [List.pairwise_append] at h
    rw [srt_snoc, ih h.1]
    have := insL_split c x [] (by simp) l (fun a ha => h.2.2 a ha x (by simp))
    rwa [List.append_nil] at this
theorem lsrt_vis {d : D} (h : partB d = true) : lsrt (vis [] d) = vis [] d := srt_of _ ((vis_up [] d h).imp fun h => by rw [h]; omega)
theorem twiceL_up : ∀ {l : List Lf}, (l.Pairwise fun a b => kcmp a.path b.path = -1) → twiceL l = false
  | [], _ => rfl
  | [_], _ => rfl
  | x :: y :: r, h => by
    rw [List.pairwise_cons] at h
    have h1 := h.1 y (by simp)
    rw [twiceL, twiceL_up h.2, h1]; rfl
/-- Whatever the order, the leaves are sorted alike. -/
theorem lsrt_of_perm {d : D} (h : partB d = true) {l : List Lf} (hp : l.Perm (vis [] d)) : lsrt l = vis [] d := by
  have h1 := lsrt_sorted l
  have h2 := vis_up [] d h
  have hpp : (lsrt l).Perm (vis [] d) := (lsrt_perm l).trans hp
  refine hpp.eq_of_pairwise (le := fun a b => kcmp a.path b.path ≤ 0) (fun a b ha hb hab hba => ?_) h1 (h2.imp fun h => by rw [h]; omega)
  have h0 : kcmp a.path b.path = 0 := by have := kcmp_flip a.path b.path; omega
  have ha' := hpp.mem_iff.1 ha
  obtain ⟨i, hi, rfl⟩ := List.getElem_of_mem ha'
  obtain ⟨j, hj, rfl⟩ := List.getElem_of_mem hb
  rw [List.pairwise_iff_getElem] at h2
  rcases Nat.lt_trichotomy i j with hij | hij | hij
  · have := h2 i j hi hj hij; omega
  · subst hij; rfl
  · have := h2 j i hj hi hij
    have := kcmp_flip (vis [] d)[j].path (vis [] d)[i].path; omega
theorem D.same_refl (d : D) : D.same d d = true := by unfold D.same; rw [decide_eq_true_eq]; exact (D.cmp_ordered.eq d d trivial trivial).2 rfl
theorem sameLs_iff : ∀ {xs ys : List Lf}, sameLs xs ys = true ↔ xs = ys
  | [], [] => by simp [sameLs]
  | [], _ :: _ => by simp [sameLs]
  | _ :: _, [] => by simp [sameLs]
  | x :: xs, y :: ys => by
    rw [sameLs, Bool.and_eq_true, sameLs_iff, alikeB, Bool.and_eq_true, decide_eq_true_eq, List.cons.injEq]
    constructor
    · rintro ⟨⟨h1, h2⟩, h3⟩
      unfold D.same at h2
      rw [decide_eq_true_eq] at h2
      have h4 := (D.cmp_ordered.eq _ _ trivial trivial).1 h2
      obtain ⟨p, d⟩ := x; obtain ⟨p', d'⟩ := y
      simp only at h1 h4
      exact ⟨by rw [h1, h4], h3⟩
    · rintro ⟨rfl, h3⟩
      exact ⟨⟨rfl, D.same_refl _⟩, h3⟩
/-- A right document is told back by its leaves, in whatever order. -/
theorem tree_back {d : D} (h : rightB d = true) {l : List Lf} (hp : l.Perm (vis [] d)) : treeV l = (d, 0) := by
  have hpt := (okB_iff.1 h).2.2
  have e := lsrt_of_perm hpt hp
  unfold treeV
  rw [e, twiceL_up (vis_up [] d hpt), missL_vis, grown_vis hpt, lsrt_vis hpt, h, (sameLs_iff (xs := vis [] d)).2 rfl]
  rfl
/-- Unlike documents have unlike leaves. -/
theorem flat_same {a b : D} (ha : rightB a = true) (hb : rightB b = true) : sameLs (lsrt (vis [] a)) (lsrt (vis [] b)) = D.same a b := by
  have pa := (okB_iff.1 ha).2.2; have pb := (okB_iff.1 hb).2.2
  rw [lsrt_vis pa, lsrt_vis pb, Bool.eq_iff_iff, sameLs_iff]
  constructor
  · intro h
    have h1 := grown_vis pa; have h2 := grown_vis pb
    rw [h] at h1
    rw [← h1, h2]; exact D.same_refl b
  · intro h
    unfold D.same at h
    rw [decide_eq_true_eq] at h
    rw [(D.cmp_ordered.eq a b trivial trivial).1 h]
end Go.Proofs.Ytdgnengfcabgjaa
