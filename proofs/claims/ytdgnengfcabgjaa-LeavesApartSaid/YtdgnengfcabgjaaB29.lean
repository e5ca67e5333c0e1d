/-
  leaves.parts and leaves.Flat.
  leaves.Tree: plain facts.
-/
import Derived.Test.YtdgnengfcabgjaaB18
import Derived.Test.YtdgnengfcabgjaaB25
import Derived.Test.YtdgnengfcabgjaaB08
import Derived.Test.YtdgnengfcabgjaaB10
import Derived.Test.YtdgnengfcabgjaaB13
import Derived.Test.YtdgnengfcabgjaaB28
import Derived.Test.YtdgnengfcabgjaaB11
namespace Go.Proofs.Ytdgnengfcabgjaa
open Go.RowKit Go.Shelf
attribute [local go_sem] Oper.semAt_some

theorem visit_all {l m M N : Nat} {J : List Mk → World → Prop} (C : YieldC l J m M N) : ∀ k, VisAt l m N J k
  | 0 => fun d _ _ _ _ _ _ h => by have := D.depth_eq d; omega
  | k + 1 => fun d p v dv pre W B h1 hst hco hB hd hf hpl hlen => by
    by_cases hk : d.kind = 1 ∨ d.kind = 2
    · exact visit_kids C (visit_all C k) h1 hst hco hB hd hf hk hpl hlen
    · exact visit_leaf C hst (Nat.le_trans hB hst.hm) hd hf hk (by rw [vis_leaf p hk] at hlen; simp at hlen; omega) (by omega)
theorem parts_any {v0 v1 v2 v3 v4 : Value} (w : World) : Calls Try.prog 40 #[.agg #[v0, v1, v2, v3, v4]] w fun e w' => e = .returned (.func (.func 66) #[] #[.pointer (some ⟨w.heap.size, 0, none⟩)]) ∧ w' = w.alloc (.cells #[v0, v1, v2, v3, v4] 25) := by
  go_enter Try.func40, Try.ntmps40
  go_wp2_with fail
  go_ret
  exact ⟨rfl, rfl⟩
set_option maxRecDepth 100000 in
set_option maxHeartbeats 4000000 in
theorem parts_seq {d : D} {v0 v1 v2 v3 v4 : Value} {Bd m B N : Nat} {w0 : World} (hm : m ≤ w0.heap.size) (hBm : B ≤ m) (hbx : Box5 w0 Bd v0 v1 v2 v3 v4) (hd : DocIn w0 B d v0 v1 v2 v3 v4) (hf : d.Fit) (hdep : d.depth ≤ 9000) (hN : (vis [] d).length ≤ N) :
    SeqR Try.prog 66 #[.pointer (some ⟨Bd, 0, none⟩)] (fun x => #[.agg (Mk.enc x).toArray]) StrO RowO m MkR (fun xs W => xs.map (·.lf) = vis [] d ∧ Mks m xs W) N w0 := by
  intro l J W hW hJ hY h0
  have hbxW : Box5 W Bd v0 v1 v2 v3 v4 := hbx.same (hW.block Bd hbx.lt)
  have hmW : m ≤ W.heap.size := Nat.le_trans hm hW.size
  have hdW : DocV W B d (.agg #[v0, v1, v2, v3, v4]) := ⟨_, _, _, _, _, rfl, hd.keep (Nat.le_refl _) fun p hp => hW.cell (show p.block < w0.heap.size by omega)⟩
  have hst : VisSt J m [] (.slice none 0 0) [] W := ⟨h0, ⟨by simp, by simp⟩, by simp, World.ownsRow_nil _ _ _ _, by simp, hmW⟩
  have HV := Lib.hid (visit_all (M := W.heap.size) ⟨hJ, hY⟩ d.depth d [] (.slice none 0 0) _ [] W B (Nat.le_refl _) hst ⟨none, 0, rfl, fun _ => rfl⟩ hBm hdW hf (by simpa using hdep) (by simpa using hN))
  obtain ⟨c0, c1, c2, c3, c4⟩ := hbxW.cells
  clear hst hdW hJ hY h0 hbx hbxW hd hW
  refine callsIn_of_wp Try.func66 rfl trivial ?_ rfl
  simp only [Try.ntmps66, List.size_toArray, List.length_cons, List.length_nil, Nat.reduceAdd, Nat.reduceSub, Array.replicate_succ, Array.replicate_zero, List.push_toArray, List.append_toArray, List.nil_append, List.cons_append]
  gi_wp2_with (refine ⟨trivial, rfl, ?_⟩; gi_at_call 67; refine (callsIn_wide.2 HV.out).mono ?_; rintro e w7 ⟨rfl, ys, h1, _, h3, _⟩; have H := Lib.hid (And.intro h1 h3); clear h1 h3 HV)
  go_end0
  exact ⟨⟨_, rfl⟩, ys, ⟨H.out.1, H.out.2.mks⟩, H.out.2.j⟩
theorem vis_path {n : Nat} : ∀ (k : Nat) (d : D) (p : List ByteArray), d.depth ≤ k → p.length + k ≤ n → ∀ x ∈ vis p d, x.path.length ≤ n := by
  intro k
  induction k with
  | zero => intro d p h; have := D.depth_eq d; omega
  | succ k ih =>
    intro d p hdk hp x hx
    have hde := D.depth_eq d
    by_cases hk : d.kind = 1 ∨ d.kind = 2
    · rw [vis_keyed p hk] at hx
      rcases List.mem_cons.1 hx with rfl | hx
      · show p.length ≤ n; omega
      · have key : ∀ (ds : List D) (ks : List ByteArray), (∀ d' ∈ ds, d'.depth ≤ k) → ∀ x ∈ visK p ds ks, x.path.length ≤ n := by
          intro ds
          induction ds with
          | nil => intro ks _ x hx; simp [visK] at hx
          | cons d' ds ihd =>
            intro ks hds x hx
            cases ks with
            | nil => simp [visK] at hx
            | cons s ks =>
              rw [visK] at hx
              rcases List.mem_append.1 hx with hx | hx
              · exact ih d' (p ++ [s]) (hds d' (by simp)) (by simp; omega) x hx
              · exact ihd ks (fun d2 h2 => hds d2 (by simp [h2])) x hx
        refine key d.kids d.keys (fun d' hd' => ?_) x hx
        obtain ⟨i, hi, rfl⟩ := List.getElem_of_mem hd'
        have := kid_depth hi
        omega
    · rw [vis_leaf p hk] at hx
      simp only [List.mem_singleton] at hx
      subst hx; show p.length ≤ n; omega
/-- A document's leaves, by rising paths. -/
theorem lflat_any {d : D} {dv : Value} {B : Nat} {w : World} (hB : B ≤ w.heap.size) (hd : DocV w B d dv) (hf : d.Fit) (hdep : d.depth ≤ 9000) (hN : (vis [] d).length ≤ 1000000) :
    Calls Try.prog 14 #[dv] w (MadeLvs w.heap.size w (lsrt (vis [] d))) := by
  obtain ⟨v0, v1, v2, v3, v4, rfl, hdi⟩ := hd
  have hb1 : Below w.heap.size w (w.alloc (.cells #[v0, v1, v2, v3, v4] 25)) := (Below.refl _ w).alloc (Nat.le_refl _) _
  have hb2 : Below w.heap.size w ((w.alloc (.cells #[v0, v1, v2, v3, v4] 25)).alloc (.cells #[v0, v1, v2, v3, v4] 25)) := hb1.trans (((Below.refl _ (w.alloc (.cells #[v0, v1, v2, v3, v4] 25))).alloc (Nat.le_refl _) _).mono (by simp))
  obtain ⟨b0, b1, b2, b3, b4⟩ := (Box5.new w v0 v1 v2 v3 v4).cells
  have hbx := Box5.new' (World.size_alloc w (.cells #[v0, v1, v2, v3, v4] 25)) v0 v1 v2 v3 v4
  have hseq := parts_seq (N := 1000000) (m := ((w.alloc (.cells #[v0, v1, v2, v3, v4] 25)).alloc (.cells #[v0, v1, v2, v3, v4] 25)).heap.size) (Nat.le_refl _) (B := B) (by simp; omega) hbx (hdi.keep (Nat.le_refl _) fun p hp => hb2.cell (Nat.lt_of_lt_of_le hp hB)) hf hdep hN
  have hcall := sorted_any (enters_of Try.func66 (by kernel_rfl) rfl) hseq (Nat.le_refl _) (fun _ h => h)
    (fun xs _ _ h hk => ⟨h.1, h.2.keeps hk memO_rowMark⟩)
    (fun xs _ h => ⟨by have := congrArg List.length h.1; simp at this; omega, fun x hx => (h.2.each x hx).1, fun x hx => vis_path (n := 10000) d.depth d [] (Nat.le_refl _) (by simp; omega) _ (by rw [← h.1]; exact List.mem_map.2 ⟨x, hx, rfl⟩)⟩)
  have HCALL := Lib.hid hcall; have HB2 := Lib.hid hb2
  obtain ⟨A3, c3, A4, c4, rfl, rfl, rfl, rfl, rfl⟩ := hdi.forms
  clear hcall hseq hbx hb1 hb2 hdi
  go_enter Try.func14, Try.ntmps14
  go_wp2_with (first
    | (go_at_call 40; refine (parts_any _).mono ?_; rintro e w' ⟨rfl, rfl⟩)
    | (go_at_call 39; refine HCALL.out.mono ?_; rintro e w2 ⟨v', xs, rfl, hs, ho, _, hb2⟩; have H := Lib.hid (And.intro hs (And.intro ho hb2)); clear hs ho hb2 HCALL))
  go_ret
  obtain ⟨hs, ho, hb2⟩ := H.out
  refine ⟨v', srt (byP mkP) xs, rfl, ?_, ownLvs_of (by simp; omega) hs.2 ho, HB2.out.trans (hb2.mono (by simp; omega))⟩
  rw [srt_map (byP mkP) (fun a b : Lf => kcmp a.path b.path) (·.lf) (fun _ _ => rfl), hs.1]; rfl
end Go.Proofs.Ytdgnengfcabgjaa
namespace Go.Proofs.Ytdgnengfcabgjaa

section
variable {β : Type} {c : β → β → Int}
theorem insL_sorted (hf : ∀ a b, c b a = - c a b) (ht : ∀ a b d, c a b ≤ 0 → c b d ≤ 0 → c a d ≤ 0) (x : β) : ∀ l : List β, l.Pairwise (fun a b => c a b ≤ 0) → (insL c x l).Pairwise (fun a b => c a b ≤ 0)
  | [], _ => by simp [insL]
  | y :: ys, h => by
    rw [List.pairwise_cons] at h
    rw [insL]
    by_cases hc : c y x ≤ 0
    · rw [if_pos hc, List.pairwise_cons]
      refine ⟨fun z hz => ?_, insL_sorted hf ht x ys h.2⟩
      rcases List.mem_cons.1 ((insL_perm c x ys).subset hz) with rfl | hz
      · exact hc
      · exact h.1 z hz
    · rw [if_neg hc, List.pairwise_cons, List.pairwise_cons]
      have hxy : c x y ≤ 0 := by rw [hf y x]; omega
      refine ⟨fun z hz => ?_, h.1, h.2⟩
      rcases List.mem_cons.1 hz with rfl | hz
      · exact hxy
      · exact ht _ _ _ hxy (h.1 z hz)
theorem srt_sorted (hf : ∀ a b, c b a = - c a b) (ht : ∀ a b d, c a b ≤ 0 → c b d ≤ 0 → c a d ≤ 0) (l : List β) : (srt c l).Pairwise (fun a b => c a b ≤ 0) := by
  induction l using snoc_induction with
  | nil => simp [srt]
  | snoc l x ih => rw [srt_snoc]; exact insL_sorted hf ht x _ ih
end
theorem kcmp_le {a b d : List ByteArray} (h1 : kcmp a b ≤ 0) (h2 : kcmp b d ≤ 0) : kcmp a d ≤ 0 := by
  have o := kcmp_ordered
  rcases o.cases a b trivial trivial with e | e | e
  · rcases o.cases b d trivial trivial with f | f | f
    · rw [o.trans a b d trivial trivial trivial e f]; omega
    · rw [(o.eq b d trivial trivial).1 f] at e; omega
    · omega
  · rw [(o.eq a b trivial trivial).1 e]; exact h2
  · omega
theorem kcmp_flip (a b : List ByteArray) : kcmp b a = - kcmp a b := kcmp_ordered.flip a b trivial trivial
theorem lsrt_sorted (l : List Lf) : (lsrt l).Pairwise (fun a b => kcmp a.path b.path ≤ 0) := srt_sorted (c := fun a b : Lf => kcmp a.path b.path) (fun a b => kcmp_flip a.path b.path) (fun _ _ _ h1 h2 => kcmp_le h1 h2) l
theorem lsrt_perm (l : List Lf) : (lsrt l).Perm l := srt_perm _ l
theorem twiceL_at {ls : List Lf} (h : twiceL ls = false) : ∀ k, (hk : k + 1 < ls.length) → kcmp (ls[k]).path (ls[k + 1]).path ≠ 0 := by
  have key : ∀ k, k ≤ ls.length → twiceL (ls.drop k) = false := fun k => by
    induction k with
    | zero => intro _; exact h
    | succ k ih =>
      intro hk
      rcases Nat.lt_or_ge (k + 1) ls.length with h1 | h1
      · have := ih (by omega)
        rw [twiceL_next h1, Bool.or_eq_false_iff] at this
        exact this.2
      · exact twiceL_end (by omega)
  intro k hk
  have := key k (by omega)
  rw [twiceL_next hk, Bool.or_eq_false_iff] at this
  exact of_decide_eq_false this.1
/-- In a sorted row in which no path stands twice, only the first may be the root. -/
theorem root_first {ls : List Lf} (hs : ls.Pairwise (fun a b => kcmp a.path b.path ≤ 0)) (ht : twiceL ls = false) (h0 : 0 < ls.length) (hr : (ls[0]).path.length = 0) : ∀ k, (h : k + 1 < ls.length) → 0 < (ls[k + 1]).path.length := by
  intro k hk
  refine Nat.pos_of_ne_zero fun h => ?_
  have e0 : (ls[0]).path = [] := List.eq_nil_of_length_eq_zero hr
  have ek : (ls[k + 1]).path = [] := List.eq_nil_of_length_eq_zero h
  have h1 := twiceL_at ht 0 (by omega)
  rw [List.pairwise_iff_getElem] at hs
  have h2 := hs 0 1 (by omega) (by omega) (by omega)
  have h3 : kcmp (ls[1]).path (ls[k + 1]).path ≤ 0 := by
    rcases Nat.eq_zero_or_pos k with rfl | hk0
    · rw [(kcmp_ordered.eq _ _ trivial trivial).2 rfl]; exact Int.le_refl 0
    · exact hs 1 (k + 1) (by omega) hk (by omega)
  rw [ek, kcmp_flip, ← e0] at h3
  have h4 := kcmp_flip (ls[0]).path (ls[1]).path
  simp only [Nat.zero_add] at h1
  omega
mutual
theorem vis_len (p : List ByteArray) : ∀ d : D, (vis p d).length ≤ d.size
  | .mk kind num str keys kids => by
    rw [vis]
    split
    · have := visK_len p kids keys
      simp only [List.length_cons, D.size]; omega
    · simp only [List.length_cons, List.length_nil, D.size]; omega
theorem visK_len (p : List ByteArray) : ∀ (ds : List D) (ks : List ByteArray), (visK p ds ks).length ≤ D.sizes ds
  | [], _ => by simp [visK]
  | _ :: _, [] => by simp [visK]
  | d :: ds, k :: ks => by
    have h1 := vis_len (p ++ [k]) d; have h2 := visK_len p ds ks
    rw [visK, List.length_append, D.sizes]; omega
end
/-- Leaves of which a document that fits can be made. -/
def SmallL (x : Lf) : Prop := x.doc.Fit ∧ x.doc.keys.length ≤ 5000 ∧ x.doc.kids.length ≤ 5000 ∧ ∀ s ∈ x.path, s.size ≤ 9223372036854775807
theorem Gr.suffix {dep : Nat} {l r : List Lf} {ks : List ByteArray} {ds : List D} (h : Gr dep l ks ds r) : ∀ x ∈ r, x ∈ l := by
  induction h with
  | refl => exact fun _ h => h
  | kid h hk hs hr ih1 ih2 => exact fun x hx => List.mem_cons_of_mem _ (ih1 x (ih2 x hx))
theorem fit_plus {x : Lf} {ks : List ByteArray} {ds : List D} (hx : SmallL x) (h1 : ks.length ≤ 5000) (h2 : ds.length ≤ 5000) (h3 : ∀ k ∈ ks, k.size ≤ 9223372036854775807) (h4 : D.Fits ds) : (x.doc.plus ks ds).Fit := by
  obtain ⟨p, ⟨kind, num, str, keys, kids⟩⟩ := x
  obtain ⟨hf, a, b, _⟩ := hx
  simp only [D.Fit] at hf
  simp only [D.keys, D.kids] at a b
  have happ : ∀ l : List D, D.Fits l → D.Fits (l ++ ds) := fun l => by
    induction l with
    | nil => intro _; simpa using h4
    | cons d r ih => intro h; simp only [D.Fits] at h; simp only [List.cons_append, D.Fits]; exact ⟨h.1, ih h.2⟩
  simp only [D.plus, D.kind, D.num, D.str, D.keys, D.kids, D.Fit]
  refine ⟨hf.1, by rw [List.length_append]; omega, by rw [List.length_append]; omega, fun k hk => ?_, happ kids hf.2.2.2.2⟩
  rcases List.mem_append.1 hk with hk | hk
  · exact hf.2.2.2.1 k hk
  · exact h3 k hk
theorem Gr.fit {dep : Nat} {l r : List Lf} {ks : List ByteArray} {ds : List D} (h : Gr dep l ks ds r) : (∀ x ∈ l, SmallL x) → l.length ≤ 5000 → (∀ k ∈ ks, k.size ≤ 9223372036854775807) ∧ D.Fits ds := by
  induction h with
  | refl => intro _ _; exact ⟨by simp, by simp [D.Fits]⟩
  | kid h hk hs hr ih1 ih2 =>
    rename_i dep x r r1 r2 ks ks2 ds ds2
    intro hl hlen
    have l1 := hk.len
    simp only [List.length_cons] at hlen
    have h1 := ih1 (fun y hy => hl y (by simp [hy])) (by omega)
    have h2 := ih2 (fun y hy => hl y (by simp [hk.suffix y hy])) (by omega)
    have hx := hl x (by simp)
    refine ⟨fun k hk => ?_, ?_⟩
    · rcases List.mem_cons.1 hk with rfl | hk
      · exact hx.2.2.2 _ (List.getElem_mem h)
      · exact h2.1 k hk
    · simp only [D.Fits]
      exact ⟨fit_plus hx (by omega) (by omega) h1.1 h1.2, h2.2⟩
/-- What Tree tells of a row, and its error. -/
def treeV (ls : List Lf) : D × Int :=
  if twiceL (lsrt ls) then (D.zero, 5)
  else if missL (lsrt ls) then (D.zero, 9)
  else if !rightB (grownD (lsrt ls)) || !sameLs (lsrt (vis [] (grownD (lsrt ls)))) (lsrt ls) then (D.zero, 1)
  else (grownD (lsrt ls), 0)
end Go.Proofs.Ytdgnengfcabgjaa
