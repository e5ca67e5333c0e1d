/-
  leaves.Sort.
  The document that grows out of leaves of memory of their own: where its parts lie.
  leaves.grown: the steps, the row of leaves, the contract.
-/
import Derived.Test.YtdgnengfcabgjaaB24
import Derived.Test.YtdgnengfcabgjaaB08
import Derived.Test.YtdgnengfcabgjaaB15
import Derived.Test.YtdgnengfcabgjaaB11
import Derived.Deep.AppendLies
import Derived.Deep.RegionLaw
namespace Go.Proofs.Ytdgnengfcabgjaa
open Go.RowKit Go.Shelf

theorem insL_map {β γ : Type} (c : β → β → Int) (c' : γ → γ → Int) (f : β → γ) (h : ∀ a b, c a b = c' (f a) (f b)) (x : β) : ∀ l : List β, (insL c x l).map f = insL c' (f x) (l.map f)
  | [] => rfl
  | y :: ys => by
    rw [insL, List.map_cons, insL, h y x]
    by_cases hc : c' (f y) (f x) ≤ 0
    · rw [if_pos hc, if_pos hc, List.map_cons, insL_map c c' f h x ys]
    · rw [if_neg hc, if_neg hc, List.map_cons, List.map_cons]
theorem srt_map {β γ : Type} (c : β → β → Int) (c' : γ → γ → Int) (f : β → γ) (h : ∀ a b, c a b = c' (f a) (f b)) (l : List β) : (srt c l).map f = srt c' (l.map f) := by
  induction l using snoc_induction with
  | nil => rfl
  | snoc l x ih => rw [srt_snoc, List.map_append, List.map_singleton, srt_snoc, insL_map c c' f h, ih]
/-- The row by rising paths; leaves of alike ones in their order. -/
def lsrt (l : List Lf) : List Lf := srt (fun a b => kcmp a.path b.path) l
/-- A row of leaves, of memory of its own: no two leaves share any. -/
structure OwnLvs (w : World) (base : Nat) (v : Value) (ys : List Mk) : Prop where
  row : w.ownsRow base 42 6 v ys.length (ys.flatMap Mk.enc)
  each : ∀ y ∈ ys, MkIn y w ∧ base ≤ y.lo
  apart : ys.Pairwise fun x y => x.hi ≤ y.lo ∨ y.hi ≤ x.lo
def MadeLvs (W0 : Nat) (w : World) (ls : List Lf) (e : Ending) (w' : World) : Prop :=
  ∃ (v : Value) (ys : List Mk), e = .returned v ∧ ys.map (·.lf) = ls ∧ OwnLvs w' W0 v ys ∧ Below W0 w w'
theorem ownLvs_of {w : World} {m base : Nat} {v : Value} {xs : List Mk} (hm : base ≤ m) (h : Mks m xs w) (hr : w.ownsRow m 42 6 v xs.length ((srt (byP mkP) xs).flatMap Mk.enc)) : OwnLvs w base v (srt (byP mkP) xs) := by
  have hp := srt_perm (byP mkP) xs
  refine ⟨by rw [srt_length]; exact ownsRow_base hr hm, fun y hy => ?_, ?_⟩
  · have := h.each y (hp.subset hy); exact ⟨this.1, by omega⟩
  · refine (hp.pairwise_iff (fun h => h.symm)).2 (h.apart.imp fun h => .inl h)

theorem lsort_any (ls : List Lf) (v : Value) (B : Nat) (w : World) (hB : B ≤ w.heap.size) (hls : LvsIn w B v ls) (hlen : ls.length ≤ 100000) (hp : ∀ x ∈ ls, x.path.length ≤ 10000) (hf : ∀ x ∈ ls, x.doc.Fit) :
    Calls Try.prog 17 #[v] w (MadeLvs w.heap.size w (lsrt ls)) := by
  obtain ⟨A, c, rfl, _⟩ := id hls
  have hb1 : Below w.heap.size w (w.alloc (.cells #[.slice A ls.length c] 26)) := (Below.refl _ w).alloc (Nat.le_refl _) _
  have hcell : (w.alloc (.cells #[.slice A ls.length c] 26)).cell? ⟨w.heap.size, 0, none⟩ = some (.slice A ls.length c) := (Boxed.new w 26 (.slice A ls.length c)).cell
  have hseq := copies_seq ls (.slice A ls.length c) w.heap.size (w.alloc (.cells #[.slice A ls.length c] 26)).heap.size B (w.alloc (.cells #[.slice A ls.length c] 26)) (Nat.le_refl _) (by simp; omega) hcell (by simp)
    (hls.keep fun p h => hb1.cell (Nat.lt_of_lt_of_le h hB)) hlen hp hf
  have hcall := sorted_any (enters_of Try.func69 (by kernel_rfl) rfl) (hseq.weaken fun _ _ _ h => h.1) (by omega) (fun _ h => h.elim)
    (fun xs _ _ h hk => ⟨h.1, h.2.keeps hk memO_rowMark⟩)
    (fun xs _ h => ⟨by have := congrArg List.length h.1; simp at this; omega, fun x hx => (h.2.each x hx).1, fun x hx => hp _ (by rw [← h.1]; exact List.mem_map.2 ⟨x, hx, rfl⟩)⟩)
  have HCALL := Lib.hid hcall; have HB1 := Lib.hid hb1
  clear hcall hseq hcell hb1 hls
  go_enter Try.func17, Try.ntmps17
  go_wp2_with (first
    | (go_at_call 44; refine (copies_any _ _ _ _).mono ?_; rintro e w' ⟨rfl, rfl⟩)
    | (go_at_call 39; refine HCALL.out.mono ?_; rintro e w2 ⟨v', xs, rfl, hs, ho, _, hb2⟩; have H := Lib.hid (And.intro hs (And.intro ho hb2)); clear hs ho hb2 HCALL))
  go_ret
  obtain ⟨hs, ho, hb2⟩ := H.out
  refine ⟨v', srt (byP mkP) xs, rfl, ?_, ownLvs_of (by simp) hs.2 ho, HB1.out.trans (hb2.mono (by simp))⟩
  rw [srt_map (byP mkP) (fun a b : Lf => kcmp a.path b.path) (·.lf) (fun _ _ => rfl), hs.1]; rfl
end Go.Proofs.Ytdgnengfcabgjaa
namespace Go.Proofs.Ytdgnengfcabgjaa
open Go.RowKit

theorem ownsRow_prefix {w w' : World} {base base' : Nat} {e : TypeId} {s n n' : Nat} {v vo : Value} {M xs : List Value} (hv : w.ownsRow base e s v n' M) (ho : w.ownsRow base' e s vo n xs) (ho' : w'.ownsRow base' e s vo n xs) (hM : M <+: xs) (he : v.ownBlock = vo.ownBlock) : w'.ownsRow base e s v n' M := by
  refine ⟨hv.1, ?_⟩
  rcases hv.2 with h0 | ⟨g, cap, cur, rfl, hbg, hg, hnc, hcm, hcs, htake⟩
  · exact .inl h0
  · rcases ho.2 with ⟨rfl, _⟩ | ⟨g2, cap2, cur2, rfl, _, hg2, _, _, hcs2, _⟩
    · simp [Value.ownBlock] at he
    · obtain rfl : g = g2 := by simpa [Value.ownBlock] using he
      rw [hg] at hg2; cases hg2
      rcases ho'.2 with ⟨e3, _⟩ | ⟨g3, cap3, cur3, e3, _, hg3, _, _, hcs3, htk3⟩
      · cases e3
      · injection e3 with a1 a2 a3
        injection a1 with a1; injection a1 with a1
        subst a1; subst a3
        refine .inr ⟨g, cap, cur3, rfl, hbg, hg3, hnc, hcm, by omega, ?_⟩
        have hlen : M.length ≤ xs.length := hM.length_le
        have h1 := hv.1; have h2 := ho'.1
        have hM2 := List.prefix_iff_eq_take.1 hM
        rw [← h1]
        have e5 : List.take M.length xs = List.take M.length cur3.toList := by rw [← htk3, List.take_take]; congr 1; omega
        rw [← e5, ← hM2]
/-- A leaf of memory of its own, its parts told one by one. -/
structure YIn (w : World) (y : Mk) (cs0 : List Value) (Fs0 : List Nat) : Prop where
  v1 : y.v1 = .int .i64 y.lf.doc.kind
  v2 : y.v2 = .int .i64 y.lf.doc.num
  v3 : y.v3 = .string y.lf.doc.str
  path : w.ownsRow y.lo 9 1 y.v0 y.lf.path.length (y.lf.path.map Value.string)
  o3 : w.ownsRow y.lo 9 1 y.v4 y.lf.doc.keys.length (y.lf.doc.keys.map Value.string)
  o4 : w.ownsRow y.lo 25 5 y.v5 y.lf.doc.kids.length cs0
  ok : OwnKids w y.lo y.lf.doc.kids cs0 Fs0
  F : y.F = blk y.v4 ++ (blk y.v5 ++ Fs0)
  nodup : (blk y.v0 ++ y.F).Nodup
  hi : ∀ k, k ∈ blk y.v0 ++ y.F → k < y.hi
theorem MkIn.y {y : Mk} {w : World} (h : MkIn y w) : ∃ cs0 Fs0, YIn w y cs0 Fs0 := by
  obtain ⟨⟨p, d⟩, v0, v1, v2, v3, v4, v5, F, lo, hi⟩ := y
  obtain ⟨kind, num, str, keys, kids⟩ := d
  have hd := h.doc
  simp only [OwnIn] at hd
  obtain ⟨h0, h1, h2, h3, cs, Fs, h4, h5, h6⟩ := hd
  exact ⟨cs, Fs, h0, h1, h2, h.path, h3, h4, h5, h6, h.nodup, h.hi⟩
theorem YIn.toMk {y : Mk} {w : World} {cs0 : List Value} {Fs0 : List Nat} (h : YIn w y cs0 Fs0) : MkIn y w := by
  obtain ⟨⟨p, d⟩, v0, v1, v2, v3, v4, v5, F, lo, hi⟩ := y
  obtain ⟨a1, a2, a3, a4, a5, a6, a7, a8, a9, a10⟩ := h
  simp only at a1 a2 a3 a4 a5 a6 a7 a8 a9 a10
  subst a1; subst a2; subst a3; subst a8
  exact ⟨a4, OwnIn.make a5 a6 a7, a9, a10⟩
theorem YIn.same {y : Mk} {w w' : World} {cs0 : List Value} {Fs0 : List Nat} (h : YIn w y cs0 Fs0) (hs : ∀ k, k ∈ blk y.v0 ++ y.F → w'.heap[k]? = w.heap[k]?) : YIn w' y cs0 Fs0 := by
  have hF := h.F
  refine ⟨h.v1, h.v2, h.v3, ownsRow_same h.path fun k hk => hs k (List.mem_append_left _ hk), ownsRow_same h.o3 fun k hk => hs k ?_, ownsRow_same h.o4 fun k hk => hs k ?_, h.ok.same (Nat.le_refl _) fun k hk => hs k ?_, h.F, h.nodup, h.hi⟩
  all_goals rw [hF]; simp [hk]
/-- What the variable 'box' holds: the document of the leaf y0 with these keys and kids behind its own; U: the leaves whose memory it has taken; oth: all leaves but y0. -/
structure GrSt (m : Nat) (oth U : List Mk) (y0 : Mk) (cs0 : List Value) (Fs0 : List Nat) (w0 w : World) (box : Nat) (ks : List ByteArray) (ds : List D) (v3 v4 : Value) (cs : List Value) (F : List Nat) : Prop where
  bx : Box5 w box (.int .i64 y0.lf.doc.kind) (.int .i64 y0.lf.doc.num) (.string y0.lf.doc.str) v3 v4
  bxlo : w0.heap.size ≤ box
  o3 : w.ownsRow m 9 1 v3 (y0.lf.doc.keys ++ ks).length ((y0.lf.doc.keys ++ ks).map Value.string)
  o4 : w.ownsRow m 25 5 v4 (y0.lf.doc.kids ++ ds).length cs
  ok : OwnKids w m (y0.lf.doc.kids ++ ds) cs F
  nd : (blk v3 ++ (blk v4 ++ F)).Nodup
  far : ∀ k ∈ blk v3 ++ (blk v4 ++ F), k ≠ box
  at_ : ∀ k ∈ blk v3 ++ (blk v4 ++ F), k < w0.heap.size → ∃ y ∈ y0 :: U, k ∈ y.F
  e3 : v3.ownBlock = y0.v4.ownBlock ∨ ∀ b, v3.ownBlock = some b → w0.heap.size ≤ b
  e4 : v4.ownBlock = y0.v5.ownBlock ∨ ∀ b, v4.ownBlock = some b → w0.heap.size ≤ b
  p4 : cs0 <+: cs
  yi : YIn w y0 cs0 Fs0
  old : ∀ k ∈ blk y0.v0 ++ y0.F, k < w0.heap.size
  ot : ∀ y ∈ oth, MkIn y w
  sep : ∀ y ∈ oth, ∀ k ∈ blk y.v0 ++ y.F, k < w0.heap.size ∧ k ∉ blk y0.v0 ++ y0.F
  below : Below m w0 w
  hm : m ≤ w0.heap.size
  same : ∀ k, k < w0.heap.size → (∀ y ∈ y0 :: U, k ∉ y.F) → w.heap[k]? = w0.heap[k]?
section
variable {m : Nat} {oth U : List Mk} {y0 : Mk} {cs0 : List Value} {Fs0 : List Nat} {w0 w w' : World} {box : Nat} {ks : List ByteArray} {ds : List D} {v3 v4 : Value} {cs : List Value} {F : List Nat}
theorem GrSt.lt (h : GrSt m oth U y0 cs0 Fs0 w0 w box ks ds v3 v4 cs F) : ∀ k ∈ blk v3 ++ (blk v4 ++ F), k < w.heap.size := fun k hk => by
  rcases List.mem_append.1 hk with hk | hk
  · exact (h.o3.lt k (blk_mem.1 hk)).2
  · rcases List.mem_append.1 hk with hk | hk
    · exact (h.o4.lt k (blk_mem.1 hk)).2
    · exact (h.ok.lt k hk).2
/-- Behind a call that takes the memory of other leaves. -/
theorem GrSt.past (h : GrSt m oth U y0 cs0 Fs0 w0 w box ks ds v3 v4 cs F) {U2 : List Mk} (hb : Below m w w') (hs : ∀ k, k < w.heap.size → (∀ y ∈ U2, k ∉ y.F) → w'.heap[k]? = w.heap[k]?) (ho : ∀ y ∈ oth, MkIn y w')
    (hU : ∀ y ∈ U2, ∀ k ∈ y.F, k < w0.heap.size ∧ (∀ z ∈ y0 :: U, k ∉ z.F) ∧ k ∉ blk y0.v0) : GrSt m oth (U ++ U2) y0 cs0 Fs0 w0 w' box ks ds v3 v4 cs F := by
  have sz := h.below.size
  have hset : ∀ k ∈ blk v3 ++ (blk v4 ++ F), w'.heap[k]? = w.heap[k]? := fun k hk => hs k (h.lt k hk) fun y hy hky => by
    obtain ⟨a, b, _⟩ := hU y hy k hky
    obtain ⟨z, hz, hzk⟩ := h.at_ k hk a
    exact b z hz hzk
  have hy0 : ∀ k ∈ blk y0.v0 ++ y0.F, w'.heap[k]? = w.heap[k]? := fun k hk => hs k (by have := h.old k hk; omega) fun y hy hky => by
    obtain ⟨_, b, c⟩ := hU y hy k hky
    rcases List.mem_append.1 hk with hk | hk
    · exact c hk
    · exact b y0 (by simp) hk
  refine ⟨h.bx.same (hs box h.bx.lt fun y hy hky => ?_), h.bxlo, ownsRow_same h.o3 fun k hk => hset k (by simp [hk]), ownsRow_same h.o4 fun k hk => hset k (by simp [hk]), h.ok.same (Nat.le_refl _) fun k hk => hset k (by simp [hk]), h.nd, h.far, fun k hk hlt => ?_, h.e3, h.e4, h.p4, h.yi.same hy0, h.old, ho, h.sep, h.below.trans hb, h.hm, fun k hk hn => ?_⟩
  · have := (hU y hy _ hky).1; have := h.bxlo; omega
  · obtain ⟨z, hz, hzk⟩ := h.at_ k hk hlt
    exact ⟨z, by rcases List.mem_cons.1 hz with hz | hz <;> simp [hz], hzk⟩
  · exact (hs k (by omega) fun y hy => hn y (by simp [hy])).trans (h.same k hk fun y hy => hn y (by rcases List.mem_cons.1 hy with hy | hy <;> simp [hy]))
theorem GrSt.pastB (h : GrSt m oth U y0 cs0 Fs0 w0 w box ks ds v3 v4 cs F) (hb : Below w.heap.size w w') : GrSt m oth U y0 cs0 Fs0 w0 w' box ks ds v3 v4 cs F := by
  have hmw : m ≤ w.heap.size := Nat.le_trans h.hm h.below.size
  have := h.past (U2 := []) (hb.mono hmw) (fun k hk _ => hb.block k hk) (fun y hy => (h.ot y hy).below hb (Nat.le_refl _)) (by simp)
  simpa using this
/-- A store into a variable that is none of the document's. -/
theorem GrSt.store (h : GrSt m oth U y0 cs0 Fs0 w0 w box ks ds v3 v4 cs F) {b : Nat} (hs : ∀ k, k ≠ b → w'.heap[k]? = w.heap[k]?) (hb : Below m w w') (hlo : w0.heap.size ≤ b) (hbox : b ≠ box) (hn : b ∉ blk v3 ++ (blk v4 ++ F)) : GrSt m oth U y0 cs0 Fs0 w0 w' box ks ds v3 v4 cs F := by
  have hset : ∀ k ∈ blk v3 ++ (blk v4 ++ F), w'.heap[k]? = w.heap[k]? := fun k hk => hs k fun e => hn (e ▸ hk)
  refine ⟨h.bx.same (hs box (Ne.symm hbox)), h.bxlo, ownsRow_same h.o3 fun k hk => hset k (by simp [hk]), ownsRow_same h.o4 fun k hk => hset k (by simp [hk]), h.ok.same (Nat.le_refl _) fun k hk => hset k (by simp [hk]), h.nd, h.far, h.at_, h.e3, h.e4, h.p4, h.yi.same fun k hk => hs k (by have := h.old k hk; omega), h.old, fun y hy => (h.ot y hy).same fun k hk => hs k (by have := (h.sep y hy k hk).1; omega), h.sep, h.below.trans hb, h.hm, fun k hk hn => (hs k (by omega)).trans (h.same k hk hn)⟩
/-- A key more. -/
theorem GrSt.key (h : GrSt m oth U y0 cs0 Fs0 w0 w box ks ds v3 v4 cs F) {S : ByteArray} {v' : Value} (hown : w'.ownsRow m 9 1 v' ((y0.lf.doc.keys ++ ks).length + 1) ((y0.lf.doc.keys ++ ks).map Value.string ++ [.string S])) (hold : w'.ownsRow m 9 1 v3 (y0.lf.doc.keys ++ ks).length ((y0.lf.doc.keys ++ ks).map Value.string))
    (hg : w.grownBy w' v3.ownBlock) (hat : v'.ownBlock = v3.ownBlock ∨ v'.ownBlock = some w.heap.size) : GrSt m oth U y0 cs0 Fs0 w0 (w'.setCell ⟨box, 3, none⟩ v') box (ks ++ [S]) ds v' v4 cs F := by
  have sz := h.below.size; have sg := hg.size; have lt := h.lt; have bl := h.bx.lt; have blo := h.bxlo
  have hfar : ∀ k, k ≠ box → (w'.setCell ⟨box, 3, none⟩ v').heap[k]? = w'.heap[k]? := fun k hk => Below.heap_setCell _ _ _ k hk
  have keep : ∀ k, k < w.heap.size → v3.ownBlock ≠ some k → k ≠ box → (w'.setCell ⟨box, 3, none⟩ v').heap[k]? = w.heap[k]? := fun k h1 h2 h3 => (hfar k h3).trans (hg.block k h1 fun e => h2 e.symm)
  have hnd := h.nd
  simp only [List.nodup_append, List.mem_append, ne_eq] at hnd
  obtain ⟨_, ⟨n4, nF, n4F⟩, n3d⟩ := hnd
  have hv'bx : ∀ k ∈ blk v', k ≠ box := fun k hk => by
    rcases hat with e | e
    · exact h.far k (by rw [blk_mem, e] at hk; simp [blk_mem, hk])
    · rw [blk_mem, e] at hk; cases hk; omega
  have hy0v3 : ∀ k ∈ blk y0.v0 ++ (blk y0.v5 ++ Fs0), v3.ownBlock ≠ some k := fun k hk e => by
    have hnd0 := h.yi.nodup
    rw [h.yi.F] at hnd0
    rcases h.e3 with a | a
    · rw [a] at e
      have hm4 : k ∈ blk y0.v4 := blk_mem.2 e
      simp only [List.nodup_append, List.mem_append, ne_eq] at hnd0
      obtain ⟨_, ⟨_, _, q1⟩, q2⟩ := hnd0
      rcases List.mem_append.1 hk with hk | hk
      · exact q2 k hk k (.inl hm4) rfl
      · exact q1 k hm4 k (List.mem_append.1 hk) rfl
    · have := a k e
      have := h.old k (by rw [h.yi.F]; simp only [List.mem_append] at hk ⊢; rcases hk with hk | hk | hk <;> simp [hk])
      omega
  have hy0k : ∀ k ∈ blk y0.v0 ++ (blk y0.v5 ++ Fs0), (w'.setCell ⟨box, 3, none⟩ v').heap[k]? = w.heap[k]? := fun k hk => by
    have := h.old k (by rw [h.yi.F]; simp only [List.mem_append] at hk ⊢; rcases hk with hk | hk | hk <;> simp [hk])
    exact keep k (by omega) (hy0v3 k hk) (by omega)
  refine ⟨?_, h.bxlo, ?_, ownsRow_same h.o4 fun k hk => keep k (lt k (by simp [hk])) (fun e => n3d k (blk_mem.2 e) k (.inl hk) rfl) (h.far k (by simp [hk])), h.ok.same (Nat.le_refl _) fun k hk => keep k (lt k (by simp [hk])) (fun e => n3d k (blk_mem.2 e) k (.inr hk) rfl) (h.far k (by simp [hk])),
    ?_, ?_, ?_, ?_, h.e4, h.p4, ?_, h.old, ?_, h.sep, ?_, h.hm, ?_⟩
  · exact (h.bx.same (hg.block box bl fun e => h.far box (by simp [blk_mem, ← e]) rfl)).set3 _
  · have := ownsRow_same hown (fun k hk => hfar k (hv'bx k hk))
    simpa [Nat.add_assoc] using this
  · rw [List.nodup_append, List.nodup_append]
    refine ⟨by unfold blk; cases v'.ownBlock <;> simp, ⟨n4, nF, n4F⟩, fun a ha b hb hab => ?_⟩
    subst hab
    rcases hat with e | e
    · rw [blk_mem, e, ← blk_mem] at ha; exact n3d a ha a (List.mem_append.1 hb) rfl
    · rw [blk_mem, e] at ha; cases ha; have := lt w.heap.size (by simp only [List.mem_append]; exact .inr (List.mem_append.1 hb)); omega
  · intro k hk
    rcases List.mem_append.1 hk with hk | hk
    · exact hv'bx k hk
    · exact h.far k (by simp only [List.mem_append]; exact .inr (List.mem_append.1 hk))
  · intro k hk hlt
    rcases List.mem_append.1 hk with hk | hk
    · rcases hat with e | e
      · exact h.at_ k (by rw [blk_mem, e] at hk; simp [blk_mem, hk]) hlt
      · rw [blk_mem, e] at hk; cases hk; omega
    · exact h.at_ k (by simp only [List.mem_append]; exact .inr (List.mem_append.1 hk)) hlt
  · rcases hat with e | e
    · rcases h.e3 with a | a
      · exact .inl (e.trans a)
      · exact .inr fun b hb => a b (e ▸ hb)
    · exact .inr fun b hb => by rw [e] at hb; cases hb; omega
  · refine ⟨h.yi.v1, h.yi.v2, h.yi.v3, ownsRow_same h.yi.path fun k hk => hy0k k (by simp [hk]), ?_, ownsRow_same h.yi.o4 fun k hk => hy0k k (by simp [hk]), h.yi.ok.same (Nat.le_refl _) fun k hk => hy0k k (by simp [hk]), h.yi.F, h.yi.nodup, h.yi.hi⟩
    by_cases e : y0.v4.ownBlock = v3.ownBlock
    · refine ownsRow_same (ownsRow_prefix h.yi.o3 h.o3 hold ⟨ks.map Value.string, by simp⟩ e) fun k hk => hfar k ?_
      have := h.old k (by rw [h.yi.F]; simp [hk]); omega
    · refine ownsRow_same h.yi.o3 fun k hk => ?_
      have := h.old k (by rw [h.yi.F]; simp [hk])
      exact keep k (by omega) (fun e2 => e (by rw [e2, blk_mem.1 hk])) (by omega)
  · intro y hy
    refine (h.ot y hy).same fun k hk => ?_
    obtain ⟨a, b⟩ := h.sep y hy k hk
    refine keep k (by omega) (fun e => ?_) (by omega)
    rcases h.e3 with a3 | a3
    · exact b (by rw [h.yi.F]; rw [a3] at e; simp [blk_mem, e])
    · have := a3 k e; omega
  · exact (h.below.grown hg (Nat.le_trans h.hm sz) fun j e => (h.o3.lt j e).1).setCell (p := ⟨box, 3, none⟩) (show m ≤ box by have := h.hm; omega) _
  · intro k hk hn
    refine (keep k (by omega) (fun e => ?_) (by omega)).trans (h.same k hk hn)
    rcases h.e3 with a3 | a3
    · exact hn y0 (by simp) (by rw [h.yi.F]; rw [a3] at e; simp [blk_mem, e])
    · have := a3 k e; omega
/-- A kid more. -/
theorem GrSt.kid (h : GrSt m oth U y0 cs0 Fs0 w0 w box ks ds v3 v4 cs F) {x : D} {u0 u1 u2 u3 u4 v' : Value} {G : List Nat} (hG : OwnIn w m x u0 u1 u2 u3 u4 G) (hGN : G.Nodup) (hGd : ∀ k ∈ G, k ∉ blk v3 ++ (blk v4 ++ F) ∧ k ≠ box ∧ (k < w0.heap.size → ∃ y ∈ y0 :: U, k ∈ y.F))
    (hown : w'.ownsRow m 25 5 v' ((y0.lf.doc.kids ++ ds).length + 1) (cs ++ [u0, u1, u2, u3, u4])) (hold : w'.ownsRow m 25 5 v4 (y0.lf.doc.kids ++ ds).length cs)
    (hg : w.grownBy w' v4.ownBlock) (hat : v'.ownBlock = v4.ownBlock ∨ v'.ownBlock = some w.heap.size) : GrSt m oth U y0 cs0 Fs0 w0 (w'.setCell ⟨box, 4, none⟩ v') box ks (ds ++ [x]) v3 v' (cs ++ [u0, u1, u2, u3, u4]) (F ++ G) := by
  have sz := h.below.size; have sg := hg.size; have lt := h.lt; have bl := h.bx.lt; have blo := h.bxlo
  have lG := hG.lt
  have hfar : ∀ k, k ≠ box → (w'.setCell ⟨box, 4, none⟩ v').heap[k]? = w'.heap[k]? := fun k hk => Below.heap_setCell _ _ _ k hk
  have keep : ∀ k, k < w.heap.size → v4.ownBlock ≠ some k → k ≠ box → (w'.setCell ⟨box, 4, none⟩ v').heap[k]? = w.heap[k]? := fun k h1 h2 h3 => (hfar k h3).trans (hg.block k h1 fun e => h2 e.symm)
  have hnd := h.nd
  simp only [List.nodup_append, List.mem_append, ne_eq] at hnd
  obtain ⟨n3, ⟨n4, nF, n4F⟩, n3d⟩ := hnd
  have hv'bx : ∀ k ∈ blk v', k ≠ box := fun k hk => by
    rcases hat with e | e
    · exact h.far k (by rw [blk_mem, e] at hk; simp [blk_mem, hk])
    · rw [blk_mem, e] at hk; cases hk; omega
  have hy0v4 : ∀ k ∈ blk y0.v0 ++ (blk y0.v4 ++ Fs0), v4.ownBlock ≠ some k := fun k hk e => by
    have hnd0 := h.yi.nodup
    rw [h.yi.F] at hnd0
    rcases h.e4 with a | a
    · rw [a] at e
      have hm4 : k ∈ blk y0.v5 := blk_mem.2 e
      simp only [List.nodup_append, List.mem_append, ne_eq] at hnd0
      obtain ⟨_, ⟨_, ⟨_, _, q0⟩, q1⟩, q2⟩ := hnd0
      rcases List.mem_append.1 hk with hk | hk
      · exact q2 k hk k (.inr (.inl hm4)) rfl
      · rcases List.mem_append.1 hk with hk | hk
        · exact q1 k hk k (.inl hm4) rfl
        · exact q0 k hm4 k hk rfl
    · have := a k e
      have := h.old k (by rw [h.yi.F]; simp only [List.mem_append] at hk ⊢; rcases hk with hk | hk | hk <;> simp [hk])
      omega
  have hy0k : ∀ k ∈ blk y0.v0 ++ (blk y0.v4 ++ Fs0), (w'.setCell ⟨box, 4, none⟩ v').heap[k]? = w.heap[k]? := fun k hk => by
    have := h.old k (by rw [h.yi.F]; simp only [List.mem_append] at hk ⊢; rcases hk with hk | hk | hk <;> simp [hk])
    exact keep k (by omega) (hy0v4 k hk) (by omega)
  refine ⟨?_, h.bxlo, ownsRow_same h.o3 fun k hk => keep k (lt k (by simp [hk])) (fun e => n3d k hk k (.inl (blk_mem.2 e)) rfl) (h.far k (by simp [hk])), ?_,
    ?_, ?_, ?_, ?_, h.e3, ?_, ?_, ?_, h.old, ?_, h.sep, ?_, h.hm, ?_⟩
  · exact (h.bx.same (hg.block box bl fun e => h.far box (by simp [blk_mem, ← e]) rfl)).set4 _
  · have := ownsRow_same hown (fun k hk => hfar k (hv'bx k hk))
    simpa [Nat.add_assoc] using this
  · rw [← List.append_assoc]
    exact OwnKids.push (hG.same (Nat.le_refl _) fun k hk => keep k (lG k hk).2 (fun e => (hGd k hk).1 (by simp [blk_mem, e])) (hGd k hk).2.1) (h.ok.same (Nat.le_refl _) fun k hk => keep k (lt k (by simp [hk])) (fun e => n4F k (blk_mem.2 e) k hk rfl) (h.far k (by simp [hk])))
  · rw [List.nodup_append, List.nodup_append, List.nodup_append]
    refine ⟨n3, ⟨by unfold blk; cases v'.ownBlock <;> simp, ⟨nF, hGN, fun a ha b hb hab => ?_⟩, fun a ha b hb hab => ?_⟩, fun a ha b hb hab => ?_⟩
    · subst hab; exact (hGd a hb).1 (by simp [ha])
    · subst hab
      rcases hat with e | e
      · rw [blk_mem, e, ← blk_mem] at ha
        rcases List.mem_append.1 hb with hb | hb
        · exact n4F a ha a hb rfl
        · exact (hGd a hb).1 (by simp [ha])
      · rw [blk_mem, e] at ha; cases ha
        rcases List.mem_append.1 hb with hb | hb
        · have := lt w.heap.size (by simp [hb]); omega
        · have := (lG _ hb).2; omega
    · subst hab
      rcases List.mem_append.1 hb with hb | hb
      · rcases hat with e | e
        · rw [blk_mem, e, ← blk_mem] at hb; exact n3d a ha a (.inl hb) rfl
        · rw [blk_mem, e] at hb; cases hb; have := lt w.heap.size (by simp [ha]); omega
      · rcases List.mem_append.1 hb with hb | hb
        · exact n3d a ha a (.inr hb) rfl
        · exact (hGd a hb).1 (by simp [ha])
  · intro k hk
    simp only [List.mem_append] at hk
    rcases hk with hk | hk | hk | hk
    · exact h.far k (by simp [hk])
    · exact hv'bx k hk
    · exact h.far k (by simp [hk])
    · exact (hGd k hk).2.1
  · intro k hk hlt
    simp only [List.mem_append] at hk
    rcases hk with hk | hk | hk | hk
    · exact h.at_ k (by simp [hk]) hlt
    · rcases hat with e | e
      · exact h.at_ k (by rw [blk_mem, e] at hk; simp [blk_mem, hk]) hlt
      · rw [blk_mem, e] at hk; cases hk; omega
    · exact h.at_ k (by simp [hk]) hlt
    · exact (hGd k hk).2.2 hlt
  · rcases hat with e | e
    · rcases h.e4 with a | a
      · exact .inl (e.trans a)
      · exact .inr fun b hb => a b (e ▸ hb)
    · exact .inr fun b hb => by rw [e] at hb; cases hb; omega
  · exact h.p4.trans (List.prefix_append _ _)
  · refine ⟨h.yi.v1, h.yi.v2, h.yi.v3, ownsRow_same h.yi.path fun k hk => hy0k k (by simp [hk]), ownsRow_same h.yi.o3 fun k hk => hy0k k (by simp [hk]), ?_, h.yi.ok.same (Nat.le_refl _) fun k hk => hy0k k (by simp [hk]), h.yi.F, h.yi.nodup, h.yi.hi⟩
    by_cases e : y0.v5.ownBlock = v4.ownBlock
    · refine ownsRow_same (ownsRow_prefix h.yi.o4 h.o4 hold h.p4 e) fun k hk => hfar k ?_
      have := h.old k (by rw [h.yi.F]; simp [hk]); omega
    · refine ownsRow_same h.yi.o4 fun k hk => ?_
      have := h.old k (by rw [h.yi.F]; simp [hk])
      exact keep k (by omega) (fun e2 => e (by rw [e2, blk_mem.1 hk])) (by omega)
  · intro y hy
    refine (h.ot y hy).same fun k hk => ?_
    obtain ⟨a, b⟩ := h.sep y hy k hk
    refine keep k (by omega) (fun e => ?_) (by omega)
    rcases h.e4 with a3 | a3
    · exact b (by rw [h.yi.F]; rw [a3] at e; simp [blk_mem, e])
    · have := a3 k e; omega
  · exact (h.below.grown hg (Nat.le_trans h.hm sz) fun j e => (h.o4.lt j e).1).setCell (p := ⟨box, 4, none⟩) (show m ≤ box by have := h.hm; omega) _
  · intro k hk hn
    refine (keep k (by omega) (fun e => ?_) (by omega)).trans (h.same k hk hn)
    rcases h.e4 with a3 | a3
    · exact hn y0 (by simp) (by rw [h.yi.F]; rw [a3] at e; simp [blk_mem, e])
    · have := a3 k e; omega
end
end Go.Proofs.Ytdgnengfcabgjaa
namespace Go.Proofs.Ytdgnengfcabgjaa
open Go.RowKit

section
variable {w : World} {m : Nat} {e : TypeId} {size n : Nat} {v : Value} {xs news : List Value}
/-- What an append tells that puts one element behind a row of the call's own. -/
def AppTo (m : Nat) (e : TypeId) (size : Nat) (v : Value) (n : Nat) (xs news : List Value) (w : World) (R : Value → World → Prop) : Prop :=
  ∀ g cap w', w'.ownsRow m e size (.slice (some ⟨g, 0, none⟩) (n + 1) cap) (n + 1) (xs ++ news) → w'.ownsRow m e size v n xs → w.grownBy w' v.ownBlock → (v.ownBlock = some g ∨ g = w.heap.size) → R (.slice (some ⟨g, 0, none⟩) (n + 1) cap) w'
theorem run_appTo {t ty : TypeId} (i : TypeInfo) (z : Value) (bytes : Nat) (ht : Try.prog.underlying t = some (.slice e)) (hi : Try.prog.info? e = some i) (hz : i.zero = some z) (hsize : i.size = size) (hby : i.bytes = bytes) (hzs : z.cells.size = size) (hsz : 0 < size) (hb8 : bytes ≤ 120)
    (hown : w.ownsRow m e size v n xs) (ad : Addr) (c : Nat) (hl : news.length = size) (hnews : ∀ j u, news[j]? = some u → w.cell? (ad.add j) = some u) (h1 : ∀ u ∈ news, u.oneCell' = true) (hn : n ≤ 1000000) (hm : m ≤ w.heap.size) {R : Value → World → Prop} (h : AppTo m e size v n xs news w R) :
    ∃ v' w', (Builtin.append_ #[t, t] ty #[v, .slice (some ad) 1 c]).run Try.prog w = .ok v' w' ∧ R v' w' := by
  have hbb : (n + 1) * bytes ≤ 1000001 * 120 := Nat.mul_le_mul (by omega) hb8
  obtain ⟨v', w', hr, h2, h3, h4, h5⟩ := run_append_own2 (P := Try.prog) m t ty e i z size bytes ht hi hz hsize hby hzs hsz v n xs hown ad 1 c news (by rw [Nat.one_mul]; exact hl) hnews h1 (by unfold maxLen; omega) (by omega) hm
  obtain ⟨g, cap, rfl, _, _⟩ := h2.form (by omega)
  exact ⟨_, w', hr, h g cap w' h2 h5 h3 (h4.imp (fun e => by rw [← e]; rfl) (fun e => by simpa [Value.ownBlock] using e))⟩
end
theorem step_appK {ops : Array Oper} {o : Oper} {a : Act} {K : Act → World → Prop} {Q : Exit → Act → World → Prop} {E : Prop} (hgd : o.guard = none) (s x : Operand) (ho : o.op = .call { callee := .builtin .append, args := #[s, x], argTypes := #[22, 22] }) {w : World} {m : Nat} (v : Value) (xs : List ByteArray) (key : ByteArray) (ad : Addr) (c : Nat) (hs : a.eval s = v) (hx : a.eval x = .slice (some ad) 1 c)
    (hm : m ≤ w.heap.size) (hown : w.ownsRow m 9 1 v xs.length (xs.map Value.string)) (hnews : ∀ j u, [Value.string key][j]? = some u → w.cell? (ad.add j) = some u) (hn : xs.length ≤ 1000000)
    (h : AppTo m 9 1 v xs.length (xs.map Value.string) [.string key] w fun v' w' => K (a.put o.dst v') w') :
    if Region.wanted o (yielded ops a.tmps) = true then Oper.wp Try.prog o a w K Q else E := by
  have hw : Region.wanted o (yielded ops a.tmps) = true := by simp [Region.wanted, hgd]
  rw [if_pos hw]
  obtain ⟨i0, hi, hz0, hz1, hz2⟩ := info_parts infoS
  obtain ⟨v', w', hr, h2⟩ := run_appTo (ty := o.type) i0 (.string ByteArray.empty) 16 Try.underlying22 hi hz0 hz1 hz2 (by rfl) (by decide) (by decide) hown ad c rfl hnews (by simp [Value.oneCell']) hn hm h
  exact op_appendE s x 22 ho hs hx hr h2
theorem wpList_appD {ops : Array Oper} {rest : List Oper} {o : Oper} {a : Act} {Q : Exit → Act → World → Prop} (hgd : o.guard = none) (s x : Operand) (ho : o.op = .call { callee := .builtin .append, args := #[s, x], argTypes := #[23, 23] }) {w : World} {m : Nat} (v : Value) (n : Nat) (cs : List Value) (u0 u1 u2 u3 u4 : Value) (ad : Addr) (c : Nat) (hs : a.eval s = v) (hx : a.eval x = .slice (some ad) 1 c)
    (hm : m ≤ w.heap.size) (hown : w.ownsRow m 25 5 v n cs) (hnews : ∀ j u, [u0, u1, u2, u3, u4][j]? = some u → w.cell? (ad.add j) = some u) (h1 : ∀ u ∈ [u0, u1, u2, u3, u4], u.oneCell' = true) (hn : n ≤ 1000000)
    (h : AppTo m 25 5 v n cs [u0, u1, u2, u3, u4] w fun v' w' => wpList Try.prog ops Q rest (a.put o.dst v') w') : wpList Try.prog ops Q (o :: rest) a w := by
  refine wpList_plain hgd fun K hK => ?_
  obtain ⟨i0, hi, hz0, hz1, hz2⟩ := info_parts infoD
  obtain ⟨v', w', hr, h2⟩ := run_appTo (ty := o.type) i0 (.agg #[.int .i64 0, .int .i64 0, .string ByteArray.empty, .slice none 0 0, .slice none 0 0]) 80 Try.underlying23 hi hz0 hz1 hz2 (by rfl) (by decide) (by decide) hown ad c rfl hnews h1 hn hm h
  exact op_appendE s x 23 ho hs hx hr (hK _ _ h2)

/-- A row of leaves within block g. -/
def RowAt (w : World) (g : Nat) (v : Value) (zs : List Mk) : Prop :=
  ∃ A c, v = .slice A zs.length c ∧ zs.length ≤ c ∧ (0 < zs.length → ∃ off, A = some ⟨g, off, none⟩ ∧ ∀ (k : Nat) (h : k < zs.length) (j : Nat) (u : Value), (Mk.enc zs[k])[j]? = some u → w.cell? ⟨g, off + k * 6 + j, none⟩ = some u)
theorem RowAt.same {w w' : World} {g : Nat} {v : Value} {zs : List Mk} (h : RowAt w g v zs) (hs : w'.heap[g]? = w.heap[g]?) : RowAt w' g v zs := by
  obtain ⟨A, c, rfl, hc, h1⟩ := h
  refine ⟨A, c, rfl, hc, fun h0 => ?_⟩
  obtain ⟨off, rfl, h2⟩ := h1 h0
  exact ⟨off, rfl, fun k hk j u hu => (World.cell?_of_block (a := ⟨g, _, none⟩) hs).trans (h2 k hk j u hu)⟩
theorem RowAt.tail {w : World} {g off c : Nat} {z : Mk} {zs : List Mk} (h : RowAt w g (.slice (some ⟨g, off, none⟩) (z :: zs).length c) (z :: zs)) : RowAt w g (.slice (if c = 1 then some ⟨g, off, none⟩ else some ⟨g, off + 6, none⟩) zs.length (c - 1)) zs := by
  obtain ⟨A, c', e, hc, h1⟩ := h
  injection e with e1 e2 e3
  subst e3
  obtain ⟨off', rfl, h2⟩ := h1 (by simp)
  injection e1 with e1; injection e1 with _ e1
  subst e1
  refine ⟨_, _, rfl, by simp at hc; omega, fun h0 => ⟨off + 6, ?_, fun k hk j u hu => ?_⟩⟩
  · rw [if_neg (by simp at hc; omega)]
  · have := h2 (k + 1) (by simp; omega) j u (by simpa using hu)
    rwa [show off + (k + 1) * 6 + j = off + 6 + k * 6 + j by omega] at this

def Apart (x y : Mk) : Prop := x.hi ≤ y.lo ∨ y.hi ≤ x.lo
/-- All leaves, each of memory of its own, and the block g of their row. -/
structure AllLv (m g : Nat) (ALL : List Mk) (w : World) : Prop where
  each : ∀ y ∈ ALL, MkIn y w
  lo : ∀ y ∈ ALL, m ≤ y.lo
  ap : ALL.Pairwise Apart
  row : ∀ y ∈ ALL, g ∉ blk y.v0 ++ y.F
  fit : ∀ y ∈ ALL, y.lf.doc.Fit ∧ y.lf.path.length ≤ 10000
  len : ALL.length ≤ 100000
  hg : g < w.heap.size
  hm : m ≤ w.heap.size
theorem Apart.sep {x y : Mk} {w w2 : World} (h : Apart x y) (hx : MkIn x w) (hy : MkIn y w2) {k : Nat} (h1 : k ∈ blk x.v0 ++ x.F) (h2 : k ∈ blk y.v0 ++ y.F) : False := by
  have a1 := (hx.lt k h1).1; have a2 := hx.hi k h1; have b1 := (hy.lt k h2).1; have b2 := hy.hi k h2
  rcases h with h | h <;> omega
/-- What a call of grown tells. -/
def GrownTo (m g : Nat) (ALL zs : List Mk) (w : World) (e : Ending) (w' : World) : Prop :=
  ∃ (y0 : Mk) (us rest : List Mk) (ks : List ByteArray) (ds : List D) (rv u0 u1 u2 u3 u4 : Value) (F : List Nat), zs = y0 :: (us ++ rest) ∧ Gr y0.lf.path.length ((us ++ rest).map (·.lf)) ks ds (rest.map (·.lf)) ∧ Stop y0.lf.path.length (rest.map (·.lf)) ∧
    e = .returned (.tuple #[.agg #[u0, u1, u2, u3, u4], rv]) ∧ RowAt w' g rv rest ∧ OwnIn w' m (y0.lf.doc.plus ks ds) u0 u1 u2 u3 u4 F ∧ F.Nodup ∧ (∀ k ∈ F, k < w.heap.size → ∃ y ∈ y0 :: us, k ∈ y.F) ∧ Below m w w' ∧
    (∀ k, k < w.heap.size → (∀ y ∈ y0 :: us, k ∉ y.F) → w'.heap[k]? = w.heap[k]?) ∧ ∀ y ∈ ALL, MkIn y w'
def GrownAt (m g N : Nat) : Prop := ∀ (ALL pre zs : List Mk) (v : Value) (w : World), zs.length ≤ N → 0 < zs.length → ALL = pre ++ zs → AllLv m g ALL w → RowAt w g v zs → Calls Try.prog 35 #[v] w (GrownTo m g ALL zs w)
end Go.Proofs.Ytdgnengfcabgjaa
