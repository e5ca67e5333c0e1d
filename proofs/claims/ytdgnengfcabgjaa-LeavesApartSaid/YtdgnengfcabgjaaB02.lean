/-
  More of the order of documents.
  A document handed over as a value.
  Documents that a call has made: in blocks of their own, each met once.
  Copies of documents: plain lemmas, and what a call that makes a document tells.
  No string is not a number.
-/
import Derived.Test.YtdgnengfcabgjaaB01
import Derived.WalkLawsBesides
import Derived.Lib.Hide
import Derived.Maps.AppendAt
import Derived.Deep.AppendLies
import Derived.OwnWalk
import Derived.Test.YtdgnengfcabgjaaProg
namespace Go.Proofs.Ytdgnengfcabgjaa
open Go.RowKit

theorem scmp_lt {x y : ByteArray} (h : scmp x y = -1) : Op.bytesLess x.toList y.toList = true := by
  rw [less_compare, ByteArray.toList_eq, ByteArray.toList_eq]; simpa [scmp] using h
theorem scmp_nlt {x y : ByteArray} (h : scmp x y ≠ -1) : Op.bytesLess x.toList y.toList = false := by
  rw [less_compare, ByteArray.toList_eq, ByteArray.toList_eq]; simpa [scmp] using h
theorem scmp_eq {x y : ByteArray} (h : scmp x y = 0) : (x.toList == y.toList) = true := by
  rw [ByteArray.toList_eq, ByteArray.toList_eq, beq_iff_eq]; exact (eq_compare _ _).1 h
theorem scmp_ne {x y : ByteArray} (h : scmp x y ≠ 0) : (x.toList == y.toList) = false := by
  rw [ByteArray.toList_eq, ByteArray.toList_eq, beq_eq_false_iff_ne]; exact fun hh => h ((eq_compare _ _).2 hh)
theorem cmps_end {xs ys : List D} {k : Nat} (h1 : xs.length ≤ k) (h2 : ys.length ≤ k) : D.cmps (xs.drop k) (ys.drop k) = 0 := by
  rw [List.drop_eq_nil_of_le h2, List.drop_eq_nil_of_le h1]; simp [D.cmps]
theorem cmps_same {xs ys : List D} {k : Nat} (h1 : k < xs.length) (h2 : k < ys.length) (h : D.cmp xs[k] ys[k] = 0) : D.cmps (xs.drop k) (ys.drop k) = D.cmps (xs.drop (k + 1)) (ys.drop (k + 1)) := by
  rw [List.drop_eq_getElem_cons h1, List.drop_eq_getElem_cons h2]; simp [D.cmps, orI, h]
theorem cmps_apart {xs ys : List D} {k : Nat} (h1 : k < xs.length) (h2 : k < ys.length) (h : D.cmp xs[k] ys[k] ≠ 0) : D.cmps (xs.drop k) (ys.drop k) = D.cmp xs[k] ys[k] := by
  rw [List.drop_eq_getElem_cons h1, List.drop_eq_getElem_cons h2]; simp [D.cmps, orI, h]
theorem D.cmp_eq (d d' : D) : D.cmp d d' = orI (D.root d d') (D.cmps d.kids d'.kids) := by
  obtain ⟨_, _, _, _, _⟩ := d; obtain ⟨_, _, _, _, _⟩ := d'; simp only [D.cmp, D.kids]
theorem kcmp_more {xs ys : List ByteArray} {k : Nat} (h1 : k < xs.length) (h2 : ys.length ≤ k) : kcmp (xs.drop k) (ys.drop k) = 1 := by
  rw [List.drop_eq_getElem_cons h1, List.drop_eq_nil_of_le h2]; rfl
theorem kcmp_less {xs ys : List ByteArray} {k : Nat} (h1 : xs.length ≤ k) (h2 : k < ys.length) : kcmp (xs.drop k) (ys.drop k) = -1 := by
  rw [List.drop_eq_getElem_cons h2, List.drop_eq_nil_of_le h1]; rfl
theorem kcmp_end {xs ys : List ByteArray} {k : Nat} (h1 : xs.length ≤ k) (h2 : ys.length ≤ k) : kcmp (xs.drop k) (ys.drop k) = 0 := by
  rw [List.drop_eq_nil_of_le h2, List.drop_eq_nil_of_le h1]; rfl
theorem kcmp_same {xs ys : List ByteArray} {k : Nat} (h1 : k < xs.length) (h2 : k < ys.length) (h : scmp xs[k] ys[k] = 0) : kcmp (xs.drop k) (ys.drop k) = kcmp (xs.drop (k + 1)) (ys.drop (k + 1)) := by
  rw [List.drop_eq_getElem_cons h1, List.drop_eq_getElem_cons h2]; simp [kcmp, h]
theorem kcmp_apart {xs ys : List ByteArray} {k : Nat} (h1 : k < xs.length) (h2 : k < ys.length) (h : scmp xs[k] ys[k] ≠ 0) : kcmp (xs.drop k) (ys.drop k) = scmp xs[k] ys[k] := by
  rw [List.drop_eq_getElem_cons h1, List.drop_eq_getElem_cons h2]; simp [kcmp, h]
theorem D.depth_eq (d : D) : d.depth = D.depths d.kids + 1 := by obtain ⟨_, _, _, _, _⟩ := d; simp [D.depth, D.kids]
end Go.Proofs.Ytdgnengfcabgjaa
namespace Go.Proofs.Ytdgnengfcabgjaa
open Go.RowKit

/-- A document's five cells as one value. -/
def DocV (w : World) (B : Nat) (d : D) (v : Value) : Prop := ∃ v0 v1 v2 v3 v4, v = .agg #[v0, v1, v2, v3, v4] ∧ DocIn w B d v0 v1 v2 v3 v4
theorem DocV.keep {w w' : World} {B B' : Nat} (hB : B ≤ B') (h : ∀ p : Addr, p.block < B → w'.cell? p = w.cell? p) {d : D} {v : Value} (hd : DocV w B d v) : DocV w' B' d v := by
  obtain ⟨v0, v1, v2, v3, v4, rfl, hd⟩ := hd
  exact ⟨v0, v1, v2, v3, v4, rfl, hd.keep hB h⟩
theorem DocV.below {w w' : World} {B : Nat} {d : D} {v : Value} (h : DocV w B d v) (hb : Below B w w') : DocV w' B d v := DocV.keep (Nat.le_refl _) (fun _ hp => hb.cell hp) h
def D.same (d d' : D) : Bool := decide (D.cmp d d' = 0)
end Go.Proofs.Ytdgnengfcabgjaa
namespace Go.Proofs.Ytdgnengfcabgjaa
open Go.RowKit

def blk (v : Value) : List Nat := v.ownBlock.toList
mutual
/-- The five cells of a document of the call's own; F: its blocks. -/
def OwnIn (w : World) (base : Nat) : D → Value → Value → Value → Value → Value → List Nat → Prop
  | .mk kind num str keys kids, v0, v1, v2, v3, v4, F =>
    v0 = .int .i64 kind ∧ v1 = .int .i64 num ∧ v2 = .string str ∧ w.ownsRow base 9 1 v3 keys.length (keys.map Value.string) ∧
      ∃ (cs : List Value) (Fs : List Nat), w.ownsRow base 25 5 v4 kids.length cs ∧ OwnKids w base kids cs Fs ∧ F = blk v3 ++ (blk v4 ++ Fs)
def OwnKids (w : World) (base : Nat) : List D → List Value → List Nat → Prop
  | [], cs, F => cs = [] ∧ F = []
  | d :: r, cs, F => ∃ (v0 v1 v2 v3 v4 : Value) (cs' : List Value) (F1 F2 : List Nat), cs = v0 :: v1 :: v2 :: v3 :: v4 :: cs' ∧ OwnIn w base d v0 v1 v2 v3 v4 F1 ∧ OwnKids w base r cs' F2 ∧ F = F1 ++ F2
end

theorem blk_mem {v : Value} {k : Nat} : k ∈ blk v ↔ v.ownBlock = some k := by unfold blk; cases h : v.ownBlock <;> simp [eq_comm]
theorem ownsRow_same {w w' : World} {base : Nat} {e : TypeId} {size n : Nat} {v : Value} {xs : List Value} (h : w.ownsRow base e size v n xs) (hs : ∀ k, k ∈ blk v → w'.heap[k]? = w.heap[k]?) : w'.ownsRow base e size v n xs := by
  obtain ⟨h1, h2⟩ := h
  refine ⟨h1, ?_⟩
  rcases h2 with h2 | ⟨g, cap, cur, hv, hg, hh, r⟩
  · exact .inl h2
  · exact .inr ⟨g, cap, cur, hv, hg, by rw [hs g (by rw [blk_mem, hv]; rfl)]; exact hh, r⟩
theorem ownsRow_base {w : World} {base base' : Nat} {e : TypeId} {size n : Nat} {v : Value} {xs : List Value} (h : w.ownsRow base e size v n xs) (hs : base' ≤ base) : w.ownsRow base' e size v n xs := by
  obtain ⟨h1, h2⟩ := h
  refine ⟨h1, ?_⟩
  rcases h2 with h2 | ⟨g, cap, cur, hv, hg, hh, r⟩
  · exact .inl h2
  · exact .inr ⟨g, cap, cur, hv, by omega, hh, r⟩
mutual
theorem OwnIn.same {w w' : World} {base base' : Nat} (hb : base' ≤ base) : ∀ {d : D} {v0 v1 v2 v3 v4 : Value} {F : List Nat}, OwnIn w base d v0 v1 v2 v3 v4 F → (∀ k ∈ F, w'.heap[k]? = w.heap[k]?) → OwnIn w' base' d v0 v1 v2 v3 v4 F
  | .mk _ _ _ _ _, _, _, _, _, _, _, h, hs => by
    simp only [OwnIn] at h ⊢
    obtain ⟨h0, h1, h2, h3, cs, Fs, h4, h5, rfl⟩ := h
    exact ⟨h0, h1, h2, ownsRow_base (ownsRow_same h3 fun k hk => hs k (by simp [hk])) hb, cs, Fs, ownsRow_base (ownsRow_same h4 fun k hk => hs k (by simp [hk])) hb, OwnKids.same hb h5 fun k hk => hs k (by simp [hk]), rfl⟩
theorem OwnKids.same {w w' : World} {base base' : Nat} (hb : base' ≤ base) : ∀ {l : List D} {cs : List Value} {F : List Nat}, OwnKids w base l cs F → (∀ k ∈ F, w'.heap[k]? = w.heap[k]?) → OwnKids w' base' l cs F
  | [], _, _, h, _ => by simpa [OwnKids] using h
  | d :: r, _, _, h, hs => by
    simp only [OwnKids] at h ⊢
    obtain ⟨v0, v1, v2, v3, v4, cs', F1, F2, h1, h2, h3, rfl⟩ := h
    exact ⟨v0, v1, v2, v3, v4, cs', F1, F2, h1, OwnIn.same hb h2 fun k hk => hs k (by simp [hk]), OwnKids.same hb h3 fun k hk => hs k (by simp [hk]), rfl⟩
end
mutual
theorem OwnIn.lt {w : World} {base : Nat} : ∀ {d : D} {v0 v1 v2 v3 v4 : Value} {F : List Nat}, OwnIn w base d v0 v1 v2 v3 v4 F → ∀ k ∈ F, base ≤ k ∧ k < w.heap.size
  | .mk _ _ _ _ _, _, _, _, _, _, _, h, k, hk => by
    simp only [OwnIn] at h
    obtain ⟨h0, h1, h2, h3, cs, Fs, h4, h5, rfl⟩ := h
    simp only [List.mem_append, blk_mem] at hk
    rcases hk with hk | hk | hk
    · exact h3.lt k hk
    · exact h4.lt k hk
    · exact OwnKids.lt h5 k hk
theorem OwnKids.lt {w : World} {base : Nat} : ∀ {l : List D} {cs : List Value} {F : List Nat}, OwnKids w base l cs F → ∀ k ∈ F, base ≤ k ∧ k < w.heap.size
  | [], _, _, h, k, hk => by
    simp only [OwnKids] at h
    rw [h.2] at hk; simp at hk
  | d :: r, _, _, h, k, hk => by
    simp only [OwnKids] at h
    obtain ⟨v0, v1, v2, v3, v4, cs', F1, F2, h1, h2, h3, rfl⟩ := h
    rcases List.mem_append.1 hk with hk | hk
    · exact OwnIn.lt h2 k hk
    · exact OwnKids.lt h3 k hk
end
theorem OwnIn.below {w w' : World} {base B : Nat} {d : D} {v0 v1 v2 v3 v4 : Value} {F : List Nat} (h : OwnIn w base d v0 v1 v2 v3 v4 F) (hb : Below B w w') (hB : w.heap.size ≤ B) : OwnIn w' base d v0 v1 v2 v3 v4 F :=
  h.same (Nat.le_refl _) fun k hk => hb.block k (by have := (h.lt k hk).2; omega)
theorem OwnKids.below {w w' : World} {base B : Nat} {l : List D} {cs : List Value} {F : List Nat} (h : OwnKids w base l cs F) (hb : Below B w w') (hB : w.heap.size ≤ B) : OwnKids w' base l cs F :=
  h.same (Nat.le_refl _) fun k hk => hb.block k (by have := (h.lt k hk).2; omega)

theorem OwnIn.make {w : World} {base : Nat} {d : D} {v3 v4 : Value} {cs : List Value} {Fs : List Nat} (h3 : w.ownsRow base 9 1 v3 d.keys.length (d.keys.map Value.string)) (h4 : w.ownsRow base 25 5 v4 d.kids.length cs) (h5 : OwnKids w base d.kids cs Fs) :
    OwnIn w base d (.int .i64 d.kind) (.int .i64 d.num) (.string d.str) v3 v4 (blk v3 ++ (blk v4 ++ Fs)) := by
  obtain ⟨_, _, _, _, _⟩ := d
  simp only [OwnIn]
  exact ⟨rfl, rfl, rfl, h3, cs, Fs, h4, h5, rfl⟩
/-- Kids, with one more at the end. -/
theorem OwnKids.push {w : World} {base : Nat} {x : D} {v0 v1 v2 v3 v4 : Value} {G : List Nat} (hx : OwnIn w base x v0 v1 v2 v3 v4 G) : ∀ {l : List D} {cs : List Value} {F : List Nat}, OwnKids w base l cs F → OwnKids w base (l ++ [x]) (cs ++ [v0, v1, v2, v3, v4]) (F ++ G)
  | [], _, _, h => by
    simp only [OwnKids] at h
    obtain ⟨rfl, rfl⟩ := h
    simp only [List.nil_append, OwnKids]
    exact ⟨v0, v1, v2, v3, v4, [], G, [], rfl, hx, ⟨rfl, rfl⟩, by simp⟩
  | d :: r, _, _, h => by
    simp only [OwnKids] at h
    obtain ⟨u0, u1, u2, u3, u4, cs', F1, F2, rfl, h2, h3, rfl⟩ := h
    simp only [List.cons_append, OwnKids]
    exact ⟨u0, u1, u2, u3, u4, _, F1, F2 ++ G, rfl, h2, OwnKids.push hx h3, by simp⟩

/-- A kid among kids: what is ahead of it, and what is behind. -/
theorem OwnKids.split {w : World} {base : Nat} : ∀ {l : List D} {cs : List Value} {F : List Nat}, OwnKids w base l cs F → ∀ (i : Nat) (h : i < l.length),
    ∃ (v0 v1 v2 v3 v4 : Value) (c1 c2 : List Value) (F1 G F2 : List Nat), cs = c1 ++ (v0 :: v1 :: v2 :: v3 :: v4 :: c2) ∧ c1.length = i * 5 ∧ F = F1 ++ (G ++ F2) ∧ OwnKids w base (l.take i) c1 F1 ∧ OwnIn w base l[i] v0 v1 v2 v3 v4 G ∧ OwnKids w base (l.drop (i + 1)) c2 F2
  | [], _, _, _, i, h => by simp at h
  | d :: r, _, _, hk, 0, _ => by
    simp only [OwnKids] at hk
    obtain ⟨v0, v1, v2, v3, v4, cs', F1, F2, rfl, h2, h3, rfl⟩ := hk
    exact ⟨v0, v1, v2, v3, v4, [], cs', [], F1, F2, rfl, rfl, rfl, by simp [OwnKids], by simpa using h2, by simpa using h3⟩
  | d :: r, _, _, hk, i + 1, h => by
    simp only [OwnKids] at hk
    obtain ⟨u0, u1, u2, u3, u4, cs', F1, F2, rfl, h2, h3, rfl⟩ := hk
    obtain ⟨v0, v1, v2, v3, v4, c1, c2, E1, G, E2, rfl, e1, rfl, k1, k2, k3⟩ := OwnKids.split h3 i (by simpa using h)
    refine ⟨v0, v1, v2, v3, v4, u0 :: u1 :: u2 :: u3 :: u4 :: c1, c2, F1 ++ E1, G, E2, by simp, by simp [e1]; omega, by simp, ?_, by simpa using k2, by simpa using k3⟩
    simp only [List.take_succ_cons, OwnKids]
    exact ⟨u0, u1, u2, u3, u4, c1, F1, E1, rfl, h2, k1, rfl⟩
/-- .. and put together again. -/
theorem OwnKids.join {w : World} {base : Nat} {x : D} {v0 v1 v2 v3 v4 : Value} {G : List Nat} (hx : OwnIn w base x v0 v1 v2 v3 v4 G) {m : List D} {c2 : List Value} {F2 : List Nat} (hm : OwnKids w base m c2 F2) :
    ∀ {l : List D} {c1 : List Value} {F1 : List Nat}, OwnKids w base l c1 F1 → OwnKids w base (l ++ x :: m) (c1 ++ (v0 :: v1 :: v2 :: v3 :: v4 :: c2)) (F1 ++ (G ++ F2))
  | [], _, _, h => by
    simp only [OwnKids] at h
    obtain ⟨rfl, rfl⟩ := h
    simp only [List.nil_append, OwnKids]
    exact ⟨v0, v1, v2, v3, v4, c2, G, F2, rfl, hx, hm, rfl⟩
  | d :: r, _, _, h => by
    simp only [OwnKids] at h
    obtain ⟨u0, u1, u2, u3, u4, cs', E1, E2, rfl, h2, h3, rfl⟩ := h
    simp only [List.cons_append, OwnKids]
    exact ⟨u0, u1, u2, u3, u4, _, E1, E2 ++ (G ++ F2), rfl, h2, OwnKids.join hx hm h3, by simp⟩
theorem OwnKids.append {w : World} {base : Nat} {m : List D} {c2 : List Value} {F2 : List Nat} (hm : OwnKids w base m c2 F2) :
    ∀ {l : List D} {c1 : List Value} {F1 : List Nat}, OwnKids w base l c1 F1 → OwnKids w base (l ++ m) (c1 ++ c2) (F1 ++ F2)
  | [], _, _, h => by
    simp only [OwnKids] at h
    obtain ⟨rfl, rfl⟩ := h
    simpa using hm
  | d :: r, _, _, h => by
    simp only [OwnKids] at h
    obtain ⟨u0, u1, u2, u3, u4, cs', E1, E2, rfl, h2, h3, rfl⟩ := h
    simp only [List.cons_append, OwnKids]
    exact ⟨u0, u1, u2, u3, u4, _, E1, E2 ++ F2, rfl, h2, OwnKids.append hm h3, by simp⟩

theorem Strs_of_own {w : World} {base : Nat} {v : Value} {xs : List ByteArray} (h : w.ownsRow base 9 1 v xs.length (xs.map Value.string)) : Strs w w.heap.size v xs := by
  rcases Nat.eq_zero_or_pos xs.length with h0 | h0
  · rcases h.2 with ⟨rfl, _⟩ | ⟨g, cap, cur, rfl, _, hh, hc, _⟩
    · exact ⟨none, 0, by rw [h0], by omega, fun h => by omega⟩
    · exact ⟨some ⟨g, 0, none⟩, cap, rfl, hc, fun h => by omega⟩
  · obtain ⟨g, cap, rfl, hg, hlt⟩ := h.form h0
    have hc : xs.length ≤ cap := by
      rcases h.2 with ⟨e, _⟩ | ⟨g', cap', cur, e, _, _, hc, _⟩
      · cases e
      · injection e with _ _ e3; omega
    refine ⟨some ⟨g, 0, none⟩, cap, rfl, hc, fun _ => ⟨g, 0, rfl, hlt, fun i hi => ?_⟩⟩
    rw [Nat.zero_add, h.cellAt i (by omega)]
    simp [hi]
mutual
theorem OwnIn.doc {w : World} {base : Nat} : ∀ {d : D} {v0 v1 v2 v3 v4 : Value} {F : List Nat}, OwnIn w base d v0 v1 v2 v3 v4 F → DocIn w w.heap.size d v0 v1 v2 v3 v4
  | .mk _ _ _ keys kids, v0, v1, v2, v3, v4, F, h => by
    simp only [OwnIn] at h
    simp only [DocIn]
    obtain ⟨h0, h1, h2, h3, cs, Fs, h4, h5, rfl⟩ := h
    refine ⟨h0, h1, h2, Strs_of_own h3, ?_⟩
    rcases Nat.eq_zero_or_pos kids.length with hz | hz
    · rcases h4.2 with ⟨rfl, _⟩ | ⟨g, cap, cur, rfl, _, hh, hc, _⟩
      · exact ⟨none, 0, by rw [hz], by omega, fun h => by omega⟩
      · exact ⟨some ⟨g, 0, none⟩, cap, rfl, hc, fun h => by omega⟩
    · obtain ⟨g, cap, rfl, hg, hlt⟩ := h4.form hz
      have hc : kids.length ≤ cap := by
        rcases h4.2 with ⟨e, _⟩ | ⟨g', cap', cur, e, _, _, hc, _⟩
        · cases e
        · injection e with _ _ e3; omega
      refine ⟨some ⟨g, 0, none⟩, cap, rfl, hc, fun _ => ⟨g, 0, rfl, hlt, ?_⟩⟩
      exact OwnKids.kids h5 (i := 0) fun j hj => by
        rw [Nat.zero_mul, Nat.add_zero, Nat.zero_add, h4.cellAt j (by have := h4.1; omega)]
theorem OwnKids.kids {w : World} {base : Nat} {g off : Nat} : ∀ {l : List D} {cs : List Value} {F : List Nat}, OwnKids w base l cs F → ∀ {i : Nat}, (∀ j, j < cs.length → w.cell? ⟨g, off + i * 5 + j, none⟩ = cs[j]?) → KidsIn w w.heap.size g off i l
  | [], _, _, _, _, _ => by simp [KidsIn]
  | d :: r, _, _, h, i, hc => by
    simp only [OwnKids] at h
    obtain ⟨v0, v1, v2, v3, v4, cs', F1, F2, rfl, h2, h3, rfl⟩ := h
    simp only [KidsIn]
    refine ⟨⟨v0, v1, v2, v3, v4, hc 0 (by simp), hc 1 (by simp), hc 2 (by simp), hc 3 (by simp), hc 4 (by simp), OwnIn.doc h2⟩, OwnKids.kids h3 fun j hj => ?_⟩
    have := hc (j + 5) (by simp; omega)
    rw [show off + (i + 1) * 5 + j = off + i * 5 + (j + 5) from by omega, this]
    simp
end

end Go.Proofs.Ytdgnengfcabgjaa
namespace Go.Proofs.Ytdgnengfcabgjaa
open Go.RowKit

theorem infoS : (Try.prog.info? 9).map (fun i => (i.zero, i.size, i.bytes)) = some (some (.string ByteArray.empty), 1, 16) := by kernel_rfl
theorem infoD : (Try.prog.info? 25).map (fun i => (i.zero, i.size, i.bytes)) = some (some (.agg #[.int .i64 0, .int .i64 0, .string ByteArray.empty, .slice none 0 0, .slice none 0 0]), 5, 80) := by kernel_rfl

theorem strs_one (xs : List ByteArray) : ∀ u ∈ xs.map Value.string, u.oneCell' = true := by
  intro u hu
  obtain ⟨x, _, rfl⟩ := List.mem_map.1 hu
  rfl
theorem ownsRow_slice {w : World} {base : Nat} {e : TypeId} {size n : Nat} {v : Value} {xs : List Value} (h : w.ownsRow base e size v n xs) : ∃ A c, v = .slice A n c := by
  rcases h.2 with ⟨rfl, rfl⟩ | ⟨g, cap, cur, rfl, _⟩
  · exact ⟨none, 0, rfl⟩
  · exact ⟨_, _, rfl⟩
/-- 'append(v, nil...)', v the call's own: v. -/
theorem run_append_nils {P : Program} (w : World) (t ty e : TypeId) (i : TypeInfo) (base size c : Nat) (ht : P.underlying t = some (.slice e)) (hi : P.info? e = some i) (v : Value) (n : Nat) (xs : List Value) (hown : w.ownsRow base e size v n xs) :
    (Builtin.append_ #[t, t] ty #[v, .slice none 0 c]).run P w = .ok v w := by
  rcases hown.2 with ⟨rfl, rfl⟩ | ⟨g, cap, cur, rfl, _, _, hnc, _⟩
  · simp [Builtin.append_, run_underlying ht, sizeOf, typeInfo, hi, Builtin.lenOf, Builtin.firstCells]
  · simp [Builtin.append_, run_underlying ht, sizeOf, typeInfo, hi, Builtin.lenOf, Builtin.firstCells, hnc, storeCells]
theorem wpList_append_nilsrc {P : Program} {w : World} {ops : Array Oper} {rest : List Oper} {o : Oper} {a : Act} {Q : Exit → Act → World → Prop} (hgd : o.guard = none) (s x : Operand) (t e : TypeId) (i : TypeInfo) (base size c : Nat)
    (ho : o.op = .call { callee := .builtin .append, args := #[s, x], argTypes := #[t, t] }) (ht : P.underlying t = some (.slice e)) (hi : P.info? e = some i) (v : Value) (n : Nat) (xs : List Value) (hs : a.eval s = v) (hown : w.ownsRow base e size v n xs) (hx : a.eval x = .slice none 0 c)
    (h : wpList P ops Q rest (a.put o.dst v) w) : wpList P ops Q (o :: rest) a w := by
  refine wpList_plain hgd fun K hK => ?_
  have hrun := run_append_nils (P := P) w t o.type e i base size c ht hi v n xs hown
  unfold Oper.wp execOp
  simp only [ho, resolve, invoke, builtin, Sem.run_bind, Sem.run_pure, Result.andThen_ok, List.map_toArray, List.map_cons, List.map_nil, hs, hx, hrun]
  exact hK _ _ h
/-- 'append(v, xs...)' of strings that can be read, v the call's own. -/
theorem wpList_append_strs {w : World} {ops : Array Oper} {rest : List Oper} {o : Oper} {a : Act} {Q : Exit → Act → World → Prop} (hgd : o.guard = none) (s x : Operand)
    (ho : o.op = .call { callee := .builtin .append, args := #[s, x], argTypes := #[22, 22] })
    (base B n : Nat) (v u : Value) (olds : List Value) (xs : List ByteArray) (hs : a.eval s = v) (hx : a.eval x = u) (hown : w.ownsRow base 9 1 v n olds) (hu : Strs w B u xs) (hn : n + xs.length ≤ 100000) (hbase : base ≤ w.heap.size)
    (h : ∀ v' w', w'.ownsRow base 9 1 v' (n + xs.length) (olds ++ xs.map Value.string) → w.grownBy w' v.ownBlock → (v'.ownBlock = v.ownBlock ∨ v'.ownBlock = some w.heap.size) → wpList Try.prog ops Q rest (a.put o.dst v') w') :
    wpList Try.prog ops Q (o :: rest) a w := by
  obtain ⟨i0, hi, hz0, hz1, hz2⟩ := info_parts infoS
  obtain ⟨A, c, rfl, hc1, hc2⟩ := hu
  cases A with
  | none =>
    have h0 : xs.length = 0 := by
      rcases Nat.eq_zero_or_pos xs.length with h0 | h0
      · exact h0
      · obtain ⟨b, off, e, _⟩ := hc2 h0; cases e
    obtain rfl : xs = [] := List.eq_nil_of_length_eq_zero h0
    exact wpList_append_nilsrc hgd s x 22 9 i0 base 1 c ho Try.underlying22 hi v n olds hs hown hx (h v w (by simpa using hown) (World.grownBy.refl w _) (.inl rfl))
  | some ad =>
    refine wpList_append_own_at _ hgd s x 22 ho base 9 i0 (.string ByteArray.empty) 1 16 Try.underlying22 hi hz0 hz1 hz2 (by rfl) (by omega) v n olds hs hown ad xs.length c (xs.map Value.string) hx (by simp) ?_ (strs_one _) (by unfold maxLen; omega) (by omega) hbase fun v' w' h1 h2 _ h4 => h v' w' h1 h2 h4
    intro j u hj
    rw [List.getElem?_map] at hj
    cases hxj : xs[j]? with
    | none => rw [hxj] at hj; cases hj
    | some y =>
      rw [hxj] at hj
      obtain ⟨hlt, rfl⟩ := List.getElem?_eq_some_iff.1 hxj
      obtain ⟨b, off, e, _, hc⟩ := hc2 (by omega)
      obtain rfl := Option.some.inj e
      have : (⟨b, off, none⟩ : Addr).add j = ⟨b, off + j, none⟩ := by unfold Addr.add; split <;> simp_all
      rw [this, hc j hlt]
      exact hj

theorem below_drewN (w : World) (n : Nat) : Below w.heap.size w (w.drewN n) := ⟨rfl, rfl, rfl, Nat.le_refl _, fun _ _ => rfl⟩
def Hold (p : Prop) : Prop := p
theorem hold {p : Prop} (h : Hold p) : p := h
/-- What a call that makes a document tells. -/
def MadeDoc (W0 : Nat) (w : World) (d : D) (e : Ending) (w' : World) : Prop :=
  ∃ (v0 v1 v2 v3 v4 : Value) (F : List Nat), e = .returned (.agg #[v0, v1, v2, v3, v4]) ∧ OwnIn w' W0 d v0 v1 v2 v3 v4 F ∧ F.Nodup ∧ Below W0 w w'
/-- .. a row of documents. -/
def MadeRow (W0 : Nat) (w : World) (l : List D) (e : Ending) (w' : World) : Prop :=
  ∃ (v : Value) (cs : List Value) (F : List Nat), e = .returned v ∧ w'.ownsRow W0 25 5 v l.length cs ∧ OwnKids w' W0 l cs F ∧ (blk v ++ F).Nodup ∧ Below W0 w w'

/-- A slice of documents that can be read. -/
def KidsV (w : World) (B : Nat) (l : List D) (v : Value) : Prop :=
  ∃ (A : Option Addr) (c : Nat), v = .slice A l.length c ∧ l.length ≤ c ∧ (0 < l.length → ∃ b off, A = some ⟨b, off, none⟩ ∧ b < B ∧ KidsIn w B b off 0 l)

theorem oneCell_agg {u0 u1 u2 u3 u4 : Value} {w : World} {B : Nat} {d : D} (h : DocIn w B d u0 u1 u2 u3 u4) : ∀ u ∈ [u0, u1, u2, u3, u4], u.oneCell' = true := by
  obtain ⟨A3, c3, A4, c4, rfl, rfl, rfl, rfl, rfl⟩ := h.forms
  intro u hu
  simp only [List.mem_cons, List.not_mem_nil, or_false] at hu
  rcases hu with rfl | rfl | rfl | rfl | rfl <;> rfl

theorem blk_nodup (v : Value) : (blk v).Nodup := by unfold blk; cases v.ownBlock <;> simp
theorem push_rel {W0 k n cap g : Nat} {w wr w2 w3 : World} {u y0 y1 y2 y3 y4 : Value} {l : List D} (hlt : k < l.length) {cs : List Value} {F G : List Nat} (HND : (blk u ++ F).Nodup) (HO : wr.ownsRow W0 25 5 u k cs)
    (HOK : OwnKids wr W0 (l.take k) cs F) (hb : Below W0 w wr) (hW : W0 ≤ wr.heap.size) (hb3 : Below wr.heap.size wr w2) (HG : OwnIn w2 (wr.heap.size + 1) l[k] y0 y1 y2 y3 y4 G) (HGN : G.Nodup) (o : Obj)
    (hgrow : (w2.alloc o).grownBy w3 u.ownBlock) (hat : u.ownBlock = some g ∨ g = w2.heap.size + 1) :
    OwnKids w3 W0 (l.take (k + 1)) (cs ++ [y0, y1, y2, y3, y4]) (F ++ G) ∧ (blk (.slice (some ⟨g, 0, none⟩) n cap) ++ (F ++ G)).Nodup ∧ Below W0 w w3 := by
  have hs := hb3.size
  have hu : ∀ j, u.ownBlock = some j → W0 ≤ j ∧ j < wr.heap.size := HO.lt
  have hF := HOK.lt
  have hG := HG.lt
  rw [List.nodup_append] at HND
  obtain ⟨_, hFn, hdis⟩ := HND
  have huF : ∀ j ∈ F, u.ownBlock ≠ some j := fun j hj h => hdis j (blk_mem.2 h) j hj rfl
  have keep : ∀ j, j < w2.heap.size → u.ownBlock ≠ some j → w3.heap[j]? = w2.heap[j]? := fun j hj hne =>
    (hgrow.block j (by simp; omega) (fun e => hne e.symm)).trans (Below.heap_alloc w2 o j hj)
  refine ⟨?_, ?_, ?_⟩
  · rw [List.take_succ_eq_append_getElem hlt]
    exact OwnKids.push (HG.same (by omega) fun j hj => keep j (hG j hj).2 fun h => by have := (hu j h).2; have := (hG j hj).1; omega)
      (HOK.same (Nat.le_refl _) fun j hj => (keep j (by have := (hF j hj).2; omega) (huF j hj)).trans (hb3.block j (hF j hj).2))
  · have hb : blk (.slice (some ⟨g, 0, none⟩) n cap) = [g] := rfl
    rw [hb, List.nodup_append]
    refine ⟨by simp, ?_, fun a ha b hbm hab => ?_⟩
    · rw [List.nodup_append]
      exact ⟨hFn, HGN, fun a ha b hb hab => by subst hab; have := (hF a ha).2; have := (hG a hb).1; omega⟩
    · simp only [List.mem_singleton] at ha
      subst ha; subst hab
      rcases List.mem_append.1 hbm with hm | hm
      · rcases hat with h | h
        · exact huF a hm h
        · have := (hF a hm).2; omega
      · rcases hat with h | h
        · have := (hu a h).2; have := (hG a hm).1; omega
        · have := (hG a hm).2; omega
  · refine hb.trans ?_
    refine (hb3.mono hW).trans ?_
    refine ((Below.refl W0 w2).alloc (by omega) o).trans ⟨hgrow.os, hgrow.tape, hgrow.output, hgrow.size, fun j hj => hgrow.block j (by simp; omega) fun e => by have := (hu j e.symm).1; omega⟩

end Go.Proofs.Ytdgnengfcabgjaa
namespace Go.Proofs.Ytdgnengfcabgjaa
open Go.RowKit
theorem isNaNs_any (x : ByteArray) (w : World) : Calls Try.prog 84 #[.string x] w fun e w' => e = .returned (.bool false) ∧ w = w' := by
  go_enter Try.func84, Try.ntmps84
  go_wp2
  go_ret
  exact ⟨rfl, rfl⟩
end Go.Proofs.Ytdgnengfcabgjaa
