/-
  A document's variable.
  Documents that a call has made: in blocks of their own, each met once.
  What a call has turned: memory of its own, and a box.
  Kids, cut in two.
-/
import Derived.Test.YtmnaaohhageihaaDoorProg
import Derived.Test.YtmnaaohhageihaaDoorB01
import Derived.Lib.Hide
import Derived.Maps.AppendAt
import Derived.Deep.AppendLies
namespace Go.Proofs.YtmnaaohhageihaaDoor
open Go.RowKit
theorem ret_cell5 {P : Program} {fn : Func} {R : Ending → World → Prop} {a : Act} {w : World} {b : Nat} {t : Tmp} {v0 v1 v2 v3 v4 : Value} {T : TypeId} (hres : fn.results = #[.cell t T]) (hslot : a.tmps.getD t undef = .pointer (some ⟨b, 0, none⟩))
    (hload : (loadVar T ⟨b, 0, none⟩).run P w = .ok (.agg #[v0, v1, v2, v3, v4]) w) (hd : a.defers = []) (hR : R (.returned (.agg #[v0, v1, v2, v3, v4])) w) : bodyPost P fn R .ret a w :=
  bodyPost_ret (v := .agg #[v0, v1, v2, v3, v4]) (by rw [Array.getD_eq_getD_getElem?] at hslot; simp [results, hres, hslot, asAddr, hload]) hd hR
/-- A document's variable: a block of five cells. -/
def Box5 (w : World) (b : Nat) (v0 v1 v2 v3 v4 : Value) : Prop := w.heap[b]? = some (.cells #[v0, v1, v2, v3, v4] 31 (0, 0))
section
variable {w w' : World} {b : Nat} {v0 v1 v2 v3 v4 : Value}
theorem Box5.lt (h : Box5 w b v0 v1 v2 v3 v4) : b < w.heap.size := by
  rcases Nat.lt_or_ge b w.heap.size with hlt | hge
  · exact hlt
  · unfold Box5 at h; rw [Array.getElem?_eq_none hge] at h; cases h
theorem Box5.cells (h : Box5 w b v0 v1 v2 v3 v4) : w.cell? ⟨b, 0, none⟩ = some v0 ∧ w.cell? ⟨b, 1, none⟩ = some v1 ∧ w.cell? ⟨b, 2, none⟩ = some v2 ∧ w.cell? ⟨b, 3, none⟩ = some v3 ∧ w.cell? ⟨b, 4, none⟩ = some v4 :=
  ⟨cell_of_row w b 0 _ _ _ h, cell_of_row w b 1 _ _ _ h, cell_of_row w b 2 _ _ _ h, cell_of_row w b 3 _ _ _ h, cell_of_row w b 4 _ _ _ h⟩
theorem Box5.frozen (h : Box5 w b v0 v1 v2 v3 v4) (i : Nat) : w.frozen? ⟨b, i, none⟩ = false := by
  unfold Box5 at h
  simp [World.frozen?, h]
theorem Box5.load (h : Box5 w b v0 v1 v2 v3 v4) : (loadVar 31 ⟨b, 0, none⟩).run Tryd.prog w = .ok (.agg #[v0, v1, v2, v3, v4]) w := by
  obtain ⟨z0, z1, z2, z3, z4⟩ := h.cells
  simp [go_sem, z0, z1, z2, z3, z4]
theorem Box5.new (w : World) (v0 v1 v2 v3 v4 : Value) : Box5 (w.alloc (.cells #[v0, v1, v2, v3, v4] 31)) w.heap.size v0 v1 v2 v3 v4 := heap_alloc_new w _
theorem Box5.same (h : Box5 w b v0 v1 v2 v3 v4) (hs : w'.heap[b]? = w.heap[b]?) : Box5 w' b v0 v1 v2 v3 v4 := hs.trans h
theorem Box5.alloc (h : Box5 w b v0 v1 v2 v3 v4) (o : Obj) : Box5 (w.alloc o) b v0 v1 v2 v3 v4 := (Below.heap_alloc w o b h.lt).trans h
theorem Box5.far (h : Box5 w b v0 v1 v2 v3 v4) {p : Addr} (hp : b ≠ p.block) (u : Value) : Box5 (w.setCell p u) b v0 v1 v2 v3 v4 := (Below.heap_setCell w p u b hp).trans h
theorem Box5.set_ (h : Box5 w b v0 v1 v2 v3 v4) (i : Nat) (u : Value) : (w.setCell ⟨b, i, none⟩ u).heap[b]? = some (.cells (#[v0, v1, v2, v3, v4].setIfInBounds i u) 31 (0, 0)) := by
  unfold Box5 at h
  simp [World.setCell, Array.getElem?_modify, h]
theorem Box5.set0 (h : Box5 w b v0 v1 v2 v3 v4) (u : Value) : Box5 (w.setCell ⟨b, 0, none⟩ u) b u v1 v2 v3 v4 := h.set_ 0 u
theorem Box5.set1 (h : Box5 w b v0 v1 v2 v3 v4) (u : Value) : Box5 (w.setCell ⟨b, 1, none⟩ u) b v0 u v2 v3 v4 := h.set_ 1 u
theorem Box5.set2 (h : Box5 w b v0 v1 v2 v3 v4) (u : Value) : Box5 (w.setCell ⟨b, 2, none⟩ u) b v0 v1 u v3 v4 := h.set_ 2 u
theorem Box5.new' {w : World} {b : Nat} (hb : w.heap.size = b) (v0 v1 v2 v3 v4 : Value) : Box5 (w.alloc (.cells #[v0, v1, v2, v3, v4] 31)) b v0 v1 v2 v3 v4 := hb ▸ heap_alloc_new w _
theorem Box5.set3 (h : Box5 w b v0 v1 v2 v3 v4) (u : Value) : Box5 (w.setCell ⟨b, 3, none⟩ u) b v0 v1 v2 u v4 := h.set_ 3 u
theorem Box5.set4 (h : Box5 w b v0 v1 v2 v3 v4) (u : Value) : Box5 (w.setCell ⟨b, 4, none⟩ u) b v0 v1 v2 v3 u := h.set_ 4 u
end
end Go.Proofs.YtmnaaohhageihaaDoor
namespace Go.Proofs.YtmnaaohhageihaaDoor
open Go.RowKit

def blk (v : Value) : List Nat := v.ownBlock.toList
mutual
/-- The five cells of a document of the call's own; F: its blocks. -/
def OwnIn (w : World) (base : Nat) : D → Value → Value → Value → Value → Value → List Nat → Prop
  | .mk kind num str keys kids, v0, v1, v2, v3, v4, F =>
    v0 = .int .i64 kind ∧ v1 = .int .i64 num ∧ v2 = .string str ∧ w.ownsRow base 9 1 v3 keys.length (keys.map Value.string) ∧
      ∃ (cs : List Value) (Fs : List Nat), w.ownsRow base 31 5 v4 kids.length cs ∧ OwnKids w base kids cs Fs ∧ F = blk v3 ++ (blk v4 ++ Fs)
def OwnKids (w : World) (base : Nat) : List D → List Value → List Nat → Prop
  | [], cs, F => cs = [] ∧ F = []
  | d :: r, cs, F => ∃ (v0 v1 v2 v3 v4 : Value) (cs' : List Value) (F1 F2 : List Nat), cs = v0 :: v1 :: v2 :: v3 :: v4 :: cs' ∧ OwnIn w base d v0 v1 v2 v3 v4 F1 ∧ OwnKids w base r cs' F2 ∧ F = F1 ++ F2
end

theorem blk_mem {v : Value} {k : Nat} : k ∈ blk v ↔ v.ownBlock = some k := by unfold blk; cases h : v.ownBlock <;> simp [eq_comm]
theorem ownsRow_same {w w' : World} {base : Nat} {e : TypeId} {size n : Nat} {v : Value} {xs : List Value} (h : w.ownsRow base e size v n xs) (hs : ∀ k, k ∈ blk v → w'.heap[k]? = w.heap[k]?) : w'.ownsRow base e size v n xs := by
  obtain ⟨h1, h2⟩ := h
  refine ⟨h1, ?_⟩
  rcases h2 with h2 | ⟨g, cap, cur, hv, hg, hh, r⟩
  · exact .inl h2
  · exact .inr ⟨g, cap, cur, hv, hg, by rw [hs g (by rw [blk_mem, hv]; rfl)]; exact hh, r⟩
theorem ownsRow_base {w : World} {base base' : Nat} {e : TypeId} {size n : Nat} {v : Value} {xs : List Value} (h : w.ownsRow base e size v n xs) (hs : base' ≤ base) : w.ownsRow base' e size v n xs := by
  obtain ⟨h1, h2⟩ := h
  refine ⟨h1, ?_⟩
  rcases h2 with h2 | ⟨g, cap, cur, hv, hg, hh, r⟩
  · exact .inl h2
  · exact .inr ⟨g, cap, cur, hv, by omega, hh, r⟩
mutual
theorem OwnIn.same {w w' : World} {base base' : Nat} (hb : base' ≤ base) : ∀ {d : D} {v0 v1 v2 v3 v4 : Value} {F : List Nat}, OwnIn w base d v0 v1 v2 v3 v4 F → (∀ k ∈ F, w'.heap[k]? = w.heap[k]?) → OwnIn w' base' d v0 v1 v2 v3 v4 F
  | .mk _ _ _ _ _, _, _, _, _, _, _, h, hs => by
    simp only [OwnIn] at h ⊢
    obtain ⟨h0, h1, h2, h3, cs, Fs, h4, h5, rfl⟩ := h
    exact ⟨h0, h1, h2, ownsRow_base (ownsRow_same h3 fun k hk => hs k (by simp [hk])) hb, cs, Fs, ownsRow_base (ownsRow_same h4 fun k hk => hs k (by simp [hk])) hb, OwnKids.same hb h5 fun k hk => hs k (by simp [hk]), rfl⟩
theorem OwnKids.same {w w' : World} {base base' : Nat} (hb : base' ≤ base) : ∀ {l : List D} {cs : List Value} {F : List Nat}, OwnKids w base l cs F → (∀ k ∈ F, w'.heap[k]? = w.heap[k]?) → OwnKids w' base' l cs F
  | [], _, _, h, _ => by simpa [OwnKids] using h
  | d :: r, _, _, h, hs => by
    simp only [OwnKids] at h ⊢
    obtain ⟨v0, v1, v2, v3, v4, cs', F1, F2, h1, h2, h3, rfl⟩ := h
    exact ⟨v0, v1, v2, v3, v4, cs', F1, F2, h1, OwnIn.same hb h2 fun k hk => hs k (by simp [hk]), OwnKids.same hb h3 fun k hk => hs k (by simp [hk]), rfl⟩
end
mutual
theorem OwnIn.lt {w : World} {base : Nat} : ∀ {d : D} {v0 v1 v2 v3 v4 : Value} {F : List Nat}, OwnIn w base d v0 v1 v2 v3 v4 F → ∀ k ∈ F, base ≤ k ∧ k < w.heap.size
  | .mk _ _ _ _ _, _, _, _, _, _, _, h, k, hk => by
    simp only [OwnIn] at h
    obtain ⟨h0, h1, h2, h3, cs, Fs, h4, h5, rfl⟩ := h
    simp only [List.mem_append, blk_mem] at hk
    rcases hk with hk | hk | hk
    · exact h3.lt k hk
    · exact h4.lt k hk
    · exact OwnKids.lt h5 k hk
theorem OwnKids.lt {w : World} {base : Nat} : ∀ {l : List D} {cs : List Value} {F : List Nat}, OwnKids w base l cs F → ∀ k ∈ F, base ≤ k ∧ k < w.heap.size
  | [], _, _, h, k, hk => by
    simp only [OwnKids] at h
    rw [h.2] at hk; simp at hk
  | d :: r, _, _, h, k, hk => by
    simp only [OwnKids] at h
    obtain ⟨v0, v1, v2, v3, v4, cs', F1, F2, h1, h2, h3, rfl⟩ := h
    rcases List.mem_append.1 hk with hk | hk
    · exact OwnIn.lt h2 k hk
    · exact OwnKids.lt h3 k hk
end
theorem OwnIn.below {w w' : World} {base B : Nat} {d : D} {v0 v1 v2 v3 v4 : Value} {F : List Nat} (h : OwnIn w base d v0 v1 v2 v3 v4 F) (hb : Below B w w') (hB : w.heap.size ≤ B) : OwnIn w' base d v0 v1 v2 v3 v4 F :=
  h.same (Nat.le_refl _) fun k hk => hb.block k (by have := (h.lt k hk).2; omega)
theorem OwnKids.below {w w' : World} {base B : Nat} {l : List D} {cs : List Value} {F : List Nat} (h : OwnKids w base l cs F) (hb : Below B w w') (hB : w.heap.size ≤ B) : OwnKids w' base l cs F :=
  h.same (Nat.le_refl _) fun k hk => hb.block k (by have := (h.lt k hk).2; omega)

theorem OwnIn.make {w : World} {base : Nat} {d : D} {v3 v4 : Value} {cs : List Value} {Fs : List Nat} (h3 : w.ownsRow base 9 1 v3 d.keys.length (d.keys.map Value.string)) (h4 : w.ownsRow base 31 5 v4 d.kids.length cs) (h5 : OwnKids w base d.kids cs Fs) :
    OwnIn w base d (.int .i64 d.kind) (.int .i64 d.num) (.string d.str) v3 v4 (blk v3 ++ (blk v4 ++ Fs)) := by
  obtain ⟨_, _, _, _, _⟩ := d
  simp only [OwnIn]
  exact ⟨rfl, rfl, rfl, h3, cs, Fs, h4, h5, rfl⟩
/-- Kids, with one more at the end. -/
theorem OwnKids.push {w : World} {base : Nat} {x : D} {v0 v1 v2 v3 v4 : Value} {G : List Nat} (hx : OwnIn w base x v0 v1 v2 v3 v4 G) : ∀ {l : List D} {cs : List Value} {F : List Nat}, OwnKids w base l cs F → OwnKids w base (l ++ [x]) (cs ++ [v0, v1, v2, v3, v4]) (F ++ G)
  | [], _, _, h => by
    simp only [OwnKids] at h
    obtain ⟨rfl, rfl⟩ := h
    simp only [List.nil_append, OwnKids]
    exact ⟨v0, v1, v2, v3, v4, [], G, [], rfl, hx, ⟨rfl, rfl⟩, by simp⟩
  | d :: r, _, _, h => by
    simp only [OwnKids] at h
    obtain ⟨u0, u1, u2, u3, u4, cs', F1, F2, rfl, h2, h3, rfl⟩ := h
    simp only [List.cons_append, OwnKids]
    exact ⟨u0, u1, u2, u3, u4, _, F1, F2 ++ G, rfl, h2, OwnKids.push hx h3, by simp⟩

/-- A kid among kids: what is ahead of it, and what is behind. -/
theorem OwnKids.split {w : World} {base : Nat} : ∀ {l : List D} {cs : List Value} {F : List Nat}, OwnKids w base l cs F → ∀ (i : Nat) (h : i < l.length),
    ∃ (v0 v1 v2 v3 v4 : Value) (c1 c2 : List Value) (F1 G F2 : List Nat), cs = c1 ++ (v0 :: v1 :: v2 :: v3 :: v4 :: c2) ∧ c1.length = i * 5 ∧ F = F1 ++ (G ++ F2) ∧ OwnKids w base (l.take i) c1 F1 ∧ OwnIn w base l[i] v0 v1 v2 v3 v4 G ∧ OwnKids w base (l.drop (i + 1)) c2 F2
  | [], _, _, _, i, h => by simp at h
  | d :: r, _, _, hk, 0, _ => by
    simp only [OwnKids] at hk
    obtain ⟨v0, v1, v2, v3, v4, cs', F1, F2, rfl, h2, h3, rfl⟩ := hk
    exact ⟨v0, v1, v2, v3, v4, [], cs', [], F1, F2, rfl, rfl, rfl, by simp [OwnKids], by simpa using h2, by simpa using h3⟩
  | d :: r, _, _, hk, i + 1, h => by
    simp only [OwnKids] at hk
    obtain ⟨u0, u1, u2, u3, u4, cs', F1, F2, rfl, h2, h3, rfl⟩ := hk
    obtain ⟨v0, v1, v2, v3, v4, c1, c2, E1, G, E2, rfl, e1, rfl, k1, k2, k3⟩ := OwnKids.split h3 i (by simpa using h)
    refine ⟨v0, v1, v2, v3, v4, u0 :: u1 :: u2 :: u3 :: u4 :: c1, c2, F1 ++ E1, G, E2, by simp, by simp [e1]; omega, by simp, ?_, by simpa using k2, by simpa using k3⟩
    simp only [List.take_succ_cons, OwnKids]
    exact ⟨u0, u1, u2, u3, u4, c1, F1, E1, rfl, h2, k1, rfl⟩
/-- .. and put together again. -/
theorem OwnKids.join {w : World} {base : Nat} {x : D} {v0 v1 v2 v3 v4 : Value} {G : List Nat} (hx : OwnIn w base x v0 v1 v2 v3 v4 G) {m : List D} {c2 : List Value} {F2 : List Nat} (hm : OwnKids w base m c2 F2) :
    ∀ {l : List D} {c1 : List Value} {F1 : List Nat}, OwnKids w base l c1 F1 → OwnKids w base (l ++ x :: m) (c1 ++ (v0 :: v1 :: v2 :: v3 :: v4 :: c2)) (F1 ++ (G ++ F2))
  | [], _, _, h => by
    simp only [OwnKids] at h
    obtain ⟨rfl, rfl⟩ := h
    simp only [List.nil_append, OwnKids]
    exact ⟨v0, v1, v2, v3, v4, c2, G, F2, rfl, hx, hm, rfl⟩
  | d :: r, _, _, h => by
    simp only [OwnKids] at h
    obtain ⟨u0, u1, u2, u3, u4, cs', E1, E2, rfl, h2, h3, rfl⟩ := h
    simp only [List.cons_append, OwnKids]
    exact ⟨u0, u1, u2, u3, u4, _, E1, E2 ++ (G ++ F2), rfl, h2, OwnKids.join hx hm h3, by simp⟩
theorem OwnKids.append {w : World} {base : Nat} {m : List D} {c2 : List Value} {F2 : List Nat} (hm : OwnKids w base m c2 F2) :
    ∀ {l : List D} {c1 : List Value} {F1 : List Nat}, OwnKids w base l c1 F1 → OwnKids w base (l ++ m) (c1 ++ c2) (F1 ++ F2)
  | [], _, _, h => by
    simp only [OwnKids] at h
    obtain ⟨rfl, rfl⟩ := h
    simpa using hm
  | d :: r, _, _, h => by
    simp only [OwnKids] at h
    obtain ⟨u0, u1, u2, u3, u4, cs', E1, E2, rfl, h2, h3, rfl⟩ := h
    simp only [List.cons_append, OwnKids]
    exact ⟨u0, u1, u2, u3, u4, _, E1, E2 ++ F2, rfl, h2, OwnKids.append hm h3, by simp⟩

theorem Strs_of_own {w : World} {base : Nat} {v : Value} {xs : List ByteArray} (h : w.ownsRow base 9 1 v xs.length (xs.map Value.string)) : Strs w w.heap.size v xs := by
  rcases Nat.eq_zero_or_pos xs.length with h0 | h0
  · rcases h.2 with ⟨rfl, _⟩ | ⟨g, cap, cur, rfl, _, hh, hc, _⟩
    · exact ⟨none, 0, by rw [h0], by omega, fun h => by omega⟩
    · exact ⟨some ⟨g, 0, none⟩, cap, rfl, hc, fun h => by omega⟩
  · obtain ⟨g, cap, rfl, hg, hlt⟩ := h.form h0
    have hc : xs.length ≤ cap := by
      rcases h.2 with ⟨e, _⟩ | ⟨g', cap', cur, e, _, _, hc, _⟩
      · cases e
      · injection e with _ _ e3; omega
    refine ⟨some ⟨g, 0, none⟩, cap, rfl, hc, fun _ => ⟨g, 0, rfl, hlt, fun i hi => ?_⟩⟩
    rw [Nat.zero_add, h.cellAt i (by omega)]
    simp [hi]
mutual
theorem OwnIn.doc {w : World} {base : Nat} : ∀ {d : D} {v0 v1 v2 v3 v4 : Value} {F : List Nat}, OwnIn w base d v0 v1 v2 v3 v4 F → DocIn w w.heap.size d v0 v1 v2 v3 v4
  | .mk _ _ _ keys kids, v0, v1, v2, v3, v4, F, h => by
    simp only [OwnIn] at h
    simp only [DocIn]
    obtain ⟨h0, h1, h2, h3, cs, Fs, h4, h5, rfl⟩ := h
    refine ⟨h0, h1, h2, Strs_of_own h3, ?_⟩
    rcases Nat.eq_zero_or_pos kids.length with hz | hz
    · rcases h4.2 with ⟨rfl, _⟩ | ⟨g, cap, cur, rfl, _, hh, hc, _⟩
      · exact ⟨none, 0, by rw [hz], by omega, fun h => by omega⟩
      · exact ⟨some ⟨g, 0, none⟩, cap, rfl, hc, fun h => by omega⟩
    · obtain ⟨g, cap, rfl, hg, hlt⟩ := h4.form hz
      have hc : kids.length ≤ cap := by
        rcases h4.2 with ⟨e, _⟩ | ⟨g', cap', cur, e, _, _, hc, _⟩
        · cases e
        · injection e with _ _ e3; omega
      refine ⟨some ⟨g, 0, none⟩, cap, rfl, hc, fun _ => ⟨g, 0, rfl, hlt, ?_⟩⟩
      exact OwnKids.kids h5 (i := 0) fun j hj => by
        rw [Nat.zero_mul, Nat.add_zero, Nat.zero_add, h4.cellAt j (by have := h4.1; omega)]
theorem OwnKids.kids {w : World} {base : Nat} {g off : Nat} : ∀ {l : List D} {cs : List Value} {F : List Nat}, OwnKids w base l cs F → ∀ {i : Nat}, (∀ j, j < cs.length → w.cell? ⟨g, off + i * 5 + j, none⟩ = cs[j]?) → KidsIn w w.heap.size g off i l
  | [], _, _, _, _, _ => by simp [KidsIn]
  | d :: r, _, _, h, i, hc => by
    simp only [OwnKids] at h
    obtain ⟨v0, v1, v2, v3, v4, cs', F1, F2, rfl, h2, h3, rfl⟩ := h
    simp only [KidsIn]
    refine ⟨⟨v0, v1, v2, v3, v4, hc 0 (by simp), hc 1 (by simp), hc 2 (by simp), hc 3 (by simp), hc 4 (by simp), OwnIn.doc h2⟩, OwnKids.kids h3 fun j hj => ?_⟩
    have := hc (j + 5) (by simp; omega)
    rw [show off + (i + 1) * 5 + j = off + i * 5 + (j + 5) from by omega, this]
    simp
end

end Go.Proofs.YtmnaaohhageihaaDoor
namespace Go.Proofs.YtmnaaohhageihaaDoor
open Go.RowKit

structure Turned (w w' : World) (G : List Nat) (b : Nat) : Prop where
  os : w'.os = w.os
  tape : w'.tape = w.tape
  output : w'.output = w.output
  size : w.heap.size ≤ w'.heap.size
  block : ∀ k, k < w.heap.size → k ∉ G → k ≠ b → w'.heap[k]? = w.heap[k]?
theorem Turned.below {w w' : World} {G : List Nat} {b B : Nat} (h : Turned w w' G b) (hG : ∀ k ∈ G, B ≤ k) (hb : B ≤ b) (hB : B ≤ w.heap.size) : Below B w w' :=
  ⟨h.os, h.tape, h.output, h.size, fun k hk => h.block k (by omega) (fun hm => by have := hG k hm; omega) (by omega)⟩
theorem Turned.of_below {w w' : World} (h : Below w.heap.size w w') (G : List Nat) (b : Nat) : Turned w w' G b := ⟨h.os, h.tape, h.output, h.size, fun k hk _ _ => h.block k hk⟩
theorem Turned.trans {a w w' : World} {G : List Nat} {b : Nat} (h : Turned a w G b) (k : Turned w w' G b) : Turned a w' G b :=
  ⟨k.os.trans h.os, k.tape.trans h.tape, k.output.trans h.output, Nat.le_trans h.size k.size, fun j hj hg hb => (k.block j (Nat.lt_of_lt_of_le hj h.size) hg hb).trans (h.block j hj hg hb)⟩
theorem Turned.setCell {a w : World} {G : List Nat} {b : Nat} (h : Turned a w G b) {p : Addr} (hp : p.block ∈ G ∨ p.block = b ∨ a.heap.size ≤ p.block) (u : Value) : Turned a (w.setCell p u) G b :=
  ⟨h.os, h.tape, h.output, by simpa [World.setCell] using h.size, fun j hj hg hb => (Below.heap_setCell w p u j (by
    rintro rfl
    rcases hp with hp | hp | hp
    · exact hg hp
    · exact hb hp
    · omega)).trans (h.block j hj hg hb)⟩
theorem Turned.drew {a w : World} {G : List Nat} {b : Nat} (h : Turned a w G b) : Turned a w.drew G b := ⟨h.os, h.tape, h.output, h.size, h.block⟩
theorem Turned.alloc {a w : World} {G : List Nat} {b : Nat} (h : Turned a w G b) (o : Obj) : Turned a (w.alloc o) G b :=
  ⟨h.os, h.tape, h.output, Nat.le_trans h.size (by simp), fun j hj hg hb => (Below.heap_alloc w o j (Nat.lt_of_lt_of_le hj h.size)).trans (h.block j hj hg hb)⟩
theorem Turned.grown {a w w' : World} {G : List Nat} {b : Nat} (h : Turned a w G b) {row : Option Nat} (hg : w.grownBy w' row) (hr : ∀ j, row = some j → j ∈ G ∨ j = b ∨ a.heap.size ≤ j) : Turned a w' G b :=
  ⟨hg.os.trans h.os, hg.tape.trans h.tape, hg.output.trans h.output, Nat.le_trans h.size hg.size, fun j hj hgj hb => (hg.block j (Nat.lt_of_lt_of_le hj h.size) (fun e => by
    rcases hr j e.symm with h1 | h1 | h1
    · exact hgj h1
    · exact hb h1
    · omega)).trans (h.block j hj hgj hb)⟩
theorem frozen_alloc_drew {w : World} {b : Nat} (hb : b < w.heap.size) (ob : Obj) (o : Nat) : ((w.alloc ob).drew).frozen? ⟨b, o, none⟩ = w.frozen? ⟨b, o, none⟩ := World.frozen?_of_block (a := ⟨b, o, none⟩) (Below.heap_alloc w ob b hb)
theorem cell_alloc_drew {w : World} {b : Nat} (hb : b < w.heap.size) (ob : Obj) (o : Nat) : ((w.alloc ob).drew).cell? ⟨b, o, none⟩ = w.cell? ⟨b, o, none⟩ := World.cell?_of_block (a := ⟨b, o, none⟩) (Below.heap_alloc w ob b hb)
end Go.Proofs.YtmnaaohhageihaaDoor
namespace Go.Proofs.YtmnaaohhageihaaDoor
open Go.RowKit
/-- Kids, cut in two. -/
theorem OwnKids.cut {w : World} {base : Nat} : ∀ {l : List D} {cs : List Value} {F : List Nat}, OwnKids w base l cs F → ∀ (i : Nat), i ≤ l.length →
    ∃ (c1 c2 : List Value) (F1 F2 : List Nat), cs = c1 ++ c2 ∧ c1.length = i * 5 ∧ F = F1 ++ F2 ∧ OwnKids w base (l.take i) c1 F1 ∧ OwnKids w base (l.drop i) c2 F2
  | l, cs, F, hk, 0, _ => ⟨[], cs, [], F, rfl, rfl, rfl, by simp [OwnKids], by simpa using hk⟩
  | [], _, _, _, i + 1, h => by simp at h
  | d :: r, _, _, hk, i + 1, h => by
    simp only [OwnKids] at hk
    obtain ⟨u0, u1, u2, u3, u4, cs', F1, F2, rfl, h2, h3, rfl⟩ := hk
    obtain ⟨c1, c2, E1, E2, rfl, e1, rfl, k1, k2⟩ := OwnKids.cut h3 i (by simpa using h)
    refine ⟨u0 :: u1 :: u2 :: u3 :: u4 :: c1, c2, F1 ++ E1, E2, by simp, by simp [e1]; omega, by simp, ?_, by simpa using k2⟩
    simp only [List.take_succ_cons, OwnKids]
    exact ⟨u0, u1, u2, u3, u4, c1, F1, E1, rfl, h2, k1, rfl⟩
end Go.Proofs.YtmnaaohhageihaaDoor
