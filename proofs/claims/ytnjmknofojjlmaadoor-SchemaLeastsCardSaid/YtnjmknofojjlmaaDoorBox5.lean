/-
  A document's variable.
-/
import Derived.Test.YtnjmknofojjlmaaDoorProg
import Derived.Test.YtnjmknofojjlmaaDoorDocs
namespace Go.Proofs.YtnjmknofojjlmaaDoor
open Go.RowKit
theorem ret_cell5 {P : Program} {fn : Func} {R : Ending → World → Prop} {a : Act} {w : World} {b : Nat} {t : Tmp} {v0 v1 v2 v3 v4 : Value} {T : TypeId} (hres : fn.results = #[.cell t T]) (hslot : a.tmps.getD t undef = .pointer (some ⟨b, 0, none⟩))
    (hload : (loadVar T ⟨b, 0, none⟩).run P w = .ok (.agg #[v0, v1, v2, v3, v4]) w) (hd : a.defers = []) (hR : R (.returned (.agg #[v0, v1, v2, v3, v4])) w) : bodyPost P fn R .ret a w :=
  bodyPost_ret (v := .agg #[v0, v1, v2, v3, v4]) (by rw [Array.getD_eq_getD_getElem?] at hslot; simp [results, hres, hslot, asAddr, hload]) hd hR
/-- A document's variable: a block of five cells. -/
def Box5 (w : World) (b : Nat) (v0 v1 v2 v3 v4 : Value) : Prop := w.heap[b]? = some (.cells #[v0, v1, v2, v3, v4] 33 (0, 0))
section
variable {w w' : World} {b : Nat} {v0 v1 v2 v3 v4 : Value}
theorem Box5.lt (h : Box5 w b v0 v1 v2 v3 v4) : b < w.heap.size := by
  rcases Nat.lt_or_ge b w.heap.size with hlt | hge
  · exact hlt
  · unfold Box5 at h; rw [Array.getElem?_eq_none hge] at h; cases h
theorem Box5.cells (h : Box5 w b v0 v1 v2 v3 v4) : w.cell? ⟨b, 0, none⟩ = some v0 ∧ w.cell? ⟨b, 1, none⟩ = some v1 ∧ w.cell? ⟨b, 2, none⟩ = some v2 ∧ w.cell? ⟨b, 3, none⟩ = some v3 ∧ w.cell? ⟨b, 4, none⟩ = some v4 :=
  ⟨cell_of_row w b 0 _ _ _ h, cell_of_row w b 1 _ _ _ h, cell_of_row w b 2 _ _ _ h, cell_of_row w b 3 _ _ _ h, cell_of_row w b 4 _ _ _ h⟩
theorem Box5.frozen (h : Box5 w b v0 v1 v2 v3 v4) (i : Nat) : w.frozen? ⟨b, i, none⟩ = false := by
  unfold Box5 at h
  simp [World.frozen?, h]
theorem Box5.load (h : Box5 w b v0 v1 v2 v3 v4) : (loadVar 33 ⟨b, 0, none⟩).run Tryd.prog w = .ok (.agg #[v0, v1, v2, v3, v4]) w := by
  obtain ⟨z0, z1, z2, z3, z4⟩ := h.cells
  simp [go_sem, z0, z1, z2, z3, z4]
theorem Box5.new (w : World) (v0 v1 v2 v3 v4 : Value) : Box5 (w.alloc (.cells #[v0, v1, v2, v3, v4] 33)) w.heap.size v0 v1 v2 v3 v4 := heap_alloc_new w _
theorem Box5.same (h : Box5 w b v0 v1 v2 v3 v4) (hs : w'.heap[b]? = w.heap[b]?) : Box5 w' b v0 v1 v2 v3 v4 := hs.trans h
theorem Box5.alloc (h : Box5 w b v0 v1 v2 v3 v4) (o : Obj) : Box5 (w.alloc o) b v0 v1 v2 v3 v4 := (Below.heap_alloc w o b h.lt).trans h
theorem Box5.far (h : Box5 w b v0 v1 v2 v3 v4) {p : Addr} (hp : b ≠ p.block) (u : Value) : Box5 (w.setCell p u) b v0 v1 v2 v3 v4 := (Below.heap_setCell w p u b hp).trans h
theorem Box5.set_ (h : Box5 w b v0 v1 v2 v3 v4) (i : Nat) (u : Value) : (w.setCell ⟨b, i, none⟩ u).heap[b]? = some (.cells (#[v0, v1, v2, v3, v4].setIfInBounds i u) 33 (0, 0)) := by
  unfold Box5 at h
  simp [World.setCell, Array.getElem?_modify, h]
theorem Box5.set0 (h : Box5 w b v0 v1 v2 v3 v4) (u : Value) : Box5 (w.setCell ⟨b, 0, none⟩ u) b u v1 v2 v3 v4 := h.set_ 0 u
theorem Box5.set1 (h : Box5 w b v0 v1 v2 v3 v4) (u : Value) : Box5 (w.setCell ⟨b, 1, none⟩ u) b v0 u v2 v3 v4 := h.set_ 1 u
theorem Box5.set2 (h : Box5 w b v0 v1 v2 v3 v4) (u : Value) : Box5 (w.setCell ⟨b, 2, none⟩ u) b v0 v1 u v3 v4 := h.set_ 2 u
theorem Box5.new' {w : World} {b : Nat} (hb : w.heap.size = b) (v0 v1 v2 v3 v4 : Value) : Box5 (w.alloc (.cells #[v0, v1, v2, v3, v4] 33)) b v0 v1 v2 v3 v4 := hb ▸ heap_alloc_new w _
theorem Box5.set3 (h : Box5 w b v0 v1 v2 v3 v4) (u : Value) : Box5 (w.setCell ⟨b, 3, none⟩ u) b v0 v1 v2 u v4 := h.set_ 3 u
theorem Box5.set4 (h : Box5 w b v0 v1 v2 v3 v4) (u : Value) : Box5 (w.setCell ⟨b, 4, none⟩ u) b v0 v1 v2 v3 u := h.set_ 4 u
end
end Go.Proofs.YtnjmknofojjlmaaDoor
