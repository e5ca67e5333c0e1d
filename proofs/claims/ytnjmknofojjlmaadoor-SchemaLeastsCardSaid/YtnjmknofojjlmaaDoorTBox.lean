/-
  Variables of types and of fields.
-/
import Derived.Test.YtnjmknofojjlmaaDoorTSize
namespace Go.Proofs.YtnjmknofojjlmaaDoor
open Go.RowKit

theorem cell_block {w : World} {b : Nat} {arr : Array Value} {ty : TypeId} (hb : w.heap[b]? = some (.cells arr ty (0, 0))) (i : Nat) : w.cell? ⟨b, i, none⟩ = arr[i]? := by simp [World.cell?, hb]
theorem free_block {w : World} {b : Nat} {arr : Array Value} {ty : TypeId} (hb : w.heap[b]? = some (.cells arr ty (0, 0))) (i : Nat) : w.frozen? ⟨b, i, none⟩ = false := by simp [World.frozen?, hb]
theorem size_block {w : World} {b : Nat} {o : Obj} (hb : w.heap[b]? = some o) : b < w.heap.size := by
  rcases Nat.lt_or_ge b w.heap.size with h | h
  · exact h
  · rw [Array.getElem?_eq_none h] at hb; cases hb
theorem ret_cell6 {P : Program} {fn : Func} {R : Ending → World → Prop} {a : Act} {w : World} {b : Nat} {t : Tmp} {v0 v1 v2 v3 v4 v5 : Value} {T : TypeId} (hres : fn.results = #[.cell t T]) (hslot : a.tmps.getD t undef = .pointer (some ⟨b, 0, none⟩))
    (hload : (loadVar T ⟨b, 0, none⟩).run P w = .ok (.agg #[v0, v1, v2, v3, v4, v5]) w) (hd : a.defers = []) (hR : R (.returned (.agg #[v0, v1, v2, v3, v4, v5])) w) : bodyPost P fn R .ret a w :=
  bodyPost_ret (v := .agg #[v0, v1, v2, v3, v4, v5]) (by rw [Array.getD_eq_getD_getElem?] at hslot; simp [results, hres, hslot, asAddr, hload]) hd hR
section
variable {w w' : World} {b : Nat} {v0 v1 v2 v3 v4 v5 : Value}
theorem Box6.load (h : Box6 w b v0 v1 v2 v3 v4 v5) : (loadVar 26 ⟨b, 0, none⟩).run Tryd.prog w = .ok (.agg #[v0, v1, v2, v3, v4, v5]) w := by
  obtain ⟨z0, z1, z2, z3, z4, z5⟩ := h.cells
  simp [go_sem, z0, z1, z2, z3, z4, z5]
theorem Box6.set_ (h : Box6 w b v0 v1 v2 v3 v4 v5) (i : Nat) (u : Value) : (w.setCell ⟨b, i, none⟩ u).heap[b]? = some (.cells (#[v0, v1, v2, v3, v4, v5].setIfInBounds i u) 26 (0, 0)) := by
  unfold Box6 at h
  simp [World.setCell, Array.getElem?_modify, h]
theorem Box6.set0 (h : Box6 w b v0 v1 v2 v3 v4 v5) (u : Value) : Box6 (w.setCell ⟨b, 0, none⟩ u) b u v1 v2 v3 v4 v5 := h.set_ 0 u
theorem Box6.set1 (h : Box6 w b v0 v1 v2 v3 v4 v5) (u : Value) : Box6 (w.setCell ⟨b, 1, none⟩ u) b v0 u v2 v3 v4 v5 := h.set_ 1 u
theorem Box6.set2 (h : Box6 w b v0 v1 v2 v3 v4 v5) (u : Value) : Box6 (w.setCell ⟨b, 2, none⟩ u) b v0 v1 u v3 v4 v5 := h.set_ 2 u
theorem Box6.set3 (h : Box6 w b v0 v1 v2 v3 v4 v5) (u : Value) : Box6 (w.setCell ⟨b, 3, none⟩ u) b v0 v1 v2 u v4 v5 := h.set_ 3 u
theorem Box6.set4 (h : Box6 w b v0 v1 v2 v3 v4 v5) (u : Value) : Box6 (w.setCell ⟨b, 4, none⟩ u) b v0 v1 v2 v3 u v5 := h.set_ 4 u
theorem Box6.set5 (h : Box6 w b v0 v1 v2 v3 v4 v5) (u : Value) : Box6 (w.setCell ⟨b, 5, none⟩ u) b v0 v1 v2 v3 v4 u := h.set_ 5 u
theorem Box6.alloc (h : Box6 w b v0 v1 v2 v3 v4 v5) (o : Obj) : Box6 (w.alloc o) b v0 v1 v2 v3 v4 v5 := (Below.heap_alloc w o b h.lt).trans h
theorem Box6.new' {w : World} {b : Nat} (hb : w.heap.size = b) (v0 v1 v2 v3 v4 v5 : Value) : Box6 (w.alloc (.cells #[v0, v1, v2, v3, v4, v5] 26)) b v0 v1 v2 v3 v4 v5 := hb ▸ heap_alloc_new w _
end
/-- A field's variable. -/
def Box8 (w : World) (b : Nat) (n : ByteArray) (o : Bool) (v0 v1 v2 v3 v4 v5 : Value) : Prop := w.heap[b]? = some (.cells #[.string n, .bool o, v0, v1, v2, v3, v4, v5] 40 (0, 0))
section
variable {w w' : World} {b : Nat} {n : ByteArray} {o : Bool} {v0 v1 v2 v3 v4 v5 : Value}
theorem Box8.lt (h : Box8 w b n o v0 v1 v2 v3 v4 v5) : b < w.heap.size := size_block h
theorem Box8.cells (h : Box8 w b n o v0 v1 v2 v3 v4 v5) : w.cell? ⟨b, 0, none⟩ = some (.string n) ∧ w.cell? ⟨b, 1, none⟩ = some (.bool o) ∧ w.cell? ⟨b, 2, none⟩ = some v0 ∧ w.cell? ⟨b, 3, none⟩ = some v1 ∧ w.cell? ⟨b, 4, none⟩ = some v2 ∧ w.cell? ⟨b, 5, none⟩ = some v3 ∧ w.cell? ⟨b, 6, none⟩ = some v4 ∧ w.cell? ⟨b, 7, none⟩ = some v5 :=
  ⟨cell_of_row w b 0 _ _ _ h, cell_of_row w b 1 _ _ _ h, cell_of_row w b 2 _ _ _ h, cell_of_row w b 3 _ _ _ h, cell_of_row w b 4 _ _ _ h, cell_of_row w b 5 _ _ _ h, cell_of_row w b 6 _ _ _ h, cell_of_row w b 7 _ _ _ h⟩
theorem Box8.frozen (h : Box8 w b n o v0 v1 v2 v3 v4 v5) (i : Nat) : w.frozen? ⟨b, i, none⟩ = false := free_block h i
theorem Box8.same (h : Box8 w b n o v0 v1 v2 v3 v4 v5) (hs : w'.heap[b]? = w.heap[b]?) : Box8 w' b n o v0 v1 v2 v3 v4 v5 := hs.trans h
/-- Its type is turned. -/
def fill8 (w : World) (b : Nat) (v0 v1 v2 v3 v4 v5 : Value) : World := (((((w.setCell ⟨b, 2, none⟩ v0).setCell ⟨b, 3, none⟩ v1).setCell ⟨b, 4, none⟩ v2).setCell ⟨b, 5, none⟩ v3).setCell ⟨b, 6, none⟩ v4).setCell ⟨b, 7, none⟩ v5
theorem Box8.fill {u0 u1 u2 u3 u4 u5 : Value} (h : Box8 w b n o u0 u1 u2 u3 u4 u5) (v0 v1 v2 v3 v4 v5 : Value) : Box8 (fill8 w b v0 v1 v2 v3 v4 v5) b n o v0 v1 v2 v3 v4 v5 := by
  unfold Box8 at h ⊢
  simp [fill8, World.setCell, Array.getElem?_modify, h]
theorem fill8_size (w : World) (b : Nat) (v0 v1 v2 v3 v4 v5 : Value) : (fill8 w b v0 v1 v2 v3 v4 v5).heap.size = w.heap.size := by simp [fill8, World.setCell]
theorem fill8_far (w : World) (b : Nat) (v0 v1 v2 v3 v4 v5 : Value) (k : Nat) (hk : k ≠ b) : (fill8 w b v0 v1 v2 v3 v4 v5).heap[k]? = w.heap[k]? := by
  unfold fill8
  rw [Below.heap_setCell _ _ _ k hk, Below.heap_setCell _ _ _ k hk, Below.heap_setCell _ _ _ k hk, Below.heap_setCell _ _ _ k hk, Below.heap_setCell _ _ _ k hk, Below.heap_setCell _ _ _ k hk]
theorem fill8_below {B : Nat} {w0 w : World} {b : Nat} (h : Below B w0 w) (hb : B ≤ b) (v0 v1 v2 v3 v4 v5 : Value) : Below B w0 (fill8 w b v0 v1 v2 v3 v4 v5) :=
  (((((h.setCell (by exact hb) _).setCell (by exact hb) _).setCell (by exact hb) _).setCell (by exact hb) _).setCell (by exact hb) _).setCell (by exact hb) _
end
end Go.Proofs.YtnjmknofojjlmaaDoor
