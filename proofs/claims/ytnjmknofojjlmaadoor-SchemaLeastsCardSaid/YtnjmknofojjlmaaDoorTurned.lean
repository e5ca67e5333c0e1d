/-
  What a call has turned: memory of its own, and a box.
-/
import Derived.Test.YtnjmknofojjlmaaDoorDocs
import Derived.Deep.AppendLies
import Derived.Maps.AppendAt
namespace Go.Proofs.YtnjmknofojjlmaaDoor
open Go.RowKit

structure Turned (w w' : World) (G : List Nat) (b : Nat) : Prop where
  os : w'.os = w.os
  tape : w'.tape = w.tape
  output : w'.output = w.output
  size : w.heap.size ≤ w'.heap.size
  block : ∀ k, k < w.heap.size → k ∉ G → k ≠ b → w'.heap[k]? = w.heap[k]?
theorem Turned.below {w w' : World} {G : List Nat} {b B : Nat} (h : Turned w w' G b) (hG : ∀ k ∈ G, B ≤ k) (hb : B ≤ b) (hB : B ≤ w.heap.size) : Below B w w' :=
  ⟨h.os, h.tape, h.output, h.size, fun k hk => h.block k (by omega) (fun hm => by have := hG k hm; omega) (by omega)⟩
theorem Turned.of_below {w w' : World} (h : Below w.heap.size w w') (G : List Nat) (b : Nat) : Turned w w' G b := ⟨h.os, h.tape, h.output, h.size, fun k hk _ _ => h.block k hk⟩
theorem Turned.trans {a w w' : World} {G : List Nat} {b : Nat} (h : Turned a w G b) (k : Turned w w' G b) : Turned a w' G b :=
  ⟨k.os.trans h.os, k.tape.trans h.tape, k.output.trans h.output, Nat.le_trans h.size k.size, fun j hj hg hb => (k.block j (Nat.lt_of_lt_of_le hj h.size) hg hb).trans (h.block j hj hg hb)⟩
theorem Turned.setCell {a w : World} {G : List Nat} {b : Nat} (h : Turned a w G b) {p : Addr} (hp : p.block ∈ G ∨ p.block = b ∨ a.heap.size ≤ p.block) (u : Value) : Turned a (w.setCell p u) G b :=
  ⟨h.os, h.tape, h.output, by simpa [World.setCell] using h.size, fun j hj hg hb => (Below.heap_setCell w p u j (by
    rintro rfl
    rcases hp with hp | hp | hp
    · exact hg hp
    · exact hb hp
    · omega)).trans (h.block j hj hg hb)⟩
theorem Turned.drew {a w : World} {G : List Nat} {b : Nat} (h : Turned a w G b) : Turned a w.drew G b := ⟨h.os, h.tape, h.output, h.size, h.block⟩
theorem Turned.alloc {a w : World} {G : List Nat} {b : Nat} (h : Turned a w G b) (o : Obj) : Turned a (w.alloc o) G b :=
  ⟨h.os, h.tape, h.output, Nat.le_trans h.size (by simp), fun j hj hg hb => (Below.heap_alloc w o j (Nat.lt_of_lt_of_le hj h.size)).trans (h.block j hj hg hb)⟩
theorem Turned.grown {a w w' : World} {G : List Nat} {b : Nat} (h : Turned a w G b) {row : Option Nat} (hg : w.grownBy w' row) (hr : ∀ j, row = some j → j ∈ G ∨ j = b ∨ a.heap.size ≤ j) : Turned a w' G b :=
  ⟨hg.os.trans h.os, hg.tape.trans h.tape, hg.output.trans h.output, Nat.le_trans h.size hg.size, fun j hj hgj hb => (hg.block j (Nat.lt_of_lt_of_le hj h.size) (fun e => by
    rcases hr j e.symm with h1 | h1 | h1
    · exact hgj h1
    · exact hb h1
    · omega)).trans (h.block j hj hgj hb)⟩
theorem frozen_alloc_drew {w : World} {b : Nat} (hb : b < w.heap.size) (ob : Obj) (o : Nat) : ((w.alloc ob).drew).frozen? ⟨b, o, none⟩ = w.frozen? ⟨b, o, none⟩ := World.frozen?_of_block (a := ⟨b, o, none⟩) (Below.heap_alloc w ob b hb)
theorem cell_alloc_drew {w : World} {b : Nat} (hb : b < w.heap.size) (ob : Obj) (o : Nat) : ((w.alloc ob).drew).cell? ⟨b, o, none⟩ = w.cell? ⟨b, o, none⟩ := World.cell?_of_block (a := ⟨b, o, none⟩) (Below.heap_alloc w ob b hb)
end Go.Proofs.YtnjmknofojjlmaaDoor
