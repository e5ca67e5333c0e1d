/-
  What stands while doc.Rec turns: the document that grows.
-/
import Derived.Test.YtdgnengfcabgjaaB36
import Derived.Test.YtdgnengfcabgjaaB01
namespace Go.Proofs.Ytdgnengfcabgjaa
open Go.RowKit

/-- The variable box holds a record of these keys and these kids, in blocks of their own, made since w3. -/
structure RecSt (w3 w : World) (box : Nat) (xs : List ByteArray) (ls : List D) (v3 v4 : Value) (cs : List Value) (F : List Nat) : Prop where
  bx : Box5 w box (.int .i64 1) (.int .i64 0) (.string ⟨#[]⟩) v3 v4
  o3 : w.ownsRow w3.heap.size 9 1 v3 xs.length (xs.map Value.string)
  o4 : w.ownsRow w3.heap.size 25 5 v4 ls.length cs
  ok : OwnKids w w3.heap.size ls cs F
  nd : (blk v3 ++ (blk v4 ++ F)).Nodup
  t : Turned w3 w [] box
theorem RecSt.drewN {w3 w : World} {box : Nat} {xs : List ByteArray} {ls : List D} {v3 v4 : Value} {cs : List Value} {F : List Nat} (h : RecSt w3 w box xs ls v3 v4 cs F) (n : Nat) : RecSt w3 (w.drewN n) box xs ls v3 v4 cs F :=
  ⟨h.bx, h.o3, h.o4, h.ok.same (Nat.le_refl _) fun _ _ => rfl, h.nd, ⟨h.t.os, h.t.tape, h.t.output, h.t.size, h.t.block⟩⟩
theorem RecSt.key {w3 w4 w5 : World} {box : Nat} {xs : List ByteArray} {ls : List D} {v3 v4 : Value} {cs : List Value} {F : List Nat} (h : RecSt w3 w4 box xs ls v3 v4 cs F) (hbox : box < w3.heap.size) {g cap : Nat} {S : ByteArray}
    (hown : w5.ownsRow w3.heap.size 9 1 (.slice (some ⟨g, 0, none⟩) (xs.length + 1) cap) (xs.length + 1) (xs.map Value.string ++ [.string S])) (ob : Obj) (hgrow : (w4.alloc ob).drew.grownBy w5 v3.ownBlock) (hat : v3.ownBlock = some g ∨ g = w4.heap.size + 1) :
    RecSt w3 (w5.setCell ⟨box, 3, none⟩ (.slice (some ⟨g, 0, none⟩) (xs.length + 1) cap)) box (xs ++ [S]) ls (.slice (some ⟨g, 0, none⟩) (xs.length + 1) cap) v4 cs F := by
  have hz := h.t.size
  have l3 := h.o3.lt
  have l4 := h.o4.lt
  have lk := h.ok.lt
  have hgb : g ≠ box := by
    rcases hat with e | e
    · have := (l3 g e).1; omega
    · omega
  have keep : ∀ k, k < w4.heap.size → v3.ownBlock ≠ some k → w5.heap[k]? = w4.heap[k]? := fun k hk hne =>
    (hgrow.block k (by show k < (w4.alloc ob).heap.size; rw [World.size_alloc]; omega) (fun e => hne e.symm)).trans (Below.heap_alloc w4 ob k hk)
  have far : ∀ k, k ≠ box → (w5.setCell ⟨box, 3, none⟩ (.slice (some ⟨g, 0, none⟩) (xs.length + 1) cap)).heap[k]? = w5.heap[k]? := fun k hk => Below.heap_setCell _ _ _ k hk
  have hnd := h.nd
  simp only [List.nodup_append, List.mem_append, ne_eq] at hnd
  obtain ⟨_, ⟨n4, nF, n4F⟩, n3d⟩ := hnd
  have hb3 : v3.ownBlock ≠ some box := fun e => by have := (l3 box e).1; omega
  refine ⟨?_, ?_, ?_, ?_, ?_, ?_⟩
  · exact (h.bx.same (keep box (by omega) hb3)).set3 _
  · rw [List.length_append, List.map_append]
    exact ownsRow_same hown fun k hk => far k (by
      have : k = g := by simpa [blk, Value.ownBlock] using hk
      omega)
  · exact ownsRow_same h.o4 fun k hk => (far k (by have := (l4 k (blk_mem.1 hk)).1; omega)).trans (keep k (l4 k (blk_mem.1 hk)).2 fun e => n3d k (blk_mem.2 e) k (.inl hk) rfl)
  · exact h.ok.same (Nat.le_refl _) fun k hk => (far k (by have := (lk k hk).1; omega)).trans (keep k (lk k hk).2 fun e => n3d k (blk_mem.2 e) k (.inr hk) rfl)
  · have hb : blk (.slice (some ⟨g, 0, none⟩) (xs.length + 1) cap) = [g] := rfl
    rw [hb, List.nodup_append, List.nodup_append]
    refine ⟨by simp, ⟨n4, nF, n4F⟩, fun a ha b hb hab => ?_⟩
    simp only [List.mem_singleton] at ha
    subst ha; subst hab
    rcases hat with e | e
    · exact n3d a (blk_mem.2 e) a (List.mem_append.1 hb) rfl
    · rcases List.mem_append.1 hb with hb | hb
      · have := (l4 a (blk_mem.1 hb)).2; omega
      · have := (lk a hb).2; omega
  · refine ⟨hgrow.os.trans h.t.os, hgrow.tape.trans h.t.tape, hgrow.output.trans h.t.output, ?_, fun k hk hk1 hk2 => ?_⟩
    · have h1 : (w4.alloc ob).heap.size ≤ w5.heap.size := hgrow.size
      rw [World.size_alloc] at h1
      simp [World.setCell]; omega
    · exact (far k hk2).trans ((keep k (by omega) fun e => by have := (l3 k e).1; omega).trans (h.t.block k hk hk1 hk2))
theorem RecSt.kid {w3 w6 w7 w8 : World} {box : Nat} {xs : List ByteArray} {ls : List D} {v3 v4 : Value} {cs : List Value} {F G : List Nat} (h : RecSt w3 w6 box xs ls v3 v4 cs F) (hbox : box < w3.heap.size) {x : D} {y0 y1 y2 y3 y4 : Value} (hb7 : Below w6.heap.size w6 w7)
    (hG : OwnIn w7 w6.heap.size x y0 y1 y2 y3 y4 G) (hGN : G.Nodup) {g cap : Nat}
    (hown : w8.ownsRow w3.heap.size 25 5 (.slice (some ⟨g, 0, none⟩) (ls.length + 1) cap) (ls.length + 1) (cs ++ [y0, y1, y2, y3, y4])) (ob : Obj) (hgrow : (w7.alloc ob).grownBy w8 v4.ownBlock) (hat : v4.ownBlock = some g ∨ g = w7.heap.size + 1) :
    RecSt w3 (w8.setCell ⟨box, 4, none⟩ (.slice (some ⟨g, 0, none⟩) (ls.length + 1) cap)) box xs (ls ++ [x]) v3 (.slice (some ⟨g, 0, none⟩) (ls.length + 1) cap) (cs ++ [y0, y1, y2, y3, y4]) (F ++ G) := by
  have hz := h.t.size
  have hz7 := hb7.size
  have l3 := h.o3.lt
  have l4 := h.o4.lt
  have lk := h.ok.lt
  have lG := hG.lt
  have hgb : g ≠ box := by
    rcases hat with e | e
    · have := (l4 g e).1; omega
    · omega
  have keep7 : ∀ k, k < w7.heap.size → v4.ownBlock ≠ some k → w8.heap[k]? = w7.heap[k]? := fun k hk hne =>
    (hgrow.block k (by rw [World.size_alloc]; omega) (fun e => hne e.symm)).trans (Below.heap_alloc w7 ob k hk)
  have keep : ∀ k, k < w6.heap.size → v4.ownBlock ≠ some k → w8.heap[k]? = w6.heap[k]? := fun k hk hne => (keep7 k (by omega) hne).trans (hb7.block k hk)
  have far : ∀ k, k ≠ box → (w8.setCell ⟨box, 4, none⟩ (.slice (some ⟨g, 0, none⟩) (ls.length + 1) cap)).heap[k]? = w8.heap[k]? := fun k hk => Below.heap_setCell _ _ _ k hk
  have hnd := h.nd
  simp only [List.nodup_append, List.mem_append, ne_eq] at hnd
  obtain ⟨n3, ⟨n4, nF, n4F⟩, n3d⟩ := hnd
  have hb4 : v4.ownBlock ≠ some box := fun e => by have := (l4 box e).1; omega
  refine ⟨?_, ?_, ?_, ?_, ?_, ?_⟩
  · exact (h.bx.same (keep box (by omega) hb4)).set4 _
  · exact ownsRow_same h.o3 fun k hk => (far k (by have := (l3 k (blk_mem.1 hk)).1; omega)).trans (keep k (l3 k (blk_mem.1 hk)).2 fun e => n3d k hk k (.inl (blk_mem.2 e)) rfl)
  · rw [List.length_append]
    exact ownsRow_same hown fun k hk => far k (by
      have : k = g := by simpa [blk, Value.ownBlock] using hk
      omega)
  · exact OwnKids.push (hG.same (by omega) fun k hk => (far k (by have := (lG k hk).1; omega)).trans (keep7 k (lG k hk).2 fun e => by have := (l4 k e).2; have := (lG k hk).1; omega))
      (h.ok.same (Nat.le_refl _) fun k hk => (far k (by have := (lk k hk).1; omega)).trans (keep k (lk k hk).2 fun e => n4F k (blk_mem.2 e) k hk rfl))
  · have hb : blk (.slice (some ⟨g, 0, none⟩) (ls.length + 1) cap) = [g] := rfl
    rw [hb, List.nodup_append, List.nodup_append, List.nodup_append]
    refine ⟨n3, ⟨by simp, ⟨nF, hGN, fun a ha b hb hab => by subst hab; have := (lk a ha).2; have := (lG a hb).1; omega⟩, fun a ha b hb hab => ?_⟩, fun a ha b hb hab => ?_⟩
    · simp only [List.mem_singleton] at ha
      subst ha; subst hab
      rcases List.mem_append.1 hb with hb | hb
      · rcases hat with e | e
        · exact n4F a (blk_mem.2 e) a hb rfl
        · have := (lk a hb).2; omega
      · rcases hat with e | e
        · have := (l4 a e).2; have := (lG a hb).1; omega
        · have := (lG a hb).2; omega
    · subst hab
      rcases List.mem_append.1 hb with hb | hb
      · simp only [List.mem_singleton] at hb
        subst hb
        rcases hat with e | e
        · exact n3d a ha a (.inl (blk_mem.2 e)) rfl
        · have := (l3 a (blk_mem.1 ha)).2; omega
      · rcases List.mem_append.1 hb with hb | hb
        · exact n3d a ha a (.inr hb) rfl
        · have := (l3 a (blk_mem.1 ha)).2; have := (lG a hb).1; omega
  · refine ⟨hgrow.os.trans (hb7.os.trans h.t.os), hgrow.tape.trans (hb7.tape.trans h.t.tape), hgrow.output.trans (hb7.output.trans h.t.output), ?_, fun k hk hk1 hk2 => ?_⟩
    · have h1 : (w7.alloc ob).heap.size ≤ w8.heap.size := hgrow.size
      rw [World.size_alloc] at h1
      simp [World.setCell]; omega
    · exact (far k hk2).trans ((keep k (by omega) fun e => by have := (l4 k e).1; omega).trans (h.t.block k hk hk1 hk2))
end Go.Proofs.Ytdgnengfcabgjaa
