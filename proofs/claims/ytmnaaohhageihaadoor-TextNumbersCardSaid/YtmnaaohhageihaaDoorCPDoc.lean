/-
  A document that grows in a variable while a reader goes on.
-/
import Derived.Test.YtmnaaohhageihaaDoorCRowP
import Derived.Test.YtmnaaohhageihaaDoorB03
import Derived.Test.YtmnaaohhageihaaDoorB02
import Derived.Test.YtmnaaohhageihaaDoorB07
import Derived.Test.YtmnaaohhageihaaDoorB08
namespace Go.Proofs.YtmnaaohhageihaaDoor
open Go.RowKit

/-- The variable box holds a document of these keys and these kids, in blocks of their own, made since w3; besides it only the block r was written to. -/
structure PDoc (w3 w : World) (box r : Nat) (kd nm : Int) (st : ByteArray) (xs : List ByteArray) (ls : List D) (v3 v4 : Value) (cs : List Value) (F : List Nat) : Prop where
  bx : Box5 w box (.int .i64 kd) (.int .i64 nm) (.string st) v3 v4
  o3 : w.ownsRow w3.heap.size 9 1 v3 xs.length (xs.map Value.string)
  o4 : w.ownsRow w3.heap.size 31 5 v4 ls.length cs
  ok : OwnKids w w3.heap.size ls cs F
  nd : (blk v3 ++ (blk v4 ++ F)).Nodup
  t : Turned w3 w [r] box
theorem PDoc.past {w3 w w' : World} {box r : Nat} {kd nm : Int} {st : ByteArray} {xs : List ByteArray} {ls : List D} {v3 v4 : Value} {cs : List Value} {F : List Nat} (h : PDoc w3 w box r kd nm st xs ls v3 v4 cs F) (hb : Turned w w' [] r) (hr : r < w3.heap.size) (hne : r ≠ box) : PDoc w3 w' box r kd nm st xs ls v3 v4 cs F :=
  ⟨h.bx.same (hb.block _ h.bx.lt (by simp) (Ne.symm hne)), ownsRow_same h.o3 fun k hk => hb.block k (h.o3.lt k (blk_mem.1 hk)).2 (by simp) (by have := (h.o3.lt k (blk_mem.1 hk)).1; omega),
   ownsRow_same h.o4 fun k hk => hb.block k (h.o4.lt k (blk_mem.1 hk)).2 (by simp) (by have := (h.o4.lt k (blk_mem.1 hk)).1; omega),
   h.ok.same (Nat.le_refl _) fun k hk => hb.block k (h.ok.lt k hk).2 (by simp) (by have := (h.ok.lt k hk).1; omega), h.nd,
   ⟨hb.os.trans h.t.os, hb.tape.trans h.t.tape, hb.output.trans h.t.output, Nat.le_trans h.t.size hb.size, fun k hk h1 h2 => (hb.block k (Nat.lt_of_lt_of_le hk h.t.size) (by simp) (by intro e; exact h1 (by simp [e]))).trans (h.t.block k hk h1 h2)⟩⟩
theorem RdL.kept {w X : World} {r : Nat} {s : ByteArray} {l : List UInt8} {p : Nat} (h : RdL w r s l p) (hk : ∀ k, k ≤ r → X.heap[k]? = w.heap[k]?) : RdL X r s l p := by
  have hg := h.gr
  obtain ⟨ev, h1, h2⟩ := h.eg
  refine ⟨?_, h.suf, ⟨ev, (World.cell?_of_block (a := ⟨1, 0, none⟩) (hk _ (by show 1 ≤ _; omega))).trans h1, h2⟩, hg⟩
  have h3 := h.rd; unfold Rdr at h3 ⊢; rw [hk r (Nat.le_refl _)]; exact h3
theorem RdL.drew {w : World} {r : Nat} {s : ByteArray} {l : List UInt8} {p : Nat} (h : RdL w r s l p) : RdL w.drew r s l p := ⟨h.rd, h.suf, h.eg, h.gr⟩
theorem RdL.alloc {w : World} {r : Nat} {s : ByteArray} {l : List UInt8} {p : Nat} (h : RdL w r s l p) (o : Obj) : RdL (w.alloc o) r s l p := h.past ((Below.refl _ _).alloc (Nat.le_refl _) _)
theorem turned_of_drew {w X : World} {G : List Nat} {b : Nat} (h : Turned w.drew X G b) : Turned w X G b := ⟨h.os, h.tape, h.output, h.size, h.block⟩
theorem turned_of_alloc {w X : World} {G : List Nat} {b : Nat} {o : Obj} (h : Turned (w.alloc o) X G b) : Turned w X G b := (Turned.of_below ((Below.refl _ _).alloc (Nat.le_refl _) _) _ _).trans h
theorem row_cells {w : World} {base g n cap size : Nat} {e : TypeId} {xs : List Value} (h : w.ownsRow base e size (.slice (some ⟨g, 0, none⟩) n cap) n xs) : (∀ j u, xs[j]? = some u → w.cell? ⟨g, j, none⟩ = some u) ∧ (∀ i, w.frozen? ⟨g, i, none⟩ = false) := by
  rcases h.2 with ⟨hv, _⟩ | ⟨g', cap', cur, hv, _, hg, _, _, _, ht⟩
  · cases hv
  · injection hv with hv _ _
    injection hv with hv
    injection hv with hv _ _
    subst hv
    refine ⟨fun j u hj => ?_, fun i => by simp [World.frozen?, hg]⟩
    rw [Lib.cell_of_heap hg]
    rw [← ht] at hj
    rw [List.getElem?_take] at hj
    split at hj
    · simpa using hj
    · cases hj
/-- What an append to the row of v tells of the rest. -/
structure Grew (w7 w8 : World) (v : Value) (g : Nat) : Prop where
  os : w8.os = w7.os
  tape : w8.tape = w7.tape
  output : w8.output = w7.output
  size : w7.heap.size ≤ w8.heap.size
  keep : ∀ k, k < w7.heap.size → v.ownBlock ≠ some k → w8.heap[k]? = w7.heap[k]?
  at_ : v.ownBlock = some g ∨ w7.heap.size ≤ g
theorem Grew.late {w7 w8 : World} {v : Value} {g : Nat} {o : Obj} (h : (w7.alloc o).grownBy w8 v.ownBlock) (ha : v.ownBlock = some g ∨ g = w7.heap.size + 1) : Grew w7 w8 v g :=
  ⟨h.os, h.tape, h.output, by have := h.size; rw [World.size_alloc] at this; omega, fun k hk hn => (h.block k (by rw [World.size_alloc]; omega) (Ne.symm hn)).trans (Below.heap_alloc w7 o k hk), ha.imp id fun e => by omega⟩
theorem Grew.ins {w7 w8 : World} {v : Value} {g : Nat} {o : Obj} (h : (w7.alloc o).grownBy w8 v.ownBlock) (ha : v.ownBlock = some g ∨ (w7.alloc o).heap.size ≤ g) : Grew w7 w8 v g :=
  ⟨h.os, h.tape, h.output, by have := h.size; rw [World.size_alloc] at this; omega, fun k hk hn => (h.block k (by rw [World.size_alloc]; omega) (Ne.symm hn)).trans (Below.heap_alloc w7 o k hk), ha.imp id fun e => by rw [World.size_alloc] at e; omega⟩
theorem Grew.early {w7 w8 : World} {v : Value} {g : Nat} (h : w7.grownBy w8 v.ownBlock) (ha : v.ownBlock = some g ∨ g = w7.heap.size) : Grew w7 w8 v g :=
  ⟨h.os, h.tape, h.output, h.size, fun k hk hn => h.block k hk (Ne.symm hn), ha.imp id fun e => by omega⟩
/-- What a reader of documents tells. -/
def DocTo (w : World) (r : Nat) (s : ByteArray) (t : Out D) (e : Ending) (w' : World) : Prop := match t with
  | .ok d l p => ∃ (v0 v1 v2 v3 v4 : Value) (F : List Nat), e = .returned (.agg #[v0, v1, v2, v3, v4]) ∧ OwnIn w' w.heap.size d v0 v1 v2 v3 v4 F ∧ F.Nodup ∧ RdL w' r s l p ∧ Turned w w' [] r
  | .bad l er => Failed ((s.size - l.length : Nat) : Int) er e ∧ Turned w w' [] r
/-- .. that documents of n levels are read so. -/
def DReads (r : Nat) (s : ByteArray) (n : Nat) : Prop := ∀ (l : List UInt8) (p : Nat) (w : World), RdL w r s l p → p ≤ 513 → Calls Tryd.prog 21 #[.pointer (some ⟨r, 0, none⟩), .int .i64 (13 - (n : Int))] w fun e w' => DocTo w r s (docP n l p) e w'
/-- One kid more. -/
theorem PDoc.kid {w3 w w7 w8 X : World} {box r g cap B : Nat} {kd nm : Int} {st : ByteArray} {xs : List ByteArray} {ls : List D} {v3 v4 : Value} {cs : List Value} {F G : List Nat} (h : PDoc w3 w box r kd nm st xs ls v3 v4 cs F) (hr : r < w3.heap.size) (_hne : r ≠ box) (hbox : box < w3.heap.size) (t7 : Turned w w7 [] r)
    (hB : w.heap.size ≤ B) {x : D} {y0 y1 y2 y3 y4 : Value} (hG : OwnIn w7 B x y0 y1 y2 y3 y4 G) (hGN : G.Nodup) (h8 : Grew w7 w8 v4 g) (hX : ∀ k, k ≠ g → k ≠ box → X.heap[k]? = w8.heap[k]?) (hXs : X.heap.size = w8.heap.size) (hXo : X.os = w8.os ∧ X.tape = w8.tape ∧ X.output = w8.output)
    (hXb : Box5 X box (.int .i64 kd) (.int .i64 nm) (.string st) v3 (.slice (some ⟨g, 0, none⟩) (ls.length + 1) cap)) (hXr : X.ownsRow w3.heap.size 31 5 (.slice (some ⟨g, 0, none⟩) (ls.length + 1) cap) (ls.length + 1) (cs ++ [y0, y1, y2, y3, y4])) :
    PDoc w3 X box r kd nm st xs (ls ++ [x]) v3 (.slice (some ⟨g, 0, none⟩) (ls.length + 1) cap) (cs ++ [y0, y1, y2, y3, y4]) (F ++ G) := by
  have hz := h.t.size
  have hz7 := t7.size
  have hz8 := h8.size
  have l3 := h.o3.lt
  have l4 := h.o4.lt
  have lk := h.ok.lt
  have lG := hG.lt
  have keep : ∀ k, k < w.heap.size → k ≠ r → v4.ownBlock ≠ some k → w8.heap[k]? = w.heap[k]? := fun k hk h1 h2 => (h8.keep k (by omega) h2).trans (t7.block k hk (by simp) h1)
  have hgn : ∀ k, k < w.heap.size → v4.ownBlock ≠ some k → k ≠ g := fun k hk h2 e => by
    rcases h8.at_ with h3 | h3
    · exact h2 (e ▸ h3)
    · omega
  have hnd := h.nd
  simp only [List.nodup_append, List.mem_append, ne_eq] at hnd
  obtain ⟨n3, ⟨n4, nF, n4F⟩, n3d⟩ := hnd
  have all : ∀ k, k < w.heap.size → k ≠ r → k ≠ box → v4.ownBlock ≠ some k → X.heap[k]? = w.heap[k]? := fun k hk h1 h2 h3 => (hX k (hgn k hk h3) h2).trans (keep k hk h1 h3)
  refine ⟨hXb, ?_, ?_, ?_, ?_, ?_⟩
  · exact ownsRow_same h.o3 fun k hk => by
      have h1 := l3 k (blk_mem.1 hk)
      exact all k h1.2 (by omega) (by omega) fun e => n3d k hk k (.inl (blk_mem.2 e)) rfl
  · rw [List.length_append]; exact hXr
  · refine OwnKids.push (hG.same (by omega) fun k hk => ?_) (h.ok.same (Nat.le_refl _) fun k hk => ?_)
    · have h1 := lG k hk
      have h4 : v4.ownBlock ≠ some k := fun e => by have := (l4 k e).2; omega
      refine (hX k (fun e => ?_) (by omega)).trans (h8.keep k h1.2 h4)
      rcases h8.at_ with h3 | h3
      · exact h4 (e ▸ h3)
      · omega
    · have h1 := lk k hk
      exact all k h1.2 (by omega) (by omega) fun e => n4F k (blk_mem.2 e) k hk rfl
  · have hb : blk (.slice (some ⟨g, 0, none⟩) (ls.length + 1) cap) = [g] := rfl
    rw [hb, List.nodup_append, List.nodup_append, List.nodup_append]
    refine ⟨n3, ⟨by simp, ⟨nF, hGN, fun a ha b hb hab => by subst hab; have := (lk a ha).2; have := (lG a hb).1; omega⟩, fun a ha b hb hab => ?_⟩, fun a ha b hb hab => ?_⟩
    · simp only [List.mem_singleton] at ha
      subst ha; subst hab
      rcases List.mem_append.1 hb with hb | hb
      · rcases h8.at_ with e | e
        · exact n4F a (blk_mem.2 e) a hb rfl
        · have := (lk a hb).2; omega
      · rcases h8.at_ with e | e
        · have := (l4 a e).2; have := (lG a hb).1; omega
        · have := (lG a hb).2; omega
    · subst hab
      rcases List.mem_append.1 hb with hb | hb
      · simp only [List.mem_singleton] at hb
        subst hb
        rcases h8.at_ with e | e
        · exact n3d a ha a (.inl (blk_mem.2 e)) rfl
        · have := (l3 a (blk_mem.1 ha)).2; omega
      · rcases List.mem_append.1 hb with hb | hb
        · exact n3d a ha a (.inr hb) rfl
        · have := (l3 a (blk_mem.1 ha)).2; have := (lG a hb).1; omega
  · refine ⟨hXo.1.trans (h8.os.trans (t7.os.trans h.t.os)), hXo.2.1.trans (h8.tape.trans (t7.tape.trans h.t.tape)), hXo.2.2.trans (h8.output.trans (t7.output.trans h.t.output)), by omega, fun k hk hk1 hk2 => ?_⟩
    exact (all k (by omega) (by intro e; exact hk1 (by simp [e])) hk2 fun e => by have := (l4 k e).1; omega).trans (h.t.block k hk hk1 hk2)
/-- The last element of an own row is written. -/
theorem five_row {w8 Y Z : World} {base g n cap : Nat} {cs zs : List Value} {y0 y1 y2 y3 y4 : Value} (h : w8.ownsRow base 31 5 (.slice (some ⟨g, 0, none⟩) (n + 1) cap) (n + 1) (cs ++ zs)) (hcl : cs.length = n * 5)
    (hY : Y.heap[g]? = w8.heap[g]?) (hZ : Z.heap[g]? = (Y.setCells g (n * 5) [y0, y1, y2, y3, y4]).heap[g]?) : Z.ownsRow base 31 5 (.slice (some ⟨g, 0, none⟩) (n + 1) cap) (n + 1) (cs ++ [y0, y1, y2, y3, y4]) := by
  rcases h.2 with ⟨hv, _⟩ | ⟨g', cap', cur, hv, hb, hg, hn, hm, hs, ht⟩
  · cases hv
  · injection hv with hv _ hc
    injection hv with hv
    injection hv with hv _ _
    subst hv; subst hc
    obtain ⟨cur', h1, h2, h3⟩ := setCells_block [y0, y1, y2, y3, y4] (n * 5) Y cur (hY.trans hg)
    refine ⟨by simp; omega, .inr ⟨g, cap, cur', rfl, hb, hZ.trans h1, hn, hm, by omega, ?_⟩⟩
    apply List.ext_getElem?
    intro j
    rw [List.getElem?_take]
    have hj : cur.toList.take ((n + 1) * 5) = cs ++ zs := ht
    have hsz : (n + 1) * 5 ≤ cur.size := by rw [hs]; exact Nat.mul_le_mul_right 5 hn
    by_cases h5 : j < (n + 1) * 5
    · rw [if_pos h5]
      have e1 : cur'.toList[j]? = cur'[j]? := by simp
      rw [e1, h3 j]
      by_cases h6 : n * 5 ≤ j
      · rw [if_pos ⟨h6, by simp; omega, by omega⟩, List.getElem?_append_right (by omega), hcl]
      · rw [if_neg (by omega), List.getElem?_append_left (by omega)]
        have e2 : (cs ++ zs)[j]? = cs[j]? := List.getElem?_append_left (by omega)
        rw [← hj, List.getElem?_take, if_pos h5] at e2
        simpa using e2
    · rw [if_neg h5, List.getElem?_append_right (by omega), List.getElem?_eq_none (by simp; omega)]
end Go.Proofs.YtmnaaohhageihaaDoor
