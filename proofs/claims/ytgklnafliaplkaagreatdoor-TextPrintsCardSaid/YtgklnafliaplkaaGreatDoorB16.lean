/-
  A document that grows in a variable while a reader goes on.
  A document that grows in a variable while a reader goes on: a key, and its kid, wherever.
  The reader: a document is done, and stands in the result's variable.
  The reader: how a list stands behind one more document.
-/
import Derived.Test.YtgklnafliaplkaaGreatDoorB11
import Derived.Test.YtgklnafliaplkaaGreatDoorB12
import Derived.Test.YtgklnafliaplkaaGreatDoorB02
import Derived.Test.YtgklnafliaplkaaGreatDoorB15
namespace Go.Proofs.YtgklnafliaplkaaGreatDoor
open Go.RowKit

/-- The variable box holds a document of these keys and these kids, in blocks of their own, made since w3; besides it only the block r was written to. -/
structure PDoc (w3 w : World) (box r : Nat) (kd nm : Int) (st : ByteArray) (xs : List ByteArray) (ls : List D) (v3 v4 : Value) (cs : List Value) (F : List Nat) : Prop where
  bx : Box5 w box (.int .i64 kd) (.int .i64 nm) (.string st) v3 v4
  o3 : w.ownsRow w3.heap.size 9 1 v3 xs.length (xs.map Value.string)
  o4 : w.ownsRow w3.heap.size 25 5 v4 ls.length cs
  ok : OwnKids w w3.heap.size ls cs F
  nd : (blk v3 ++ (blk v4 ++ F)).Nodup
  t : Turned w3 w [r] box
theorem PDoc.past {w3 w w' : World} {box r : Nat} {kd nm : Int} {st : ByteArray} {xs : List ByteArray} {ls : List D} {v3 v4 : Value} {cs : List Value} {F : List Nat} (h : PDoc w3 w box r kd nm st xs ls v3 v4 cs F) (hb : Turned w w' [] r) (hr : r < w3.heap.size) (hne : r ≠ box) : PDoc w3 w' box r kd nm st xs ls v3 v4 cs F :=
  ⟨h.bx.same (hb.block _ h.bx.lt (by simp) (Ne.symm hne)), ownsRow_same h.o3 fun k hk => hb.block k (h.o3.lt k (blk_mem.1 hk)).2 (by simp) (by have := (h.o3.lt k (blk_mem.1 hk)).1; omega),
   ownsRow_same h.o4 fun k hk => hb.block k (h.o4.lt k (blk_mem.1 hk)).2 (by simp) (by have := (h.o4.lt k (blk_mem.1 hk)).1; omega),
   h.ok.same (Nat.le_refl _) fun k hk => hb.block k (h.ok.lt k hk).2 (by simp) (by have := (h.ok.lt k hk).1; omega), h.nd,
   ⟨hb.os.trans h.t.os, hb.tape.trans h.t.tape, hb.output.trans h.t.output, Nat.le_trans h.t.size hb.size, fun k hk h1 h2 => (hb.block k (Nat.lt_of_lt_of_le hk h.t.size) (by simp) (by intro e; exact h1 (by simp [e]))).trans (h.t.block k hk h1 h2)⟩⟩
theorem RdL.kept {w X : World} {r : Nat} {s : ByteArray} {l : List UInt8} {p : Nat} (h : RdL w r s l p) (hk : ∀ k, k ≤ r → X.heap[k]? = w.heap[k]?) : RdL X r s l p := by
  have hg := h.gr
  obtain ⟨ev, h1, h2⟩ := h.eg
  refine ⟨?_, h.suf, ⟨ev, (World.cell?_of_block (a := ⟨1, 0, none⟩) (hk _ (by show 1 ≤ _; omega))).trans h1, h2⟩, hg⟩
  have h3 := h.rd; unfold Rdr at h3 ⊢; rw [hk r (Nat.le_refl _)]; exact h3
theorem RdL.drew {w : World} {r : Nat} {s : ByteArray} {l : List UInt8} {p : Nat} (h : RdL w r s l p) : RdL w.drew r s l p := ⟨h.rd, h.suf, h.eg, h.gr⟩
theorem RdL.alloc {w : World} {r : Nat} {s : ByteArray} {l : List UInt8} {p : Nat} (h : RdL w r s l p) (o : Obj) : RdL (w.alloc o) r s l p := h.past ((Below.refl _ _).alloc (Nat.le_refl _) _)
theorem turned_of_drew {w X : World} {G : List Nat} {b : Nat} (h : Turned w.drew X G b) : Turned w X G b := ⟨h.os, h.tape, h.output, h.size, h.block⟩
theorem turned_of_alloc {w X : World} {G : List Nat} {b : Nat} {o : Obj} (h : Turned (w.alloc o) X G b) : Turned w X G b := (Turned.of_below ((Below.refl _ _).alloc (Nat.le_refl _) _) _ _).trans h
theorem row_cells {w : World} {base g n cap size : Nat} {e : TypeId} {xs : List Value} (h : w.ownsRow base e size (.slice (some ⟨g, 0, none⟩) n cap) n xs) : (∀ j u, xs[j]? = some u → w.cell? ⟨g, j, none⟩ = some u) ∧ (∀ i, w.frozen? ⟨g, i, none⟩ = false) := by
  rcases h.2 with ⟨hv, _⟩ | ⟨g', cap', cur, hv, _, hg, _, _, _, ht⟩
  · cases hv
  · injection hv with hv _ _
    injection hv with hv
    injection hv with hv _ _
    subst hv
    refine ⟨fun j u hj => ?_, fun i => by simp [World.frozen?, hg]⟩
    rw [Lib.cell_of_heap hg]
    rw [← ht] at hj
    rw [List.getElem?_take] at hj
    split at hj
    · simpa using hj
    · cases hj
/-- What an append to the row of v tells of the rest. -/
structure Grew (w7 w8 : World) (v : Value) (g : Nat) : Prop where
  os : w8.os = w7.os
  tape : w8.tape = w7.tape
  output : w8.output = w7.output
  size : w7.heap.size ≤ w8.heap.size
  keep : ∀ k, k < w7.heap.size → v.ownBlock ≠ some k → w8.heap[k]? = w7.heap[k]?
  at_ : v.ownBlock = some g ∨ w7.heap.size ≤ g
theorem Grew.late {w7 w8 : World} {v : Value} {g : Nat} {o : Obj} (h : (w7.alloc o).grownBy w8 v.ownBlock) (ha : v.ownBlock = some g ∨ g = w7.heap.size + 1) : Grew w7 w8 v g :=
  ⟨h.os, h.tape, h.output, by have := h.size; rw [World.size_alloc] at this; omega, fun k hk hn => (h.block k (by rw [World.size_alloc]; omega) (Ne.symm hn)).trans (Below.heap_alloc w7 o k hk), ha.imp id fun e => by omega⟩
theorem Grew.ins {w7 w8 : World} {v : Value} {g : Nat} {o : Obj} (h : (w7.alloc o).grownBy w8 v.ownBlock) (ha : v.ownBlock = some g ∨ (w7.alloc o).heap.size ≤ g) : Grew w7 w8 v g :=
  ⟨h.os, h.tape, h.output, by have := h.size; rw [World.size_alloc] at this; omega, fun k hk hn => (h.block k (by rw [World.size_alloc]; omega) (Ne.symm hn)).trans (Below.heap_alloc w7 o k hk), ha.imp id fun e => by rw [World.size_alloc] at e; omega⟩
theorem Grew.early {w7 w8 : World} {v : Value} {g : Nat} (h : w7.grownBy w8 v.ownBlock) (ha : v.ownBlock = some g ∨ g = w7.heap.size) : Grew w7 w8 v g :=
  ⟨h.os, h.tape, h.output, h.size, fun k hk hn => h.block k hk (Ne.symm hn), ha.imp id fun e => by omega⟩
/-- What a reader of documents tells. -/
def DocTo (w : World) (r : Nat) (s : ByteArray) (t : Out D) (e : Ending) (w' : World) : Prop := match t with
  | .ok d l p => ∃ (v0 v1 v2 v3 v4 : Value) (F : List Nat), e = .returned (.agg #[v0, v1, v2, v3, v4]) ∧ OwnIn w' w.heap.size d v0 v1 v2 v3 v4 F ∧ F.Nodup ∧ RdL w' r s l p ∧ Turned w w' [] r
  | .bad l er => Failed ((s.size - l.length : Nat) : Int) er e ∧ Turned w w' [] r
/-- .. that documents of n levels are read so. -/
def DReads (r : Nat) (s : ByteArray) (n : Nat) : Prop := ∀ (l : List UInt8) (p : Nat) (w : World), RdL w r s l p → p ≤ 513 → Calls Tryz.prog 36 #[.pointer (some ⟨r, 0, none⟩), .int .i64 (13 - (n : Int))] w fun e w' => DocTo w r s (docP n l p) e w'
/-- One kid more. -/
theorem PDoc.kid {w3 w w7 w8 X : World} {box r g cap B : Nat} {kd nm : Int} {st : ByteArray} {xs : List ByteArray} {ls : List D} {v3 v4 : Value} {cs : List Value} {F G : List Nat} (h : PDoc w3 w box r kd nm st xs ls v3 v4 cs F) (hr : r < w3.heap.size) (_hne : r ≠ box) (hbox : box < w3.heap.size) (t7 : Turned w w7 [] r)
    (hB : w.heap.size ≤ B) {x : D} {y0 y1 y2 y3 y4 : Value} (hG : OwnIn w7 B x y0 y1 y2 y3 y4 G) (hGN : G.Nodup) (h8 : Grew w7 w8 v4 g) (hX : ∀ k, k ≠ g → k ≠ box → X.heap[k]? = w8.heap[k]?) (hXs : X.heap.size = w8.heap.size) (hXo : X.os = w8.os ∧ X.tape = w8.tape ∧ X.output = w8.output)
    (hXb : Box5 X box (.int .i64 kd) (.int .i64 nm) (.string st) v3 (.slice (some ⟨g, 0, none⟩) (ls.length + 1) cap)) (hXr : X.ownsRow w3.heap.size 25 5 (.slice (some ⟨g, 0, none⟩) (ls.length + 1) cap) (ls.length + 1) (cs ++ [y0, y1, y2, y3, y4])) :
    PDoc w3 X box r kd nm st xs (ls ++ [x]) v3 (.slice (some ⟨g, 0, none⟩) (ls.length + 1) cap) (cs ++ [y0, y1, y2, y3, y4]) (F ++ G) := by
  have hz := h.t.size
  have hz7 := t7.size
  have hz8 := h8.size
  have l3 := h.o3.lt
  have l4 := h.o4.lt
  have lk := h.ok.lt
  have lG := hG.lt
  have keep : ∀ k, k < w.heap.size → k ≠ r → v4.ownBlock ≠ some k → w8.heap[k]? = w.heap[k]? := fun k hk h1 h2 => (h8.keep k (by omega) h2).trans (t7.block k hk (by simp) h1)
  have hgn : ∀ k, k < w.heap.size → v4.ownBlock ≠ some k → k ≠ g := fun k hk h2 e => by
    rcases h8.at_ with h3 | h3
    · exact h2 (e ▸ h3)
    · omega
  have hnd := h.nd
  simp only [List.nodup_append, List.mem_append, ne_eq] at hnd
  obtain ⟨n3, ⟨n4, nF, n4F⟩, n3d⟩ := hnd
  have all : ∀ k, k < w.heap.size → k ≠ r → k ≠ box → v4.ownBlock ≠ some k → X.heap[k]? = w.heap[k]? := fun k hk h1 h2 h3 => (hX k (hgn k hk h3) h2).trans (keep k hk h1 h3)
  refine ⟨hXb, ?_, ?_, ?_, ?_, ?_⟩
  · exact ownsRow_same h.o3 fun k hk => by
      have h1 := l3 k (blk_mem.1 hk)
      exact all k h1.2 (by omega) (by omega) fun e => n3d k hk k (.inl (blk_mem.2 e)) rfl
  · rw [List.length_append]; exact hXr
  · refine OwnKids.push (hG.same (by omega) fun k hk => ?_) (h.ok.same (Nat.le_refl _) fun k hk => ?_)
    · have h1 := lG k hk
      have h4 : v4.ownBlock ≠ some k := fun e => by have := (l4 k e).2; omega
      refine (hX k (fun e => ?_) (by omega)).trans (h8.keep k h1.2 h4)
      rcases h8.at_ with h3 | h3
      · exact h4 (e ▸ h3)
      · omega
    · have h1 := lk k hk
      exact all k h1.2 (by omega) (by omega) fun e => n4F k (blk_mem.2 e) k hk rfl
  · have hb : blk (.slice (some ⟨g, 0, none⟩) (ls.length + 1) cap) = [g] := rfl
    rw [hb, List.nodup_append, List.nodup_append, List.nodup_append]
    refine ⟨n3, ⟨by simp, ⟨nF, hGN, fun a ha b hb hab => by subst hab; have := (lk a ha).2; have := (lG a hb).1; omega⟩, fun a ha b hb hab => ?_⟩, fun a ha b hb hab => ?_⟩
    · simp only [List.mem_singleton] at ha
      subst ha; subst hab
      rcases List.mem_append.1 hb with hb | hb
      · rcases h8.at_ with e | e
        · exact n4F a (blk_mem.2 e) a hb rfl
        · have := (lk a hb).2; omega
      · rcases h8.at_ with e | e
        · have := (l4 a e).2; have := (lG a hb).1; omega
        · have := (lG a hb).2; omega
    · subst hab
      rcases List.mem_append.1 hb with hb | hb
      · simp only [List.mem_singleton] at hb
        subst hb
        rcases h8.at_ with e | e
        · exact n3d a ha a (.inl (blk_mem.2 e)) rfl
        · have := (l3 a (blk_mem.1 ha)).2; omega
      · rcases List.mem_append.1 hb with hb | hb
        · exact n3d a ha a (.inr hb) rfl
        · have := (l3 a (blk_mem.1 ha)).2; have := (lG a hb).1; omega
  · refine ⟨hXo.1.trans (h8.os.trans (t7.os.trans h.t.os)), hXo.2.1.trans (h8.tape.trans (t7.tape.trans h.t.tape)), hXo.2.2.trans (h8.output.trans (t7.output.trans h.t.output)), by omega, fun k hk hk1 hk2 => ?_⟩
    exact (all k (by omega) (by intro e; exact hk1 (by simp [e])) hk2 fun e => by have := (l4 k e).1; omega).trans (h.t.block k hk hk1 hk2)
/-- The last element of an own row is written. -/
theorem five_row {w8 Y Z : World} {base g n cap : Nat} {cs zs : List Value} {y0 y1 y2 y3 y4 : Value} (h : w8.ownsRow base 25 5 (.slice (some ⟨g, 0, none⟩) (n + 1) cap) (n + 1) (cs ++ zs)) (hcl : cs.length = n * 5)
    (hY : Y.heap[g]? = w8.heap[g]?) (hZ : Z.heap[g]? = (Y.setCells g (n * 5) [y0, y1, y2, y3, y4]).heap[g]?) : Z.ownsRow base 25 5 (.slice (some ⟨g, 0, none⟩) (n + 1) cap) (n + 1) (cs ++ [y0, y1, y2, y3, y4]) := by
  rcases h.2 with ⟨hv, _⟩ | ⟨g', cap', cur, hv, hb, hg, hn, hm, hs, ht⟩
  · cases hv
  · injection hv with hv _ hc
    injection hv with hv
    injection hv with hv _ _
    subst hv; subst hc
    obtain ⟨cur', h1, h2, h3⟩ := setCells_block [y0, y1, y2, y3, y4] (n * 5) Y cur (hY.trans hg)
    refine ⟨by simp; omega, .inr ⟨g, cap, cur', rfl, hb, hZ.trans h1, hn, hm, by omega, ?_⟩⟩
    apply List.ext_getElem?
    intro j
    rw [List.getElem?_take]
    have hj : cur.toList.take ((n + 1) * 5) = cs ++ zs := ht
    have hsz : (n + 1) * 5 ≤ cur.size := by rw [hs]; exact Nat.mul_le_mul_right 5 hn
    by_cases h5 : j < (n + 1) * 5
    · rw [if_pos h5]
      have e1 : cur'.toList[j]? = cur'[j]? := by simp
      rw [e1, h3 j]
      by_cases h6 : n * 5 ≤ j
      · rw [if_pos ⟨h6, by simp; omega, by omega⟩, List.getElem?_append_right (by omega), hcl]
      · rw [if_neg (by omega), List.getElem?_append_left (by omega)]
        have e2 : (cs ++ zs)[j]? = cs[j]? := List.getElem?_append_left (by omega)
        rw [← hj, List.getElem?_take, if_pos h5] at e2
        simpa using e2
    · rw [if_neg h5, List.getElem?_append_right (by omega), List.getElem?_eq_none (by simp; omega)]
end Go.Proofs.YtgklnafliaplkaaGreatDoor
namespace Go.Proofs.YtgklnafliaplkaaGreatDoor
open Go.RowKit

theorem insK_len {α : Type} (l : List α) (i : Nat) (x : α) (h : i ≤ l.length) : (insK l i x).length = l.length + 1 := by unfold insK; simp; omega
theorem insK_map {α β : Type} (f : α → β) (l : List α) (i : Nat) (x : α) : (insK l i x).map f = (l.map f).take i ++ ([f x] ++ (l.map f).drop i) := by unfold insK; simp [List.map_take, List.map_drop]
/-- One key more. -/
theorem PDoc.key {w3 w w8 X : World} {box r g cap i : Nat} {kd nm : Int} {st S : ByteArray} {xs : List ByteArray} {ls : List D} {v3 v4 : Value} {cs : List Value} {F : List Nat} (h : PDoc w3 w box r kd nm st xs ls v3 v4 cs F) (hbox : box < w3.heap.size) (hi : i ≤ xs.length)
    (h8 : Grew w w8 v3 g) (hX : ∀ k, k ≠ box → X.heap[k]? = w8.heap[k]?) (hXs : X.heap.size = w8.heap.size) (hXo : X.os = w8.os ∧ X.tape = w8.tape ∧ X.output = w8.output)
    (hXb : Box5 X box (.int .i64 kd) (.int .i64 nm) (.string st) (.slice (some ⟨g, 0, none⟩) (xs.length + 1) cap) v4) (hown : w8.ownsRow w3.heap.size 9 1 (.slice (some ⟨g, 0, none⟩) (xs.length + 1) cap) (xs.length + 1) ((xs.map Value.string).take i ++ ([.string S] ++ (xs.map Value.string).drop i))) :
    PDoc w3 X box r kd nm st (insK xs i S) ls (.slice (some ⟨g, 0, none⟩) (xs.length + 1) cap) v4 cs F := by
  have hz := h.t.size
  have hz8 := h8.size
  have l3 := h.o3.lt
  have l4 := h.o4.lt
  have lk := h.ok.lt
  have hgb : g ≠ box := by
    rcases h8.at_ with e | e
    · have := (l3 g e).1; omega
    · omega
  have hnd := h.nd
  simp only [List.nodup_append, List.mem_append, ne_eq] at hnd
  obtain ⟨_, ⟨n4, nF, n4F⟩, n3d⟩ := hnd
  have all : ∀ k, k < w.heap.size → k ≠ box → v3.ownBlock ≠ some k → X.heap[k]? = w.heap[k]? := fun k hk h2 h3 => (hX k h2).trans (h8.keep k hk h3)
  refine ⟨hXb, ?_, ?_, ?_, ?_, ?_⟩
  · rw [insK_len _ _ _ hi, insK_map]
    exact ownsRow_same hown fun k hk => hX k (by
      have : k = g := by simpa [blk, Value.ownBlock] using hk
      omega)
  · exact ownsRow_same h.o4 fun k hk => all k (l4 k (blk_mem.1 hk)).2 (by have := (l4 k (blk_mem.1 hk)).1; omega) fun e => n3d k (blk_mem.2 e) k (.inl hk) rfl
  · exact h.ok.same (Nat.le_refl _) fun k hk => all k (lk k hk).2 (by have := (lk k hk).1; omega) fun e => n3d k (blk_mem.2 e) k (.inr hk) rfl
  · have hb : blk (.slice (some ⟨g, 0, none⟩) (xs.length + 1) cap) = [g] := rfl
    rw [hb, List.nodup_append, List.nodup_append]
    refine ⟨by simp, ⟨n4, nF, n4F⟩, fun a ha b hb hab => ?_⟩
    simp only [List.mem_singleton] at ha
    subst ha; subst hab
    rcases h8.at_ with e | e
    · exact n3d a (blk_mem.2 e) a (List.mem_append.1 hb) rfl
    · rcases List.mem_append.1 hb with hb | hb
      · have := (l4 a (blk_mem.1 hb)).2; omega
      · have := (lk a hb).2; omega
  · refine ⟨hXo.1.trans (h8.os.trans h.t.os), hXo.2.1.trans (h8.tape.trans h.t.tape), hXo.2.2.trans (h8.output.trans h.t.output), by omega, fun k hk hk1 hk2 => ?_⟩
    exact (all k (by omega) hk2 fun e => by have := (l3 k e).1; omega).trans (h.t.block k hk hk1 hk2)
/-- .. and its kid. -/
theorem PDoc.kidAt {w3 w w8 X : World} {box r g cap i B : Nat} {kd nm : Int} {st : ByteArray} {xs : List ByteArray} {ls : List D} {v3 v4 : Value} {cs : List Value} {F G : List Nat} (h : PDoc w3 w box r kd nm st xs ls v3 v4 cs F) (hbox : box < w3.heap.size) (hi : i ≤ ls.length)
    (hB : w3.heap.size ≤ B) {x : D} {y0 y1 y2 y3 y4 : Value} (hG : OwnIn w B x y0 y1 y2 y3 y4 G) (hGN : G.Nodup) (hGd : ∀ k ∈ G, k ∉ blk v3 ∧ k ∉ blk v4 ∧ k ∉ F)
    (h8 : Grew w w8 v4 g) (hX : ∀ k, k ≠ box → X.heap[k]? = w8.heap[k]?) (hXs : X.heap.size = w8.heap.size) (hXo : X.os = w8.os ∧ X.tape = w8.tape ∧ X.output = w8.output)
    (hXb : Box5 X box (.int .i64 kd) (.int .i64 nm) (.string st) v3 (.slice (some ⟨g, 0, none⟩) (ls.length + 1) cap)) (hown : w8.ownsRow w3.heap.size 25 5 (.slice (some ⟨g, 0, none⟩) (ls.length + 1) cap) (ls.length + 1) (cs.take (i * 5) ++ ([y0, y1, y2, y3, y4] ++ cs.drop (i * 5)))) :
    ∃ F', PDoc w3 X box r kd nm st xs (insK ls i x) v3 (.slice (some ⟨g, 0, none⟩) (ls.length + 1) cap) (cs.take (i * 5) ++ ([y0, y1, y2, y3, y4] ++ cs.drop (i * 5))) F' := by
  have hz := h.t.size
  have hz8 := h8.size
  have l3 := h.o3.lt
  have l4 := h.o4.lt
  have lk := h.ok.lt
  have lG := hG.lt
  have hgb : g ≠ box := by
    rcases h8.at_ with e | e
    · have := (l4 g e).1; omega
    · omega
  have hnd := h.nd
  simp only [List.nodup_append, List.mem_append, ne_eq] at hnd
  obtain ⟨n3, ⟨n4, nF, n4F⟩, n3d⟩ := hnd
  have all : ∀ k, k < w.heap.size → k ≠ box → v4.ownBlock ≠ some k → X.heap[k]? = w.heap[k]? := fun k hk h2 h3 => (hX k h2).trans (h8.keep k hk h3)
  obtain ⟨c1, c2, F1, F2, hc, hcl, hF, hk1, hk2⟩ := h.ok.cut i hi
  have ht : cs.take (i * 5) = c1 := by rw [hc, ← hcl, List.take_left]
  have hd : cs.drop (i * 5) = c2 := by rw [hc, ← hcl, List.drop_left]
  have hk : OwnKids X w3.heap.size (insK ls i x) (cs.take (i * 5) ++ ([y0, y1, y2, y3, y4] ++ cs.drop (i * 5))) (F1 ++ (G ++ F2)) := by
    rw [ht, hd]
    have f1 : ∀ k ∈ F, X.heap[k]? = w.heap[k]? := fun k hk => all k (lk k hk).2 (by have := (lk k hk).1; omega) fun e => n4F k (blk_mem.2 e) k hk rfl
    have hG' : OwnIn X w3.heap.size x y0 y1 y2 y3 y4 G := hG.same (by omega) fun k hk => all k (lG k hk).2 (by have := (lG k hk).1; omega) fun e => (hGd k hk).2.1 (blk_mem.2 e)
    exact OwnKids.join hG' (hk2.same (Nat.le_refl _) fun k hk => f1 k (by rw [hF]; simp [hk])) (hk1.same (Nat.le_refl _) fun k hk => f1 k (by rw [hF]; simp [hk]))
  refine ⟨F1 ++ (G ++ F2), hXb, ?_, ?_, hk, ?_, ?_⟩
  · exact ownsRow_same h.o3 fun k hk => all k (l3 k (blk_mem.1 hk)).2 (by have := (l3 k (blk_mem.1 hk)).1; omega) fun e => n3d k hk k (.inl (blk_mem.2 e)) rfl
  · rw [insK_len _ _ _ hi]
    exact ownsRow_same hown fun k hk => hX k (by
      have : k = g := by simpa [blk, Value.ownBlock] using hk
      omega)
  · have hb : blk (.slice (some ⟨g, 0, none⟩) (ls.length + 1) cap) = [g] := rfl
    rw [hF] at nF n4F n3d lk hGd
    have n3F : ∀ k, k ∈ blk v3 → k ∈ F1 ++ F2 → False := fun k h1 h2 => n3d k h1 k (.inr h2) rfl
    have gF : ∀ k, k ∈ F1 ++ F2 → g ≠ k := fun k h2 e => by
      rcases h8.at_ with e' | e'
      · exact n4F g (blk_mem.2 e') k h2 e
      · have := (lk k h2).2; omega
    have gG : ∀ k, k ∈ G → g ≠ k := fun k h2 e => by
      rcases h8.at_ with e' | e'
      · exact (hGd k h2).2.1 (by rw [← e]; exact blk_mem.2 e')
      · have := (lG k h2).2; omega
    have g3 : g ∉ blk v3 := fun e => by
      rcases h8.at_ with e' | e'
      · exact n3d g e g (.inl (blk_mem.2 e')) rfl
      · have := (l3 g (blk_mem.1 e)).2; omega
    rw [hb]
    simp only [List.nodup_append, List.mem_append, List.mem_singleton, List.nodup_cons, List.not_mem_nil, not_false_eq_true, List.nodup_nil, and_true, true_and, ne_eq] at nF ⊢
    simp only [List.mem_append] at n3F gF
    obtain ⟨m1, m2, m12⟩ := nF
    refine ⟨n3, ⟨⟨m1, ⟨hGN, m2, fun a ha b hb e => (hGd a ha).2.2 (by simp [e, hb])⟩, fun a ha b hb e => ?_⟩, fun a ha b hb e => ?_⟩, fun a ha b hb e => ?_⟩
    · rcases hb with hb | hb
      · exact (hGd b hb).2.2 (by simp [← e, ha])
      · exact m12 a ha b hb e
    · have e2 : g = b := ha.symm.trans e
      rcases hb with h1 | h1 | h1
      · exact gF b (.inl h1) e2
      · exact gG b h1 e2
      · exact gF b (.inr h1) e2
    · rcases hb with hb | hb | hb | hb
      · exact g3 (by rw [← hb, ← e]; exact ha)
      · exact n3F a ha (.inl (e ▸ hb))
      · exact (hGd b hb).1 (e ▸ ha)
      · exact n3F a ha (.inr (e ▸ hb))
  · refine ⟨hXo.1.trans (h8.os.trans h.t.os), hXo.2.1.trans (h8.tape.trans h.t.tape), hXo.2.2.trans (h8.output.trans h.t.output), by omega, fun k hk hk1 hk2 => ?_⟩
    exact (all k (by omega) hk2 fun e => by have := (l4 k e).1; omega).trans (h.t.block k hk hk1 hk2)
end Go.Proofs.YtgklnafliaplkaaGreatDoor
namespace Go.Proofs.YtgklnafliaplkaaGreatDoor
open Go.RowKit

theorem DocTo.failed {w w' : World} {r k er : Nat} {s : ByteArray} {t : Out D} {l : List UInt8} (ht : t = .bad l er) (hk : k = s.size - l.length) (h : Turned w w' [] r) : DocTo w r s t (.panicked [{ v := faultV (k : Int) er, recovered := false }]) w' := by
  subst ht; subst hk; exact ⟨rfl, h⟩
theorem turned_out {w w3 wr X : World} {box r res : Nat} (h : Turned w3 wr [r] box) (hres : w.heap.size ≤ res) (hbx : w.heap.size ≤ box) (hb : Below w.heap.size w w3) (hX : ∀ k, k ≠ res → X.heap[k]? = wr.heap[k]?) (hXs : X.heap.size = wr.heap.size) (hXo : X.os = wr.os ∧ X.tape = wr.tape ∧ X.output = wr.output) : Turned w X [] r := by
  have hz := hb.size
  have hz3 := h.size
  refine ⟨hXo.1.trans (h.os.trans hb.os), hXo.2.1.trans (h.tape.trans hb.tape), hXo.2.2.trans (h.output.trans hb.output), by omega, fun k hk _ hk2 => ?_⟩
  exact (hX k (by omega)).trans ((h.block k (by omega) (by simpa using hk2) (by omega)).trans (hb.block k hk))
theorem pdoc_out {w w3 wr X : World} {box r res p : Nat} {kd nm : Int} {st s : ByteArray} {xs : List ByteArray} {ls : List D} {v3 v4 : Value} {cs : List Value} {F : List Nat} {l : List UInt8} {t : Out D} (h : PDoc w3 wr box r kd nm st xs ls v3 v4 cs F) (hres : w.heap.size ≤ res) (hres3 : res < w3.heap.size) (hbx : w.heap.size ≤ box) (hb : Below w.heap.size w w3) (hr : r < w.heap.size)
    (hrd : RdL wr r s l p) (ht : t = .ok (.mk kd nm st xs ls) l p) (hX : ∀ k, k ≠ res → X.heap[k]? = wr.heap[k]?) (hXs : X.heap.size = wr.heap.size) (hXo : X.os = wr.os ∧ X.tape = wr.tape ∧ X.output = wr.output) :
    DocTo w r s t (.returned (.agg #[.int .i64 kd, .int .i64 nm, .string st, v3, v4])) X := by
  have hz := hb.size
  have l1 := h.o3.lt
  have l2 := h.o4.lt
  have l3 := h.ok.lt
  subst ht
  refine ⟨_, _, _, _, _, _, rfl, OwnIn.make (d := .mk kd nm st xs ls)
    (by exact ownsRow_base (ownsRow_same h.o3 fun k hk => hX k (by have := (l1 k (blk_mem.1 hk)).1; omega)) (by omega))
    (by exact ownsRow_base (ownsRow_same h.o4 fun k hk => hX k (by have := (l2 k (blk_mem.1 hk)).1; omega)) (by omega))
    (h.ok.same (by omega) fun k hk => hX k (by have := (l3 k hk).1; omega)), h.nd, hrd.kept fun k hk => hX k (by omega), turned_out h.t hres hbx hb hX hXs hXo⟩
end Go.Proofs.YtgklnafliaplkaaGreatDoor
namespace Go.Proofs.YtgklnafliaplkaaGreatDoor
open Go.RowKit

/-- The element is stored, then the list's header; or the other way round. -/
def endA (w8 : World) (g n db : Nat) (y0 y1 y2 y3 y4 v : Value) : World :=
  (((((w8.setCell ⟨g, n * 5, none⟩ y0).setCell ⟨g, n * 5 + 1, none⟩ y1).setCell ⟨g, n * 5 + 2, none⟩ y2).setCell ⟨g, n * 5 + 3, none⟩ y3).setCell ⟨g, n * 5 + 4, none⟩ y4).setCell ⟨db, 4, none⟩ v
def endB (w8 : World) (g n db : Nat) (y0 y1 y2 y3 y4 v : Value) : World :=
  (((((w8.setCell ⟨db, 4, none⟩ v).setCell ⟨g, n * 5, none⟩ y0).setCell ⟨g, n * 5 + 1, none⟩ y1).setCell ⟨g, n * 5 + 2, none⟩ y2).setCell ⟨g, n * 5 + 3, none⟩ y3).setCell ⟨g, n * 5 + 4, none⟩ y4
theorem so_os (w : World) (p : Addr) (v : Value) : (w.setCell p v).os = w.os := rfl
theorem so_tape (w : World) (p : Addr) (v : Value) : (w.setCell p v).tape = w.tape := rfl
theorem so_out (w : World) (p : Addr) (v : Value) : (w.setCell p v).output = w.output := rfl
theorem endA_facts {w8 : World} {base g n db cap : Nat} {a0 a1 a2 v3 v4 v y0 y1 y2 y3 y4 : Value} {cs zs : List Value} (hbx : Box5 w8 db a0 a1 a2 v3 v4) (hg : g ≠ db) (h : w8.ownsRow base 25 5 (.slice (some ⟨g, 0, none⟩) (n + 1) cap) (n + 1) (cs ++ zs)) (hcl : cs.length = n * 5) :
    (∀ k, k ≠ g → k ≠ db → (endA w8 g n db y0 y1 y2 y3 y4 v).heap[k]? = w8.heap[k]?) ∧ (endA w8 g n db y0 y1 y2 y3 y4 v).heap.size = w8.heap.size ∧ ((endA w8 g n db y0 y1 y2 y3 y4 v).os = w8.os ∧ (endA w8 g n db y0 y1 y2 y3 y4 v).tape = w8.tape ∧ (endA w8 g n db y0 y1 y2 y3 y4 v).output = w8.output) ∧
      Box5 (endA w8 g n db y0 y1 y2 y3 y4 v) db a0 a1 a2 v3 v ∧ (endA w8 g n db y0 y1 y2 y3 y4 v).ownsRow base 25 5 (.slice (some ⟨g, 0, none⟩) (n + 1) cap) (n + 1) (cs ++ [y0, y1, y2, y3, y4]) := by
  refine ⟨fun k h1 h2 => ?_, by simp [endA], by simp only [endA, so_os, so_tape, so_out, and_self], ?_, five_row (Y := w8) h hcl rfl ?_⟩
  · unfold endA
    rw [Below.heap_setCell _ _ _ k (by exact h2), Below.heap_setCell _ _ _ k (by exact h1), Below.heap_setCell _ _ _ k (by exact h1), Below.heap_setCell _ _ _ k (by exact h1), Below.heap_setCell _ _ _ k (by exact h1), Below.heap_setCell _ _ _ k (by exact h1)]
  · unfold endA
    exact (((((hbx.far (p := ⟨g, n * 5, none⟩) (Ne.symm hg) y0).far (p := ⟨g, n * 5 + 1, none⟩) (Ne.symm hg) y1).far (p := ⟨g, n * 5 + 2, none⟩) (Ne.symm hg) y2).far (p := ⟨g, n * 5 + 3, none⟩) (Ne.symm hg) y3).far (p := ⟨g, n * 5 + 4, none⟩) (Ne.symm hg) y4).set4 v
  · unfold endA
    rw [Below.heap_setCell _ _ _ g (by exact hg)]
    rfl
theorem endB_facts {w8 : World} {base g n db cap : Nat} {a0 a1 a2 v3 v4 v y0 y1 y2 y3 y4 : Value} {cs zs : List Value} (hbx : Box5 w8 db a0 a1 a2 v3 v4) (hg : g ≠ db) (h : w8.ownsRow base 25 5 (.slice (some ⟨g, 0, none⟩) (n + 1) cap) (n + 1) (cs ++ zs)) (hcl : cs.length = n * 5) :
    (∀ k, k ≠ g → k ≠ db → (endB w8 g n db y0 y1 y2 y3 y4 v).heap[k]? = w8.heap[k]?) ∧ (endB w8 g n db y0 y1 y2 y3 y4 v).heap.size = w8.heap.size ∧ ((endB w8 g n db y0 y1 y2 y3 y4 v).os = w8.os ∧ (endB w8 g n db y0 y1 y2 y3 y4 v).tape = w8.tape ∧ (endB w8 g n db y0 y1 y2 y3 y4 v).output = w8.output) ∧
      Box5 (endB w8 g n db y0 y1 y2 y3 y4 v) db a0 a1 a2 v3 v ∧ (endB w8 g n db y0 y1 y2 y3 y4 v).ownsRow base 25 5 (.slice (some ⟨g, 0, none⟩) (n + 1) cap) (n + 1) (cs ++ [y0, y1, y2, y3, y4]) := by
  refine ⟨fun k h1 h2 => ?_, by simp [endB], by simp only [endB, so_os, so_tape, so_out, and_self], ?_, five_row (Y := w8.setCell ⟨db, 4, none⟩ v) h hcl (Below.heap_setCell _ _ _ g (by exact hg)) rfl⟩
  · unfold endB
    rw [Below.heap_setCell _ _ _ k (by exact h1), Below.heap_setCell _ _ _ k (by exact h1), Below.heap_setCell _ _ _ k (by exact h1), Below.heap_setCell _ _ _ k (by exact h1), Below.heap_setCell _ _ _ k (by exact h1), Below.heap_setCell _ _ _ k (by exact h2)]
  · unfold endB
    exact ((((((hbx.set4 v).far (p := ⟨g, n * 5, none⟩) (Ne.symm hg) y0).far (p := ⟨g, n * 5 + 1, none⟩) (Ne.symm hg) y1).far (p := ⟨g, n * 5 + 2, none⟩) (Ne.symm hg) y2).far (p := ⟨g, n * 5 + 3, none⟩) (Ne.symm hg) y3).far (p := ⟨g, n * 5 + 4, none⟩) (Ne.symm hg) y4)
theorem listI_ok {doc : List UInt8 → Nat → Out D} {ls : List D} {l l' : List UInt8} {d : D} {p p' : Nat} (h : doc l p = .ok d l' p') : listI doc ls l p = .ok (ls ++ [d]) l' p' := by simp only [listI, h]
theorem list1_end {r n B g cap : Nat} {s : ByteArray} {w3 w w7 w8 X : World} {db : Nat} {ls : List D} {l l' : List UInt8} {p p' : Nat} {v3 v4 : Value} {cs zs : List Value} {F G : List Nat} {d : D} {y0 y1 y2 y3 y4 : Value}
    (hp : PDoc w3 w db r 3 0 ⟨#[]⟩ [] ls v3 v4 cs F) (hr3 : r < w3.heap.size) (hd3 : db < w3.heap.size) (hrd : r < db) (t7 : Turned w w7 [] r) (hB : w.heap.size ≤ B) (hG : OwnIn w7 B d y0 y1 y2 y3 y4 G) (hGN : G.Nodup) (hr7 : RdL w7 r s l' p') (hdc : docP n l p = .ok d l' p')
    (h8 : Grew w7 w8 v4 g) (hown : w8.ownsRow w3.heap.size 25 5 (.slice (some ⟨g, 0, none⟩) (ls.length + 1) cap) (ls.length + 1) (cs ++ zs))
    (hX : X = (((((w8.setCell ⟨g, ls.length * 5, none⟩ y0).setCell ⟨g, ls.length * 5 + 1, none⟩ y1).setCell ⟨g, ls.length * 5 + 2, none⟩ y2).setCell ⟨g, ls.length * 5 + 3, none⟩ y3).setCell ⟨g, ls.length * 5 + 4, none⟩ y4).setCell ⟨db, 4, none⟩ (.slice (some ⟨g, 0, none⟩) (ls.length + 1) cap) ∨ X = (((((w8.setCell ⟨db, 4, none⟩ (.slice (some ⟨g, 0, none⟩) (ls.length + 1) cap)).setCell ⟨g, ls.length * 5, none⟩ y0).setCell ⟨g, ls.length * 5 + 1, none⟩ y1).setCell ⟨g, ls.length * 5 + 2, none⟩ y2).setCell ⟨g, ls.length * 5 + 3, none⟩ y3).setCell ⟨g, ls.length * 5 + 4, none⟩ y4) :
    StTo (fun ls' _ w' => ∃ v3' v4' cs' F', PDoc w3 w' db r 3 0 ⟨#[]⟩ [] ls' v3' v4' cs' F') (fun w' => Turned w3 w' [r] db) r s (listI (docP n) ls l p) (.returned (.tuple #[])) X := by
  have hz := hp.t.size
  have hz7 := t7.size
  have ag4 : v4.ownBlock ≠ some db := fun hh => by have := (hp.o4.lt _ hh).1; omega
  have hgd : g ≠ db := by
    rcases h8.at_ with hh | hh
    · rintro rfl; exact ag4 hh
    · omega
  have hgr : r < g := by
    rcases h8.at_ with hh | hh
    · have := (hp.o4.lt _ hh).1; omega
    · omega
  have hbx : Box5 w8 db (.int .i64 3) (.int .i64 0) (.string ⟨#[]⟩) v3 v4 := hp.bx.same ((h8.keep db (by omega) ag4).trans (t7.block db (by omega) (by simp) (by omega)))
  have hfin : (∀ k, k ≠ g → k ≠ db → X.heap[k]? = w8.heap[k]?) ∧ X.heap.size = w8.heap.size ∧ (X.os = w8.os ∧ X.tape = w8.tape ∧ X.output = w8.output) ∧ Box5 X db (.int .i64 3) (.int .i64 0) (.string ⟨#[]⟩) v3 (.slice (some ⟨g, 0, none⟩) (ls.length + 1) cap) ∧ X.ownsRow w3.heap.size 25 5 (.slice (some ⟨g, 0, none⟩) (ls.length + 1) cap) (ls.length + 1) (cs ++ [y0, y1, y2, y3, y4]) := by
    rcases hX with hX | hX
    · rw [hX]; exact endA_facts hbx hgd hown hp.o4.1
    · rw [hX]; exact endB_facts hbx hgd hown hp.o4.1
  obtain ⟨f1, f2, f3, f4, f5⟩ := hfin
  refine StTo.done (listI_ok hdc) ⟨_, _, _, _, hp.kid hr3 (by omega) hd3 t7 hB hG hGN h8 f1 f2 f3 f4 f5⟩ (hr7.kept fun k hk => ?_)
  have hr7b := hr7.block
  exact (f1 k (by omega) (by omega)).trans (h8.keep k (by omega) fun hh => by have := (hp.o4.lt _ hh).1; omega)
theorem size_drew' (w : World) : w.drew.heap.size = w.heap.size := rfl
theorem ownIn_base {w : World} {base b : Nat} {d : D} {v0 v1 v2 v3 v4 : Value} {F : List Nat} (h : OwnIn w base d v0 v1 v2 v3 v4 F) (hb : b ≤ base) : OwnIn w b d v0 v1 v2 v3 v4 F := h.same hb fun _ _ => rfl
end Go.Proofs.YtgklnafliaplkaaGreatDoor
