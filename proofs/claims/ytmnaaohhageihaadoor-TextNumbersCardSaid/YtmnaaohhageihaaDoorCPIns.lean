/-
  A document that grows in a variable while a reader goes on: a key, and its kid, wherever.
-/
import Derived.Test.YtmnaaohhageihaaDoorCPDoc
import Derived.Test.YtmnaaohhageihaaDoorB14
namespace Go.Proofs.YtmnaaohhageihaaDoor
open Go.RowKit

theorem insK_len {α : Type} (l : List α) (i : Nat) (x : α) (h : i ≤ l.length) : (insK l i x).length = l.length + 1 := by unfold insK; simp; omega
theorem insK_map {α β : Type} (f : α → β) (l : List α) (i : Nat) (x : α) : (insK l i x).map f = (l.map f).take i ++ ([f x] ++ (l.map f).drop i) := by unfold insK; simp [List.map_take, List.map_drop]
/-- One key more. -/
theorem PDoc.key {w3 w w8 X : World} {box r g cap i : Nat} {kd nm : Int} {st S : ByteArray} {xs : List ByteArray} {ls : List D} {v3 v4 : Value} {cs : List Value} {F : List Nat} (h : PDoc w3 w box r kd nm st xs ls v3 v4 cs F) (hbox : box < w3.heap.size) (hi : i ≤ xs.length)
    (h8 : Grew w w8 v3 g) (hX : ∀ k, k ≠ box → X.heap[k]? = w8.heap[k]?) (hXs : X.heap.size = w8.heap.size) (hXo : X.os = w8.os ∧ X.tape = w8.tape ∧ X.output = w8.output)
    (hXb : Box5 X box (.int .i64 kd) (.int .i64 nm) (.string st) (.slice (some ⟨g, 0, none⟩) (xs.length + 1) cap) v4) (hown : w8.ownsRow w3.heap.size 9 1 (.slice (some ⟨g, 0, none⟩) (xs.length + 1) cap) (xs.length + 1) ((xs.map Value.string).take i ++ ([.string S] ++ (xs.map Value.string).drop i))) :
    PDoc w3 X box r kd nm st (insK xs i S) ls (.slice (some ⟨g, 0, none⟩) (xs.length + 1) cap) v4 cs F := by
  have hz := h.t.size
  have hz8 := h8.size
  have l3 := h.o3.lt
  have l4 := h.o4.lt
  have lk := h.ok.lt
  have hgb : g ≠ box := by
    rcases h8.at_ with e | e
    · have := (l3 g e).1; omega
    · omega
  have hnd := h.nd
  simp only [List.nodup_append, List.mem_append, ne_eq] at hnd
  obtain ⟨_, ⟨n4, nF, n4F⟩, n3d⟩ := hnd
  have all : ∀ k, k < w.heap.size → k ≠ box → v3.ownBlock ≠ some k → X.heap[k]? = w.heap[k]? := fun k hk h2 h3 => (hX k h2).trans (h8.keep k hk h3)
  refine ⟨hXb, ?_, ?_, ?_, ?_, ?_⟩
  · rw [insK_len _ _ _ hi, insK_map]
    exact ownsRow_same hown fun k hk => hX k (by
      have : k = g := by simpa [blk, Value.ownBlock] using hk
      omega)
  · exact ownsRow_same h.o4 fun k hk => all k (l4 k (blk_mem.1 hk)).2 (by have := (l4 k (blk_mem.1 hk)).1; omega) fun e => n3d k (blk_mem.2 e) k (.inl hk) rfl
  · exact h.ok.same (Nat.le_refl _) fun k hk => all k (lk k hk).2 (by have := (lk k hk).1; omega) fun e => n3d k (blk_mem.2 e) k (.inr hk) rfl
  · have hb : blk (.slice (some ⟨g, 0, none⟩) (xs.length + 1) cap) = [g] := rfl
    rw [hb, List.nodup_append, List.nodup_append]
    refine ⟨by simp, ⟨n4, nF, n4F⟩, fun a ha b hb hab => ?_⟩
    simp only [List.mem_singleton] at ha
    subst ha; subst hab
    rcases h8.at_ with e | e
    · exact n3d a (blk_mem.2 e) a (List.mem_append.1 hb) rfl
    · rcases List.mem_append.1 hb with hb | hb
      · have := (l4 a (blk_mem.1 hb)).2; omega
      · have := (lk a hb).2; omega
  · refine ⟨hXo.1.trans (h8.os.trans h.t.os), hXo.2.1.trans (h8.tape.trans h.t.tape), hXo.2.2.trans (h8.output.trans h.t.output), by omega, fun k hk hk1 hk2 => ?_⟩
    exact (all k (by omega) hk2 fun e => by have := (l3 k e).1; omega).trans (h.t.block k hk hk1 hk2)
/-- .. and its kid. -/
theorem PDoc.kidAt {w3 w w8 X : World} {box r g cap i B : Nat} {kd nm : Int} {st : ByteArray} {xs : List ByteArray} {ls : List D} {v3 v4 : Value} {cs : List Value} {F G : List Nat} (h : PDoc w3 w box r kd nm st xs ls v3 v4 cs F) (hbox : box < w3.heap.size) (hi : i ≤ ls.length)
    (hB : w3.heap.size ≤ B) {x : D} {y0 y1 y2 y3 y4 : Value} (hG : OwnIn w B x y0 y1 y2 y3 y4 G) (hGN : G.Nodup) (hGd : ∀ k ∈ G, k ∉ blk v3 ∧ k ∉ blk v4 ∧ k ∉ F)
    (h8 : Grew w w8 v4 g) (hX : ∀ k, k ≠ box → X.heap[k]? = w8.heap[k]?) (hXs : X.heap.size = w8.heap.size) (hXo : X.os = w8.os ∧ X.tape = w8.tape ∧ X.output = w8.output)
    (hXb : Box5 X box (.int .i64 kd) (.int .i64 nm) (.string st) v3 (.slice (some ⟨g, 0, none⟩) (ls.length + 1) cap)) (hown : w8.ownsRow w3.heap.size 31 5 (.slice (some ⟨g, 0, none⟩) (ls.length + 1) cap) (ls.length + 1) (cs.take (i * 5) ++ ([y0, y1, y2, y3, y4] ++ cs.drop (i * 5)))) :
    ∃ F', PDoc w3 X box r kd nm st xs (insK ls i x) v3 (.slice (some ⟨g, 0, none⟩) (ls.length + 1) cap) (cs.take (i * 5) ++ ([y0, y1, y2, y3, y4] ++ cs.drop (i * 5))) F' := by
  have hz := h.t.size
  have hz8 := h8.size
  have l3 := h.o3.lt
  have l4 := h.o4.lt
  have lk := h.ok.lt
  have lG := hG.lt
  have hgb : g ≠ box := by
    rcases h8.at_ with e | e
    · have := (l4 g e).1; omega
    · omega
  have hnd := h.nd
  simp only [List.nodup_append, List.mem_append, ne_eq] at hnd
  obtain ⟨n3, ⟨n4, nF, n4F⟩, n3d⟩ := hnd
  have all : ∀ k, k < w.heap.size → k ≠ box → v4.ownBlock ≠ some k → X.heap[k]? = w.heap[k]? := fun k hk h2 h3 => (hX k h2).trans (h8.keep k hk h3)
  obtain ⟨c1, c2, F1, F2, hc, hcl, hF, hk1, hk2⟩ := h.ok.cut i hi
  have ht : cs.take (i * 5) = c1 := by rw [hc, ← hcl, List.take_left]
  have hd : cs.drop (i * 5) = c2 := by rw [hc, ← hcl, List.drop_left]
  have hk : OwnKids X w3.heap.size (insK ls i x) (cs.take (i * 5) ++ ([y0, y1, y2, y3, y4] ++ cs.drop (i * 5))) (F1 ++ (G ++ F2)) := by
    rw [ht, hd]
    have f1 : ∀ k ∈ F, X.heap[k]? = w.heap[k]? := fun k hk => all k (lk k hk).2 (by have := (lk k hk).1; omega) fun e => n4F k (blk_mem.2 e) k hk rfl
    have hG' : OwnIn X w3.heap.size x y0 y1 y2 y3 y4 G := hG.same (by omega) fun k hk => all k (lG k hk).2 (by have := (lG k hk).1; omega) fun e => (hGd k hk).2.1 (blk_mem.2 e)
    exact OwnKids.join hG' (hk2.same (Nat.le_refl _) fun k hk => f1 k (by rw [hF]; simp [hk])) (hk1.same (Nat.le_refl _) fun k hk => f1 k (by rw [hF]; simp [hk]))
  refine ⟨F1 ++ (G ++ F2), hXb, ?_, ?_, hk, ?_, ?_⟩
  · exact ownsRow_same h.o3 fun k hk => all k (l3 k (blk_mem.1 hk)).2 (by have := (l3 k (blk_mem.1 hk)).1; omega) fun e => n3d k hk k (.inl (blk_mem.2 e)) rfl
  · rw [insK_len _ _ _ hi]
    exact ownsRow_same hown fun k hk => hX k (by
      have : k = g := by simpa [blk, Value.ownBlock] using hk
      omega)
  · have hb : blk (.slice (some ⟨g, 0, none⟩) (ls.length + 1) cap) = [g] := rfl
    rw [hF] at nF n4F n3d lk hGd
    have n3F : ∀ k, k ∈ blk v3 → k ∈ F1 ++ F2 → False := fun k h1 h2 => n3d k h1 k (.inr h2) rfl
    have gF : ∀ k, k ∈ F1 ++ F2 → g ≠ k := fun k h2 e => by
      rcases h8.at_ with e' | e'
      · exact n4F g (blk_mem.2 e') k h2 e
      · have := (lk k h2).2; omega
    have gG : ∀ k, k ∈ G → g ≠ k := fun k h2 e => by
      rcases h8.at_ with e' | e'
      · exact (hGd k h2).2.1 (by rw [← e]; exact blk_mem.2 e')
      · have := (lG k h2).2; omega
    have g3 : g ∉ blk v3 := fun e => by
      rcases h8.at_ with e' | e'
      · exact n3d g e g (.inl (blk_mem.2 e')) rfl
      · have := (l3 g (blk_mem.1 e)).2; omega
    rw [hb]
    simp only [List.nodup_append, List.mem_append, List.mem_singleton, List.nodup_cons, List.not_mem_nil, not_false_eq_true, List.nodup_nil, and_true, true_and, ne_eq] at nF ⊢
    simp only [List.mem_append] at n3F gF
    obtain ⟨m1, m2, m12⟩ := nF
    refine ⟨n3, ⟨⟨m1, ⟨hGN, m2, fun a ha b hb e => (hGd a ha).2.2 (by simp [e, hb])⟩, fun a ha b hb e => ?_⟩, fun a ha b hb e => ?_⟩, fun a ha b hb e => ?_⟩
    · rcases hb with hb | hb
      · exact (hGd b hb).2.2 (by simp [← e, ha])
      · exact m12 a ha b hb e
    · have e2 : g = b := ha.symm.trans e
      rcases hb with h1 | h1 | h1
      · exact gF b (.inl h1) e2
      · exact gG b h1 e2
      · exact gF b (.inr h1) e2
    · rcases hb with hb | hb | hb | hb
      · exact g3 (by rw [← hb, ← e]; exact ha)
      · exact n3F a ha (.inl (e ▸ hb))
      · exact (hGd b hb).1 (e ▸ ha)
      · exact n3F a ha (.inr (e ▸ hb))
  · refine ⟨hXo.1.trans (h8.os.trans h.t.os), hXo.2.1.trans (h8.tape.trans h.t.tape), hXo.2.2.trans (h8.output.trans h.t.output), by omega, fun k hk hk1 hk2 => ?_⟩
    exact (all k (by omega) hk2 fun e => by have := (l4 k e).1; omega).trans (h.t.block k hk hk1 hk2)
end Go.Proofs.YtmnaaohhageihaaDoor
