/-
  The reader: how a list stands behind one more document.
-/
import Derived.Test.YtmnaaohhageihaaDoorCPDoc
namespace Go.Proofs.YtmnaaohhageihaaDoor
open Go.RowKit

/-- The element is stored, then the list's header; or the other way round. -/
def endA (w8 : World) (g n db : Nat) (y0 y1 y2 y3 y4 v : Value) : World :=
  (((((w8.setCell ⟨g, n * 5, none⟩ y0).setCell ⟨g, n * 5 + 1, none⟩ y1).setCell ⟨g, n * 5 + 2, none⟩ y2).setCell ⟨g, n * 5 + 3, none⟩ y3).setCell ⟨g, n * 5 + 4, none⟩ y4).setCell ⟨db, 4, none⟩ v
def endB (w8 : World) (g n db : Nat) (y0 y1 y2 y3 y4 v : Value) : World :=
  (((((w8.setCell ⟨db, 4, none⟩ v).setCell ⟨g, n * 5, none⟩ y0).setCell ⟨g, n * 5 + 1, none⟩ y1).setCell ⟨g, n * 5 + 2, none⟩ y2).setCell ⟨g, n * 5 + 3, none⟩ y3).setCell ⟨g, n * 5 + 4, none⟩ y4
theorem so_os (w : World) (p : Addr) (v : Value) : (w.setCell p v).os = w.os := rfl
theorem so_tape (w : World) (p : Addr) (v : Value) : (w.setCell p v).tape = w.tape := rfl
theorem so_out (w : World) (p : Addr) (v : Value) : (w.setCell p v).output = w.output := rfl
theorem endA_facts {w8 : World} {base g n db cap : Nat} {a0 a1 a2 v3 v4 v y0 y1 y2 y3 y4 : Value} {cs zs : List Value} (hbx : Box5 w8 db a0 a1 a2 v3 v4) (hg : g ≠ db) (h : w8.ownsRow base 31 5 (.slice (some ⟨g, 0, none⟩) (n + 1) cap) (n + 1) (cs ++ zs)) (hcl : cs.length = n * 5) :
    (∀ k, k ≠ g → k ≠ db → (endA w8 g n db y0 y1 y2 y3 y4 v).heap[k]? = w8.heap[k]?) ∧ (endA w8 g n db y0 y1 y2 y3 y4 v).heap.size = w8.heap.size ∧ ((endA w8 g n db y0 y1 y2 y3 y4 v).os = w8.os ∧ (endA w8 g n db y0 y1 y2 y3 y4 v).tape = w8.tape ∧ (endA w8 g n db y0 y1 y2 y3 y4 v).output = w8.output) ∧
      Box5 (endA w8 g n db y0 y1 y2 y3 y4 v) db a0 a1 a2 v3 v ∧ (endA w8 g n db y0 y1 y2 y3 y4 v).ownsRow base 31 5 (.slice (some ⟨g, 0, none⟩) (n + 1) cap) (n + 1) (cs ++ [y0, y1, y2, y3, y4]) := by
  refine ⟨fun k h1 h2 => ?_, by simp [endA], by simp only [endA, so_os, so_tape, so_out, and_self], ?_, five_row (Y := w8) h hcl rfl ?_⟩
  · unfold endA
    rw [Below.heap_setCell _ _ _ k (by exact h2), Below.heap_setCell _ _ _ k (by exact h1), Below.heap_setCell _ _ _ k (by exact h1), Below.heap_setCell _ _ _ k (by exact h1), Below.heap_setCell _ _ _ k (by exact h1), Below.heap_setCell _ _ _ k (by exact h1)]
  · unfold endA
    exact (((((hbx.far (p := ⟨g, n * 5, none⟩) (Ne.symm hg) y0).far (p := ⟨g, n * 5 + 1, none⟩) (Ne.symm hg) y1).far (p := ⟨g, n * 5 + 2, none⟩) (Ne.symm hg) y2).far (p := ⟨g, n * 5 + 3, none⟩) (Ne.symm hg) y3).far (p := ⟨g, n * 5 + 4, none⟩) (Ne.symm hg) y4).set4 v
  · unfold endA
    rw [Below.heap_setCell _ _ _ g (by exact hg)]
    rfl
theorem endB_facts {w8 : World} {base g n db cap : Nat} {a0 a1 a2 v3 v4 v y0 y1 y2 y3 y4 : Value} {cs zs : List Value} (hbx : Box5 w8 db a0 a1 a2 v3 v4) (hg : g ≠ db) (h : w8.ownsRow base 31 5 (.slice (some ⟨g, 0, none⟩) (n + 1) cap) (n + 1) (cs ++ zs)) (hcl : cs.length = n * 5) :
    (∀ k, k ≠ g → k ≠ db → (endB w8 g n db y0 y1 y2 y3 y4 v).heap[k]? = w8.heap[k]?) ∧ (endB w8 g n db y0 y1 y2 y3 y4 v).heap.size = w8.heap.size ∧ ((endB w8 g n db y0 y1 y2 y3 y4 v).os = w8.os ∧ (endB w8 g n db y0 y1 y2 y3 y4 v).tape = w8.tape ∧ (endB w8 g n db y0 y1 y2 y3 y4 v).output = w8.output) ∧
      Box5 (endB w8 g n db y0 y1 y2 y3 y4 v) db a0 a1 a2 v3 v ∧ (endB w8 g n db y0 y1 y2 y3 y4 v).ownsRow base 31 5 (.slice (some ⟨g, 0, none⟩) (n + 1) cap) (n + 1) (cs ++ [y0, y1, y2, y3, y4]) := by
  refine ⟨fun k h1 h2 => ?_, by simp [endB], by simp only [endB, so_os, so_tape, so_out, and_self], ?_, five_row (Y := w8.setCell ⟨db, 4, none⟩ v) h hcl (Below.heap_setCell _ _ _ g (by exact hg)) rfl⟩
  · unfold endB
    rw [Below.heap_setCell _ _ _ k (by exact h1), Below.heap_setCell _ _ _ k (by exact h1), Below.heap_setCell _ _ _ k (by exact h1), Below.heap_setCell _ _ _ k (by exact h1), Below.heap_setCell _ _ _ k (by exact h1), Below.heap_setCell _ _ _ k (by exact h2)]
  · unfold endB
    exact ((((((hbx.set4 v).far (p := ⟨g, n * 5, none⟩) (Ne.symm hg) y0).far (p := ⟨g, n * 5 + 1, none⟩) (Ne.symm hg) y1).far (p := ⟨g, n * 5 + 2, none⟩) (Ne.symm hg) y2).far (p := ⟨g, n * 5 + 3, none⟩) (Ne.symm hg) y3).far (p := ⟨g, n * 5 + 4, none⟩) (Ne.symm hg) y4)
theorem listI_ok {doc : List UInt8 → Nat → Out D} {ls : List D} {l l' : List UInt8} {d : D} {p p' : Nat} (h : doc l p = .ok d l' p') : listI doc ls l p = .ok (ls ++ [d]) l' p' := by simp only [listI, h]
theorem list1_end {r n B g cap : Nat} {s : ByteArray} {w3 w w7 w8 X : World} {db : Nat} {ls : List D} {l l' : List UInt8} {p p' : Nat} {v3 v4 : Value} {cs zs : List Value} {F G : List Nat} {d : D} {y0 y1 y2 y3 y4 : Value}
    (hp : PDoc w3 w db r 3 0 ⟨#[]⟩ [] ls v3 v4 cs F) (hr3 : r < w3.heap.size) (hd3 : db < w3.heap.size) (hrd : r < db) (t7 : Turned w w7 [] r) (hB : w.heap.size ≤ B) (hG : OwnIn w7 B d y0 y1 y2 y3 y4 G) (hGN : G.Nodup) (hr7 : RdL w7 r s l' p') (hdc : docP n l p = .ok d l' p')
    (h8 : Grew w7 w8 v4 g) (hown : w8.ownsRow w3.heap.size 31 5 (.slice (some ⟨g, 0, none⟩) (ls.length + 1) cap) (ls.length + 1) (cs ++ zs))
    (hX : X = (((((w8.setCell ⟨g, ls.length * 5, none⟩ y0).setCell ⟨g, ls.length * 5 + 1, none⟩ y1).setCell ⟨g, ls.length * 5 + 2, none⟩ y2).setCell ⟨g, ls.length * 5 + 3, none⟩ y3).setCell ⟨g, ls.length * 5 + 4, none⟩ y4).setCell ⟨db, 4, none⟩ (.slice (some ⟨g, 0, none⟩) (ls.length + 1) cap) ∨ X = (((((w8.setCell ⟨db, 4, none⟩ (.slice (some ⟨g, 0, none⟩) (ls.length + 1) cap)).setCell ⟨g, ls.length * 5, none⟩ y0).setCell ⟨g, ls.length * 5 + 1, none⟩ y1).setCell ⟨g, ls.length * 5 + 2, none⟩ y2).setCell ⟨g, ls.length * 5 + 3, none⟩ y3).setCell ⟨g, ls.length * 5 + 4, none⟩ y4) :
    StTo (fun ls' _ w' => ∃ v3' v4' cs' F', PDoc w3 w' db r 3 0 ⟨#[]⟩ [] ls' v3' v4' cs' F') (fun w' => Turned w3 w' [r] db) r s (listI (docP n) ls l p) (.returned (.tuple #[])) X := by
  have hz := hp.t.size
  have hz7 := t7.size
  have ag4 : v4.ownBlock ≠ some db := fun hh => by have := (hp.o4.lt _ hh).1; omega
  have hgd : g ≠ db := by
    rcases h8.at_ with hh | hh
    · rintro rfl; exact ag4 hh
    · omega
  have hgr : r < g := by
    rcases h8.at_ with hh | hh
    · have := (hp.o4.lt _ hh).1; omega
    · omega
  have hbx : Box5 w8 db (.int .i64 3) (.int .i64 0) (.string ⟨#[]⟩) v3 v4 := hp.bx.same ((h8.keep db (by omega) ag4).trans (t7.block db (by omega) (by simp) (by omega)))
  have hfin : (∀ k, k ≠ g → k ≠ db → X.heap[k]? = w8.heap[k]?) ∧ X.heap.size = w8.heap.size ∧ (X.os = w8.os ∧ X.tape = w8.tape ∧ X.output = w8.output) ∧ Box5 X db (.int .i64 3) (.int .i64 0) (.string ⟨#[]⟩) v3 (.slice (some ⟨g, 0, none⟩) (ls.length + 1) cap) ∧ X.ownsRow w3.heap.size 31 5 (.slice (some ⟨g, 0, none⟩) (ls.length + 1) cap) (ls.length + 1) (cs ++ [y0, y1, y2, y3, y4]) := by
    rcases hX with hX | hX
    · rw [hX]; exact endA_facts hbx hgd hown hp.o4.1
    · rw [hX]; exact endB_facts hbx hgd hown hp.o4.1
  obtain ⟨f1, f2, f3, f4, f5⟩ := hfin
  refine StTo.done (listI_ok hdc) ⟨_, _, _, _, hp.kid hr3 (by omega) hd3 t7 hB hG hGN h8 f1 f2 f3 f4 f5⟩ (hr7.kept fun k hk => ?_)
  have hr7b := hr7.block
  exact (f1 k (by omega) (by omega)).trans (h8.keep k (by omega) fun hh => by have := (hp.o4.lt _ hh).1; omega)
theorem size_drew' (w : World) : w.drew.heap.size = w.heap.size := rfl
theorem ownIn_base {w : World} {base b : Nat} {d : D} {v0 v1 v2 v3 v4 : Value} {F : List Nat} (h : OwnIn w base d v0 v1 v2 v3 v4 F) (hb : b ≤ base) : OwnIn w b d v0 v1 v2 v3 v4 F := h.same hb fun _ _ => rfl
end Go.Proofs.YtmnaaohhageihaaDoor
