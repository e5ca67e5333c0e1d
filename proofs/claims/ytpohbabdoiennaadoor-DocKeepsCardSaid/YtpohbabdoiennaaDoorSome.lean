/-
  What the law's own document is made of: the record of two keys that come falling.
-/
import Derived.Test.YtpohbabdoiennaaDoorRec
namespace Go.Proofs.YtpohbabdoiennaaDoor
open Go.RowKit

theorem rec_two (x y : ByteArray) (d0 d1 : D) (b off c : Nat) (v : Value) (w : World) (B : Nat) (hc : 2 ≤ c) (hf : D.Fits [d0, d1]) (hB : B ≤ w.heap.size) (hb : b < B) (hlt : scmp y x < 0) (hxy : (x.toList == y.toList) = false)
    (h0 : w.cell? ⟨b, off, none⟩ = some (.string x)) (h1 : w.cell? ⟨b, off + 1, none⟩ = some (.string y)) (hv : KidsV w B [d0, d1] v) :
    Calls Tryd.prog 22 #[.slice (some ⟨b, off, none⟩) 2 c, v] w (MadeDoc w.heap.size w (.mk 1 0 ⟨#[]⟩ [y, x] [d1, d0])) := by
  have hk : recKept [x, y] [1, 0] 2 = [1, 0] := by
    simp [recKept, recSkip, hxy]
  have h := rec_of [x, y] [d0, d1] [1, 0] (some ⟨b, off, none⟩) c v w B rfl (by simp) hf hB ⟨some ⟨b, off, none⟩, c, rfl, hc, fun _ => ⟨b, off, rfl, hb, fun i hi => ?_⟩⟩ hv rfl (fun i hi => ?_) (fun w1 hw1 => ?_)
  · show Calls Tryd.prog 22 _ w (MadeDoc w.heap.size w (.mk 1 0 ⟨#[]⟩ (recKeys [x, y] [1, 0]) (recKids [d0, d1] [1, 0])))
    rw [← hk]
    exact h
  · match i, hi with
    | 0, _ => exact h0
    | 1, _ => exact h1
  · match i, hi with
    | 0, _ => simp
    | 1, _ => simp
  · refine (rising_two x y b off c w1 (by have := hw1.size; omega) hlt ((hw1.cell (by show b < w.heap.size; omega)).trans h0) ((hw1.cell (by show b < w.heap.size; omega)).trans h1)).mono ?_
    rintro e w' ⟨rfl, o0, o1, hb1⟩
    refine ⟨w1.heap.size + 1, rfl, by omega, ?_, fun i hi => ?_, hb1⟩
    · rcases Nat.lt_or_ge (w1.heap.size + 1) w'.heap.size with h | h
      · exact h
      · simp [World.cell?, Array.getElem?_eq_none h] at o0
    · match i, hi with
      | 0, _ => exact o0
      | 1, _ => exact o1
end Go.Proofs.YtpohbabdoiennaaDoor
