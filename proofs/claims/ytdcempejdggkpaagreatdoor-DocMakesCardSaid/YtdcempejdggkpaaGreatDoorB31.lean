/-
  Rows of strings that lie in given blocks.
-/
import Derived.Test.YtdcempejdggkpaaGreatDoorB06
namespace Go.Proofs.YtdcempejdggkpaaGreatDoor
open Go.RowKit

/-- A slice of strings in blocks of the set: nil let in. -/
def StrsS (w : World) (S : Nat → Prop) (v : Value) (xs : List ByteArray) : Prop :=
  ∃ (A : Option Addr) (c : Nat), v = .slice A xs.length c ∧ xs.length ≤ c ∧
    (0 < xs.length → ∃ b off, A = some ⟨b, off, none⟩ ∧ S b ∧ ∀ (i : Nat) (h : i < xs.length), w.cell? ⟨b, off + i, none⟩ = some (.string xs[i]))
theorem StrsS.keep {w w' : World} {S S' : Nat → Prop} (hB : ∀ k, S k → S' k) (h : ∀ p : Addr, S p.block → w'.cell? p = w.cell? p) {v : Value} {xs : List ByteArray} (hs : StrsS w S v xs) : StrsS w' S' v xs := by
  obtain ⟨A, c, e, l, h1⟩ := hs
  refine ⟨A, c, e, l, fun hl => ?_⟩
  obtain ⟨b, off, e', hb, hc⟩ := h1 hl
  exact ⟨b, off, e', hB _ hb, fun i hi => (h ⟨b, off + i, none⟩ hb).trans (hc i hi)⟩
end Go.Proofs.YtdcempejdggkpaaGreatDoor
