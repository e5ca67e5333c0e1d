/-
  A document handed over as a value.
-/
import Derived.Test.YtnjmknofojjlmaaDoorOrdP
import Derived.Test.YtnjmknofojjlmaaDoorDocs
namespace Go.Proofs.YtnjmknofojjlmaaDoor
open Go.RowKit

/-- A document's five cells as one value. -/
def DocV (w : World) (B : Nat) (d : D) (v : Value) : Prop := ∃ v0 v1 v2 v3 v4, v = .agg #[v0, v1, v2, v3, v4] ∧ DocIn w B d v0 v1 v2 v3 v4
theorem DocV.keep {w w' : World} {B B' : Nat} (hB : B ≤ B') (h : ∀ p : Addr, p.block < B → w'.cell? p = w.cell? p) {d : D} {v : Value} (hd : DocV w B d v) : DocV w' B' d v := by
  obtain ⟨v0, v1, v2, v3, v4, rfl, hd⟩ := hd
  exact ⟨v0, v1, v2, v3, v4, rfl, hd.keep hB h⟩
theorem DocV.below {w w' : World} {B : Nat} {d : D} {v : Value} (h : DocV w B d v) (hb : Below B w w') : DocV w' B d v := DocV.keep (Nat.le_refl _) (fun _ hp => hb.cell hp) h
def D.same (d d' : D) : Bool := decide (D.cmp d d' = 0)
end Go.Proofs.YtnjmknofojjlmaaDoor
