/-
  A number within lists, so many of them: how deep, how great, and whether it is right.
-/
import Derived.Test.YtekoicgclkehjaaDoorMade
import Derived.Test.YtekoicgclkehjaaDoorSize
namespace Go.Proofs.YtekoicgclkehjaaDoor
open Go.RowKit
def nest (x : Int) : Nat → D
  | 0 => .mk 4 x ⟨#[]⟩ [] []
  | n + 1 => .mk 3 0 ⟨#[]⟩ [] [nest x n]
theorem nest_size (x : Int) : ∀ n, (nest x n).size = n + 1
  | 0 => by simp [nest, D.size, D.sizes]
  | n + 1 => by simp [nest, D.size, D.sizes, nest_size x n]
theorem nest_depth (x : Int) : ∀ n, (nest x n).depth = n + 1
  | 0 => by simp [nest, D.depth, D.depths]
  | n + 1 => by simp [nest, D.depth, D.depths, nest_depth x n]
theorem nest_fit (x : Int) : ∀ n, (nest x n).Fit
  | 0 => by simp [nest, D.Fit, D.Fits]; decide
  | n + 1 => by simp [nest, D.Fit, D.Fits, nest_fit x n]; decide
theorem nest_part (x : Int) : ∀ n, partB (nest x n) = true
  | 0 => by simp [nest, partB, partsB, soundB, numB, strB, formB, D.num, D.kind, D.str, D.keys, D.kids]; rfl
  | n + 1 => by
    have := nest_part x n
    simp only [nest, partB, partsB, this]
    simp [soundB, numB, strB, formB, D.num, D.kind, D.str, D.keys]
    rfl
theorem nest_right (x : Int) (n : Nat) (h : n ≤ 30) : rightB (nest x n) = decide ((n : Int) + 1 ≤ 12) := by
  unfold rightB okB
  rw [nest_depth, nest_size, nest_part]
  rw [Bool.eq_iff_iff]
  simp
  omega
end Go.Proofs.YtekoicgclkehjaaDoor
