/-
  The law's own case of layer 3: what its calls tell, as values.
-/
import Derived.Test.YtdgnengfcabgjaaB33
import Derived.Test.YtdgnengfcabgjaaB35
import Derived.Test.YtdgnengfcabgjaaB10
import Derived.Test.YtdgnengfcabgjaaB11
namespace Go.Proofs.Ytdgnengfcabgjaa
open Go.RowKit

def sA : ByteArray := ⟨#[97]⟩
def sB : ByteArray := ⟨#[98]⟩
def sC : ByteArray := ⟨#[99]⟩
def sD : ByteArray := ⟨#[100]⟩
def sX : ByteArray := ⟨#[120]⟩
def dOne : D := .mk 4 1 ⟨#[]⟩ [] []
def dTwo : D := .mk 4 2 ⟨#[]⟩ [] []
def dLst : D := .mk 3 0 ⟨#[]⟩ [] [dOne]
def dDct : D := .mk 2 0 ⟨#[]⟩ [sX] [dTwo]
def dLaw : D := .mk 1 0 ⟨#[]⟩ [sA, sB] [dLst, dDct]
def lvLaw : List Lf := [⟨[], .mk 1 0 ⟨#[]⟩ [] []⟩, ⟨[sA], dLst⟩, ⟨[sB], .mk 2 0 ⟨#[]⟩ [] []⟩, ⟨[sB, sX], dTwo⟩]
def mvLaw : List Lf := [⟨[], .mk 1 0 ⟨#[]⟩ [] []⟩, ⟨[sA], dLst⟩, ⟨[sC, sD], .mk 2 0 ⟨#[]⟩ [] []⟩, ⟨[sC, sD, sX], dTwo⟩]
theorem dLaw_fit : dLaw.Fit := by simp only [dLaw, dLst, dDct, dOne, dTwo, sA, sB, sX, D.Fit, D.Fits]; decide
theorem flat_law : lsrt (vis [] dLaw) = lvLaw := by kernel_rfl
theorem tree_law : treeV lvLaw = (dLaw, 0) := by kernel_rfl
theorem tree_nil : treeV [] = (D.zero, 9) := by kernel_rfl
theorem tree_two : treeV (lvLaw ++ [⟨[], .mk 1 0 ⟨#[]⟩ [] []⟩]) = (D.zero, 5) := by kernel_rfl
theorem mvd_law : lsrt (lvLaw.map (mvd [sB] [sC, sD])) = mvLaw := by kernel_rfl
theorem find_law : lfind [sB] lvLaw 0 = 2 := by kernel_rfl
theorem less_law : kcmp [sA] [sA, sB] = -1 := by kernel_rfl
theorem same_law : D.same dLaw dLaw = true := by kernel_rfl
theorem depth_law : dLaw.depth ≤ 9000 := by decide
theorem vis_law : (vis [] dLaw).length ≤ 1000000 := by
  have : (vis [] dLaw).length = 4 := by kernel_rfl
  omega
theorem small_law : ∀ x ∈ lvLaw ++ [⟨[], .mk 1 0 ⟨#[]⟩ [] []⟩], SmallL x ∧ x.path.length ≤ 4000 := by
  intro x hx
  simp only [lvLaw, List.cons_append, List.nil_append, List.mem_cons, List.not_mem_nil, or_false] at hx
  rcases hx with rfl | rfl | rfl | rfl | rfl <;> simp only [SmallL, dLst, dTwo, dOne, sA, sB, sX, D.Fit, D.Fits, D.keys, D.kids] <;> decide
end Go.Proofs.Ytdgnengfcabgjaa
