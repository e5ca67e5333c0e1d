/-
  What the law's own case asks, reckoned.
-/
import Derived.Test.YtpohbabdoiennaaDoorOne
namespace Go.Proofs.YtpohbabdoiennaaDoor
open Go.RowKit
def dNine : D := .mk 4 9 ⟨#[]⟩ [] []
def dListPut : D := .mk 3 0 ⟨#[]⟩ [] [.mk 4 5 ⟨#[]⟩ [] [], .mk 4 7 ⟨#[]⟩ [] [], dNine]
def dPut : D := .mk 1 0 ⟨#[]⟩ [⟨#[97]⟩, ⟨#[98]⟩] [dListPut, dDict]
def dDictDrop : D := .mk 2 0 ⟨#[]⟩ [⟨#[]⟩] [.mk 5 1 ⟨#[]⟩ [] []]
def dDrop : D := .mk 1 0 ⟨#[]⟩ [⟨#[97]⟩, ⟨#[98]⟩] [dList, dDictDrop]
theorem get_1 : getV dSome [⟨#[97]⟩, ⟨#[49]⟩] = (.mk 4 7 ⟨#[]⟩ [] [], true) := by kernel_rfl
theorem get_2 : getV dSome [⟨#[97]⟩, ⟨#[50]⟩] = (D.zero, false) := by kernel_rfl
theorem put_2 : putV dSome dNine [⟨#[97]⟩, ⟨#[50]⟩] = (dPut, 0) := by kernel_rfl
theorem get_3 : getV dPut [⟨#[97]⟩, ⟨#[50]⟩] = (dNine, true) := by kernel_rfl
theorem drop_x : dropV dSome [⟨#[98]⟩, ⟨#[120]⟩] = (dDrop, 0) := by kernel_rfl
theorem get_4 : getV dDrop [⟨#[98]⟩, ⟨#[120]⟩] = (D.zero, false) := by kernel_rfl
theorem put_9 : putV dSome dNine [⟨#[97]⟩, ⟨#[57]⟩] = (D.zero, 3) := by kernel_rfl
theorem right_1 : rightB dSome = true := by kernel_rfl
theorem size_1 : dSome.size = 7 := by kernel_rfl
theorem depth_1 : dSome.depth = 3 := by kernel_rfl
theorem cmp_1 : D.cmp dSome dPut = -1 := by kernel_rfl
theorem name_1 : nameB ⟨#[97, 95, 49]⟩ = true := by kernel_rfl
theorem name_2 : nameB ⟨#[95, 97]⟩ = false := by kernel_rfl
end Go.Proofs.YtpohbabdoiennaaDoor
