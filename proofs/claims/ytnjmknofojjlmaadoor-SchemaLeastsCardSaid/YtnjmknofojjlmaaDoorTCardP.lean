/-
  What the cards of layer 4 share.
-/
import Derived.Test.YtnjmknofojjlmaaDoorTOpen
import Derived.ChangeMaps5
import Derived.Test.YtnjmknofojjlmaaDoorPost
import Derived.LaidMore
import Derived.Deep.DeepHandedRow
namespace Go.Proofs.YtnjmknofojjlmaaDoor
open Go.ChangeShapes Go.WideShapes Go.ChangeAt Go.RowKit
set_option maxRecDepth 100000 in
theorem agg_of_type {W : World} {b0 : Nat} {v : Value} (h : Value.okWide Tryd.prog W .any b0 26 v) : ∃ cs, v = .agg cs := by
  unfold Value.okWide at h
  rw [Tryd.underlying26] at h
  obtain ⟨cs, h, _⟩ := h
  exact ⟨cs, h⟩
set_option maxRecDepth 100000 in
theorem agg_of_field {W : World} {b0 : Nat} {v : Value} (h : Value.okWide Tryd.prog W .any b0 40 v) : ∃ cs, v = .agg cs := by
  unfold Value.okWide at h
  rw [Tryd.underlying40] at h
  obtain ⟨cs, h, _⟩ := h
  exact ⟨cs, h⟩
section
variable {H : Type} {enc : TypeId × Value → H} {W : World} {base : Nat} {sp : Nat → Bool} {held : Bool}
/-- A list of strings as the row reads it. -/
theorem open_way {v : Value} {d : DataW H} {p : List MemPlace} (h : DataW.Trod enc Tryd.prog W base sp held 22 v d p) (hv : ∃ a len cap, v = .slice a len cap) :
    ∃ (A : Option Addr) (xs : List ByteArray) (c : Nat), v = .slice A xs.length c ∧ Strs W W.heap.size (.slice A xs.length c) xs := by
  obtain ⟨fuel, h⟩ := h
  obtain ⟨a0, l0, c0, rfl⟩ := hv
  obtain ⟨v, xs, e, hs, _, _⟩ := t_open_strs (show DataW.trod enc Tryd.prog W base sp held fuel 22 [.slice a0 l0 c0] = some (d, p) from h)
  simp only [List.cons.injEq, and_true] at e
  subst e
  obtain ⟨A, c, e, hc, hk⟩ := hs
  injection e with e1 e2 e3
  subst e1; subst e2; subst e3
  exact ⟨_, xs, _, rfl, _, _, rfl, hc, hk⟩
end
end Go.Proofs.YtnjmknofojjlmaaDoor
