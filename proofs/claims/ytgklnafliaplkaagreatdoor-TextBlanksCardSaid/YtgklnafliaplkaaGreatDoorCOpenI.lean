/-
  From the row's reading of a list of numbers to 'Ints'.
-/
import Derived.Test.YtgklnafliaplkaaGreatDoorB01
import Derived.Test.YtgklnafliaplkaaGreatDoorCTBlanks
import Derived.ChangeMaps5
namespace Go.Proofs.YtgklnafliaplkaaGreatDoor
open Go.RowKit Go.Deep
section
variable {H : Type} {enc : TypeId × Value → H} {W : World} {base : Nat} {sp : Nat → Bool} {held : Bool}
theorem open_ints_ {fuel : Nat} {cs : List Value} {x : DataW H × List MemPlace} (h : DataW.trod enc Tryz.prog W base sp held fuel 39 cs = some x) :
    ∃ (v : Value) (xs : List Int), cs = [v] ∧ Ints W W.heap.size v xs := by
  rcases open_slice1 Tryz.underlying39 cInt h with ⟨rfl, _⟩ | ⟨a, len, cap, m, n, V, D, Pl, rfl, _, hl, hc, hm, _, hx⟩
  · exact ⟨_, [], rfl, ⟨none, 0, rfl, by simp, fun h => by simp at h⟩⟩
  · have hlm : len ≤ m := by rw [hm]; split <;> omega
    obtain ⟨xs, hxl, hxp⟩ := pick_list (p := fun i (s : Int) => V i = .int .i64 s) len fun i hi => by
      obtain ⟨s, e, _, hs⟩ := DataW.trod_int Tryz.underlying3 (hx i (by omega)).2
      exact ⟨s, by simpa using e⟩
    refine ⟨_, xs, rfl, ⟨some a, cap, by rw [hxl], by omega, fun h0 => ?_⟩⟩
    obtain ⟨h1, h2⟩ := cell_spot (hx 0 (by omega)).1
    rw [show a.add 0 = a from by simp [Addr.add]] at h1 h2
    refine ⟨a.block, a.off, by rw [← h1], h2, fun i hi => ?_⟩
    have h3 := (hx i (by omega)).1
    rw [h1, add_none] at h3
    rw [h3, hxp i hi]
theorem open_ints {v : Value} {d : DataW H} {p : List MemPlace} (h : DataW.Trod enc Tryz.prog W base sp held 39 v d p) (hv : ∃ a len cap, v = .slice a len cap) : ∃ xs : List Int, Ints W W.heap.size v xs := by
  obtain ⟨fuel, h⟩ := h
  obtain ⟨a0, l0, c0, rfl⟩ := hv
  obtain ⟨v, xs, e, hs⟩ := open_ints_ (show DataW.trod enc Tryz.prog W base sp held fuel 39 [.slice a0 l0 c0] = some (d, p) from h)
  simp only [List.cons.injEq, and_true] at e
  subst e
  exact ⟨xs, hs⟩
end
end Go.Proofs.YtgklnafliaplkaaGreatDoor
