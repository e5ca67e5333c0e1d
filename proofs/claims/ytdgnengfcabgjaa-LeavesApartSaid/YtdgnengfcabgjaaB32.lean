/-
  A row of leaves of memory of its own can be read.
-/
import Derived.Test.YtdgnengfcabgjaaB25
namespace Go.Proofs.Ytdgnengfcabgjaa
open Go.RowKit

instance : Inhabited Mk := ⟨⟨⟨[], .mk 0 0 ⟨#[]⟩ [] []⟩, undef, undef, undef, undef, undef, undef, [], 0, 0⟩⟩
theorem OwnLvs.lvs {w : World} {base : Nat} {v : Value} {ys : List Mk} (h : OwnLvs w base v ys) : LvsIn w w.heap.size v (ys.map (·.lf)) := by
  obtain ⟨⟨_, h2⟩, heach, _⟩ := h
  rcases h2 with ⟨rfl, h0⟩ | ⟨g, cap, cur, rfl, _, hg, hn, _, _, htk⟩
  · exact ⟨none, 0, by rw [List.length_map, h0], by rw [List.length_map]; omega, fun h => by rw [List.length_map] at h; omega⟩
  · refine ⟨some ⟨g, 0, none⟩, cap, by rw [List.length_map], by rw [List.length_map]; exact hn, fun _ => ⟨g, 0, rfl, heap_lt hg, fun k hk => ?_⟩⟩
    rw [List.length_map] at hk
    have hcell : ∀ j, j < 6 → w.cell? ⟨g, 0 + k * 6 + j, none⟩ = some ((Mk.enc ys[k])[j]!) := fun j hj => by
      have hlt : k * 6 + j < ys.length * 6 := by omega
      have e2 : (cur.toList.take (ys.length * 6))[k * 6 + j]? = (ys.flatMap Mk.enc)[k * 6 + j]? := by rw [htk]
      rw [List.getElem?_take_of_lt hlt, Array.getElem?_toList, flatMap_get (enc := Mk.enc) (k := 6) (fun _ => rfl) (by omega) ys _ hlt, show (k * 6 + j) / 6 = k by omega, show (k * 6 + j) % 6 = j by omega, getElem!_pos ys k hk] at e2
      rw [cell_of_row w g (0 + k * 6 + j) _ _ _ hg, Nat.zero_add]
      exact e2
    have hm := (heach ys[k] (List.getElem_mem hk)).1
    refine ⟨_, _, _, _, _, _, hcell 0 (by omega), hcell 1 (by omega), hcell 2 (by omega), hcell 3 (by omega), hcell 4 (by omega), hcell 5 (by omega), ?_, ?_⟩
    · rw [List.getElem_map]; exact Strs_of_own hm.path
    · rw [List.getElem_map]; exact hm.doc.doc
end Go.Proofs.Ytdgnengfcabgjaa
