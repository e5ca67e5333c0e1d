/-
  Two appends onto rows of the call's own, whatever comes between them: what all operations of such a region keep.
-/
import Derived.Test.YtmofgfnoogaoeaaDoorTSmall
import Derived.Test.YtmofgfnoogaoeaaDoorGrow4
namespace Go.Proofs.YtmofgfnoogaoeaaDoor
open Go.RowKit

/-- From one world to a later one: what lay below B stays, and so do the call's own rows that begin as L does, and its boxes of a type. -/
def KeepR (B : Nat) (L : List Value) (w w' : World) : Prop :=
  Below B w w' ∧ (∀ (v : Value) (M : List Value), M <+: L → w.ownsRow B 9 1 v M.length M → w'.ownsRow B 9 1 v M.length M) ∧
    (∀ (k : Nat) (cs : Array Value), w.heap[k]? = some (.cells cs 26 (0, 0)) → w'.heap[k]? = some (.cells cs 26 (0, 0)))
theorem KeepR.refl (B : Nat) (L : List Value) (w : World) : KeepR B L w w := ⟨Below.refl _ _, fun _ _ _ h => h, fun _ _ h => h⟩
theorem KeepR.trans {B : Nat} {L : List Value} (a b c : World) (h : KeepR B L a b) (h' : KeepR B L b c) : KeepR B L a c :=
  ⟨h.1.trans h'.1, fun v M hM hv => h'.2.1 v M hM (h.2.1 v M hM hv), fun k cs hk => h'.2.2 k cs (h.2.2 k cs hk)⟩
theorem KeepR.of_below {B : Nat} {L : List Value} {w w' : World} (hB : B ≤ w.heap.size) (h : Below w.heap.size w w') : KeepR B L w w' := by
  refine ⟨h.mono hB, fun v M _ hv => ownsRow_same hv fun k hk => ?_, fun k cs hk => (h.block k (size_block hk)).trans hk⟩
  rcases hv.2 with ⟨rfl, _⟩ | ⟨g, cap, cur, rfl, _, hg, _⟩
  · cases hk
  · injection hk with hk; subst hk; exact h.block _ (size_block hg)
/-- 'append(v, u...)', v a row of the call's own. -/
theorem append_keep {P : Program} {w : World} {B n : Nat} {L M N : List Value} {v u : Value} {t ty : TypeId} (i : TypeInfo) (z : Value) (ht : P.underlying t = some (.slice 9)) (hi : P.info? 9 = some i) (hz : i.zero = some z)
    (hsize : i.size = 1) (hby : i.bytes = 16) (hzs : z.cells.size = 1) (hB : B ≤ w.heap.size) (hown : w.ownsRow B 9 1 v M.length M) (hu : RowV w 1 u n N) (hMN : M ++ N <+: L) (hsm : M.length + N.length ≤ 10000) :
    ∃ v' w', (Builtin.append_ #[t, t] ty #[v, u]).run P w = .ok v' w' ∧ w'.ownsRow B 9 1 v' (M ++ N).length (M ++ N) ∧ KeepR B L w w' := by
  obtain ⟨A, c, rfl, hc, hl, h1, hA, hcell⟩ := hu
  rw [Nat.mul_one] at hl
  cases A with
  | none =>
    obtain rfl := hA rfl
    obtain rfl : N = [] := List.eq_nil_of_length_eq_zero hl
    exact ⟨v, w, run_append_nils (P := P) w t ty 9 i B 1 c ht hi v _ _ hown, by simpa using hown, KeepR.refl _ _ _⟩
  | some ad =>
    have hnews := hcell ad rfl
    have hnl : N.length = n * i.size := by rw [hsize]; omega
    have hlen : (M ++ N).length = M.length + n := by simp [hl]
    have hll : (M ++ N).length = (M ++ N).length * 1 := by omega
    have grown : ∀ (old : Nat), old < M.length + n →
        (w.drew.alloc (.cells (M.toArray ++ N.toArray ++ Builtin.zeroCells z.cells (grownCap w (M.length + n) old 9 - (M.length + n))) 9)).ownsRow B 9 1 (.slice (some ⟨w.heap.size, 0, none⟩) (M.length + n) (grownCap w (M.length + n) old 9)) (M.length + n) (M ++ N) ∧
        KeepR B L w (w.drew.alloc (.cells (M.toArray ++ N.toArray ++ Builtin.zeroCells z.cells (grownCap w (M.length + n) old 9 - (M.length + n))) 9)) := by
      intro old ho
      have hge := grownCap_ge w (M.length + n) old 9
      have hcm : grownCap w (M.length + n) old 9 ≤ maxLen := grownCap_le_maxLen w (M.length + n) old 9 (by unfold maxLen; omega)
      refine ⟨⟨by omega, .inr ⟨w.heap.size, _, _, rfl, hB, heap_alloc_new w.drew _, hge, hcm, ?_, ?_⟩⟩, KeepR.of_below hB ((Below.refl _ _).drew.alloc (Nat.le_refl _) _)⟩
      · simp only [Array.size_append, List.size_toArray, size_zeroCells, hzs, hl]
        omega
      · simp only [Array.toList_append]
        rw [show (M.length + n) * 1 = (M ++ N).length by omega]
        exact List.take_left
    by_cases hn : n = 0
    · subst hn
      obtain rfl : N = [] := List.eq_nil_of_length_eq_zero hl
      rcases hown.2 with ⟨rfl, h0⟩ | ⟨g, cap, cur, rfl, hbg, hg, hnc, hcm, hcs, htake⟩
      · obtain rfl : M = [] := List.eq_nil_of_length_eq_zero h0
        refine ⟨.slice none 0 0, w, ?_, by simpa using hown, KeepR.refl _ _ _⟩
        simp [Builtin.append_, run_underlying ht, sizeOf, typeInfo, hi, Builtin.lenOf, Builtin.firstCells, loadCells, loadCellsFrom]
      · have hr := run_append_room (P := P) w t ty 9 i ht hi g M.length cap cur hg ad 0 c [] (by simp) (by simp) (by simp) (by simpa using hnc) (by rw [hsize, hcs]; simp; omega)
        have e : (List.take (M.length * i.size) cur.toList ++ ([] : List Value) ++ List.drop (M.length * i.size + ([] : List Value).length) cur.toList).toArray = cur := by simp
        rw [e] at hr
        have hsame : ∀ k, (w.setRow g cur).heap[k]? = w.heap[k]? := fun k => by
          by_cases hk : k = g
          · subst hk; rw [setRow_heap w _ cur cur 9 _ hg, hg]
          · exact setRow_other w g k cur hk
        refine ⟨_, _, hr, by simpa using ownsRow_same hown fun k _ => hsame k, ?_⟩
        exact ⟨⟨rfl, rfl, rfl, by simp [World.setRow], fun k _ => hsame k⟩, fun v M' _ hv => ownsRow_same hv fun k _ => hsame k, fun k cs hk => (hsame k).trans hk⟩
    rcases hown.2 with ⟨rfl, h0⟩ | ⟨g, cap, cur, rfl, hbg, hg, hnc, hcm, hcs, htake⟩
    · obtain rfl : M = [] := List.eq_nil_of_length_eq_zero h0
      have hr := run_append_nil (P := P) w t ty 9 i z ht hi hz ad n c N hnl hnews (by omega) (by simp at hsm; omega) (by rw [hby]; simp at hsm; omega)
      have hgr := grown 0 (by simp; omega)
      simp only [List.length_nil, Nat.zero_add, List.nil_append, Array.empty_append] at hgr ⊢
      exact ⟨_, _, hr, by rw [hl]; exact hgr.1, hgr.2⟩
    · by_cases hroom : M.length + n ≤ cap
      · have hfit : M.length * i.size + N.length ≤ cur.size := by rw [hsize, hcs]; omega
        have hr := run_append_room (P := P) w t ty 9 i ht hi g M.length cap cur hg ad n c N hnl hnews h1 hroom hfit
        simp only [hsize, Nat.mul_one] at hr htake hcs
        generalize hcur : (List.take M.length cur.toList ++ N ++ List.drop (M.length + N.length) cur.toList).toArray = cur' at hr
        have hcl : cur'.toList = M ++ N ++ List.drop (M.length + N.length) cur.toList := by rw [← hcur, htake]
        have hcz : cur'.size = cap := by
          rw [← Array.length_toList, hcl]
          simp only [List.length_append, List.length_drop, Array.length_toList, hcs]; omega
        refine ⟨_, _, hr, ⟨by omega, .inr ⟨g, cap, cur', by rw [hlen], hbg, setRow_heap w g cur _ 9 _ hg, by omega, hcm, by omega, ?_⟩⟩, ?_, fun v' M' hM' hv' => ?_, fun k cs hk => ?_⟩
        · rw [Nat.mul_one, hcl]; exact List.take_left
        · exact ⟨rfl, rfl, rfl, by simp [World.setRow], fun k hk => setRow_other w g k _ (by omega)⟩
        · refine ⟨hv'.1, ?_⟩
          rcases hv'.2 with h | ⟨g', cap', cu, hv, hbg', hg', hnc', hcm', hcs', ht'⟩
          · exact .inl h
          · refine .inr ⟨g', cap', ?_⟩
            by_cases hgg : g' = g
            · subst hgg
              rw [hg] at hg'
              simp only [Option.some.injEq, Obj.cells.injEq, and_true] at hg'
              subst hg'
              refine ⟨cur', hv, hbg', setRow_heap w _ cur _ 9 _ hg, hnc', hcm', by omega, ?_⟩
              rw [Nat.mul_one] at ht' ⊢
              refine List.ext_getElem? fun j => ?_
              rw [List.getElem?_take]
              split
              · rename_i hj
                rw [hcl]
                have hL := (List.prefix_iff_getElem?.1 hM') j hj
                rcases Nat.lt_or_ge j (M ++ N).length with hj2 | hj2
                · rw [List.getElem?_append_left hj2]
                  have hL2 := (List.prefix_iff_getElem?.1 hMN) j hj2
                  rw [List.getElem?_eq_getElem hj2, List.getElem?_eq_getElem hj, ← hL2, ← hL]
                · rw [List.getElem?_append_right hj2, List.getElem?_drop, show M.length + N.length + (j - (M ++ N).length) = j by simp at hj2 ⊢; omega]
                  have : (List.take M'.length cur.toList)[j]? = M'[j]? := by rw [ht']
                  rw [List.getElem?_take, if_pos hj] at this
                  exact this
              · rename_i hj
                rw [List.getElem?_eq_none (by omega)]
            · exact ⟨cu, hv, hbg', by rw [setRow_other w g g' _ hgg]; exact hg', hnc', hcm', hcs', ht'⟩
        · by_cases hk2 : k = g
          · subst hk2
            rw [hg] at hk
            simp at hk
          · rw [setRow_other w g k _ hk2]; exact hk
      · have holds : ∀ j u, M[j]? = some u → w.cell? ((⟨g, 0, none⟩ : Addr).add j) = some u := hown.cells (g := g) rfl
        have hr := run_append_grow (P := P) w t ty 9 i z ht hi hz ⟨g, 0, none⟩ M.length cap M (by rw [hsize]; omega) holds ad n c N hnl hnews (by omega) (by omega) (growslice_fits (by omega) (by rw [hby]; omega))
        have hgr := grown cap (by omega)
        exact ⟨_, _, hr, by rw [hlen]; exact hgr.1, hgr.2⟩
end Go.Proofs.YtmofgfnoogaoeaaDoor
