/-
  slices.Insert of one document: ahead of the end, where there is no room: a new row.
-/
import Derived.Test.YtgklnafliaplkaaGreatDoorB13
namespace Go.Proofs.YtgklnafliaplkaaGreatDoor
open Go.RowKit

/-- What stands in the new row behind both copies. -/
theorem ins_cells2 {n i : Nat} {cs ys : List Value} {cur cur1 cur2 : Array Value} (hi : i < n) (hcs : cs.length = n * 5) (hys : ys.length = 5) (hsz : (n + 1) * 5 ≤ cur.size) (h0 : ∀ j, j < i * 5 → cur[j]? = cs[j]?)
    (d2 : cur1.size = cur.size) (d3 : ∀ j, cur1[j]? = if i * 5 ≤ j ∧ j < i * 5 + ys.length ∧ j < cur.size then ys[j - i * 5]? else cur[j]?)
    (c13 : ∀ j, cur2[j]? = if (i + 1) * 5 ≤ j ∧ j < (i + 1) * 5 + (cs.drop (i * 5)).length ∧ j < cur1.size then (cs.drop (i * 5))[j - (i + 1) * 5]? else cur1[j]?) :
    cur2.toList.take ((n + 1) * 5) = cs.take (i * 5) ++ (ys ++ cs.drop (i * 5)) := by
  have hdl : (cs.drop (i * 5)).length = n * 5 - i * 5 := by rw [List.length_drop, hcs]
  apply List.ext_getElem?
  intro j
  rw [List.getElem?_take]
  by_cases hj : j < (n + 1) * 5
  · rw [if_pos hj, Array.getElem?_toList, c13 j]
    by_cases h1 : j < i * 5
    · rw [if_neg (by omega), d3 j, if_neg (by omega), h0 j h1, List.getElem?_append_left (by simp; omega), List.getElem?_take, if_pos h1]
    · rw [List.getElem?_append_right (l₁ := cs.take (i * 5)) (by simp; omega), List.length_take, Nat.min_eq_left (by omega)]
      by_cases h2 : j < i * 5 + 5
      · rw [if_neg (by omega), d3 j, if_pos ⟨by omega, by omega, by omega⟩, List.getElem?_append_left (by omega)]
      · rw [if_pos ⟨by omega, by omega, by omega⟩, List.getElem?_append_right (by omega)]
        congr 1; omega
  · rw [if_neg hj, List.getElem?_eq_none (by simp; omega)]

set_option maxHeartbeats 4000000 in
set_option maxRecDepth 100000 in
theorem insD_grow {w : World} {base n cap i g vb : Nat} {cs : List Value} {y0 y1 y2 y3 y4 : Value} (hown : w.ownsRow base 25 5 (.slice (some ⟨g, 0, none⟩) n cap) n cs) (h1c : ∀ u ∈ cs, u.oneCell' = true) (hi : i < n) (hroom : cap < n + 1) (hn : n ≤ 10000)
    (hvb : w.heap[vb]? = some (.cells #[y0, y1, y2, y3, y4] 25 (0, 0))) (h1 : ∀ u ∈ [y0, y1, y2, y3, y4], u.oneCell' = true) (hbw : base ≤ w.heap.size) :
    Calls Tryz.prog 81 #[.slice (some ⟨g, 0, none⟩) n cap, .int .i64 i, .slice (some ⟨vb, 0, none⟩) 1 1] w (InsTold w base (.slice (some ⟨g, 0, none⟩) n cap) n i cs [y0, y1, y2, y3, y4]) := by
  obtain ⟨i0, hi0, hz0, hz1, hz2⟩ := info_parts infoD
  obtain ⟨cur, hcur, hbase, hncap, hcapm, hcsz, htake⟩ := own_cur hown
  have hcl : cs.length = n * 5 := hown.1
  have hdl : (cs.drop (i * 5)).length = (n - i) * 5 := by rw [List.length_drop, hcl, Nat.sub_mul]
  have hcur0 : ∀ j, j < n * 5 → cur[j]? = cs[j]? := fun j hj => by rw [← htake, List.getElem?_take, if_pos hj, Array.getElem?_toList]
  have hgw : g < w.heap.size := (Array.getElem?_eq_some_iff.1 hcur).1
  have hvw : vb < w.heap.size := (Array.getElem?_eq_some_iff.1 hvb).1
  obtain ⟨G, hG⟩ : ∃ G, G = grownCap w (n + 1) cap 25 := ⟨_, rfl⟩
  have hGn : n + 1 ≤ G := by rw [hG]; exact grownCap_ge w _ _ _
  have hGm : G ≤ maxLen := by rw [hG]; exact grownCap_le_maxLen w (n + 1) cap 25 (by unfold maxLen; omega)
  have hG63 : G ≤ 9223372036854775807 := hGm
  obtain ⟨ROW, hROW⟩ : ∃ ROW : Array Value, ROW = (cs.take (i * 5)).toArray ++ Builtin.zeroCells (Value.agg #[.int .i64 0, .int .i64 0, .string ByteArray.empty, .slice none 0 0, .slice none 0 0]).cells (n + 1 - i) ++ Builtin.zeroCells (Value.agg #[.int .i64 0, .int .i64 0, .string ByteArray.empty, .slice none 0 0, .slice none 0 0]).cells (G - (n + 1)) := ⟨_, rfl⟩
  have hRs : ROW.size = G * 5 := by
    rw [hROW]
    simp [Builtin.zeroCells, Value.cells, hcl]
    omega
  have hR0 : ∀ j, j < i * 5 → ROW[j]? = cs[j]? := fun j hj => by
    rw [hROW, Array.append_assoc, Array.getElem?_append_left (by simp; omega)]
    simp [hj]
  obtain ⟨W1, hW1⟩ : ∃ W1, W1 = w.drew.alloc (.cells ROW 25) := ⟨_, rfl⟩
  have hN1 : W1.heap[w.heap.size]? = some (.cells ROW 25 (0, 0)) := by rw [hW1]; exact heap_alloc_new w.drew _
  have hO1 : ∀ k, k < w.heap.size → W1.heap[k]? = w.heap[k]? := fun k hk => by rw [hW1]; exact Below.heap_alloc w.drew _ k hk
  have hrz : ∀ ty, (Builtin.append_ #[23, 3] ty #[.slice (some ⟨g, 0, none⟩) i cap, .int .i64 ((n : Int) + 1 - (i : Int))]).run Tryz.prog w = .ok (.slice (some ⟨w.heap.size, 0, none⟩) (n + 1) G) W1 := fun ty => by
    have hold : (Builtin.firstCells i0.size i (.slice (some ⟨g, 0, none⟩) i cap)).run Tryz.prog w.drew = .ok (cs.take (i * 5)).toArray w.drew := by
      rw [hz1]
      exact run_firstCells_some w.drew 5 i ⟨g, 0, none⟩ i cap (cs.take (i * 5)) (by rw [List.length_take]; omega) (fun j v hj => by
        rw [Addr.add_lit, Nat.zero_add]
        show w.cell? _ = _
        rw [List.getElem?_take] at hj
        split at hj
        · rw [cell_of_row w g j _ _ _ hcur, hcur0 j (by omega), hj]
        · cases hj)
    have h := Lib.run_append_grow_zeros w 23 3 ty 25 i0 _ .i64 .i64 Tryz.underlying23 Tryz.underlying3 hi0 hz0 (some ⟨g, 0, none⟩) i cap (cs.take (i * 5)) hold (n + 1 - i) (by omega) (by omega) (by omega) (by omega) (by rw [hz2]; omega) (by rw [hz2]; exact growslice_fits (by omega) (by omega))
    rw [show i + (n + 1 - i) = n + 1 by omega, ← hG, ← hROW, ← hW1] at h
    rw [show (n : Int) + 1 - (i : Int) = ((n + 1 - i : Nat) : Int) by omega]
    exact h
  obtain ⟨W2, hW2⟩ : ∃ W2, W2 = W1.setCells w.heap.size (i * 5) [y0, y1, y2, y3, y4] := ⟨_, rfl⟩
  obtain ⟨cur1, c11, c12, c13⟩ := setCells_block [y0, y1, y2, y3, y4] (i * 5) W1 ROW hN1
  rw [← hW2] at c11
  have hO2 : ∀ k, k < w.heap.size → W2.heap[k]? = w.heap[k]? := fun k hk => by rw [hW2, heap_setCells_far (by omega)]; exact hO1 k hk
  have hcpA : ∀ ty dl dc, 1 ≤ dl → (Builtin.copy_ #[23, 23] ty #[.slice (some ⟨w.heap.size, i * 5, none⟩) dl dc, .slice (some ⟨vb, 0, none⟩) 1 1]).run Tryz.prog W1 = .ok (goInt (Nat.min 1 dl)) W2 := fun ty dl dc hm => by
    rw [hW2]
    exact run_copyD W1 ty w.heap.size (i * 5) dl dc ⟨vb, 0, none⟩ 1 1 [y0, y1, y2, y3, y4] (by rw [show Nat.min 1 dl = 1 from Nat.min_eq_left hm]; rfl)
      (fun j v hj => by
        rw [Addr.add_lit, World.cell?_of_block (a := ⟨vb, 0 + j, none⟩) (w := w) (hO1 vb hvw), cell_of_row w vb _ _ _ _ hvb, Nat.zero_add]
        simpa using hj)
      (fun j hj => by rw [cell_of_row W1 _ _ _ _ _ hN1, Array.getElem?_eq_getElem (by simp at hj; omega)]; rfl)
      (fun j _ => by simp [World.frozen?, hN1]) h1
  obtain ⟨W3, hW3⟩ : ∃ W3, W3 = W2.drew.setCells w.heap.size ((i + 1) * 5) (cs.drop (i * 5)) := ⟨_, rfl⟩
  obtain ⟨cur2, d11, d12, d13⟩ := setCells_block (cs.drop (i * 5)) ((i + 1) * 5) W2.drew cur1 c11
  rw [← hW3] at d11
  have hcpB : ∀ ty dl dc sl sc, Nat.min sl dl = n - i → (Builtin.copy_ #[23, 23] ty #[.slice (some ⟨w.heap.size, (i + 1) * 5, none⟩) dl dc, .slice (some ⟨g, i * 5, none⟩) sl sc]).run Tryz.prog W2.drew = .ok (goInt (Nat.min sl dl)) W3 := fun ty dl dc sl sc hm => by
    rw [hW3]
    exact run_copyD W2.drew ty w.heap.size ((i + 1) * 5) dl dc ⟨g, i * 5, none⟩ sl sc (cs.drop (i * 5)) (by rw [hm]; exact hdl)
      (fun j v hj => by
        rw [Addr.add_lit]
        show W2.cell? _ = _
        rw [List.getElem?_drop] at hj
        have hlt := (List.getElem?_eq_some_iff.1 hj).1
        rw [World.cell?_of_block (a := ⟨g, i * 5 + j, none⟩) (w := w) (hO2 g hgw), cell_of_row w g _ _ _ _ hcur, hcur0 _ (by omega), hj])
      (fun j hj => by
        show (W2.cell? _).isSome = true
        rw [cell_of_row W2 _ _ _ _ _ c11, Array.getElem?_eq_getElem (by rw [hdl] at hj; omega)]; rfl)
      (fun j _ => by show W2.frozen? _ = false; simp [World.frozen?, c11]) (fun u hu => h1c u (List.mem_of_mem_drop hu))
  have HRZ := Lib.hid hrz
  have hc1 : ∀ ty, (Builtin.copy_ #[23, 23] ty #[.slice (some ⟨w.heap.size, i * 5, none⟩) (n + 1 - i) (G - i), .slice (some ⟨vb, 0, none⟩) 1 1]).run Tryz.prog W1 = .ok (goInt 1) W2 := fun ty => by
    have h := hcpA ty (n + 1 - i) (G - i) (by omega)
    rwa [show Nat.min 1 (n + 1 - i) = 1 from Nat.min_eq_left (by omega)] at h
  have hc2 : ∀ ty, (Builtin.copy_ #[23, 23] ty #[.slice (some ⟨w.heap.size, (i + 1) * 5, none⟩) (n - i) (G - (i + 1)), .slice (some ⟨g, i * 5, none⟩) (n - i) (cap - i)]).run Tryz.prog W2.drew = .ok (goInt ((n - i : Nat) : Int)) W3 := fun ty => by
    have h := hcpB ty (n - i) (G - (i + 1)) (n - i) (cap - i) (Nat.min_eq_right (by omega))
    rwa [show Nat.min (n - i) (n - i) = n - i from Nat.min_eq_right (by omega)] at h
  have hfin : InsTold w base (.slice (some ⟨g, 0, none⟩) n cap) n i cs [y0, y1, y2, y3, y4] (.returned (.slice (some ⟨w.heap.size, 0, none⟩) (n + 1) G)) W3 := by
    have t1 := tape_setCells (g := w.heap.size) [y0, y1, y2, y3, y4] (i * 5) W1
    have t2 := tape_setCells (g := w.heap.size) (cs.drop (i * 5)) ((i + 1) * 5) W2.drew
    rw [← hW2] at t1; rw [← hW3] at t2
    refine ⟨_, _, rfl, ⟨by simp; omega, .inr ⟨w.heap.size, G, cur2, rfl, hbw, d11, hGn, hGm, by omega, ?_⟩⟩, ?_, .inr (Nat.le_refl _)⟩
    · exact ins_cells2 hi hcl rfl (by omega) hR0 c12 c13 d13
    · have e1 : W1.os = w.os ∧ W1.tape = w.tape ∧ W1.output = w.output ∧ W1.heap.size = w.heap.size + 1 := by rw [hW1]; exact ⟨rfl, rfl, rfl, by simp⟩
      refine ⟨t2.2.1.trans (t1.2.1.trans e1.1), t2.1.trans (t1.1.trans e1.2.1), t2.2.2.trans (t1.2.2.trans e1.2.2.1), ?_, fun k hk _ => ?_⟩
      · rw [hW3, size_setCells]
        show w.heap.size ≤ W2.heap.size
        rw [hW2, size_setCells]; omega
      · rw [hW3, heap_setCells_far (by omega)]
        exact hO2 k hk
  have HFIN := Lib.hid hfin
  have hz2' : ¬ ((i : Int) = (n : Int)) := by omega
  have hb1 : (0 : Int) ≤ (i : Int) + 1 := by omega
  have hw1 : IntKind.i64.wrap ((i : Int) + 1) = (i : Int) + 1 := by rw [IntKind.wrap_i64]; omega
  have htn : ((i : Int) + 1).toNat = i + 1 := by omega
  have hb2 : ¬ (G = i + 1) := by omega
  have hb3 : (i : Int) ≤ (n : Int) + 1 := by omega
  have hb4 : ¬ (cap = i) := by omega
  have hb5 : (i : Int) + 1 ≤ (n : Int) + 1 := by omega
  have hb6 : (cap : Int) < (n : Int) + 1 := by omega
  have hb7 : ¬ (G = i) := by omega
  have hic : i ≤ n := by omega
  have hcm : cap ≤ 9223372036854775807 := hcapm
  clear hfin hrz hcpA hcpB hcur0 c11 c12 c13 d11 d12 d13 hW1 hW2 hW3 hcl hdl htake hcsz hbase hown h1c hvb hcur hO1 hO2 hN1 hR0 hRs hROW hG hi0 hz0 hz1 hz2
  go_enter Tryz.func81, Tryz.ntmps81
  go_wp2_with (at_builtin; refine Lib.wpList_append_run _ rfl _ _ _ _ rfl _ _ rfl rfl _ _ (HRZ.out _) ?_)
  go_region_law (fail)
  go_wp2_with fail
  go_ret
  exact HFIN.out
end Go.Proofs.YtgklnafliaplkaaGreatDoor
