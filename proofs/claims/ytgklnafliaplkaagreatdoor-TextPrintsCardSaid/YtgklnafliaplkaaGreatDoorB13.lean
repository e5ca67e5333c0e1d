/-
  slices.Insert of one document: ahead of the end, where there is room.
-/
import Derived.Test.YtgklnafliaplkaaGreatDoorB12
namespace Go.Proofs.YtgklnafliaplkaaGreatDoor
open Go.RowKit

theorem own_cur {w : World} {base g n cap : Nat} {cs : List Value} (hown : w.ownsRow base 25 5 (.slice (some ⟨g, 0, none⟩) n cap) n cs) :
    ∃ cur : Array Value, w.heap[g]? = some (.cells cur 25 (0, 0)) ∧ base ≤ g ∧ n ≤ cap ∧ cap ≤ maxLen ∧ cur.size = cap * 5 ∧ cur.toList.take (n * 5) = cs := by
  rcases hown.2 with ⟨e, _⟩ | ⟨g', cap', cur, e, hg, hh, a1, a2, a3, a4⟩
  · cases e
  · injection e with e _ e3
    injection e with e
    injection e with e
    subst e; subst e3
    exact ⟨cur, hh, hg, a1, a2, a3, a4⟩
theorem overlaps_no {w : World} {vb g o lb cb : Nat} {ys cur : Array Value} (hv : w.heap[vb]? = some (.cells ys 25 (0, 0))) (hg : w.heap[g]? = some (.cells cur 25 (0, 0))) (hc : cur.size ≠ 0) (hne : vb ≠ g) :
    (callFunc 102 #[.slice (some ⟨vb, 0, none⟩) 1 1, .slice (some ⟨g, o, none⟩) lb cb]).run Tryz.prog w = .ok (.value (.bool false)) w := by
  obtain ⟨i0, hi, _, hz1, _⟩ := info_parts infoD
  have hz : ∀ w, (Go.sizeOf 25).run Tryz.prog w = .ok 5 w := fun w => by simp [sizeOf, typeInfo, hi, hz1]
  have h := Lib.run_overlaps_apart (P := Tryz.prog) w 23 4 25 Tryz.underlying23 5 hz ⟨vb, 0, none⟩ ⟨g, o, none⟩ 1 1 lb cb hne 25 25 ys.size cur.size (by simp [World.shape?, hv]) (by simp [World.shape?, hg]) hc (by simp [World.frozen?, hv]) (by simp [World.frozen?, hv])
  rw [run_callFunc_extern Tryz.func102 (by kernel_rfl) (by kernel_rfl) (by kernel_rfl) (e := Extern.SlicesOverlaps.overlaps #[23, 23] #[4]) (by kernel_rfl), h]
  rfl

set_option maxHeartbeats 4000000 in
set_option maxRecDepth 100000 in
theorem insD_room {w : World} {base n cap i g vb : Nat} {cs : List Value} {y0 y1 y2 y3 y4 : Value} (hown : w.ownsRow base 25 5 (.slice (some ⟨g, 0, none⟩) n cap) n cs) (h1c : ∀ u ∈ cs, u.oneCell' = true) (hi : i < n) (hroom : n + 1 ≤ cap) (hn : n ≤ 10000)
    (hvb : w.heap[vb]? = some (.cells #[y0, y1, y2, y3, y4] 25 (0, 0))) (h1 : ∀ u ∈ [y0, y1, y2, y3, y4], u.oneCell' = true) (hne : vb ≠ g) :
    Calls Tryz.prog 81 #[.slice (some ⟨g, 0, none⟩) n cap, .int .i64 i, .slice (some ⟨vb, 0, none⟩) 1 1] w (InsTold w base (.slice (some ⟨g, 0, none⟩) n cap) n i cs [y0, y1, y2, y3, y4]) := by
  obtain ⟨cur, hcur, hbase, hncap, hcapm, hcsz, htake⟩ := own_cur hown
  have hcm : cap ≤ 9223372036854775807 := hcapm
  have hcl : cs.length = n * 5 := hown.1
  have hdl : (cs.drop (i * 5)).length = (n - i) * 5 := by rw [List.length_drop, hcl, Nat.sub_mul]
  have hcur0 : ∀ j, j < n * 5 → cur[j]? = cs[j]? := fun j hj => by rw [← htake, List.getElem?_take, if_pos hj, Array.getElem?_toList]
  have hcell : ∀ j, w.cell? ⟨g, j, none⟩ = cur[j]? := fun j => cell_of_row w g j _ _ _ hcur
  have hfz : ∀ j, w.frozen? ⟨g, j, none⟩ = false := fun j => by simp [World.frozen?, hcur]
  have hov : ∀ o lb cb, (callFunc 102 #[.slice (some ⟨vb, 0, none⟩) 1 1, .slice (some ⟨g, o, none⟩) lb cb]).run Tryz.prog w = .ok (.value (.bool false)) w := fun o lb cb => overlaps_no hvb hcur (by omega) hne
  have hcp1 : ∀ ty dl dc sl sc, Nat.min sl dl = n - i → (Builtin.copy_ #[23, 23] ty #[.slice (some ⟨g, (i + 1) * 5, none⟩) dl dc, .slice (some ⟨g, i * 5, none⟩) sl sc]).run Tryz.prog w.drew = .ok (goInt (Nat.min sl dl)) (w.drew.setCells g ((i + 1) * 5) (cs.drop (i * 5))) := fun ty dl dc sl sc hm =>
    run_copyD w.drew ty g ((i + 1) * 5) dl dc ⟨g, i * 5, none⟩ sl sc (cs.drop (i * 5)) (by rw [hm]; exact hdl)
      (fun j v hj => by
        rw [Addr.add_lit]
        show w.cell? _ = _
        rw [List.getElem?_drop] at hj
        have hlt := (List.getElem?_eq_some_iff.1 hj).1
        rw [hcell, hcur0 _ (by omega), hj])
      (fun j hj => by
        show (w.cell? _).isSome = true
        rw [hcell, Array.getElem?_eq_getElem (by rw [hdl] at hj; omega)]; rfl)
      (fun j _ => hfz _) (fun u hu => h1c u (List.mem_of_mem_drop hu))
  obtain ⟨W1, hW1⟩ : ∃ W1, W1 = w.drew.setCells g ((i + 1) * 5) (cs.drop (i * 5)) := ⟨_, rfl⟩
  obtain ⟨cur1, c11, c12, c13⟩ := setCells_block (cs.drop (i * 5)) ((i + 1) * 5) w.drew cur hcur
  rw [← hW1] at c11 hcp1
  have hcp2 : ∀ ty dl dc, 1 ≤ dl → (Builtin.copy_ #[23, 23] ty #[.slice (some ⟨g, i * 5, none⟩) dl dc, .slice (some ⟨vb, 0, none⟩) 1 1]).run Tryz.prog W1 = .ok (goInt (Nat.min 1 dl)) (W1.setCells g (i * 5) [y0, y1, y2, y3, y4]) := fun ty dl dc hm =>
    run_copyD W1 ty g (i * 5) dl dc ⟨vb, 0, none⟩ 1 1 [y0, y1, y2, y3, y4] (by rw [show Nat.min 1 dl = 1 from Nat.min_eq_left hm]; rfl)
      (fun j v hj => by
        rw [Addr.add_lit, World.cell?_of_block (a := ⟨vb, 0 + j, none⟩) (w := w) (by rw [hW1, heap_setCells_far (by exact hne)]; rfl)]
        rw [cell_of_row w vb _ _ _ _ hvb, Nat.zero_add]
        simpa using hj)
      (fun j hj => by
        rw [cell_of_row W1 g _ _ _ _ c11, Array.getElem?_eq_getElem (by simp at hj; omega)]; rfl)
      (fun j _ => by simp [World.frozen?, c11]) h1
  have hc1 : ∀ ty, (Builtin.copy_ #[23, 23] ty #[.slice (some ⟨g, (i + 1) * 5, none⟩) (n - i) (cap - (i + 1)), .slice (some ⟨g, i * 5, none⟩) (n + 1 - i) (cap - i)]).run Tryz.prog w.drew = .ok (goInt ((n - i : Nat) : Int)) W1 := fun ty => by
    have h := hcp1 ty (n - i) (cap - (i + 1)) (n + 1 - i) (cap - i) (Nat.min_eq_right (by omega))
    rwa [show Nat.min (n + 1 - i) (n - i) = n - i from Nat.min_eq_right (by omega)] at h
  obtain ⟨W2, hW2⟩ : ∃ W2, W2 = W1.setCells g (i * 5) [y0, y1, y2, y3, y4] := ⟨_, rfl⟩
  have hc2 : ∀ ty, (Builtin.copy_ #[23, 23] ty #[.slice (some ⟨g, i * 5, none⟩) (n + 1 - i) (cap - i), .slice (some ⟨vb, 0, none⟩) 1 1]).run Tryz.prog W1 = .ok (goInt 1) W2 := fun ty => by
    have h := hcp2 ty (n + 1 - i) (cap - i) (by omega)
    rwa [show Nat.min 1 (n + 1 - i) = 1 from Nat.min_eq_left (by omega), ← hW2] at h
  have hz2 : ¬ ((i : Int) = (n : Int)) := by omega
  have hb1 : (0 : Int) ≤ (i : Int) + 1 := by omega
  have hw1 : IntKind.i64.wrap ((i : Int) + 1) = (i : Int) + 1 := by rw [IntKind.wrap_i64]; omega
  have htn : ((i : Int) + 1).toNat = i + 1 := by omega
  have hb2 : ¬ (cap = i + 1) := by omega
  have hb3 : (i : Int) ≤ (n : Int) + 1 := by omega
  have hb4 : ¬ (cap = i) := by omega
  have hb5 : (i : Int) + 1 ≤ (n : Int) + 1 := by omega
  have hb6 : ¬ ((cap : Int) < (n : Int) + 1) := by omega
  have hic : i ≤ n := by omega
  have HF := Lib.hid (And.intro hW2 (And.intro hW1 (And.intro c11 (And.intro c12 (And.intro c13 (And.intro hcur0 (And.intro hcl (And.intro hcsz hbase))))))))
  have HM := Lib.hid hcapm
  clear hcur0 hcell hfz hcp1 hcp2 c11 c12 c13 hW1 hW2 hcl hdl htake hcsz hbase hcapm hown h1c hvb hcur
  go_enter Tryz.func81, Tryz.ntmps81
  go_wp2_with (simp only [hov])
  go_region_law (fail)
  go_wp2_with fail
  go_ret
  obtain ⟨hW2, hW1, c11, c12, c13, hcur0, hcl, hcsz, hbase⟩ := HF.out
  subst hW2
  obtain ⟨cur2, d1, d2, d3⟩ := setCells_block (g := g) (T := 25) (fr := (0, 0)) [y0, y1, y2, y3, y4] (i * 5) W1 cur1 c11
  have t1 := tape_setCells (g := g) [y0, y1, y2, y3, y4] (i * 5) W1
  have t2 := tape_setCells (g := g) (cs.drop (i * 5)) ((i + 1) * 5) w.drew
  rw [← hW1] at t2
  refine ⟨g, cap, rfl, ⟨by simp; omega, .inr ⟨g, cap, cur2, rfl, hbase, d1, hroom, HM.out, by omega, ?_⟩⟩, ?_, .inl rfl⟩
  · exact ins_cells hi hcl rfl (by omega) (fun j hj => hcur0 j (by omega)) c12 c13 d2 d3
  · refine ⟨t1.2.1.trans t2.2.1, t1.1.trans t2.1, t1.2.2.trans t2.2.2, ?_, fun k _ hne => ?_⟩
    · rw [size_setCells, hW1, size_setCells]; exact Nat.le_refl _
    · have hkg : k ≠ g := fun h => hne (by rw [h]; rfl)
      rw [heap_setCells_far hkg, hW1, heap_setCells_far hkg]; rfl
end Go.Proofs.YtgklnafliaplkaaGreatDoor
