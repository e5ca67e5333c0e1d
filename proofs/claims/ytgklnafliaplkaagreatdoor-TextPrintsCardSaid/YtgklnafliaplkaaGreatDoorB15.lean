/-
  slices.Insert of one string into a row of the call's own.
  slices.Insert of one document, and of one string, wherever.
-/
import Derived.Test.YtgklnafliaplkaaGreatDoorB14
namespace Go.Proofs.YtgklnafliaplkaaGreatDoor
open Go.RowKit

/-- What Insert tells of a row of documents: the five cells ns stand at place i. -/
def InsToldS (w : World) (base : Nat) (v : Value) (n i : Nat) (cs ns : List Value) (e : Ending) (w' : World) : Prop :=
  ∃ g cap, e = .returned (.slice (some ⟨g, 0, none⟩) (n + 1) cap) ∧ w'.ownsRow base 9 1 (.slice (some ⟨g, 0, none⟩) (n + 1) cap) (n + 1) (cs.take (i * 1) ++ (ns ++ cs.drop (i * 1))) ∧ w.grownBy w' v.ownBlock ∧ (v.ownBlock = some g ∨ w.heap.size ≤ g)

/-- copy of documents: what src held before goes to dst. -/
theorem run_copyDS (w : World) (ty : TypeId) (g o dLen dCap : Nat) (a : Addr) (sLen sCap : Nat) (cs : List Value) (hn : cs.length = Nat.min sLen dLen * 1) (hsrc : ∀ j v, cs[j]? = some v → w.cell? (a.add j) = some v)
    (hc : ∀ j, j < cs.length → (w.cell? ⟨g, o + j, none⟩).isSome = true) (hf : ∀ j, j < cs.length → w.frozen? ⟨g, o + j, none⟩ = false) (h1 : ∀ v ∈ cs, v.oneCell' = true) :
    (Builtin.copy_ #[22, 22] ty #[.slice (some ⟨g, o, none⟩) dLen dCap, .slice (some a) sLen sCap]).run Tryz.prog w = .ok (goInt (Nat.min sLen dLen)) (w.setCells g o cs) := by
  obtain ⟨i0, hi, _, hz1, _⟩ := info_parts infoS
  have hst := run_storeCells_cells (P := Tryz.prog) g o cs 0 w (by simpa using hc) (by simpa using hf) h1
  have hfc := run_firstCells_some (P := Tryz.prog) (w := w) 1 (Nat.min sLen dLen) a sLen sCap cs hn hsrc
  simp only [Nat.add_zero] at hst
  simp [Builtin.copy_, run_underlying Tryz.underlying22, Builtin.lenOf, sizeOf, typeInfo, hi, hz1, hfc, hst]

set_option maxHeartbeats 2000000 in
set_option maxRecDepth 100000 in
/-- .. at the end. -/
theorem insS_end {w : World} {base n c vb : Nat} {A : Option Addr} {cs : List Value} {y0 : Value} (hown : w.ownsRow base 9 1 (.slice A n c) n cs) (hn : n ≤ 10000) (hvb : w.heap[vb]? = some (.cells #[y0] 9 (0, 0)))
    (h1 : ∀ u ∈ [y0], u.oneCell' = true) (hbase : base ≤ w.heap.size) :
    Calls Tryz.prog 80 #[.slice A n c, .int .i64 n, .slice (some ⟨vb, 0, none⟩) 1 1] w (InsToldS w base (.slice A n c) n n cs [y0]) := by
  obtain ⟨i0, hi, hz0, hz1, hz2⟩ := info_parts infoS
  have HI := Lib.hid hi; have HZ0 := Lib.hid hz0; have HZ1 := Lib.hid hz1; have HZ2 := Lib.hid hz2
  have HO := Lib.hid hown; have HV := Lib.hid hvb; have H1 := Lib.hid h1
  have hl := hown.1
  have ht : cs.take (n * 1) = cs := List.take_of_length_le (by omega)
  have hd : cs.drop (n * 1) = [] := List.drop_eq_nil_of_le (by omega)
  have HT := Lib.hid (And.intro ht hd)
  have hform : (A = none ∧ n = 0 ∧ c = 0) ∨ ∃ g, A = some ⟨g, 0, none⟩ ∧ n ≤ c := by
    rcases hown.2 with ⟨e, h0⟩ | ⟨g, cap, cur, e, _, _, a1, _⟩
    · injection e with e1 e2 e3; exact .inl ⟨e1, e2, e3⟩
    · injection e with e1 e2 e3; exact .inr ⟨g, e1, by omega⟩
  clear hi hz0 hz1 hz2 hown hvb h1 ht hd hl
  rcases hform with ⟨rfl, rfl, rfl⟩ | ⟨g, rfl, hnc⟩
  · go_enter Tryz.func80, Tryz.ntmps80
    go_wp2_with (at_builtin; refine wpList_append_lies _ rfl _ _ 22 rfl base 9 i0 (.string ByteArray.empty) 1 16 Tryz.underlying22 HI.out HZ0.out HZ1.out HZ2.out (by rfl) (by omega) _ 0 cs rfl HO.out ⟨vb, 0, none⟩ 1 _ [y0] rfl rfl (World.news_of_block HV.out) H1.out (by omega) (by unfold maxLen; omega) (by omega) hbase w.heap.size rfl ?_; intro g cap w3 hown3 hgrow3 hat3 hlt3)
    go_ret
    refine ⟨g, cap, rfl, ?_, hgrow3, ?_⟩
    · rw [HT.out.1, HT.out.2]; simpa using hown3
    · rcases hat3 with h | h
      · exact .inl h
      · exact .inr (by omega)
  · go_enter Tryz.func80, Tryz.ntmps80
    go_wp2_with (at_builtin; refine wpList_append_lies _ rfl _ _ 22 rfl base 9 i0 (.string ByteArray.empty) 1 16 Tryz.underlying22 HI.out HZ0.out HZ1.out HZ2.out (by rfl) (by omega) _ n cs rfl HO.out ⟨vb, 0, none⟩ 1 _ [y0] rfl rfl (World.news_of_block HV.out) H1.out (by omega) (by unfold maxLen; omega) (by omega) hbase w.heap.size rfl ?_; intro g' cap w3 hown3 hgrow3 hat3 hlt3)
    all_goals
      go_ret
      refine ⟨_, _, rfl, ?_, hgrow3, ?_⟩
      · rw [HT.out.1, HT.out.2]; simpa using hown3
      · rcases hat3 with h | h
        · exact .inl h
        · exact .inr (by omega)

/-- What stands in the row behind both copies. -/
theorem ins_cellsS {n i : Nat} {cs ys : List Value} {cur cur1 cur2 : Array Value} (hi : i < n) (hcs : cs.length = n * 1) (hys : ys.length = 1) (hsz : (n + 1) * 1 ≤ cur.size) (h0 : ∀ j, j < i * 1 → cur[j]? = cs[j]?)
    (c12 : cur1.size = cur.size) (c13 : ∀ j, cur1[j]? = if (i + 1) * 1 ≤ j ∧ j < (i + 1) * 1 + (cs.drop (i * 1)).length ∧ j < cur.size then (cs.drop (i * 1))[j - (i + 1) * 1]? else cur[j]?)
    (d2 : cur2.size = cur1.size) (d3 : ∀ j, cur2[j]? = if i * 1 ≤ j ∧ j < i * 1 + ys.length ∧ j < cur1.size then ys[j - i * 1]? else cur1[j]?) :
    cur2.toList.take ((n + 1) * 1) = cs.take (i * 1) ++ (ys ++ cs.drop (i * 1)) := by
  have hdl : (cs.drop (i * 1)).length = n * 1 - i * 1 := by rw [List.length_drop, hcs]
  apply List.ext_getElem?
  intro j
  rw [List.getElem?_take]
  by_cases hj : j < (n + 1) * 1
  · rw [if_pos hj, Array.getElem?_toList, d3 j]
    by_cases h1 : j < i * 1
    · rw [if_neg (by omega), c13 j, if_neg (by omega), h0 j h1, List.getElem?_append_left (by simp; omega), List.getElem?_take, if_pos h1]
    · rw [List.getElem?_append_right (by simp; omega), List.length_take, Nat.min_eq_left (by omega)]
      by_cases h2 : j < i * 1 + 1
      · rw [if_pos ⟨by omega, by omega, by omega⟩, List.getElem?_append_left (by omega)]
      · rw [if_neg (by omega), c13 j, if_pos ⟨by omega, by omega, by omega⟩, List.getElem?_append_right (by omega)]
        congr 1; omega
  · rw [if_neg hj, List.getElem?_eq_none (by simp; omega)]

theorem own_curS {w : World} {base g n cap : Nat} {cs : List Value} (hown : w.ownsRow base 9 1 (.slice (some ⟨g, 0, none⟩) n cap) n cs) :
    ∃ cur : Array Value, w.heap[g]? = some (.cells cur 9 (0, 0)) ∧ base ≤ g ∧ n ≤ cap ∧ cap ≤ maxLen ∧ cur.size = cap * 1 ∧ cur.toList.take (n * 1) = cs := by
  rcases hown.2 with ⟨e, _⟩ | ⟨g', cap', cur, e, hg, hh, a1, a2, a3, a4⟩
  · cases e
  · injection e with e _ e3
    injection e with e
    injection e with e
    subst e; subst e3
    exact ⟨cur, hh, hg, a1, a2, a3, a4⟩
theorem overlaps_noS {w : World} {vb g o lb cb : Nat} {ys cur : Array Value} (hv : w.heap[vb]? = some (.cells ys 9 (0, 0))) (hg : w.heap[g]? = some (.cells cur 9 (0, 0))) (hc : cur.size ≠ 0) (hne : vb ≠ g) :
    (callFunc 100 #[.slice (some ⟨vb, 0, none⟩) 1 1, .slice (some ⟨g, o, none⟩) lb cb]).run Tryz.prog w = .ok (.value (.bool false)) w := by
  obtain ⟨i0, hi, _, hz1, _⟩ := info_parts infoS
  have hz : ∀ w, (Go.sizeOf 9).run Tryz.prog w = .ok 1 w := fun w => by simp [sizeOf, typeInfo, hi, hz1]
  have h := Lib.run_overlaps_apart (P := Tryz.prog) w 22 4 9 Tryz.underlying22 1 hz ⟨vb, 0, none⟩ ⟨g, o, none⟩ 1 1 lb cb hne 9 9 ys.size cur.size (by simp [World.shape?, hv]) (by simp [World.shape?, hg]) hc (by simp [World.frozen?, hv]) (by simp [World.frozen?, hv])
  rw [run_callFunc_extern Tryz.func100 (by kernel_rfl) (by kernel_rfl) (by kernel_rfl) (e := Extern.SlicesOverlaps.overlaps #[22, 22] #[4]) (by kernel_rfl), h]
  rfl

set_option maxHeartbeats 4000000 in
set_option maxRecDepth 100000 in
theorem insS_room {w : World} {base n cap i g vb : Nat} {cs : List Value} {y0 : Value} (hown : w.ownsRow base 9 1 (.slice (some ⟨g, 0, none⟩) n cap) n cs) (h1c : ∀ u ∈ cs, u.oneCell' = true) (hi : i < n) (hroom : n + 1 ≤ cap) (hn : n ≤ 10000)
    (hvb : w.heap[vb]? = some (.cells #[y0] 9 (0, 0))) (h1 : ∀ u ∈ [y0], u.oneCell' = true) (hne : vb ≠ g) :
    Calls Tryz.prog 80 #[.slice (some ⟨g, 0, none⟩) n cap, .int .i64 i, .slice (some ⟨vb, 0, none⟩) 1 1] w (InsToldS w base (.slice (some ⟨g, 0, none⟩) n cap) n i cs [y0]) := by
  obtain ⟨cur, hcur, hbase, hncap, hcapm, hcsz, htake⟩ := own_curS hown
  have hcm : cap ≤ 9223372036854775807 := hcapm
  have hcl : cs.length = n * 1 := hown.1
  have hdl : (cs.drop (i * 1)).length = (n - i) * 1 := by rw [List.length_drop, hcl, Nat.sub_mul]
  have hcur0 : ∀ j, j < n * 1 → cur[j]? = cs[j]? := fun j hj => by rw [← htake, List.getElem?_take, if_pos hj, Array.getElem?_toList]
  have hcell : ∀ j, w.cell? ⟨g, j, none⟩ = cur[j]? := fun j => cell_of_row w g j _ _ _ hcur
  have hfz : ∀ j, w.frozen? ⟨g, j, none⟩ = false := fun j => by simp [World.frozen?, hcur]
  have hov : ∀ o lb cb, (callFunc 100 #[.slice (some ⟨vb, 0, none⟩) 1 1, .slice (some ⟨g, o, none⟩) lb cb]).run Tryz.prog w = .ok (.value (.bool false)) w := fun o lb cb => overlaps_noS hvb hcur (by omega) hne
  have hcp1 : ∀ ty dl dc sl sc, Nat.min sl dl = n - i → (Builtin.copy_ #[22, 22] ty #[.slice (some ⟨g, (i + 1) * 1, none⟩) dl dc, .slice (some ⟨g, i * 1, none⟩) sl sc]).run Tryz.prog w.drew = .ok (goInt (Nat.min sl dl)) (w.drew.setCells g ((i + 1) * 1) (cs.drop (i * 1))) := fun ty dl dc sl sc hm =>
    run_copyDS w.drew ty g ((i + 1) * 1) dl dc ⟨g, i * 1, none⟩ sl sc (cs.drop (i * 1)) (by rw [hm]; exact hdl)
      (fun j v hj => by
        rw [Addr.add_lit]
        show w.cell? _ = _
        rw [List.getElem?_drop] at hj
        have hlt := (List.getElem?_eq_some_iff.1 hj).1
        rw [hcell, hcur0 _ (by omega), hj])
      (fun j hj => by
        show (w.cell? _).isSome = true
        rw [hcell, Array.getElem?_eq_getElem (by rw [hdl] at hj; omega)]; rfl)
      (fun j _ => hfz _) (fun u hu => h1c u (List.mem_of_mem_drop hu))
  obtain ⟨W1, hW1⟩ : ∃ W1, W1 = w.drew.setCells g ((i + 1) * 1) (cs.drop (i * 1)) := ⟨_, rfl⟩
  obtain ⟨cur1, c11, c12, c13⟩ := setCells_block (cs.drop (i * 1)) ((i + 1) * 1) w.drew cur hcur
  rw [← hW1] at c11 hcp1
  have hcp2 : ∀ ty dl dc, 1 ≤ dl → (Builtin.copy_ #[22, 22] ty #[.slice (some ⟨g, i * 1, none⟩) dl dc, .slice (some ⟨vb, 0, none⟩) 1 1]).run Tryz.prog W1 = .ok (goInt (Nat.min 1 dl)) (W1.setCells g (i * 1) [y0]) := fun ty dl dc hm =>
    run_copyDS W1 ty g (i * 1) dl dc ⟨vb, 0, none⟩ 1 1 [y0] (by rw [show Nat.min 1 dl = 1 from Nat.min_eq_left hm]; rfl)
      (fun j v hj => by
        rw [Addr.add_lit, World.cell?_of_block (a := ⟨vb, 0 + j, none⟩) (w := w) (by rw [hW1, heap_setCells_far (by exact hne)]; rfl)]
        rw [cell_of_row w vb _ _ _ _ hvb, Nat.zero_add]
        simpa using hj)
      (fun j hj => by
        rw [cell_of_row W1 g _ _ _ _ c11, Array.getElem?_eq_getElem (by simp at hj; omega)]; rfl)
      (fun j _ => by simp [World.frozen?, c11]) h1
  have hc1 : ∀ ty, (Builtin.copy_ #[22, 22] ty #[.slice (some ⟨g, i + 1, none⟩) (n - i) (cap - (i + 1)), .slice (some ⟨g, i, none⟩) (n + 1 - i) (cap - i)]).run Tryz.prog w.drew = .ok (goInt ((n - i : Nat) : Int)) W1 := fun ty => by
    have h := hcp1 ty (n - i) (cap - (i + 1)) (n + 1 - i) (cap - i) (Nat.min_eq_right (by omega))
    rw [show Nat.min (n + 1 - i) (n - i) = n - i from Nat.min_eq_right (by omega)] at h
    simp only [Nat.mul_one] at h; exact h
  obtain ⟨W2, hW2⟩ : ∃ W2, W2 = W1.setCells g (i * 1) [y0] := ⟨_, rfl⟩
  have hc2 : ∀ ty, (Builtin.copy_ #[22, 22] ty #[.slice (some ⟨g, i, none⟩) (n + 1 - i) (cap - i), .slice (some ⟨vb, 0, none⟩) 1 1]).run Tryz.prog W1 = .ok (goInt 1) W2 := fun ty => by
    have h := hcp2 ty (n + 1 - i) (cap - i) (by omega)
    rw [show Nat.min 1 (n + 1 - i) = 1 from Nat.min_eq_left (by omega), ← hW2] at h
    simp only [Nat.mul_one] at h; exact h
  have hz2 : ¬ ((i : Int) = (n : Int)) := by omega
  have hb1 : (0 : Int) ≤ (i : Int) + 1 := by omega
  have hw1 : IntKind.i64.wrap ((i : Int) + 1) = (i : Int) + 1 := by rw [IntKind.wrap_i64]; omega
  have htn : ((i : Int) + 1).toNat = i + 1 := by omega
  have hb2 : ¬ (cap = i + 1) := by omega
  have hb3 : (i : Int) ≤ (n : Int) + 1 := by omega
  have hb4 : ¬ (cap = i) := by omega
  have hb5 : (i : Int) + 1 ≤ (n : Int) + 1 := by omega
  have hb6 : ¬ ((cap : Int) < (n : Int) + 1) := by omega
  have hic : i ≤ n := by omega
  have HF := Lib.hid (And.intro hW2 (And.intro hW1 (And.intro c11 (And.intro c12 (And.intro c13 (And.intro hcur0 (And.intro hcl (And.intro hcsz hbase))))))))
  have HM := Lib.hid hcapm
  clear hcur0 hcell hfz hcp1 hcp2 c11 c12 c13 hW1 hW2 hcl hdl htake hcsz hbase hcapm hown h1c hvb hcur
  go_enter Tryz.func80, Tryz.ntmps80
  go_wp2_with (simp only [hov])
  go_region_law (fail)
  go_wp2_with fail
  go_ret
  obtain ⟨hW2, hW1, c11, c12, c13, hcur0, hcl, hcsz, hbase⟩ := HF.out
  subst hW2
  obtain ⟨cur2, d1, d2, d3⟩ := setCells_block (g := g) (T := 9) (fr := (0, 0)) [y0] (i * 1) W1 cur1 c11
  have t1 := tape_setCells (g := g) [y0] (i * 1) W1
  have t2 := tape_setCells (g := g) (cs.drop (i * 1)) ((i + 1) * 1) w.drew
  rw [← hW1] at t2
  refine ⟨g, cap, rfl, ⟨by simp; omega, .inr ⟨g, cap, cur2, rfl, hbase, d1, hroom, HM.out, by omega, ?_⟩⟩, ?_, .inl rfl⟩
  · exact ins_cellsS hi hcl rfl (by omega) (fun j hj => hcur0 j (by omega)) c12 c13 d2 d3
  · refine ⟨t1.2.1.trans t2.2.1, t1.1.trans t2.1, t1.2.2.trans t2.2.2, ?_, fun k _ hne => ?_⟩
    · rw [size_setCells, hW1, size_setCells]; exact Nat.le_refl _
    · have hkg : k ≠ g := fun h => hne (by rw [h]; rfl)
      rw [heap_setCells_far hkg, hW1, heap_setCells_far hkg]; rfl

/-- What stands in the new row behind both copies. -/
theorem ins_cells2S {n i : Nat} {cs ys : List Value} {cur cur1 cur2 : Array Value} (hi : i < n) (hcs : cs.length = n * 1) (hys : ys.length = 1) (hsz : (n + 1) * 1 ≤ cur.size) (h0 : ∀ j, j < i * 1 → cur[j]? = cs[j]?)
    (d2 : cur1.size = cur.size) (d3 : ∀ j, cur1[j]? = if i * 1 ≤ j ∧ j < i * 1 + ys.length ∧ j < cur.size then ys[j - i * 1]? else cur[j]?)
    (c13 : ∀ j, cur2[j]? = if (i + 1) * 1 ≤ j ∧ j < (i + 1) * 1 + (cs.drop (i * 1)).length ∧ j < cur1.size then (cs.drop (i * 1))[j - (i + 1) * 1]? else cur1[j]?) :
    cur2.toList.take ((n + 1) * 1) = cs.take (i * 1) ++ (ys ++ cs.drop (i * 1)) := by
  have hdl : (cs.drop (i * 1)).length = n * 1 - i * 1 := by rw [List.length_drop, hcs]
  apply List.ext_getElem?
  intro j
  rw [List.getElem?_take]
  by_cases hj : j < (n + 1) * 1
  · rw [if_pos hj, Array.getElem?_toList, c13 j]
    by_cases h1 : j < i * 1
    · rw [if_neg (by omega), d3 j, if_neg (by omega), h0 j h1, List.getElem?_append_left (by simp; omega), List.getElem?_take, if_pos h1]
    · rw [List.getElem?_append_right (l₁ := cs.take (i * 1)) (by simp; omega), List.length_take, Nat.min_eq_left (by omega)]
      by_cases h2 : j < i * 1 + 1
      · rw [if_neg (by omega), d3 j, if_pos ⟨by omega, by omega, by omega⟩, List.getElem?_append_left (by omega)]
      · rw [if_pos ⟨by omega, by omega, by omega⟩, List.getElem?_append_right (by omega)]
        congr 1; omega
  · rw [if_neg hj, List.getElem?_eq_none (by simp; omega)]

set_option maxHeartbeats 4000000 in
set_option maxRecDepth 100000 in
theorem insS_grow {w : World} {base n cap i g vb : Nat} {cs : List Value} {y0 : Value} (hown : w.ownsRow base 9 1 (.slice (some ⟨g, 0, none⟩) n cap) n cs) (h1c : ∀ u ∈ cs, u.oneCell' = true) (hi : i < n) (hroom : cap < n + 1) (hn : n ≤ 10000)
    (hvb : w.heap[vb]? = some (.cells #[y0] 9 (0, 0))) (h1 : ∀ u ∈ [y0], u.oneCell' = true) (hbw : base ≤ w.heap.size) :
    Calls Tryz.prog 80 #[.slice (some ⟨g, 0, none⟩) n cap, .int .i64 i, .slice (some ⟨vb, 0, none⟩) 1 1] w (InsToldS w base (.slice (some ⟨g, 0, none⟩) n cap) n i cs [y0]) := by
  obtain ⟨i0, hi0, hz0, hz1, hz2⟩ := info_parts infoS
  obtain ⟨cur, hcur, hbase, hncap, hcapm, hcsz, htake⟩ := own_curS hown
  have hcl : cs.length = n * 1 := hown.1
  have hdl : (cs.drop (i * 1)).length = (n - i) * 1 := by rw [List.length_drop, hcl, Nat.sub_mul]
  have hcur0 : ∀ j, j < n * 1 → cur[j]? = cs[j]? := fun j hj => by rw [← htake, List.getElem?_take, if_pos hj, Array.getElem?_toList]
  have hgw : g < w.heap.size := (Array.getElem?_eq_some_iff.1 hcur).1
  have hvw : vb < w.heap.size := (Array.getElem?_eq_some_iff.1 hvb).1
  obtain ⟨G, hG⟩ : ∃ G, G = grownCap w (n + 1) cap 9 := ⟨_, rfl⟩
  have hGn : n + 1 ≤ G := by rw [hG]; exact grownCap_ge w _ _ _
  have hGm : G ≤ maxLen := by rw [hG]; exact grownCap_le_maxLen w (n + 1) cap 9 (by unfold maxLen; omega)
  have hG63 : G ≤ 9223372036854775807 := hGm
  obtain ⟨ROW, hROW⟩ : ∃ ROW : Array Value, ROW = (cs.take (i * 1)).toArray ++ Builtin.zeroCells (Value.string ByteArray.empty).cells (n + 1 - i) ++ Builtin.zeroCells (Value.string ByteArray.empty).cells (G - (n + 1)) := ⟨_, rfl⟩
  have hRs : ROW.size = G * 1 := by
    rw [hROW]
    simp [Builtin.zeroCells, Value.cells, hcl]
    omega
  have hR0 : ∀ j, j < i * 1 → ROW[j]? = cs[j]? := fun j hj => by
    rw [hROW, Array.append_assoc, Array.getElem?_append_left (by simp; omega)]
    simp [show j < i by omega]
  obtain ⟨W1, hW1⟩ : ∃ W1, W1 = w.drew.alloc (.cells ROW 9) := ⟨_, rfl⟩
  have hN1 : W1.heap[w.heap.size]? = some (.cells ROW 9 (0, 0)) := by rw [hW1]; exact heap_alloc_new w.drew _
  have hO1 : ∀ k, k < w.heap.size → W1.heap[k]? = w.heap[k]? := fun k hk => by rw [hW1]; exact Below.heap_alloc w.drew _ k hk
  have hrz : ∀ ty, (Builtin.append_ #[22, 3] ty #[.slice (some ⟨g, 0, none⟩) i cap, .int .i64 ((n : Int) + 1 - (i : Int))]).run Tryz.prog w = .ok (.slice (some ⟨w.heap.size, 0, none⟩) (n + 1) G) W1 := fun ty => by
    have hold : (Builtin.firstCells i0.size i (.slice (some ⟨g, 0, none⟩) i cap)).run Tryz.prog w.drew = .ok (cs.take (i * 1)).toArray w.drew := by
      rw [hz1]
      exact run_firstCells_some w.drew 1 i ⟨g, 0, none⟩ i cap (cs.take (i * 1)) (by rw [List.length_take]; omega) (fun j v hj => by
        rw [Addr.add_lit, Nat.zero_add]
        show w.cell? _ = _
        rw [List.getElem?_take] at hj
        split at hj
        · rw [cell_of_row w g j _ _ _ hcur, hcur0 j (by omega), hj]
        · cases hj)
    have h := Lib.run_append_grow_zeros w 22 3 ty 9 i0 _ .i64 .i64 Tryz.underlying22 Tryz.underlying3 hi0 hz0 (some ⟨g, 0, none⟩) i cap (cs.take (i * 1)) hold (n + 1 - i) (by omega) (by omega) (by omega) (by omega) (by rw [hz2]; omega) (by rw [hz2]; exact growslice_fits (by omega) (by omega))
    rw [show i + (n + 1 - i) = n + 1 by omega, ← hG, ← hROW, ← hW1] at h
    rw [show (n : Int) + 1 - (i : Int) = ((n + 1 - i : Nat) : Int) by omega]
    exact h
  obtain ⟨W2, hW2⟩ : ∃ W2, W2 = W1.setCells w.heap.size (i * 1) [y0] := ⟨_, rfl⟩
  obtain ⟨cur1, c11, c12, c13⟩ := setCells_block [y0] (i * 1) W1 ROW hN1
  rw [← hW2] at c11
  have hO2 : ∀ k, k < w.heap.size → W2.heap[k]? = w.heap[k]? := fun k hk => by rw [hW2, heap_setCells_far (by omega)]; exact hO1 k hk
  have hcpA : ∀ ty dl dc, 1 ≤ dl → (Builtin.copy_ #[22, 22] ty #[.slice (some ⟨w.heap.size, i * 1, none⟩) dl dc, .slice (some ⟨vb, 0, none⟩) 1 1]).run Tryz.prog W1 = .ok (goInt (Nat.min 1 dl)) W2 := fun ty dl dc hm => by
    rw [hW2]
    exact run_copyDS W1 ty w.heap.size (i * 1) dl dc ⟨vb, 0, none⟩ 1 1 [y0] (by rw [show Nat.min 1 dl = 1 from Nat.min_eq_left hm]; rfl)
      (fun j v hj => by
        rw [Addr.add_lit, World.cell?_of_block (a := ⟨vb, 0 + j, none⟩) (w := w) (hO1 vb hvw), cell_of_row w vb _ _ _ _ hvb, Nat.zero_add]
        simpa using hj)
      (fun j hj => by rw [cell_of_row W1 _ _ _ _ _ hN1, Array.getElem?_eq_getElem (by simp at hj; omega)]; rfl)
      (fun j _ => by simp [World.frozen?, hN1]) h1
  obtain ⟨W3, hW3⟩ : ∃ W3, W3 = W2.drew.setCells w.heap.size ((i + 1) * 1) (cs.drop (i * 1)) := ⟨_, rfl⟩
  obtain ⟨cur2, d11, d12, d13⟩ := setCells_block (cs.drop (i * 1)) ((i + 1) * 1) W2.drew cur1 c11
  rw [← hW3] at d11
  have hcpB : ∀ ty dl dc sl sc, Nat.min sl dl = n - i → (Builtin.copy_ #[22, 22] ty #[.slice (some ⟨w.heap.size, (i + 1) * 1, none⟩) dl dc, .slice (some ⟨g, i * 1, none⟩) sl sc]).run Tryz.prog W2.drew = .ok (goInt (Nat.min sl dl)) W3 := fun ty dl dc sl sc hm => by
    rw [hW3]
    exact run_copyDS W2.drew ty w.heap.size ((i + 1) * 1) dl dc ⟨g, i * 1, none⟩ sl sc (cs.drop (i * 1)) (by rw [hm]; exact hdl)
      (fun j v hj => by
        rw [Addr.add_lit]
        show W2.cell? _ = _
        rw [List.getElem?_drop] at hj
        have hlt := (List.getElem?_eq_some_iff.1 hj).1
        rw [World.cell?_of_block (a := ⟨g, i * 1 + j, none⟩) (w := w) (hO2 g hgw), cell_of_row w g _ _ _ _ hcur, hcur0 _ (by omega), hj])
      (fun j hj => by
        show (W2.cell? _).isSome = true
        rw [cell_of_row W2 _ _ _ _ _ c11, Array.getElem?_eq_getElem (by rw [hdl] at hj; omega)]; rfl)
      (fun j _ => by show W2.frozen? _ = false; simp [World.frozen?, c11]) (fun u hu => h1c u (List.mem_of_mem_drop hu))
  have HRZ := Lib.hid hrz
  have hc1 : ∀ ty, (Builtin.copy_ #[22, 22] ty #[.slice (some ⟨w.heap.size, i, none⟩) (n + 1 - i) (G - i), .slice (some ⟨vb, 0, none⟩) 1 1]).run Tryz.prog W1 = .ok (goInt 1) W2 := fun ty => by
    have h := hcpA ty (n + 1 - i) (G - i) (by omega)
    rw [show Nat.min 1 (n + 1 - i) = 1 from Nat.min_eq_left (by omega)] at h
    simp only [Nat.mul_one] at h; exact h
  have hc2 : ∀ ty, (Builtin.copy_ #[22, 22] ty #[.slice (some ⟨w.heap.size, i + 1, none⟩) (n - i) (G - (i + 1)), .slice (some ⟨g, i, none⟩) (n - i) (cap - i)]).run Tryz.prog W2.drew = .ok (goInt ((n - i : Nat) : Int)) W3 := fun ty => by
    have h := hcpB ty (n - i) (G - (i + 1)) (n - i) (cap - i) (Nat.min_eq_right (by omega))
    rw [show Nat.min (n - i) (n - i) = n - i from Nat.min_eq_right (by omega)] at h
    simp only [Nat.mul_one] at h; exact h
  have hfin : InsToldS w base (.slice (some ⟨g, 0, none⟩) n cap) n i cs [y0] (.returned (.slice (some ⟨w.heap.size, 0, none⟩) (n + 1) G)) W3 := by
    have t1 := tape_setCells (g := w.heap.size) [y0] (i * 1) W1
    have t2 := tape_setCells (g := w.heap.size) (cs.drop (i * 1)) ((i + 1) * 1) W2.drew
    rw [← hW2] at t1; rw [← hW3] at t2
    refine ⟨_, _, rfl, ⟨by simp; omega, .inr ⟨w.heap.size, G, cur2, rfl, hbw, d11, hGn, hGm, by omega, ?_⟩⟩, ?_, .inr (Nat.le_refl _)⟩
    · exact ins_cells2S hi hcl rfl (by omega) hR0 c12 c13 d13
    · have e1 : W1.os = w.os ∧ W1.tape = w.tape ∧ W1.output = w.output ∧ W1.heap.size = w.heap.size + 1 := by rw [hW1]; exact ⟨rfl, rfl, rfl, by simp⟩
      refine ⟨t2.2.1.trans (t1.2.1.trans e1.1), t2.1.trans (t1.1.trans e1.2.1), t2.2.2.trans (t1.2.2.trans e1.2.2.1), ?_, fun k hk _ => ?_⟩
      · rw [hW3, size_setCells]
        show w.heap.size ≤ W2.heap.size
        rw [hW2, size_setCells]; omega
      · rw [hW3, heap_setCells_far (by omega)]
        exact hO2 k hk
  have HFIN := Lib.hid hfin
  have hz2' : ¬ ((i : Int) = (n : Int)) := by omega
  have hb1 : (0 : Int) ≤ (i : Int) + 1 := by omega
  have hw1 : IntKind.i64.wrap ((i : Int) + 1) = (i : Int) + 1 := by rw [IntKind.wrap_i64]; omega
  have htn : ((i : Int) + 1).toNat = i + 1 := by omega
  have hb2 : ¬ (G = i + 1) := by omega
  have hb3 : (i : Int) ≤ (n : Int) + 1 := by omega
  have hb4 : ¬ (cap = i) := by omega
  have hb5 : (i : Int) + 1 ≤ (n : Int) + 1 := by omega
  have hb6 : (cap : Int) < (n : Int) + 1 := by omega
  have hb7 : ¬ (G = i) := by omega
  have hic : i ≤ n := by omega
  have hcm : cap ≤ 9223372036854775807 := hcapm
  clear hfin hrz hcpA hcpB hcur0 c11 c12 c13 d11 d12 d13 hW1 hW2 hW3 hcl hdl htake hcsz hbase hown h1c hvb hcur hO1 hO2 hN1 hR0 hRs hROW hG hi0 hz0 hz1 hz2
  go_enter Tryz.func80, Tryz.ntmps80
  go_wp2_with (at_builtin; refine Lib.wpList_append_run _ rfl _ _ _ _ rfl _ _ rfl rfl _ _ (HRZ.out _) ?_)
  go_region_law (fail)
  go_wp2_with fail
  go_ret
  exact HFIN.out
end Go.Proofs.YtgklnafliaplkaaGreatDoor
namespace Go.Proofs.YtgklnafliaplkaaGreatDoor
open Go.RowKit
theorem insD_any {w : World} {base n c i vb : Nat} {A : Option Addr} {cs : List Value} {y0 y1 y2 y3 y4 : Value} (hown : w.ownsRow base 25 5 (.slice A n c) n cs) (h1c : ∀ u ∈ cs, u.oneCell' = true) (hi : i ≤ n) (hn : n ≤ 10000)
    (hvb : w.heap[vb]? = some (.cells #[y0, y1, y2, y3, y4] 25 (0, 0))) (h1 : ∀ u ∈ [y0, y1, y2, y3, y4], u.oneCell' = true) (hne : (Value.slice A n c).ownBlock ≠ some vb) (hbase : base ≤ w.heap.size) :
    Calls Tryz.prog 81 #[.slice A n c, .int .i64 i, .slice (some ⟨vb, 0, none⟩) 1 1] w (InsTold w base (.slice A n c) n i cs [y0, y1, y2, y3, y4]) := by
  rcases Nat.lt_or_ge i n with h | h
  · obtain ⟨g, rfl⟩ : ∃ g, A = some ⟨g, 0, none⟩ := by
      rcases hown.2 with ⟨_, h0⟩ | ⟨g, cap, cur, e, _⟩
      · omega
      · injection e with e _ _; exact ⟨g, e⟩
    rcases Nat.lt_or_ge c (n + 1) with hr | hr
    · exact insD_grow hown h1c h hr hn hvb h1 hbase
    · exact insD_room hown h1c h hr hn hvb h1 (fun e => hne (by rw [e]; rfl))
  · obtain rfl : i = n := by omega
    exact insD_end hown hn hvb h1 hbase
theorem insS_any {w : World} {base n c i vb : Nat} {A : Option Addr} {cs : List Value} {y0 : Value} (hown : w.ownsRow base 9 1 (.slice A n c) n cs) (h1c : ∀ u ∈ cs, u.oneCell' = true) (hi : i ≤ n) (hn : n ≤ 10000)
    (hvb : w.heap[vb]? = some (.cells #[y0] 9 (0, 0))) (h1 : ∀ u ∈ [y0], u.oneCell' = true) (hne : (Value.slice A n c).ownBlock ≠ some vb) (hbase : base ≤ w.heap.size) :
    Calls Tryz.prog 80 #[.slice A n c, .int .i64 i, .slice (some ⟨vb, 0, none⟩) 1 1] w (InsToldS w base (.slice A n c) n i cs [y0]) := by
  rcases Nat.lt_or_ge i n with h | h
  · obtain ⟨g, rfl⟩ : ∃ g, A = some ⟨g, 0, none⟩ := by
      rcases hown.2 with ⟨_, h0⟩ | ⟨g, cap, cur, e, _⟩
      · omega
      · injection e with e _ _; exact ⟨g, e⟩
    rcases Nat.lt_or_ge c (n + 1) with hr | hr
    · exact insS_grow hown h1c h hr hn hvb h1 hbase
    · exact insS_room hown h1c h hr hn hvb h1 (fun e => hne (by rw [e]; rfl))
  · obtain rfl : i = n := by omega
    exact insS_end hown hn hvb h1 hbase
end Go.Proofs.YtgklnafliaplkaaGreatDoor
