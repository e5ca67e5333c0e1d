/-
  
-/
import Derived.Test.YtdcempejdggkpaaGreatDoorB07
import Derived.Test.YtdcempejdggkpaaGreatDoorB08
import Derived.Deep.RegionLaw
import Derived.Deep.DrawnRows
namespace Go.Proofs.YtdcempejdggkpaaGreatDoor
open Go.RowKit

theorem setCells_block {g : Nat} {T : TypeId} {fr : Nat × Nat} : ∀ (vs : List Value) (o : Nat) (w : World) (cur : Array Value), w.heap[g]? = some (.cells cur T fr) →
    ∃ cur' : Array Value, (w.setCells g o vs).heap[g]? = some (.cells cur' T fr) ∧ cur'.size = cur.size ∧ ∀ j, cur'[j]? = if o ≤ j ∧ j < o + vs.length ∧ j < cur.size then vs[j - o]? else cur[j]?
  | [], o, w, cur, h => ⟨cur, h, rfl, fun j => by rw [if_neg (by simp; omega)]⟩
  | v :: r, o, w, cur, h => by
    obtain ⟨cur', h1, h2, h3⟩ := setCells_block (g := g) (T := T) (fr := fr) r (o + 1) (w.setCell ⟨g, o, none⟩ v) (cur.setIfInBounds o v) (by simp [World.setCell, Array.getElem?_modify, h])
    refine ⟨cur', h1, by simpa using h2, fun j => ?_⟩
    rw [h3 j]
    simp only [Array.size_setIfInBounds, List.length_cons]
    by_cases hjo : j = o
    · subst hjo
      rw [if_neg (by omega)]
      by_cases hs : j < cur.size
      · rw [if_pos ⟨by omega, by omega, hs⟩]; simp [hs]
      · rw [if_neg (by omega), Array.getElem?_eq_none (by simp; omega), Array.getElem?_eq_none (by omega)]
    · by_cases hc : o + 1 ≤ j ∧ j < o + 1 + r.length ∧ j < cur.size
      · rw [if_pos hc, if_pos ⟨by omega, by omega, hc.2.2⟩]
        obtain ⟨t, ht⟩ : ∃ t, j - o = t + 1 := ⟨j - o - 1, by omega⟩
        rw [ht, show j - (o + 1) = t from by omega]; simp
      · rw [if_neg hc, if_neg (by omega), Array.getElem?_setIfInBounds_ne (by omega)]
theorem heap_setCells_far {g k : Nat} (hk : k ≠ g) : ∀ (vs : List Value) (o : Nat) (w : World), (w.setCells g o vs).heap[k]? = w.heap[k]?
  | [], _, _ => rfl
  | _ :: r, o, w => (heap_setCells_far hk r (o + 1) _).trans (Below.heap_setCell w _ _ k hk)
theorem size_setCells {g : Nat} : ∀ (vs : List Value) (o : Nat) (w : World), (w.setCells g o vs).heap.size = w.heap.size
  | [], _, _ => rfl
  | _ :: r, o, w => (size_setCells r (o + 1) _).trans (by simp [World.setCell])
theorem tape_setCells {g : Nat} : ∀ (vs : List Value) (o : Nat) (w : World), (w.setCells g o vs).tape = w.tape ∧ (w.setCells g o vs).os = w.os ∧ (w.setCells g o vs).output = w.output
  | [], _, _ => ⟨rfl, rfl, rfl⟩
  | _ :: r, o, _ => tape_setCells r (o + 1) _

/-- clear of a slice of documents. -/
theorem run_clear_docs {P : Program} (w : World) (t e ty : TypeId) (z0 z1 z2 z3 z4 : Value) (ht : P.underlying t = some (.slice e)) (hv : ∀ w, (zeroValue e).run P w = .ok (.agg #[z0, z1, z2, z3, z4]) w) (h1 : ∀ u ∈ [z0, z1, z2, z3, z4], u.oneCell' = true) (b o c : Nat)
    (hc : ∀ j, j < 5 → (w.cell? ⟨b, o + j, none⟩).isSome = true) (hf : ∀ j, j < 5 → w.frozen? ⟨b, o + j, none⟩ = false) :
    (Builtin.clear_ #[t] ty #[.slice (some ⟨b, o, none⟩) 1 c]).run P w = .ok (.tuple #[]) (w.setCells b o [z0, z1, z2, z3, z4]) := by
  have hzc : (Builtin.zeroCells (Value.agg #[z0, z1, z2, z3, z4]).cells 1).toList = [z0, z1, z2, z3, z4] := by simp [Builtin.zeroCells, Value.cells]; rfl
  have hst := run_storeCells_cells (P := P) b o [z0, z1, z2, z3, z4] 0 w (by simpa using hc) (by simpa using hf) h1
  simp only [Nat.add_zero] at hst
  simp [Builtin.clear_, run_underlying ht, hv, hzc, hst]

theorem zeroD (w : World) : (zeroValue 27).run Tryz.prog w = .ok (.agg #[.int .i64 0, .int .i64 0, .string ⟨#[]⟩, .slice none 0 0, .slice none 0 0]) w := by kernel_rfl

set_option maxHeartbeats 2000000 in
set_option maxRecDepth 100000 in
theorem delete_any {w : World} {base g n cap i : Nat} {cs : List Value} (hown : w.ownsRow base 27 5 (.slice (some ⟨g, 0, none⟩) n cap) n cs) (h1 : ∀ u ∈ cs, u.oneCell' = true) (hi : i < n) (hn : n ≤ 10000) :
    Calls Tryz.prog 48 #[.slice (some ⟨g, 0, none⟩) n cap, .int .i64 i, .int .i64 ((i : Int) + 1)] w fun e w' =>
      e = .returned (.slice (some ⟨g, 0, none⟩) (n - 1) cap) ∧ w'.ownsRow base 27 5 (.slice (some ⟨g, 0, none⟩) (n - 1) cap) (n - 1) (cs.take (i * 5) ++ cs.drop ((i + 1) * 5)) ∧ w.grownBy w' (some g) := by
  obtain ⟨i0, hi0, hz0, hz1, hz2⟩ := info_parts infoD
  have HO := Lib.hid hown
  have hlen0 := hown.1
  obtain ⟨cur, hcur, hbase, hncap, hcapm, hcsz, htake⟩ : ∃ cur : Array Value, w.heap[g]? = some (.cells cur 27 (0, 0)) ∧ base ≤ g ∧ n ≤ cap ∧ cap ≤ maxLen ∧ cur.size = cap * 5 ∧ cur.toList.take (n * 5) = cs := by
    rcases hown.2 with ⟨e, _⟩ | ⟨g', cap', cur, e, hg, hh, a1, a2, a3, a4⟩
    · cases e
    · injection e with e _ e3
      injection e with e
      injection e with e
      subst e; subst e3
      exact ⟨cur, hh, hg, a1, a2, a3, a4⟩
  obtain ⟨news, hnews⟩ : ∃ news, news = cs.drop ((i + 1) * 5) := ⟨_, rfl⟩
  have hlen : news.length = (n - (i + 1)) * 5 := by rw [hnews]; simp; omega
  have hcell : ∀ j, j < n * 5 → w.cell? ⟨g, j, none⟩ = cs[j]? := fun j hj => hown.cellAt j hj
  have hfz : ∀ j, w.frozen? ⟨g, j, none⟩ = false := fun j => hown.frozenAt j
  obtain ⟨A, hA, hsrc⟩ : ∃ A : Addr, (if cap = i + 1 then some (⟨g, 0, none⟩ : Addr) else some ⟨g, (i + 1) * 5, none⟩) = some A ∧ Hid (∀ t u, news[t]? = some u → w.drew.cell? (A.add t) = some u) := by
    by_cases h : cap = i + 1
    · refine ⟨⟨g, 0, none⟩, by simp [h], fun t u hu => ?_⟩
      have h0 : news.length = 0 := by rw [hlen]; omega
      rw [List.length_eq_zero_iff.1 h0] at hu
      simp at hu
    · refine ⟨⟨g, (i + 1) * 5, none⟩, by simp [h], fun t u hu => ?_⟩
      have ht : t < (n - (i + 1)) * 5 := by
        have := (List.getElem?_eq_some_iff.1 hu).1
        rwa [hlen] at this
      rw [Addr.add_lit]
      show w.cell? _ = _
      rw [hcell _ (by omega), ← hu, hnews, List.getElem?_drop]
  have s1 : Hid (news.length = (n - (i + 1)) * 5) := hlen
  have s2 : Hid (∀ u ∈ news, u.oneCell' = true) := fun u hu => h1 u (by rw [hnews] at hu; exact List.mem_of_mem_drop hu)
  have s3 : Hid (∀ t, t < news.length → (w.drew.cell? ⟨g, 0 + i * 5 + t, none⟩).isSome = true ∧ w.drew.frozen? ⟨g, 0 + i * 5 + t, none⟩ = false) := by
    intro t ht
    rw [hlen] at ht
    refine ⟨?_, hfz _⟩
    show (w.cell? _).isSome = true
    rw [hcell _ (by omega), List.getElem?_eq_getElem (by omega)]; rfl
  obtain ⟨W1, hW1⟩ : ∃ W1, W1 = w.drew.setCells g (0 + i * 5) news := ⟨_, rfl⟩
  obtain ⟨cur1, c11, c12, c13⟩ := setCells_block news (0 + i * 5) w.drew cur hcur
  rw [← hW1] at c11
  have hcell1 : ∀ j, W1.cell? ⟨g, j, none⟩ = cur1[j]? := fun j => cell_of_row W1 g j _ _ _ c11
  have hfz1 : ∀ j, W1.frozen? ⟨g, j, none⟩ = false := fun j => by simp [World.frozen?, c11]
  have hcl : ∀ ty, (Builtin.clear_ #[23] ty #[.slice (some ⟨g, (n - 1) * 5, none⟩) 1 (cap - (n - 1))]).run Tryz.prog W1 = .ok (.tuple #[]) (W1.setCells g ((n - 1) * 5) [.int .i64 0, .int .i64 0, .string ⟨#[]⟩, .slice none 0 0, .slice none 0 0]) :=
    fun ty => run_clear_docs W1 _ _ ty _ _ _ _ _ Tryz.underlying23 zeroD (by simp [Value.oneCell']) g _ _ (fun j hj => by rw [hcell1, Array.getElem?_eq_getElem (by omega)]; rfl) (fun j _ => hfz1 _)
  have HCL := Lib.hid hcl
  have hW : Hid (W1 = w.drew.setCells g (0 + i * 5) news) := hW1
  have HC1 := Lib.hid (And.intro c11 (And.intro c12 c13))
  have HCU := Lib.hid (And.intro hcur (And.intro hcsz htake)); have HNW := Lib.hid hnews; have HB := Lib.hid (And.intro hbase hcapm)
  have HH := Lib.hid (And.intro hi0 hz1)
  have hic : i ≤ cap := by omega
  have hjc : i + 1 ≤ cap := by omega
  have ib0 : (0 : Int) ≤ (i : Int) + 1 := by omega
  have ib1 : (i : Int) + 1 ≤ (n : Int) := by omega
  clear hW1 hown hcell hfz hlen hnews hcell1 hfz1 hcl c11 c12 c13 hcur hcsz htake hbase hcapm hi0 hz0 hz1 hz2 hlen0 h1
  go_enter Tryz.func48, Tryz.ntmps48
  go_wp2_with fail
  go_region_law (refine step_append_room rfl (.tmp 22) (.tmp 25) 23 rfl 27 i0 5 Tryz.underlying23 HH.out.1 HH.out.2 g 0 i cap (by simp [Act.eval, Act.put]) A (n - (i + 1)) (cap - (i + 1)) news (by simp [Act.eval, Act.put]) s1.out hsrc.out s2.out (by omega) s3.out ?_; rw [← hW.out])
  go_wp2_with fail
  rw [show i + (n - (i + 1)) = n - 1 from by omega, show n - (n - 1) = 1 from by omega, HCL.out]
  simp only [Result.andThen]
  rw [Oper.upon_value]
  go_wp2_with fail
  go_ret
  obtain ⟨c11, c12, c13⟩ := HC1.out
  obtain ⟨hcur, hcsz, htake⟩ := HCU.out
  obtain ⟨cur2, d1, d2, d3⟩ := setCells_block (g := g) (T := 27) (fr := (0, 0)) [.int .i64 0, .int .i64 0, .string ⟨#[]⟩, .slice none 0 0, .slice none 0 0] ((n - 1) * 5) W1 cur1 c11
  have hlen := s1.out
  have hcslen : cs.length = n * 5 := HO.out.1
  refine ⟨rfl, ⟨by simp; omega, .inr ⟨g, cap, cur2, rfl, HB.out.1, d1, by omega, HB.out.2, by omega, ?_⟩⟩, ?_⟩
  · have hcs : ∀ j, j < n * 5 → cur[j]? = cs[j]? := fun j hj => by
      rw [← htake, List.getElem?_take, if_pos hj, Array.getElem?_toList]
    apply List.ext_getElem?
    intro j
    rw [List.getElem?_take]
    by_cases hj : j < (n - 1) * 5
    · rw [if_pos hj, Array.getElem?_toList, d3 j, if_neg (by omega), c13 j, hlen]
      by_cases hji : j < i * 5
      · rw [if_neg (by omega), hcs j (by omega), List.getElem?_append_left (by simp; omega), List.getElem?_take, if_pos hji]
      · rw [if_pos ⟨by omega, by omega, by omega⟩, HNW.out, List.getElem?_drop, List.getElem?_append_right (by simp; omega), List.getElem?_drop]
        congr 1
        simp
        omega
    · rw [if_neg hj, List.getElem?_eq_none (by simp; omega)]
  · have t1 := tape_setCells (g := g) [.int .i64 0, .int .i64 0, .string ⟨#[]⟩, .slice none 0 0, .slice none 0 0] ((n - 1) * 5) W1
    have t2 := tape_setCells (g := g) news (0 + i * 5) w.drew
    rw [← hW.out] at t2
    refine ⟨t1.2.1.trans t2.2.1, t1.1.trans t2.1, t1.2.2.trans t2.2.2, ?_, fun k _ hne => ?_⟩
    · rw [size_setCells, hW.out, size_setCells]; exact Nat.le_refl _
    · have hkg : k ≠ g := fun h => hne (by rw [h])
      rw [heap_setCells_far hkg, hW.out, heap_setCells_far hkg]; rfl
end Go.Proofs.YtdcempejdggkpaaGreatDoor
