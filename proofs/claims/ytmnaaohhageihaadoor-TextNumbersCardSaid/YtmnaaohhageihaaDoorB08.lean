/-
  slices.Delete of documents: plain lemmas.
  slices.Insert of one document into a row of the call's own.
-/
import Derived.Test.YtmnaaohhageihaaDoorB02
import Derived.Test.YtmnaaohhageihaaDoorB03
import Derived.Deep.RegionLaw
import Derived.Deep.DrawnRows
import Derived.Shelf.Spec.SlicesInsert
import Derived.Lib.AppendZerosOnto
namespace Go.Proofs.YtmnaaohhageihaaDoor
open Go.RowKit

theorem setCells_block {g : Nat} {T : TypeId} {fr : Nat × Nat} : ∀ (vs : List Value) (o : Nat) (w : World) (cur : Array Value), w.heap[g]? = some (.cells cur T fr) →
    ∃ cur' : Array Value, (w.setCells g o vs).heap[g]? = some (.cells cur' T fr) ∧ cur'.size = cur.size ∧ ∀ j, cur'[j]? = if o ≤ j ∧ j < o + vs.length ∧ j < cur.size then vs[j - o]? else cur[j]?
  | [], o, w, cur, h => ⟨cur, h, rfl, fun j => by rw [if_neg (by simp; omega)]⟩
  | v :: r, o, w, cur, h => by
    obtain ⟨cur', h1, h2, h3⟩ := setCells_block (g := g) (T := T) (fr := fr) r (o + 1) (w.setCell ⟨g, o, none⟩ v) (cur.setIfInBounds o v) (by simp [World.setCell, Array.getElem?_modify, h])
    refine ⟨cur', h1, by simpa using h2, fun j => ?_⟩
    rw [h3 j]
    simp only [Array.size_setIfInBounds, List.length_cons]
    by_cases hjo : j = o
    · subst hjo
      rw [if_neg (by omega)]
      by_cases hs : j < cur.size
      · rw [if_pos ⟨by omega, by omega, hs⟩]; simp [hs]
      · rw [if_neg (by omega), Array.getElem?_eq_none (by simp; omega), Array.getElem?_eq_none (by omega)]
    · by_cases hc : o + 1 ≤ j ∧ j < o + 1 + r.length ∧ j < cur.size
      · rw [if_pos hc, if_pos ⟨by omega, by omega, hc.2.2⟩]
        obtain ⟨t, ht⟩ : ∃ t, j - o = t + 1 := ⟨j - o - 1, by omega⟩
        rw [ht, show j - (o + 1) = t from by omega]; simp
      · rw [if_neg hc, if_neg (by omega), Array.getElem?_setIfInBounds_ne (by omega)]
theorem heap_setCells_far {g k : Nat} (hk : k ≠ g) : ∀ (vs : List Value) (o : Nat) (w : World), (w.setCells g o vs).heap[k]? = w.heap[k]?
  | [], _, _ => rfl
  | _ :: r, o, w => (heap_setCells_far hk r (o + 1) _).trans (Below.heap_setCell w _ _ k hk)
theorem size_setCells {g : Nat} : ∀ (vs : List Value) (o : Nat) (w : World), (w.setCells g o vs).heap.size = w.heap.size
  | [], _, _ => rfl
  | _ :: r, o, w => (size_setCells r (o + 1) _).trans (by simp [World.setCell])
theorem tape_setCells {g : Nat} : ∀ (vs : List Value) (o : Nat) (w : World), (w.setCells g o vs).tape = w.tape ∧ (w.setCells g o vs).os = w.os ∧ (w.setCells g o vs).output = w.output
  | [], _, _ => ⟨rfl, rfl, rfl⟩
  | _ :: r, o, _ => tape_setCells r (o + 1) _

/-- clear of a slice of documents. -/
theorem run_clear_docs {P : Program} (w : World) (t e ty : TypeId) (z0 z1 z2 z3 z4 : Value) (ht : P.underlying t = some (.slice e)) (hv : ∀ w, (zeroValue e).run P w = .ok (.agg #[z0, z1, z2, z3, z4]) w) (h1 : ∀ u ∈ [z0, z1, z2, z3, z4], u.oneCell' = true) (b o c : Nat)
    (hc : ∀ j, j < 5 → (w.cell? ⟨b, o + j, none⟩).isSome = true) (hf : ∀ j, j < 5 → w.frozen? ⟨b, o + j, none⟩ = false) :
    (Builtin.clear_ #[t] ty #[.slice (some ⟨b, o, none⟩) 1 c]).run P w = .ok (.tuple #[]) (w.setCells b o [z0, z1, z2, z3, z4]) := by
  have hzc : (Builtin.zeroCells (Value.agg #[z0, z1, z2, z3, z4]).cells 1).toList = [z0, z1, z2, z3, z4] := by simp [Builtin.zeroCells, Value.cells]; rfl
  have hst := run_storeCells_cells (P := P) b o [z0, z1, z2, z3, z4] 0 w (by simpa using hc) (by simpa using hf) h1
  simp only [Nat.add_zero] at hst
  simp [Builtin.clear_, run_underlying ht, hv, hzc, hst]

theorem zeroD (w : World) : (zeroValue 31).run Tryd.prog w = .ok (.agg #[.int .i64 0, .int .i64 0, .string ⟨#[]⟩, .slice none 0 0, .slice none 0 0]) w := by kernel_rfl

theorem oneCell_own {w : World} {base : Nat} : ∀ {l : List D} {cs : List Value} {F : List Nat}, OwnKids w base l cs F → ∀ u ∈ cs, u.oneCell' = true
  | [], _, _, h, u, hu => by
    simp only [OwnKids] at h
    rw [h.1] at hu; simp at hu
  | d :: r, _, _, h, u, hu => by
    simp only [OwnKids] at h
    obtain ⟨v0, v1, v2, v3, v4, cs', F1, F2, rfl, h2, h3, rfl⟩ := h
    rcases List.mem_append.1 (show u ∈ [v0, v1, v2, v3, v4] ++ cs' by simpa using hu) with h | h
    · exact oneCell_agg h2.doc u h
    · exact oneCell_own h3 u h
end Go.Proofs.YtmnaaohhageihaaDoor
namespace Go.Proofs.YtmnaaohhageihaaDoor
open Go.RowKit

/-- What Insert tells of a row of documents: the five cells ns stand at place i. -/
def InsTold (w : World) (base : Nat) (v : Value) (n i : Nat) (cs ns : List Value) (e : Ending) (w' : World) : Prop :=
  ∃ g cap, e = .returned (.slice (some ⟨g, 0, none⟩) (n + 1) cap) ∧ w'.ownsRow base 31 5 (.slice (some ⟨g, 0, none⟩) (n + 1) cap) (n + 1) (cs.take (i * 5) ++ (ns ++ cs.drop (i * 5))) ∧ w.grownBy w' v.ownBlock ∧ (v.ownBlock = some g ∨ w.heap.size ≤ g)

/-- copy of documents: what src held before goes to dst. -/
theorem run_copyD (w : World) (ty : TypeId) (g o dLen dCap : Nat) (a : Addr) (sLen sCap : Nat) (cs : List Value) (hn : cs.length = Nat.min sLen dLen * 5) (hsrc : ∀ j v, cs[j]? = some v → w.cell? (a.add j) = some v)
    (hc : ∀ j, j < cs.length → (w.cell? ⟨g, o + j, none⟩).isSome = true) (hf : ∀ j, j < cs.length → w.frozen? ⟨g, o + j, none⟩ = false) (h1 : ∀ v ∈ cs, v.oneCell' = true) :
    (Builtin.copy_ #[29, 29] ty #[.slice (some ⟨g, o, none⟩) dLen dCap, .slice (some a) sLen sCap]).run Tryd.prog w = .ok (goInt (Nat.min sLen dLen)) (w.setCells g o cs) := by
  obtain ⟨i0, hi, _, hz1, _⟩ := info_parts infoD
  have hst := run_storeCells_cells (P := Tryd.prog) g o cs 0 w (by simpa using hc) (by simpa using hf) h1
  have hfc := run_firstCells_some (P := Tryd.prog) (w := w) 5 (Nat.min sLen dLen) a sLen sCap cs hn hsrc
  simp only [Nat.add_zero] at hst
  simp [Builtin.copy_, run_underlying Tryd.underlying29, Builtin.lenOf, sizeOf, typeInfo, hi, hz1, hfc, hst]

set_option maxHeartbeats 2000000 in
set_option maxRecDepth 100000 in
/-- .. at the end. -/
theorem insD_end {w : World} {base n c vb : Nat} {A : Option Addr} {cs : List Value} {y0 y1 y2 y3 y4 : Value} (hown : w.ownsRow base 31 5 (.slice A n c) n cs) (hn : n ≤ 10000) (hvb : w.heap[vb]? = some (.cells #[y0, y1, y2, y3, y4] 31 (0, 0)))
    (h1 : ∀ u ∈ [y0, y1, y2, y3, y4], u.oneCell' = true) (hbase : base ≤ w.heap.size) :
    Calls Tryd.prog 60 #[.slice A n c, .int .i64 n, .slice (some ⟨vb, 0, none⟩) 1 1] w (InsTold w base (.slice A n c) n n cs [y0, y1, y2, y3, y4]) := by
  obtain ⟨i0, hi, hz0, hz1, hz2⟩ := info_parts infoD
  have HI := Lib.hid hi; have HZ0 := Lib.hid hz0; have HZ1 := Lib.hid hz1; have HZ2 := Lib.hid hz2
  have HO := Lib.hid hown; have HV := Lib.hid hvb; have H1 := Lib.hid h1
  have hl := hown.1
  have ht : cs.take (n * 5) = cs := List.take_of_length_le (by omega)
  have hd : cs.drop (n * 5) = [] := List.drop_eq_nil_of_le (by omega)
  have HT := Lib.hid (And.intro ht hd)
  have hform : (A = none ∧ n = 0 ∧ c = 0) ∨ ∃ g, A = some ⟨g, 0, none⟩ ∧ n ≤ c := by
    rcases hown.2 with ⟨e, h0⟩ | ⟨g, cap, cur, e, _, _, a1, _⟩
    · injection e with e1 e2 e3; exact .inl ⟨e1, e2, e3⟩
    · injection e with e1 e2 e3; exact .inr ⟨g, e1, by omega⟩
  clear hi hz0 hz1 hz2 hown hvb h1 ht hd hl
  rcases hform with ⟨rfl, rfl, rfl⟩ | ⟨g, rfl, hnc⟩
  · go_enter Tryd.func60, Tryd.ntmps60
    go_wp2_with (at_builtin; refine wpList_append_lies _ rfl _ _ 29 rfl base 31 i0 (.agg #[.int .i64 0, .int .i64 0, .string ByteArray.empty, .slice none 0 0, .slice none 0 0]) 5 80 Tryd.underlying29 HI.out HZ0.out HZ1.out HZ2.out (by rfl) (by omega) _ 0 cs rfl HO.out ⟨vb, 0, none⟩ 1 _ [y0, y1, y2, y3, y4] rfl rfl (World.news_of_block HV.out) H1.out (by omega) (by unfold maxLen; omega) (by omega) hbase w.heap.size rfl ?_; intro g cap w3 hown3 hgrow3 hat3 hlt3)
    go_ret
    refine ⟨g, cap, rfl, ?_, hgrow3, ?_⟩
    · rw [HT.out.1, HT.out.2]; simpa using hown3
    · rcases hat3 with h | h
      · exact .inl h
      · exact .inr (by omega)
  · go_enter Tryd.func60, Tryd.ntmps60
    go_wp2_with (at_builtin; refine wpList_append_lies _ rfl _ _ 29 rfl base 31 i0 (.agg #[.int .i64 0, .int .i64 0, .string ByteArray.empty, .slice none 0 0, .slice none 0 0]) 5 80 Tryd.underlying29 HI.out HZ0.out HZ1.out HZ2.out (by rfl) (by omega) _ n cs rfl HO.out ⟨vb, 0, none⟩ 1 _ [y0, y1, y2, y3, y4] rfl rfl (World.news_of_block HV.out) H1.out (by omega) (by unfold maxLen; omega) (by omega) hbase w.heap.size rfl ?_; intro g' cap w3 hown3 hgrow3 hat3 hlt3)
    all_goals
      go_ret
      refine ⟨_, _, rfl, ?_, hgrow3, ?_⟩
      · rw [HT.out.1, HT.out.2]; simpa using hown3
      · rcases hat3 with h | h
        · exact .inl h
        · exact .inr (by omega)

/-- What stands in the row behind both copies. -/
theorem ins_cells {n i : Nat} {cs ys : List Value} {cur cur1 cur2 : Array Value} (hi : i < n) (hcs : cs.length = n * 5) (hys : ys.length = 5) (hsz : (n + 1) * 5 ≤ cur.size) (h0 : ∀ j, j < i * 5 → cur[j]? = cs[j]?)
    (c12 : cur1.size = cur.size) (c13 : ∀ j, cur1[j]? = if (i + 1) * 5 ≤ j ∧ j < (i + 1) * 5 + (cs.drop (i * 5)).length ∧ j < cur.size then (cs.drop (i * 5))[j - (i + 1) * 5]? else cur[j]?)
    (d2 : cur2.size = cur1.size) (d3 : ∀ j, cur2[j]? = if i * 5 ≤ j ∧ j < i * 5 + ys.length ∧ j < cur1.size then ys[j - i * 5]? else cur1[j]?) :
    cur2.toList.take ((n + 1) * 5) = cs.take (i * 5) ++ (ys ++ cs.drop (i * 5)) := by
  have hdl : (cs.drop (i * 5)).length = n * 5 - i * 5 := by rw [List.length_drop, hcs]
  apply List.ext_getElem?
  intro j
  rw [List.getElem?_take]
  by_cases hj : j < (n + 1) * 5
  · rw [if_pos hj, Array.getElem?_toList, d3 j]
    by_cases h1 : j < i * 5
    · rw [if_neg (by omega), c13 j, if_neg (by omega), h0 j h1, List.getElem?_append_left (by simp; omega), List.getElem?_take, if_pos h1]
    · rw [List.getElem?_append_right (by simp; omega), List.length_take, Nat.min_eq_left (by omega)]
      by_cases h2 : j < i * 5 + 5
      · rw [if_pos ⟨by omega, by omega, by omega⟩, List.getElem?_append_left (by omega)]
      · rw [if_neg (by omega), c13 j, if_pos ⟨by omega, by omega, by omega⟩, List.getElem?_append_right (by omega)]
        congr 1; omega
  · rw [if_neg hj, List.getElem?_eq_none (by simp; omega)]
end Go.Proofs.YtmnaaohhageihaaDoor
