/-
  slices.Insert of one document into a row of the call's own.
-/
import Derived.Test.YtnjmknofojjlmaaDoorTDelete
import Derived.Shelf.Spec.SlicesInsert
import Derived.Lib.AppendZerosOnto
namespace Go.Proofs.YtnjmknofojjlmaaDoor
open Go.RowKit

/-- What Insert tells of a row of documents: the five cells ns stand at place i. -/
def InsToldF (w : World) (base : Nat) (v : Value) (n i : Nat) (cs ns : List Value) (e : Ending) (w' : World) : Prop :=
  ∃ g cap, e = .returned (.slice (some ⟨g, 0, none⟩) (n + 1) cap) ∧ w'.ownsRow base 40 8 (.slice (some ⟨g, 0, none⟩) (n + 1) cap) (n + 1) (cs.take (i * 8) ++ (ns ++ cs.drop (i * 8))) ∧ w.grownBy w' v.ownBlock ∧ (v.ownBlock = some g ∨ w.heap.size ≤ g)

/-- copy of documents: what src held before goes to dst. -/
theorem run_copyF (w : World) (ty : TypeId) (g o dLen dCap : Nat) (a : Addr) (sLen sCap : Nat) (cs : List Value) (hn : cs.length = Nat.min sLen dLen * 8) (hsrc : ∀ j v, cs[j]? = some v → w.cell? (a.add j) = some v)
    (hc : ∀ j, j < cs.length → (w.cell? ⟨g, o + j, none⟩).isSome = true) (hf : ∀ j, j < cs.length → w.frozen? ⟨g, o + j, none⟩ = false) (h1 : ∀ v ∈ cs, v.oneCell' = true) :
    (Builtin.copy_ #[23, 23] ty #[.slice (some ⟨g, o, none⟩) dLen dCap, .slice (some a) sLen sCap]).run Tryd.prog w = .ok (goInt (Nat.min sLen dLen)) (w.setCells g o cs) := by
  obtain ⟨i0, hi, _, hz1, _⟩ := info_parts infoF
  have hst := run_storeCells_cells (P := Tryd.prog) g o cs 0 w (by simpa using hc) (by simpa using hf) h1
  have hfc := run_firstCells_some (P := Tryd.prog) (w := w) 8 (Nat.min sLen dLen) a sLen sCap cs hn hsrc
  simp only [Nat.add_zero] at hst
  simp [Builtin.copy_, run_underlying Tryd.underlying23, Builtin.lenOf, sizeOf, typeInfo, hi, hz1, hfc, hst]

set_option maxHeartbeats 2000000 in
set_option maxRecDepth 100000 in
/-- .. at the end. -/
theorem insF_end {w : World} {base n c vb : Nat} {A : Option Addr} {cs : List Value} {y0 y1 y2 y3 y4 y5 y6 y7 : Value} (hown : w.ownsRow base 40 8 (.slice A n c) n cs) (hn : n ≤ 10000) (hvb : w.heap[vb]? = some (.cells #[y0, y1, y2, y3, y4, y5, y6, y7] 40 (0, 0)))
    (h1 : ∀ u ∈ [y0, y1, y2, y3, y4, y5, y6, y7], u.oneCell' = true) (hbase : base ≤ w.heap.size) :
    Calls Tryd.prog 31 #[.slice A n c, .int .i64 n, .slice (some ⟨vb, 0, none⟩) 1 1] w (InsToldF w base (.slice A n c) n n cs [y0, y1, y2, y3, y4, y5, y6, y7]) := by
  obtain ⟨i0, hi, hz0, hz1, hz2⟩ := info_parts infoF
  have HI := Lib.hid hi; have HZ0 := Lib.hid hz0; have HZ1 := Lib.hid hz1; have HZ2 := Lib.hid hz2
  have HO := Lib.hid hown; have HV := Lib.hid hvb; have H1 := Lib.hid h1
  have hl := hown.1
  have ht : cs.take (n * 8) = cs := List.take_of_length_le (by omega)
  have hd : cs.drop (n * 8) = [] := List.drop_eq_nil_of_le (by omega)
  have HT := Lib.hid (And.intro ht hd)
  have hform : (A = none ∧ n = 0 ∧ c = 0) ∨ ∃ g, A = some ⟨g, 0, none⟩ ∧ n ≤ c := by
    rcases hown.2 with ⟨e, h0⟩ | ⟨g, cap, cur, e, _, _, a1, _⟩
    · injection e with e1 e2 e3; exact .inl ⟨e1, e2, e3⟩
    · injection e with e1 e2 e3; exact .inr ⟨g, e1, by omega⟩
  clear hi hz0 hz1 hz2 hown hvb h1 ht hd hl
  rcases hform with ⟨rfl, rfl, rfl⟩ | ⟨g, rfl, hnc⟩
  · go_enter Tryd.func31, Tryd.ntmps31
    go_wp2_with (at_builtin; refine wpList_append_lies _ rfl _ _ 23 rfl base 40 i0 (.agg #[.string ByteArray.empty, .bool false, .int .i64 0, .int .i64 0, .int .i64 0, .slice none 0 0, .slice none 0 0, .slice none 0 0]) 8 120 Tryd.underlying23 HI.out HZ0.out HZ1.out HZ2.out (by rfl) (by omega) _ 0 cs rfl HO.out ⟨vb, 0, none⟩ 1 _ [y0, y1, y2, y3, y4, y5, y6, y7] rfl rfl (World.news_of_block HV.out) H1.out (by omega) (by unfold maxLen; omega) (by omega) hbase w.heap.size rfl ?_; intro g cap w3 hown3 hgrow3 hat3 hlt3)
    go_ret
    refine ⟨g, cap, rfl, ?_, hgrow3, ?_⟩
    · rw [HT.out.1, HT.out.2]; simpa using hown3
    · rcases hat3 with h | h
      · exact .inl h
      · exact .inr (by omega)
  · go_enter Tryd.func31, Tryd.ntmps31
    go_wp2_with (at_builtin; refine wpList_append_lies _ rfl _ _ 23 rfl base 40 i0 (.agg #[.string ByteArray.empty, .bool false, .int .i64 0, .int .i64 0, .int .i64 0, .slice none 0 0, .slice none 0 0, .slice none 0 0]) 8 120 Tryd.underlying23 HI.out HZ0.out HZ1.out HZ2.out (by rfl) (by omega) _ n cs rfl HO.out ⟨vb, 0, none⟩ 1 _ [y0, y1, y2, y3, y4, y5, y6, y7] rfl rfl (World.news_of_block HV.out) H1.out (by omega) (by unfold maxLen; omega) (by omega) hbase w.heap.size rfl ?_; intro g' cap w3 hown3 hgrow3 hat3 hlt3)
    all_goals
      go_ret
      refine ⟨_, _, rfl, ?_, hgrow3, ?_⟩
      · rw [HT.out.1, HT.out.2]; simpa using hown3
      · rcases hat3 with h | h
        · exact .inl h
        · exact .inr (by omega)

/-- What stands in the row behind both copies. -/
theorem t_ins_cells {n i : Nat} {cs ys : List Value} {cur cur1 cur2 : Array Value} (hi : i < n) (hcs : cs.length = n * 8) (hys : ys.length = 8) (hsz : (n + 1) * 8 ≤ cur.size) (h0 : ∀ j, j < i * 8 → cur[j]? = cs[j]?)
    (c12 : cur1.size = cur.size) (c13 : ∀ j, cur1[j]? = if (i + 1) * 8 ≤ j ∧ j < (i + 1) * 8 + (cs.drop (i * 8)).length ∧ j < cur.size then (cs.drop (i * 8))[j - (i + 1) * 8]? else cur[j]?)
    (d2 : cur2.size = cur1.size) (d3 : ∀ j, cur2[j]? = if i * 8 ≤ j ∧ j < i * 8 + ys.length ∧ j < cur1.size then ys[j - i * 8]? else cur1[j]?) :
    cur2.toList.take ((n + 1) * 8) = cs.take (i * 8) ++ (ys ++ cs.drop (i * 8)) := by
  have hdl : (cs.drop (i * 8)).length = n * 8 - i * 8 := by rw [List.length_drop, hcs]
  apply List.ext_getElem?
  intro j
  rw [List.getElem?_take]
  by_cases hj : j < (n + 1) * 8
  · rw [if_pos hj, Array.getElem?_toList, d3 j]
    by_cases h1 : j < i * 8
    · rw [if_neg (by omega), c13 j, if_neg (by omega), h0 j h1, List.getElem?_append_left (by simp; omega), List.getElem?_take, if_pos h1]
    · rw [List.getElem?_append_right (by simp; omega), List.length_take, Nat.min_eq_left (by omega)]
      by_cases h2 : j < i * 8 + 8
      · rw [if_pos ⟨by omega, by omega, by omega⟩, List.getElem?_append_left (by omega)]
      · rw [if_neg (by omega), c13 j, if_pos ⟨by omega, by omega, by omega⟩, List.getElem?_append_right (by omega)]
        congr 1; omega
  · rw [if_neg hj, List.getElem?_eq_none (by simp; omega)]
end Go.Proofs.YtnjmknofojjlmaaDoor
