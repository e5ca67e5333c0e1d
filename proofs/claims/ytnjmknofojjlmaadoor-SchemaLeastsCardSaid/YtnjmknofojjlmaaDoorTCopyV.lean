/-
  schema.over with Copy's closure: the type that stands at an address is made anew, in all depths.
-/
import Derived.Test.YtnjmknofojjlmaaDoorTCopyL
namespace Go.Proofs.YtnjmknofojjlmaaDoor
open Go.RowKit

/-- All but what v leads to is as it was. -/
structure ButO (v : Value) (w w' : World) : Prop where
  os : w'.os = w.os
  tape : w'.tape = w.tape
  output : w'.output = w.output
  size : w.heap.size ≤ w'.heap.size
  block : ∀ k, k < w.heap.size → v.ownBlock ≠ some k → w'.heap[k]? = w.heap[k]?
theorem ButO.refl (v : Value) (w : World) : ButO v w w := ⟨rfl, rfl, rfl, Nat.le_refl _, fun _ _ _ => rfl⟩
theorem ButO.step {v : Value} {g : Nat} (hg : v.ownBlock = some g) {a b c : World} (h : ButO v a b) (k : But g b c) : ButO v a c :=
  ⟨k.os.trans h.os, k.tape.trans h.tape, k.output.trans h.output, Nat.le_trans h.size k.size, fun i hi hn => (k.block i (Nat.lt_of_lt_of_le hi h.size) (fun e => hn (by rw [hg, e]))).trans (h.block i hi hn)⟩
/-- The blocks since w0, but for those of the three rows. -/
def Apart (w0 : Nat) (w : World) (x3 x4 x5 : Value) (k : Nat) : Prop := w0 ≤ k ∧ k < w.heap.size ∧ x3.ownBlock ≠ some k ∧ x4.ownBlock ≠ some k ∧ x5.ownBlock ≠ some k
/-- A copy: three rows of its own, and all below them in other blocks of its own. -/
def Copied (w0 : Nat) (w : World) (t : T) (x3 x4 x5 : Value) : Prop :=
  ∃ (cs ds : List Value), w0 ≤ w.heap.size ∧ w.ownsRow w0 9 1 x3 t.names.length (t.names.map Value.string) ∧ w.ownsRow w0 40 8 x4 t.fields.length cs ∧ w.ownsRow w0 26 6 x5 t.of.length ds ∧
    RawFs w (Apart w0 w x3 x4 x5) t.fields cs ∧ RawTs w (Apart w0 w x3 x4 x5) t.of ds ∧ (∀ k, x3.ownBlock = some k → x4.ownBlock ≠ some k) ∧ (∀ k, x3.ownBlock = some k → x5.ownBlock ≠ some k) ∧ (∀ k, x4.ownBlock = some k → x5.ownBlock ≠ some k)
theorem own_strsS {w : World} {base : Nat} {S : Nat → Prop} {v : Value} {xs : List ByteArray} (h : w.ownsRow base 9 1 v xs.length (xs.map Value.string)) (hS : ∀ k, base ≤ k → k < w.heap.size → S k) : StrsS w S v xs := by
  rcases Nat.eq_zero_or_pos xs.length with h0 | h0
  · rcases h.2 with ⟨rfl, _⟩ | ⟨g, cap, cur, rfl, _, hh, hc, _⟩
    · exact ⟨none, 0, by rw [h0], by omega, fun h => by omega⟩
    · exact ⟨some ⟨g, 0, none⟩, cap, rfl, hc, fun h => by omega⟩
  · obtain ⟨g, cap, rfl, hg, hlt⟩ := h.form h0
    have hc : xs.length ≤ cap := by
      rcases h.2 with ⟨e, _⟩ | ⟨g', cap', cur, e, _, _, hc, _⟩
      · cases e
      · injection e with _ _ e3; omega
    refine ⟨some ⟨g, 0, none⟩, cap, rfl, hc, fun _ => ⟨g, 0, rfl, hS _ hg hlt, fun i hi => ?_⟩⟩
    rw [Nat.zero_add, h.cellAt i (by omega)]
    simp [hi]
theorem own_row {w : World} {base e size n : Nat} {S : Nat → Prop} {v : Value} {cs : List Value} (h : w.ownsRow base e size v n cs) (hS : ∀ k, base ≤ k → k < w.heap.size → S k) :
    ∃ (A : Option Addr) (c : Nat), v = .slice A n c ∧ n ≤ c ∧ (0 < n → ∃ b off, A = some ⟨b, off, none⟩ ∧ S b ∧ ∀ j, j < cs.length → w.cell? ⟨b, off + 0 * size + j, none⟩ = cs[j]?) := by
  rcases Nat.eq_zero_or_pos n with h0 | h0
  · rcases h.2 with ⟨rfl, _⟩ | ⟨g, cap, cur, rfl, _, hh, hc, _⟩
    · exact ⟨none, 0, by rw [h0], by omega, fun h => by omega⟩
    · exact ⟨some ⟨g, 0, none⟩, cap, rfl, hc, fun h => by omega⟩
  · obtain ⟨g, cap, rfl, hg, hlt⟩ := h.form h0
    have hc : n ≤ cap := by
      rcases h.2 with ⟨e, _⟩ | ⟨g', cap', cur, e, _, _, hc, _⟩
      · cases e
      · injection e with _ _ e3; omega
    refine ⟨some ⟨g, 0, none⟩, cap, rfl, hc, fun _ => ⟨g, 0, rfl, hS _ hg hlt, fun j hj => ?_⟩⟩
    rw [Nat.zero_mul, Nat.add_zero, Nat.zero_add, h.cellAt j (by have := h.1; omega)]
theorem TypeS.mk_ {w : World} {S : Nat → Prop} {t : T} {x3 x4 x5 : Value} (h3 : StrsS w S x3 t.names) (h4 : ∃ (A : Option Addr) (c : Nat), x4 = .slice A t.fields.length c ∧ t.fields.length ≤ c ∧ (0 < t.fields.length → ∃ b off, A = some ⟨b, off, none⟩ ∧ S b ∧ FieldsS w S b off 0 t.fields))
    (h5 : ∃ (A : Option Addr) (c : Nat), x5 = .slice A t.of.length c ∧ t.of.length ≤ c ∧ (0 < t.of.length → ∃ b off, A = some ⟨b, off, none⟩ ∧ S b ∧ TypesS w S b off 0 t.of)) : TypeS w S t (.int .i64 t.kind) (.int .i64 t.lo) (.int .i64 t.hi) x3 x4 x5 := by
  obtain ⟨_, _, _, _, _, _⟩ := t
  simp only [TypeS]
  exact ⟨rfl, rfl, rfl, h3, h4, h5⟩
theorem Copied.typeS {w0 : Nat} {w : World} {t : T} {x3 x4 x5 : Value} (h : Copied w0 w t x3 x4 x5) : TypeS w (fun k => w0 ≤ k ∧ k < w.heap.size) t (.int .i64 t.kind) (.int .i64 t.lo) (.int .i64 t.hi) x3 x4 x5 := by
  obtain ⟨cs, ds, h1, o3, o4, o5, r4, r5, -, -, -⟩ := h
  refine TypeS.mk_ (own_strsS o3 fun k a b => ⟨a, b⟩) ?_ ?_
  · obtain ⟨A, c, e, hc, hk⟩ := own_row (S := fun k => w0 ≤ k ∧ k < w.heap.size) o4 fun k a b => ⟨a, b⟩
    refine ⟨A, c, e, hc, fun h0 => ?_⟩
    obtain ⟨b, off, e1, e2, e3⟩ := hk h0
    exact ⟨b, off, e1, e2, RawFs.fields (r4.keep (fun k hk => ⟨hk.1, hk.2.1⟩) fun _ _ => rfl) e3⟩
  · obtain ⟨A, c, e, hc, hk⟩ := own_row (S := fun k => w0 ≤ k ∧ k < w.heap.size) o5 fun k a b => ⟨a, b⟩
    refine ⟨A, c, e, hc, fun h0 => ?_⟩
    obtain ⟨b, off, e1, e2, e3⟩ := hk h0
    exact ⟨b, off, e1, e2, RawTs.types (r5.keep (fun k hk => ⟨hk.1, hk.2.1⟩) fun _ _ => rfl) e3⟩
theorem set3_list (L1 L2 : List Value) (a b c x y z : Value) : (((L1 ++ a :: b :: c :: L2).set L1.length x).set (L1.length + 1) y).set (L1.length + 2) z = L1 ++ x :: y :: z :: L2 := by
  simp
/-- Three cells of an own row are turned. -/
theorem row_set3 {w w2 : World} {base e size n g cap : Nat} {L1 L2 : List Value} {a b c x y z : Value} {cur : Array Value} {i : Nat} (h : w.ownsRow base e size (.slice (some ⟨g, 0, none⟩) n cap) n (L1 ++ a :: b :: c :: L2)) (hh : w.heap[g]? = some (.cells cur e (0, 0))) (hi : L1.length = i)
    (h2 : w2.heap[g]? = some (.cells (((cur.setIfInBounds i x).setIfInBounds (i + 1) y).setIfInBounds (i + 2) z) e (0, 0))) : w2.ownsRow base e size (.slice (some ⟨g, 0, none⟩) n cap) n (L1 ++ x :: y :: z :: L2) := by
  subst hi
  obtain ⟨h1, hr⟩ := h
  refine ⟨by simpa using h1, .inr ?_⟩
  rcases hr with ⟨e1, _⟩ | ⟨g', cap', cur', e1, r1, r2, r3, r4, r5, r6⟩
  · cases e1
  · injection e1 with e1 _ e3
    injection e1 with e1
    injection e1 with e1
    subst e1; subst e3
    rw [hh] at r2
    injection r2 with r2
    injection r2 with r2
    subst r2
    refine ⟨g, cap, _, rfl, r1, h2, r3, r4, by simpa using r5, ?_⟩
    simp only [Array.toList_setIfInBounds]
    rw [List.take_set, List.take_set, List.take_set, r6, set3_list]
theorem row_cur {w : World} {base e size n g cap : Nat} {xs : List Value} (h : w.ownsRow base e size (.slice (some ⟨g, 0, none⟩) n cap) n xs) : ∃ cur, w.heap[g]? = some (.cells cur e (0, 0)) ∧ ∀ j, j < xs.length → cur[j]? = xs[j]? := by
  have hc := h.cellAt
  obtain ⟨h1, hr⟩ := h
  rcases hr with ⟨e1, _⟩ | ⟨g', cap', cur', e1, r1, r2, r3, r4, r5, r6⟩
  · cases e1
  · injection e1 with e1 _ e3
    injection e1 with e1
    injection e1 with e1
    subst e1
    exact ⟨cur', r2, fun j hj => by rw [← cell_block r2 j]; exact hc j (by omega)⟩
theorem RawFs.cut {w : World} {S : Nat → Prop} {l : List F} {j : Nat} (hj : j < l.length) {c : List Value} (h : RawFs w S (l.drop j) c) : ∃ (v0 v1 v2 v3 v4 v5 : Value) (c' : List Value), c = .string (l[j]).name :: .bool (l[j]).opt :: v0 :: v1 :: v2 :: v3 :: v4 :: v5 :: c' ∧ TypeS w S (l[j]).type v0 v1 v2 v3 v4 v5 ∧ RawFs w S (l.drop (j + 1)) c' := by
  rw [List.drop_eq_getElem_cons hj] at h
  simpa only [RawFs] using h
theorem RawTs.cut {w : World} {S : Nat → Prop} {l : List T} {j : Nat} (hj : j < l.length) {c : List Value} (h : RawTs w S (l.drop j) c) : ∃ (v0 v1 v2 v3 v4 v5 : Value) (c' : List Value), c = v0 :: v1 :: v2 :: v3 :: v4 :: v5 :: c' ∧ TypeS w S l[j] v0 v1 v2 v3 v4 v5 ∧ RawTs w S (l.drop (j + 1)) c' := by
  rw [List.drop_eq_getElem_cons hj] at h
  simpa only [RawTs] using h
theorem RawFs.snoc {w : World} {S : Nat → Prop} {l : List F} {j : Nat} (hj : j < l.length) {c : List Value} (h : RawFs w S (l.take j) c) {v0 v1 v2 v3 v4 v5 : Value} (ht : TypeS w S (l[j]).type v0 v1 v2 v3 v4 v5) : RawFs w S (l.take (j + 1)) (c ++ [.string (l[j]).name, .bool (l[j]).opt, v0, v1, v2, v3, v4, v5]) := by
  rw [List.take_succ_eq_append_getElem hj]
  exact h.append ⟨v0, v1, v2, v3, v4, v5, [], rfl, ht, rfl⟩
theorem RawTs.snoc {w : World} {S : Nat → Prop} {l : List T} {j : Nat} (hj : j < l.length) {c : List Value} (h : RawTs w S (l.take j) c) {v0 v1 v2 v3 v4 v5 : Value} (ht : TypeS w S l[j] v0 v1 v2 v3 v4 v5) : RawTs w S (l.take (j + 1)) (c ++ [v0, v1, v2, v3, v4, v5]) := by
  rw [List.take_succ_eq_append_getElem hj]
  exact h.append ⟨v0, v1, v2, v3, v4, v5, [], rfl, ht, rfl⟩
end Go.Proofs.YtnjmknofojjlmaaDoor
