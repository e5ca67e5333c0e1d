/-
  What stands while SchemaCopies goes on: the boxes, and what is in them.
-/
import Derived.Test.YtcbbocnblgpbbaaDoorTSmall
import Derived.Test.YtcbbocnblgpbbaaDoorGrow4
namespace Go.Proofs.YtcbbocnblgpbbaaDoor
open Go.RowKit

def dictOf (t : T) : T := .mk 2 0 3 [] [] [t]
def listOf (t : T) : T := .mk 3 0 3 [] [] [t]
theorem dictOf_at (t : T) (s : ByteArray) : goAt (dictOf t) [s] = some t := by simp [goAt, inside, dictOf, T.kind, T.of]
theorem listOf_at (t : T) : goAt (listOf t) [⟨#[48]⟩] = some t := by
  have : (⟨#[48]⟩ : ByteArray) = zeroStr := rfl
  simp [goAt, inside, listOf, T.kind, T.of, this]
theorem listOf_not (t : T) : goAt (listOf t) [⟨#[49]⟩] = none := by
  have : ¬ (⟨#[49]⟩ : ByteArray) = zeroStr := by decide
  simp [goAt, inside, listOf, T.kind, T.of, this]
theorem dictOf_size (t : T) : (dictOf t).size = t.size + 1 := by simp [dictOf, T.size, T.sizesF, T.sizes]
theorem listOf_size (t : T) : (listOf t).size = t.size + 1 := by simp [listOf, T.size, T.sizesF, T.sizes]
theorem listOf_depth (t : T) : (listOf t).depth = t.depth + 1 := by simp [listOf, T.depth, T.depthsF, T.depths]
theorem dictOf_depth (t : T) : (dictOf t).depth = t.depth + 1 := by simp [dictOf, T.depth, T.depthsF, T.depths]
theorem dictOf_fit {t : T} (h : t.Fit) : (dictOf t).Fit := by simp [dictOf, T.Fit, T.FitsF, T.Fits, h]
theorem listOf_fit {t : T} (h : t.Fit) : (listOf t).Fit := by simp [listOf, T.Fit, T.FitsF, T.Fits, h]

/-- The boxes from the place n on: the copy; a row of one, and the dictionary of it; a row of one, and the list of it. -/
structure CopSt (w0 wn w : World) (n n0 : Nat) (t : T) (A3 A4 A5 B3 B4 B5 : Option Addr) (c3 c4 c5 d3 d4 d5 : Nat) : Prop where
  bl : Below w0.heap.size w0 w
  b3 : ∀ k, k < n → w.heap[k]? = wn.heap[k]?
  hn0 : w0.heap.size < n0
  hn : n0 ≤ n
  nl : n + 1 + 1 + 1 + 1 + 1 ≤ w.heap.size
  ht : TypeIn w0 w0.heap.size t (.int .i64 t.kind) (.int .i64 t.lo) (.int .i64 t.hi) (.slice A3 t.names.length c3) (.slice A4 t.fields.length c4) (.slice A5 t.of.length c5)
  bx : Box6 w w0.heap.size (.int .i64 t.kind) (.int .i64 t.lo) (.int .i64 t.hi) (.slice A3 t.names.length c3) (.slice A4 t.fields.length c4) (.slice A5 t.of.length c5)
  bc : Box6 w n (.int .i64 t.kind) (.int .i64 t.lo) (.int .i64 t.hi) (.slice B3 t.names.length d3) (.slice B4 t.fields.length d4) (.slice B5 t.of.length d5)
  rd : Box6 w (n + 1) (.int .i64 t.kind) (.int .i64 t.lo) (.int .i64 t.hi) (.slice A3 t.names.length c3) (.slice A4 t.fields.length c4) (.slice A5 t.of.length c5)
  bd : Box6 w (n + 1 + 1) (.int .i64 2) (.int .i64 0) (.int .i64 3) (.slice none 0 0) (.slice none 0 0) (.slice (some ⟨n + 1, 0, none⟩) 1 1)
  rl : Box6 w (n + 1 + 1 + 1) (.int .i64 t.kind) (.int .i64 t.lo) (.int .i64 t.hi) (.slice A3 t.names.length c3) (.slice A4 t.fields.length c4) (.slice A5 t.of.length c5)
  bi : Box6 w (n + 1 + 1 + 1 + 1) (.int .i64 3) (.int .i64 0) (.int .i64 3) (.slice none 0 0) (.slice none 0 0) (.slice (some ⟨n + 1 + 1 + 1, 0, none⟩) 1 1)
  cp : Copied n0 w t (.slice B3 t.names.length d3) (.slice B4 t.fields.length d4) (.slice B5 t.of.length d5)
section
variable {w0 wn w w' : World} {n n0 : Nat} {t : T} {A3 A4 A5 B3 B4 B5 : Option Addr} {c3 c4 c5 d3 d4 d5 : Nat}
theorem CopSt.next (h : CopSt w0 wn w n n0 t A3 A4 A5 B3 B4 B5 c3 c4 c5 d3 d4 d5) (hb : Below w.heap.size w w') : CopSt w0 wn w' n n0 t A3 A4 A5 B3 B4 B5 c3 c4 c5 d3 d4 d5 := by
  have h1 := h.bl.size; have h2 := h.hn0; have h3 := h.hn; have h4 := h.nl; have h5 := hb.size
  exact ⟨h.bl.trans (hb.mono h1), fun k hk => (hb.block k (by omega)).trans (h.b3 k hk), h2, h3, by omega, h.ht, h.bx.same (hb.block _ (by omega)), h.bc.same (hb.block _ (by omega)), h.rd.same (hb.block _ (by omega)), h.bd.same (hb.block _ (by omega)), h.rl.same (hb.block _ (by omega)), h.bi.same (hb.block _ (by omega)), h.cp.later h5 fun k _ hk => hb.block k hk⟩
theorem CopSt.tv (h : CopSt w0 wn w n n0 t A3 A4 A5 B3 B4 B5 c3 c4 c5 d3 d4 d5) : TypeV w w.heap.size t (.agg #[.int .i64 t.kind, .int .i64 t.lo, .int .i64 t.hi, .slice A3 t.names.length c3, .slice A4 t.fields.length c4, .slice A5 t.of.length c5]) :=
  ⟨_, _, _, _, _, _, rfl, h.ht.keep h.bl.size fun _ hp => h.bl.cell hp⟩
theorem CopSt.cv (h : CopSt w0 wn w n n0 t A3 A4 A5 B3 B4 B5 c3 c4 c5 d3 d4 d5) : TypeV w w.heap.size t (.agg #[.int .i64 t.kind, .int .i64 t.lo, .int .i64 t.hi, .slice B3 t.names.length d3, .slice B4 t.fields.length d4, .slice B5 t.of.length d5]) :=
  ⟨_, _, _, _, _, _, rfl, h.cp.typeIn⟩
theorem one_type {w : World} {B k : Nat} {v0 v1 v2 v3 v4 v5 : Value} (hb : Box6 w k v0 v1 v2 v3 v4 v5) (hk : k < B) (ht : TypeIn w B t v0 v1 v2 v3 v4 v5) : TypesV w B (.slice (some ⟨k, 0, none⟩) 1 1) [t] := by
  obtain ⟨x0, x1, x2, x3, x4, x5⟩ := hb.cells
  refine ⟨_, 1, rfl, Nat.le_refl _, fun _ => ⟨_, _, rfl, hk, ?_⟩⟩
  simp only [TypesIn, Nat.zero_mul, Nat.add_zero]
  exact ⟨⟨_, _, _, _, _, _, x0, by simpa using x1, by simpa using x2, by simpa using x3, by simpa using x4, by simpa using x5, ht⟩, trivial⟩
theorem CopSt.dv (h : CopSt w0 wn w n n0 t A3 A4 A5 B3 B4 B5 c3 c4 c5 d3 d4 d5) : TypeV w w.heap.size (dictOf t) (.agg #[.int .i64 2, .int .i64 0, .int .i64 3, .slice none 0 0, .slice none 0 0, .slice (some ⟨n + 1, 0, none⟩) 1 1]) := by
  have h4 := h.nl
  exact ⟨_, _, _, _, _, _, rfl, TypeIn.mk_ (d := dictOf t) strs_none fields_none (one_type h.rd (by omega) (h.ht.keep h.bl.size fun _ hp => h.bl.cell hp))⟩
theorem CopSt.lv (h : CopSt w0 wn w n n0 t A3 A4 A5 B3 B4 B5 c3 c4 c5 d3 d4 d5) : TypeV w w.heap.size (listOf t) (.agg #[.int .i64 3, .int .i64 0, .int .i64 3, .slice none 0 0, .slice none 0 0, .slice (some ⟨n + 1 + 1 + 1, 0, none⟩) 1 1]) := by
  have h4 := h.nl
  exact ⟨_, _, _, _, _, _, rfl, TypeIn.mk_ (d := listOf t) strs_none fields_none (one_type h.rl (by omega) (h.ht.keep h.bl.size fun _ hp => h.bl.cell hp))⟩
end
theorem heap_at {w : World} {k : Nat} (o : Obj) (h : w.heap.size = k) : (w.alloc o).heap[k]? = some o := h ▸ heap_alloc_new w o
theorem one_way {w : World} {B k : Nat} {s : ByteArray} (hb : w.heap[k]? = some (.cells #[.string s] 9 (0, 0))) (hk : k < B) : Strs w B (.slice (some ⟨k, 0, none⟩) 1 1) [s] := by
  refine ⟨_, 1, rfl, Nat.le_refl _, fun _ => ⟨_, _, rfl, hk, fun i hi => ?_⟩⟩
  match i, hi with
  | 0, _ => exact cell_block hb 0
theorem tsame_self {t : T} {v u : Value} {w : World} {B : Nat} (hf : t.Fit) (hB : B ≤ w.heap.size) (hv : TypeV w B t v) (hu : TypeV w B t u) :
    Calls Tryd.prog 20 #[v, u] w fun e w' => e = .returned (.bool true) ∧ Below w.heap.size w w' := by
  have h := tsame_any (a := t) (b := t) hf hf hB hv hu
  rw [sameT_self] at h
  exact h
theorem tsize_dict {t : T} {v : Value} {w : World} {B : Nat} (hs : t.size ≤ 1000) (hd : t.depth ≤ 100) (hf : t.Fit) (hB : B ≤ w.heap.size) (ht : TypeV w B (dictOf t) v) :
    Calls Tryd.prog 16 #[v] w fun e w' => e = .returned (.int .i64 ((t.size : Int) + 1)) ∧ Below w.heap.size w w' := by
  have h := tsize_any (t := dictOf t) (by rw [dictOf_size]; omega) (by rw [dictOf_depth]; omega) (dictOf_fit hf) hB ht
  rw [dictOf_size] at h
  exact h
theorem tdepth_list {t : T} {v : Value} {w : World} {B : Nat} (hs : t.size ≤ 1000) (hd : t.depth ≤ 100) (hf : t.Fit) (hB : B ≤ w.heap.size) (ht : TypeV w B (listOf t) v) :
    Calls Tryd.prog 18 #[v] w fun e w' => e = .returned (.int .i64 ((t.depth : Int) + 1)) ∧ Below w.heap.size w w' := by
  have h := tdepth_any (t := listOf t) (by rw [listOf_size]; omega) (by rw [listOf_depth]; omega) (listOf_fit hf) hB ht
  rw [listOf_depth] at h
  exact h
/-- A box of a type is loaded in a region that only reads. -/
theorem quiet_load6 {C : World → Prop} {K : Act → Prop} {o : Oper} {a : Act} {b : Nat} {v0 v1 v2 v3 v4 v5 : Value} (x : Operand) (ho : o.op = .load 26 x) (hx : a.eval x = .pointer (some ⟨b, 0, none⟩)) (hb : ∀ w, C w → Box6 w b v0 v1 v2 v3 v4 v5)
    (hk : K (a.put o.dst (.agg #[v0, v1, v2, v3, v4, v5]))) : o.quiet Tryd.prog a C K :=
  ⟨_, fun w hw => by
    obtain ⟨z0, z1, z2, z3, z4, z5⟩ := (hb w hw).cells
    unfold Oper.quietAt
    have e : (execOp a.eval o).run Tryd.prog w = .ok (.value (.agg #[v0, v1, v2, v3, v4, v5])) w := by
      unfold execOp
      rw [ho]
      dsimp only
      rw [hx]
      simp [go_sem, z0, z1, z2, z3, z4, z5]
    rw [e]
    exact ⟨rfl, rfl⟩, hk⟩
/-- The row of the copy's fields: its block is the call's own. -/
theorem Copied.row {n0 : Nat} {w : World} {t : T} {B3 B4 B5 : Option Addr} {d3 d4 d5 : Nat} (h : Copied n0 w t (.slice B3 t.names.length d3) (.slice B4 t.fields.length d4) (.slice B5 t.of.length d5)) (h0 : 0 < t.fields.length) :
    ∃ g cur, B4 = some ⟨g, 0, none⟩ ∧ n0 ≤ g ∧ g < w.heap.size ∧ w.heap[g]? = some (.cells cur 38 (0, 0)) ∧ t.fields.length * 8 ≤ cur.size := by
  obtain ⟨cs, ds, _, _, o4, _⟩ := h
  obtain ⟨_, ⟨e1, e2⟩ | ⟨g', cap', cur', e1, r1, r2, r3, r4, r5, r6⟩⟩ := o4
  · omega
  · injection e1 with e1 _ e3
    exact ⟨g', cur', e1, r1, size_block r2, r2, by omega⟩
/-- All but the row is as it was; the row is as long. -/
structure Spoilt (g n : Nat) (w w' : World) : Prop where
  but : But g w w'
  row : ∃ cur, w'.heap[g]? = some (.cells cur 38 (0, 0)) ∧ n ≤ cur.size
theorem Spoilt.set {g n i : Nat} {w w' : World} (h : Spoilt g n w w') (u : Value) : Spoilt g n w (w'.setCell ⟨g, i, none⟩ u) := by
  obtain ⟨cur, h1, h2⟩ := h.row
  refine ⟨h.but.setCell i u, cur.setIfInBounds i u, ?_, by simpa using h2⟩
  simp [World.setCell, Array.getElem?_modify, h1]
theorem Spoilt.cell {g n i : Nat} {w w' : World} (h : Spoilt g n w w') (hi : i < n) : ∃ v, w'.cell? ⟨g, i, none⟩ = some v := by
  obtain ⟨cur, h1, h2⟩ := h.row
  rw [cell_block h1]
  exact ⟨cur[i]'(by omega), by simp [show i < cur.size by omega]⟩
theorem Spoilt.free {g n : Nat} {w w' : World} (h : Spoilt g n w w') (i : Nat) : w'.frozen? ⟨g, i, none⟩ = false := by
  obtain ⟨cur, h1, h2⟩ := h.row
  exact free_block h1 i
end Go.Proofs.YtcbbocnblgpbbaaDoor
