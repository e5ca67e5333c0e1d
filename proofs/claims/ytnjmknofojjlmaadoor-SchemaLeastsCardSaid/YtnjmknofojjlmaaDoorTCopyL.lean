/-
  append of a row that can be read onto nil: rows of strings, fields, types of the call's own.
-/
import Derived.Test.YtnjmknofojjlmaaDoorTypeS
import Derived.Test.YtnjmknofojjlmaaDoorTBox
import Derived.Maps.AppendAt
import Derived.Deep.AppendLies
import Derived.OwnWalk
import Derived.Deep.Onto
import Derived.Deep.Cut
namespace Go.Proofs.YtnjmknofojjlmaaDoor
open Go.RowKit

def t_blk (v : Value) : List Nat := v.ownBlock.toList
theorem t_blk_mem {v : Value} {k : Nat} : k ∈ t_blk v ↔ v.ownBlock = some k := by unfold t_blk; cases h : v.ownBlock <;> simp [eq_comm]
theorem t_infoS : (Tryd.prog.info? 9).map (fun i => (i.zero, i.size, i.bytes)) = some (some (.string ByteArray.empty), 1, 16) := by kernel_rfl
theorem infoT : (Tryd.prog.info? 26).map (fun i => (i.zero, i.size, i.bytes)) = some (some (.agg #[.int .i64 0, .int .i64 0, .int .i64 0, .slice none 0 0, .slice none 0 0, .slice none 0 0]), 6, 96) := by kernel_rfl
theorem infoF : (Tryd.prog.info? 40).map (fun i => (i.zero, i.size, i.bytes)) = some (some (.agg #[.string ByteArray.empty, .bool false, .int .i64 0, .int .i64 0, .int .i64 0, .slice none 0 0, .slice none 0 0, .slice none 0 0]), 8, 120) := by kernel_rfl
theorem t_ownsRow_slice {w : World} {base : Nat} {e : TypeId} {size n : Nat} {v : Value} {xs : List Value} (h : w.ownsRow base e size v n xs) : ∃ A c, v = .slice A n c := by
  rcases h.2 with ⟨rfl, rfl⟩ | ⟨g, cap, cur, rfl, _⟩
  · exact ⟨none, 0, rfl⟩
  · exact ⟨_, _, rfl⟩
theorem t_ownsRow_same {w w' : World} {base : Nat} {e : TypeId} {size n : Nat} {v : Value} {xs : List Value} (h : w.ownsRow base e size v n xs) (hs : ∀ k, v.ownBlock = some k → w'.heap[k]? = w.heap[k]?) : w'.ownsRow base e size v n xs := by
  obtain ⟨h1, h2⟩ := h
  refine ⟨h1, ?_⟩
  rcases h2 with h2 | ⟨g, cap, cur, hv, hg, hh, r⟩
  · exact .inl h2
  · exact .inr ⟨g, cap, cur, hv, hg, by rw [hs g (by rw [hv]; rfl)]; exact hh, r⟩
/-- 'append(v, nil...)', v the call's own: v. -/
theorem t_run_append_nils {P : Program} (w : World) (t ty e : TypeId) (i : TypeInfo) (base size c : Nat) (ht : P.underlying t = some (.slice e)) (hi : P.info? e = some i) (v : Value) (n : Nat) (xs : List Value) (hown : w.ownsRow base e size v n xs) :
    (Builtin.append_ #[t, t] ty #[v, .slice none 0 c]).run P w = .ok v w := by
  rcases hown.2 with ⟨rfl, rfl⟩ | ⟨g, cap, cur, rfl, _, _, hnc, _⟩
  · simp [Builtin.append_, run_underlying ht, sizeOf, typeInfo, hi, Builtin.lenOf, Builtin.firstCells]
  · simp [Builtin.append_, run_underlying ht, sizeOf, typeInfo, hi, Builtin.lenOf, Builtin.firstCells, hnc, storeCells]
theorem t_wpList_append_nilsrc {P : Program} {w : World} {ops : Array Oper} {rest : List Oper} {o : Oper} {a : Act} {Q : Exit → Act → World → Prop} (hgd : o.guard = none) (s x : Operand) (t e : TypeId) (i : TypeInfo) (base size c : Nat)
    (ho : o.op = .call { callee := .builtin .append, args := #[s, x], argTypes := #[t, t] }) (ht : P.underlying t = some (.slice e)) (hi : P.info? e = some i) (v : Value) (n : Nat) (xs : List Value) (hs : a.eval s = v) (hown : w.ownsRow base e size v n xs) (hx : a.eval x = .slice none 0 c)
    (h : wpList P ops Q rest (a.put o.dst v) w) : wpList P ops Q (o :: rest) a w := by
  refine wpList_plain hgd fun K hK => ?_
  have hrun := t_run_append_nils (P := P) w t o.type e i base size c ht hi v n xs hown
  unfold Oper.wp execOp
  simp only [ho, resolve, invoke, builtin, Sem.run_bind, Sem.run_pure, Result.andThen_ok, List.map_toArray, List.map_cons, List.map_nil, hs, hx, hrun]
  exact hK _ _ h
/-- A row that can be read, as cells: of whatever element type. -/
def RowV (w : World) (size : Nat) (v : Value) (n : Nat) (cs : List Value) : Prop :=
  ∃ (A : Option Addr) (c : Nat), v = .slice A n c ∧ n ≤ c ∧ cs.length = n * size ∧ (∀ u ∈ cs, u.oneCell' = true) ∧ (A = none → n = 0) ∧ ∀ a, A = some a → ∀ j u, cs[j]? = some u → w.cell? (a.add j) = some u
theorem add_at (b off j : Nat) : (⟨b, off, none⟩ : Addr).add j = ⟨b, off + j, none⟩ := by unfold Addr.add; split <;> simp_all
theorem rowV_fields {w : World} {S : Nat → Prop} {l : List F} {A : Option Addr} {c : Nat} (h : l.length ≤ c ∧ (0 < l.length → ∃ b off, A = some ⟨b, off, none⟩ ∧ S b ∧ FieldsS w S b off 0 l)) : ∃ cs, RowV w 8 (.slice A l.length c) l.length cs ∧ RawFs w S l cs := by
  obtain ⟨hc, h⟩ := h
  rcases Nat.eq_zero_or_pos l.length with h0 | h0
  · obtain rfl : l = [] := List.eq_nil_of_length_eq_zero h0
    exact ⟨[], ⟨A, c, rfl, hc, rfl, by simp, fun _ => rfl, by simp⟩, rfl⟩
  · obtain ⟨b, off, rfl, _, hk⟩ := h h0
    obtain ⟨cs, h1, h2⟩ := RawFs.of_ hk
    refine ⟨cs, ⟨_, c, rfl, hc, h1.len, h1.one, by simp, fun a ha j u hj => ?_⟩, h1⟩
    injection ha with ha; subst ha
    rw [add_at]
    have := h2 j u hj
    rwa [Nat.zero_mul, Nat.add_zero] at this
theorem rowV_types {w : World} {S : Nat → Prop} {l : List T} {A : Option Addr} {c : Nat} (h : l.length ≤ c ∧ (0 < l.length → ∃ b off, A = some ⟨b, off, none⟩ ∧ S b ∧ TypesS w S b off 0 l)) : ∃ cs, RowV w 6 (.slice A l.length c) l.length cs ∧ RawTs w S l cs := by
  obtain ⟨hc, h⟩ := h
  rcases Nat.eq_zero_or_pos l.length with h0 | h0
  · obtain rfl : l = [] := List.eq_nil_of_length_eq_zero h0
    exact ⟨[], ⟨A, c, rfl, hc, rfl, by simp, fun _ => rfl, by simp⟩, rfl⟩
  · obtain ⟨b, off, rfl, _, hk⟩ := h h0
    obtain ⟨cs, h1, h2⟩ := RawTs.of_ hk
    refine ⟨cs, ⟨_, c, rfl, hc, h1.len, h1.one, by simp, fun a ha j u hj => ?_⟩, h1⟩
    injection ha with ha; subst ha
    rw [add_at]
    have := h2 j u hj
    rwa [Nat.zero_mul, Nat.add_zero] at this
theorem rowV_strs {w : World} {S : Nat → Prop} {l : List ByteArray} {v : Value} (h : StrsS w S v l) : RowV w 1 v l.length (l.map Value.string) := by
  obtain ⟨A, c, rfl, hc, h⟩ := h
  refine ⟨A, c, rfl, hc, by simp, fun u hu => ?_, fun hA => ?_, fun a ha j u hj => ?_⟩
  · obtain ⟨x, _, rfl⟩ := List.mem_map.1 hu; rfl
  · rcases Nat.eq_zero_or_pos l.length with h0 | h0
    · exact h0
    · obtain ⟨b, off, e, _⟩ := h h0; rw [hA] at e; cases e
  · rw [List.getElem?_map] at hj
    cases hxj : l[j]? with
    | none => rw [hxj] at hj; cases hj
    | some y =>
      rw [hxj] at hj
      obtain ⟨hlt, rfl⟩ := List.getElem?_eq_some_iff.1 hxj
      obtain ⟨b, off, e, _, hk⟩ := h (by omega)
      rw [ha] at e
      injection e with e; subst e
      rw [add_at, hk j hlt]; exact hj
theorem RowV.keep {w w' : World} {size n : Nat} {v : Value} {cs : List Value} (h : 0 < n → ∀ p : Addr, v.ownBlock = some p.block → w'.cell? p = w.cell? p) (hv : RowV w size v n cs) : RowV w' size v n cs := by
  obtain ⟨A, c, rfl, h1, h2, h3, h4, h5⟩ := hv
  refine ⟨A, c, rfl, h1, h2, h3, h4, fun a ha j u hj => ?_⟩
  rcases Nat.eq_zero_or_pos n with h0 | h0
  · rw [h0, Nat.zero_mul] at h2
    rw [List.eq_nil_of_length_eq_zero h2] at hj; simp at hj
  · rw [h h0 _ (by subst ha; simp only [Value.ownBlock]; congr 1; exact (block_of_add a j).symm)]
    exact h5 a ha j u hj
theorem set_block {w w1 : World} {b : Nat} {arr : Array Value} {ty : TypeId} (hb1 : Below w.heap.size w w1) (hb : w.heap[b]? = some (.cells arr ty (0, 0))) (hbl : b < w.heap.size) (i : Nat) (x : Value) : (w1.setCell ⟨b, i, none⟩ x).heap[b]? = some (.cells (arr.setIfInBounds i x) ty (0, 0)) := by
  have := (hb1.block b hbl).trans hb
  simp [World.setCell, Array.getElem?_modify, this]
theorem size_setCell (w : World) (a : Addr) (x : Value) : (w.setCell a x).heap.size = w.heap.size := by simp [World.setCell]
/-- append([]E(nil), row...). -/
theorem wpList_append_row {P : Program} {w : World} {ops : Array Oper} {rest : List Oper} {o : Oper} {a : Act} {Q : Exit → Act → World → Prop} (hgd : o.guard = none) (s x : Operand) (t e : TypeId)
    (ho : o.op = .call { callee := .builtin .append, args := #[s, x], argTypes := #[t, t] }) (i : TypeInfo) (z : Value) (size bytes : Nat) (ht : P.underlying t = some (.slice e)) (hi : P.info? e = some i) (hz : i.zero = some z)
    (hsize : i.size = size) (hby : i.bytes = bytes) (hzs : z.cells.size = size) (hsz : 0 < size) (hb2 : bytes ≤ 1000)
    (u : Value) (n : Nat) (cs : List Value) (hs : a.eval s = .slice none 0 0) (hx : a.eval x = u) (hu : RowV w size u n cs) (hn : n ≤ 100000)
    (h : ∀ v' w', w'.ownsRow w.heap.size e size v' n cs → Below w.heap.size w w' → wpList P ops Q rest (a.put o.dst v') w') :
    wpList P ops Q (o :: rest) a w := by
  obtain ⟨A, c, rfl, hc, hl, h1, hA, hcell⟩ := hu
  cases A with
  | none =>
    obtain rfl := hA rfl
    obtain rfl : cs = [] := List.eq_nil_of_length_eq_zero (by simpa using hl)
    exact t_wpList_append_nilsrc hgd s x t e i w.heap.size size c ho ht hi (.slice none 0 0) 0 [] hs (World.ownsRow_nil _ _ _ _) hx (h _ w (World.ownsRow_nil _ _ _ _) (Below.refl _ _))
  | some ad =>
    refine wpList_append_own_at _ hgd s x t ho w.heap.size e i z size bytes ht hi hz hsize hby hzs hsz (.slice none 0 0) 0 [] hs (World.ownsRow_nil _ _ _ _) ad n c cs hx hl (hcell ad rfl) h1 (by unfold maxLen; omega) (by
      have := Nat.mul_le_mul (show 0 + n ≤ 100000 by omega) hb2; omega) (Nat.le_refl _) fun v' w' h2 h3 _ _ => ?_
    rw [Nat.zero_add, List.nil_append] at h2
    exact h v' w' h2 ⟨h3.os, h3.tape, h3.output, h3.size, fun k hk => h3.block k hk (by simp [Value.ownBlock])⟩

/-- The three rows of a copy, shallow. -/
structure Shallow (w0 w : World) (b o : Nat) (arr : Array Value) (ty : TypeId) (t : T) (S : Nat → Prop) (x3 x4 x5 : Value) (cs ds : List Value) : Prop where
  box : w.heap[b]? = some (.cells (((arr.setIfInBounds (o + 3) x3).setIfInBounds (o + 4) x4).setIfInBounds (o + 5) x5) ty (0, 0))
  o3 : w.ownsRow w0.heap.size 9 1 x3 t.names.length (t.names.map Value.string)
  o4 : w.ownsRow w0.heap.size 40 8 x4 t.fields.length cs
  o5 : w.ownsRow w0.heap.size 26 6 x5 t.of.length ds
  r4 : RawFs w0 S t.fields cs
  r5 : RawTs w0 S t.of ds
  n34 : ∀ k, x3.ownBlock = some k → x4.ownBlock ≠ some k
  n35 : ∀ k, x3.ownBlock = some k → x5.ownBlock ≠ some k
  n45 : ∀ k, x4.ownBlock = some k → x5.ownBlock ≠ some k
  bt : But b w0 w
set_option maxHeartbeats 4000000 in
set_option maxRecDepth 100000 in
theorem copy1_any {t : T} {b o : Nat} {arr : Array Value} {ty : TypeId} {w : World} {S : Nat → Prop} {d : Nat} {v0 v1 v2 v3 v4 v5 : Value} (hf : t.Fit) (hb : w.heap[b]? = some (.cells arr ty (0, 0)))
    (a3 : arr[o + 3]? = some v3) (a4 : arr[o + 4]? = some v4) (a5 : arr[o + 5]? = some v5) (ht : TypeS w S t v0 v1 v2 v3 v4 v5) (hS : ∀ k, S k → k < w.heap.size ∧ k ≠ b) :
    Calls Tryd.prog 56 #[.pointer (some ⟨b, o, none⟩), .int .i64 (d : Int)] w fun e w' => e = .returned (.bool true) ∧ ∃ x3 x4 x5 cs ds, Shallow w w' b o arr ty t S x3 x4 x5 cs ds := by
  obtain ⟨f1, f2, f3, -, -, -⟩ := hf.parts
  have HS := Lib.hid hS
  obtain ⟨kind, lo, hi, names, fields, of⟩ := t
  simp only [TypeS] at ht
  obtain ⟨rfl, rfl, rfl, h3, ⟨A4, d4, rfl, h4⟩, ⟨A5, d5, rfl, h5⟩⟩ := ht
  simp only [T.names, T.fields, T.of] at f1 f2 f3
  have R3 := Lib.hid (rowV_strs h3)
  obtain ⟨cs, r4, q4⟩ := rowV_fields h4
  obtain ⟨ds, r5, q5⟩ := rowV_types h5
  have R4 := Lib.hid r4; have R5 := Lib.hid r5; have Q4 := Lib.hid q4; have Q5 := Lib.hid q5
  have H4 := Lib.hid h4; have H5 := Lib.hid h5; have H3 := Lib.hid h3
  obtain ⟨A3, d3, rfl, _⟩ := h3
  clear h4 h5 r4 r5 q4 q5 hS
  have hbl := size_block hb
  have c3 : w.cell? ⟨b, o + 3, none⟩ = some (.slice A3 names.length d3) := (cell_block hb _).trans a3
  have z3 := free_block hb (o + 3)
  have C4 := Lib.hid ((cell_block hb (o + 4)).trans a4); have Z4 := Lib.hid (free_block hb (o + 4))
  have HB := Lib.hid hb; have A4' := Lib.hid a4; have A5' := Lib.hid a5
  clear hb a3 a4 a5
  obtain ⟨i0, hi0, hz0, hz1, hz2⟩ := info_parts t_infoS
  obtain ⟨i1, hi1, hy0, hy1, hy2⟩ := info_parts infoF
  obtain ⟨i2, hi2, hx0, hx1, hx2⟩ := info_parts infoT
  have I0 := Lib.hid hi0; have I1 := Lib.hid hz0; have I2 := Lib.hid hz1; have I3 := Lib.hid hz2
  have J0 := Lib.hid hi1; have J1 := Lib.hid hy0; have J2 := Lib.hid hy1; have J3 := Lib.hid hy2
  have K0 := Lib.hid hi2; have K1 := Lib.hid hx0; have K2 := Lib.hid hx1; have K3 := Lib.hid hx2
  clear hi0 hz0 hz1 hz2 hi1 hy0 hy1 hy2 hi2 hx0 hx1 hx2
  go_enter Tryd.func56, Tryd.ntmps56
  go_upto_region 2 with (at_builtin; refine wpList_append_row rfl _ _ 22 9 rfl i0 (.string ByteArray.empty) 1 16 Tryd.underlying22 I0.out I1.out I2.out I3.out (by rfl) (by omega) (by omega) (.slice A3 names.length d3) names.length _ rfl rfl R3.out (by omega) ?_; intro x3 w1 hown1 hb1; obtain ⟨B3, e3, rfl⟩ := t_ownsRow_slice hown1; have O3 := Lib.hid hown1; have HB1 := Lib.hid hb1; have z3' : w1.frozen? ⟨b, o + 3, none⟩ = false := (hb1.frozen (p := ⟨b, o + 3, none⟩) hbl).trans z3; have c3' := (hb1.cell (p := ⟨b, o + 3, none⟩) hbl).trans c3; have y4 := (hb1.cell (p := ⟨b, o + 4, none⟩) hbl).trans C4.out; clear hown1 hb1 c3 z3)
  clear c3' z3' y4
  have hs1 := HB1.out.size
  have hbk1 := set_block HB1.out HB.out hbl (o + 3) (.slice B3 names.length e3)
  obtain ⟨W1, hW1⟩ : ∃ W1, W1 = w1.setCell ⟨b, o + 3, none⟩ (.slice B3 names.length e3) := ⟨_, rfl⟩
  rw [← hW1] at hbk1
  have hz1 : W1.heap.size = w1.heap.size := by rw [hW1, size_setCell]
  have HK1 : Hid (∀ k, k ≠ b → W1.heap[k]? = w1.heap[k]?) := fun k hk => by rw [hW1]; exact Below.heap_setCell _ _ _ k hk
  have BT1 : Hid (But b w W1) := by rw [hW1]; exact (But.of_below HB1.out).setCell _ _
  have R4' : Hid (RowV W1 8 (.slice A4 fields.length d4) fields.length cs) := R4.out.keep fun h0 p hp => by
    obtain ⟨bb, off, rfl, hs, _⟩ := H4.out.2 h0
    have := HS.out _ hs
    injection hp with hp
    exact BT1.out.cell (by rw [← hp]; exact this.1) (by rw [← hp]; exact this.2)
  have R5' : Hid (RowV W1 6 (.slice A5 of.length d5) of.length ds) := R5.out.keep fun h0 p hp => by
    obtain ⟨bb, off, rfl, hs, _⟩ := H5.out.2 h0
    have := HS.out _ hs
    injection hp with hp
    exact BT1.out.cell (by rw [← hp]; exact this.1) (by rw [← hp]; exact this.2)
  have c4 : W1.cell? ⟨b, o + 4, none⟩ = some (.slice A4 fields.length d4) := (cell_block hbk1 _).trans (by rw [Array.getElem?_setIfInBounds_ne (by omega)]; exact A4'.out)
  have C5 : Hid (W1.cell? ⟨b, o + 5, none⟩ = some (.slice A5 of.length d5)) := (cell_block hbk1 _).trans (by rw [Array.getElem?_setIfInBounds_ne (by omega)]; exact A5'.out)
  have z4 := free_block hbk1 (o + 4)
  have HBK1 := Lib.hid hbk1
  rw [← hW1]
  have HW1 := Lib.hid hW1
  clear hbk1 hW1
  have hbl1 : b < W1.heap.size := by omega
  go_upto_region 3 with (at_builtin; refine wpList_append_row rfl _ _ 23 40 rfl i1 (.agg #[.string ByteArray.empty, .bool false, .int .i64 0, .int .i64 0, .int .i64 0, .slice none 0 0, .slice none 0 0, .slice none 0 0]) 8 120 Tryd.underlying23 J0.out J1.out J2.out J3.out (by rfl) (by omega) (by omega) (.slice A4 fields.length d4) fields.length _ rfl rfl R4'.out (by omega) ?_; intro x4 w2 hown2 hb2; obtain ⟨B4, e4, rfl⟩ := t_ownsRow_slice hown2; have O4 := Lib.hid hown2; have HB2 := Lib.hid hb2; have z4' : w2.frozen? ⟨b, o + 4, none⟩ = false := (hb2.frozen (p := ⟨b, o + 4, none⟩) hbl1).trans z4; have c4' := (hb2.cell (p := ⟨b, o + 4, none⟩) hbl1).trans c4; have y5 := (hb2.cell (p := ⟨b, o + 5, none⟩) hbl1).trans C5.out; clear hown2 hb2 c4 z4)
  clear c4' z4' y5
  have hs2 := HB2.out.size
  have hbk2 := set_block HB2.out HBK1.out hbl1 (o + 4) (.slice B4 fields.length e4)
  obtain ⟨W2, hW2⟩ : ∃ W2, W2 = w2.setCell ⟨b, o + 4, none⟩ (.slice B4 fields.length e4) := ⟨_, rfl⟩
  rw [← hW2] at hbk2
  have hz2 : W2.heap.size = w2.heap.size := by rw [hW2, size_setCell]
  have HK2 : Hid (∀ k, k ≠ b → W2.heap[k]? = w2.heap[k]?) := fun k hk => by rw [hW2]; exact Below.heap_setCell _ _ _ k hk
  have BT2 : Hid (But b w W2) := BT1.out.trans (by rw [hW2]; exact (But.of_below HB2.out).setCell _ _)
  have R5'' : Hid (RowV W2 6 (.slice A5 of.length d5) of.length ds) := R5.out.keep fun h0 p hp => by
    obtain ⟨bb, off, rfl, hs, _⟩ := H5.out.2 h0
    have := HS.out _ hs
    injection hp with hp
    exact BT2.out.cell (by rw [← hp]; exact this.1) (by rw [← hp]; exact this.2)
  have c5 : W2.cell? ⟨b, o + 5, none⟩ = some (.slice A5 of.length d5) := (cell_block hbk2 _).trans (by rw [Array.getElem?_setIfInBounds_ne (by omega), Array.getElem?_setIfInBounds_ne (by omega)]; exact A5'.out)
  have z5 := free_block hbk2 (o + 5)
  have HBK2 := Lib.hid hbk2
  rw [← hW2]
  have HW2 := Lib.hid hW2
  clear hbk2 hW2
  have hbl2 : b < W2.heap.size := by omega
  go_wp2_with (at_builtin; refine wpList_append_row rfl _ _ 24 26 rfl i2 (.agg #[.int .i64 0, .int .i64 0, .int .i64 0, .slice none 0 0, .slice none 0 0, .slice none 0 0]) 6 96 Tryd.underlying24 K0.out K1.out K2.out K3.out (by rfl) (by omega) (by omega) (.slice A5 of.length d5) of.length _ rfl rfl R5''.out (by omega) ?_; intro x5 w3 hown3 hb3; obtain ⟨B5, e5, rfl⟩ := t_ownsRow_slice hown3; have O5 := Lib.hid hown3; have HB3 := Lib.hid hb3; have z5' : w3.frozen? ⟨b, o + 5, none⟩ = false := (hb3.frozen (p := ⟨b, o + 5, none⟩) hbl2).trans z5; have c5' := (hb3.cell (p := ⟨b, o + 5, none⟩) hbl2).trans c5; clear hown3 hb3 c5 z5)
  go_ret
  have hs3 := HB3.out.size
  have l3 := O3.out.lt; have l4 := O4.out.lt; have l5 := O5.out.lt
  have K3' : ∀ k, k < W2.heap.size → k ≠ b → (w3.setCell ⟨b, o + 5, none⟩ (.slice B5 of.length e5)).heap[k]? = W2.heap[k]? := fun k hk hkb => (Below.heap_setCell _ _ _ k hkb).trans (HB3.out.block k hk)
  have K2' : ∀ k, k < W1.heap.size → k ≠ b → W2.heap[k]? = W1.heap[k]? := fun k hk hkb => (HK2.out k hkb).trans (HB2.out.block k hk)
  refine ⟨rfl, _, _, _, cs, ds, ⟨set_block HB3.out HBK2.out hbl2 _ _, ?_, ?_, ?_, Q4.out, Q5.out, ?_, ?_, ?_, ?_⟩⟩
  · exact t_ownsRow_same O3.out fun k hk => by
      have := l3 k hk
      exact (K3' k (by omega) (by omega)).trans ((K2' k (by omega) (by omega)).trans (HK1.out k (by omega)))
  · exact World.ownsRow.mono (t_ownsRow_same O4.out fun k hk => by
      have := l4 k hk
      exact (K3' k (by omega) (by omega)).trans (HK2.out k (by omega))) (by omega)
  · exact World.ownsRow.mono (t_ownsRow_same O5.out fun k hk => by
      have := l5 k hk
      exact Below.heap_setCell _ _ _ k (by show k ≠ b; omega)) (by omega)
  · intro k h1 h2; have := l3 k h1; have := l4 k h2; omega
  · intro k h1 h2; have := l3 k h1; have := l5 k h2; omega
  · intro k h1 h2; have := l4 k h1; have := l5 k h2; omega
  · exact BT2.out.trans ((But.of_below HB3.out).setCell _ _)
end Go.Proofs.YtnjmknofojjlmaaDoor
