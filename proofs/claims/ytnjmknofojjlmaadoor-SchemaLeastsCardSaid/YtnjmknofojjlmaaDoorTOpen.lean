/-
  From the row's reading of a type to 'TypeIn', of a field to 'FieldV', of a list of strings to 'Strs'.
-/
import Derived.Test.YtnjmknofojjlmaaDoorTSmall
import Derived.Test.YtnjmknofojjlmaaDoorProg
import Derived.Deep.Slices
namespace Go.Proofs.YtnjmknofojjlmaaDoor
open Go.RowKit Go.Deep

theorem cType : Tryd.prog.cellsOf 26 = 6 := by kernel_rfl
theorem cField : Tryd.prog.cellsOf 40 = 8 := by kernel_rfl
theorem t_cInt : Tryd.prog.cellsOf 3 = 1 := by kernel_rfl
theorem cBool : Tryd.prog.cellsOf 4 = 1 := by kernel_rfl
theorem t_cStr : Tryd.prog.cellsOf 9 = 1 := by kernel_rfl
theorem t_cStrs : Tryd.prog.cellsOf 22 = 1 := by kernel_rfl
theorem cTypes : Tryd.prog.cellsOf 24 = 1 := by kernel_rfl
theorem cFields : Tryd.prog.cellsOf 23 = 1 := by kernel_rfl

theorem t_cell_spot {w : World} {a : Addr} {v : Value} (h : w.cell? a = some v) : a = ⟨a.block, a.off, none⟩ ∧ a.block < w.heap.size := by
  obtain ⟨b, o, s⟩ := a
  unfold World.cell? at h
  split at h
  · rename_i hb
    cases s with
    | none => exact ⟨rfl, (Array.getElem?_eq_some_iff.1 hb).1⟩
    | some _ => simp at h
  · cases h
theorem t_add_none (b o i : Nat) : (Addr.mk b o none).add i = ⟨b, o + i, none⟩ := by
  unfold Addr.add
  split
  · rename_i h; subst h; rfl
  · rfl
theorem t_pick_list {α : Type} {p : Nat → α → Prop} : ∀ (n : Nat), (∀ i, i < n → ∃ x, p i x) → ∃ l : List α, l.length = n ∧ ∀ (i : Nat) (h : i < l.length), p i l[i]
  | 0, _ => ⟨[], rfl, fun i h => by simp at h⟩
  | n + 1, h => by
    obtain ⟨l, hl, hp⟩ := t_pick_list n fun i hi => h i (by omega)
    obtain ⟨x, hx⟩ := h n (by omega)
    refine ⟨l ++ [x], by simp [hl], fun i hi => ?_⟩
    rcases Nat.lt_or_ge i l.length with h' | h'
    · rw [List.getElem_append_left h']; exact hp i h'
    · have e : i = l.length := by simp at hi; omega
      subst e
      simpa [hl] using hx
theorem TypesIn.of_at {w : World} {B b off : Nat} : ∀ {l : List T} {i : Nat}, (∀ (k : Nat) (h : k < l.length),
    ∃ v0 v1 v2 v3 v4 v5 : Value, w.cell? ⟨b, off + (i + k) * 6, none⟩ = some v0 ∧ w.cell? ⟨b, off + (i + k) * 6 + 1, none⟩ = some v1 ∧ w.cell? ⟨b, off + (i + k) * 6 + 2, none⟩ = some v2 ∧ w.cell? ⟨b, off + (i + k) * 6 + 3, none⟩ = some v3 ∧ w.cell? ⟨b, off + (i + k) * 6 + 4, none⟩ = some v4 ∧ w.cell? ⟨b, off + (i + k) * 6 + 5, none⟩ = some v5 ∧ TypeIn w B (l[k]) v0 v1 v2 v3 v4 v5) → TypesIn w B b off i l
  | [], _, _ => by simp [TypesIn]
  | d :: r, i, h => by
    simp only [TypesIn]
    refine ⟨h 0 (by simp), TypesIn.of_at fun k hk => ?_⟩
    have := h (k + 1) (by simpa using hk)
    rw [show i + (k + 1) = i + 1 + k from by omega] at this
    simpa using this
theorem FieldsIn.of_at {w : World} {B b off : Nat} : ∀ {l : List F} {i : Nat}, (∀ (k : Nat) (h : k < l.length), FieldIn w B b (off + (i + k) * 8) (l[k])) → FieldsIn w B b off i l
  | [], _, _ => by simp [FieldsIn]
  | d :: r, i, h => by
    simp only [FieldsIn]
    refine ⟨h 0 (by simp), FieldsIn.of_at fun k hk => ?_⟩
    have := h (k + 1) (by simpa using hk)
    rw [show i + (k + 1) = i + 1 + k from by omega] at this
    simpa using this

section
variable {H : Type} {enc : TypeId × Value → H} {W : World} {base : Nat} {sp : Nat → Bool} {held : Bool}
theorem t_mapM_cells {a : Addr} {cs : List Value} {n : Nat} (h : W.cells? base a n = some cs) : cs.length = n ∧ ∀ i, i < n → W.cell? (a.add i) = cs[i]? := by
  unfold World.cells? at h
  split at h
  · have hl := mapM_some_length h
    refine ⟨by simpa using hl, fun i hi => ?_⟩
    have := mapM_some_get h i i (by simp [hi])
    exact this
  · cases h
theorem t_open_strs {fuel : Nat} {cs : List Value} {x : DataW H × List MemPlace} (h : DataW.trod enc Tryd.prog W base sp held fuel 22 cs = some x) :
    ∃ (v : Value) (xs : List ByteArray), cs = [v] ∧ Strs W W.heap.size v xs ∧ xs.length ≤ maxLen ∧ ∀ s ∈ xs, s.size ≤ maxLen := by
  rcases open_slice1 Tryd.underlying22 t_cStr h with ⟨rfl, _⟩ | ⟨a, len, cap, m, n, V, D, Pl, rfl, _, hl, hc, hm, _, hx⟩
  · exact ⟨_, [], rfl, ⟨none, 0, rfl, by simp, fun h => by simp at h⟩, by simp, by simp⟩
  · have hlm : len ≤ m := by rw [hm]; split <;> omega
    obtain ⟨xs, hxl, hxp⟩ := t_pick_list (p := fun i (s : ByteArray) => V i = .string s ∧ s.size ≤ maxLen) len fun i hi => by
      obtain ⟨s, e, _, hs⟩ := DataW.trod_string Tryd.underlying9 (hx i (by omega)).2
      exact ⟨s, by simpa using e, hs⟩
    refine ⟨_, xs, rfl, ⟨some a, cap, by rw [hxl], by omega, fun h0 => ?_⟩, by omega, fun s hs => ?_⟩
    · obtain ⟨h1, h2⟩ := t_cell_spot (hx 0 (by omega)).1
      rw [show a.add 0 = a from by simp [Addr.add]] at h1 h2
      refine ⟨a.block, a.off, by rw [← h1], h2, fun i hi => ?_⟩
      have h3 := (hx i (by omega)).1
      rw [h1, t_add_none] at h3
      rw [h3, (hxp i hi).1]
    · obtain ⟨i, hi, rfl⟩ := List.mem_iff_getElem.1 hs
      exact (hxp i hi).2
/-- What is read as a type. -/
def OkType (W : World) (cs : List Value) : Prop := ∃ (d : T) (v0 v1 v2 v3 v4 v5 : Value), cs = [v0, v1, v2, v3, v4, v5] ∧ TypeIn W W.heap.size d v0 v1 v2 v3 v4 v5
def OkField (W : World) (cs : List Value) : Prop := ∃ (d : T) (s : ByteArray) (o : Bool) (v0 v1 v2 v3 v4 v5 : Value), cs = [.string s, .bool o, v0, v1, v2, v3, v4, v5] ∧ TypeIn W W.heap.size d v0 v1 v2 v3 v4 v5
set_option maxRecDepth 100000 in
theorem open_field_step {fuel : Nat} (ih : ∀ n, n < fuel → ∀ (cs : List Value) (x : DataW H × List MemPlace), DataW.trod enc Tryd.prog W base sp held n 26 cs = some x → OkType W cs) {cs : List Value} {x : DataW H × List MemPlace} (h : DataW.trod enc Tryd.prog W base sp held fuel 40 cs = some x) : OkField W cs := by
  obtain ⟨xs, n, hn, _, hcl, hxl, hfd⟩ := DataW.trod_struct Tryd.underlying40 h
  rw [cField] at hcl
  match cs, hcl with
  | [u0, u1, v0, v1, v2, v3, v4, v5], _ =>
    match xs, hxl with
    | [y0, y1, y2], _ =>
      have h0 : DataW.trod enc Tryd.prog W base sp held n 9 [u0] = some y0 := by simpa [t_cStr] using hfd 0 _ rfl
      have h1 : DataW.trod enc Tryd.prog W base sp held n 4 [u1] = some y1 := by simpa [cBool] using hfd 1 _ rfl
      have h2 : DataW.trod enc Tryd.prog W base sp held n 26 [v0, v1, v2, v3, v4, v5] = some y2 := by simpa [cType] using hfd 2 _ rfl
      obtain ⟨s, e0, _, _⟩ := DataW.trod_string Tryd.underlying9 h0
      obtain ⟨o, e1, _⟩ := DataW.trod_bool Tryd.underlying4 h1
      simp only [List.cons.injEq, and_true] at e0 e1
      subst e0; subst e1
      obtain ⟨d, w0, w1, w2, w3, w4, w5, e, hd⟩ := ih n (by omega) _ _ h2
      simp only [List.cons.injEq, and_true] at e
      obtain ⟨rfl, rfl, rfl, rfl, rfl, rfl⟩ := e
      exact ⟨d, s, o, _, _, _, _, _, _, rfl, hd⟩
set_option maxRecDepth 100000 in
theorem open_types (N : Nat) : ∀ (fuel : Nat), fuel ≤ N → ∀ (cs : List Value) (x : DataW H × List MemPlace), DataW.trod enc Tryd.prog W base sp held fuel 26 cs = some x → OkType W cs := by
  induction N with
  | zero =>
    intro fuel hf cs x h
    obtain rfl : fuel = 0 := by omega
    simp [DataW.trod] at h
  | succ N ih =>
    intro fuel hf cs x h
    obtain ⟨xs, n, hn, _, hcl, hxl, hfd⟩ := DataW.trod_struct Tryd.underlying26 h
    rw [cType] at hcl
    match cs, hcl with
    | [v0, v1, v2, v3, v4, v5], _ =>
      match xs, hxl with
      | [y0, y1, y2, y3, y4, y5], _ =>
        have h0 : DataW.trod enc Tryd.prog W base sp held n 3 [v0] = some y0 := by simpa [t_cInt] using hfd 0 _ rfl
        have h1 : DataW.trod enc Tryd.prog W base sp held n 3 [v1] = some y1 := by simpa [t_cInt] using hfd 1 _ rfl
        have h2 : DataW.trod enc Tryd.prog W base sp held n 3 [v2] = some y2 := by simpa [t_cInt] using hfd 2 _ rfl
        have h3 : DataW.trod enc Tryd.prog W base sp held n 22 [v3] = some y3 := by simpa [t_cStrs] using hfd 3 _ rfl
        have h4 : DataW.trod enc Tryd.prog W base sp held n 23 [v4] = some y4 := by simpa [cFields] using hfd 4 _ rfl
        have h5 : DataW.trod enc Tryd.prog W base sp held n 24 [v5] = some y5 := by simpa [cTypes] using hfd 5 _ rfl
        obtain ⟨k, e0, _, _⟩ := DataW.trod_int Tryd.underlying3 h0
        obtain ⟨m, e1, _, _⟩ := DataW.trod_int Tryd.underlying3 h1
        obtain ⟨z, e2, _, _⟩ := DataW.trod_int Tryd.underlying3 h2
        obtain ⟨u3, ks, e3, hks, _, _⟩ := t_open_strs h3
        simp only [List.cons.injEq, and_true] at e0 e1 e2 e3
        subst e0; subst e1; subst e2; subst e3
        have hF : ∃ l : List F, FieldsV W W.heap.size v4 l := by
          rcases DataW.trod_slice Tryd.underlying23 h4 with ⟨e4, _⟩ | ⟨a, len, cap, elems, rest, n', hn', e4, _, _, hl, _, hlen, hel, _, _⟩
          · simp only [List.cons.injEq, and_true] at e4
            exact ⟨[], none, 0, by rw [e4]; rfl, by simp, fun h => absurd h (by simp)⟩
          · simp only [List.cons.injEq, and_true] at e4
            rw [cField] at hel
            have hget : ∀ i, i < len → ∃ (f : F), W.cell? ((a.add (i * 8)).add 0) = some (.string f.name) ∧ W.cell? ((a.add (i * 8)).add 1) = some (.bool f.opt) ∧ ∃ v0 v1 v2 v3 v4 v5 : Value, W.cell? ((a.add (i * 8)).add 2) = some v0 ∧ W.cell? ((a.add (i * 8)).add 3) = some v1 ∧ W.cell? ((a.add (i * 8)).add 4) = some v2 ∧ W.cell? ((a.add (i * 8)).add 5) = some v3 ∧ W.cell? ((a.add (i * 8)).add 6) = some v4 ∧ W.cell? ((a.add (i * 8)).add 7) = some v5 ∧ TypeIn W W.heap.size f.type v0 v1 v2 v3 v4 v5 := by
              intro i hi
              have h' := hel i hi
              rw [List.getElem?_eq_getElem (by omega)] at h'
              obtain ⟨cs', hc1, hc2⟩ := Option.bind_eq_some_iff.1 h'
              obtain ⟨d, s, o, w0, w1, w2, w3, w4, w5, rfl, hd⟩ := open_field_step (fun q hq => ih q (by omega)) hc2
              have hc := (t_mapM_cells hc1).2
              exact ⟨.mk s o d, hc 0 (by omega), hc 1 (by omega), w0, w1, w2, w3, w4, w5, hc 2 (by omega), hc 3 (by omega), hc 4 (by omega), hc 5 (by omega), hc 6 (by omega), hc 7 (by omega), hd⟩
            obtain ⟨l, hll, hlp⟩ := t_pick_list len hget
            refine ⟨l, some a, cap, by rw [e4, hll], by omega, fun h0 => ?_⟩
            obtain ⟨hz, _⟩ := hlp 0 h0
            obtain ⟨q1, q2⟩ := t_cell_spot hz
            rw [show (a.add (0 * 8)).add 0 = a from by simp [Addr.add]] at q1 q2
            refine ⟨a.block, a.off, by rw [← q1], q2, FieldsIn.of_at fun i hi => ?_⟩
            obtain ⟨c0, c1, w0, w1, w2, w3, w4, w5, c2, c3, c4, c5, c6, c7, hd⟩ := hlp i hi
            rw [q1, t_add_none, t_add_none] at c0 c1 c2 c3 c4 c5 c6 c7
            rw [Nat.zero_add]
            generalize hf : l[i] = f at c0 c1 hd ⊢
            obtain ⟨s, o, d⟩ := f
            simp only [FieldIn]
            exact ⟨c0, c1, w0, w1, w2, w3, w4, w5, c2, c3, c4, c5, c6, c7, hd⟩
        have hO : ∃ l : List T, TypesV W W.heap.size v5 l := by
          rcases DataW.trod_slice Tryd.underlying24 h5 with ⟨e4, _⟩ | ⟨a, len, cap, elems, rest, n', hn', e4, _, _, hl, _, hlen, hel, _, _⟩
          · simp only [List.cons.injEq, and_true] at e4
            exact ⟨[], none, 0, by rw [e4]; rfl, by simp, fun h => absurd h (by simp)⟩
          · simp only [List.cons.injEq, and_true] at e4
            rw [cType] at hel
            have hget : ∀ i, i < len → ∃ (d : T), ∃ v0 v1 v2 v3 v4 v5 : Value, W.cell? ((a.add (i * 6)).add 0) = some v0 ∧ W.cell? ((a.add (i * 6)).add 1) = some v1 ∧ W.cell? ((a.add (i * 6)).add 2) = some v2 ∧ W.cell? ((a.add (i * 6)).add 3) = some v3 ∧ W.cell? ((a.add (i * 6)).add 4) = some v4 ∧ W.cell? ((a.add (i * 6)).add 5) = some v5 ∧ TypeIn W W.heap.size d v0 v1 v2 v3 v4 v5 := by
              intro i hi
              have h' := hel i hi
              rw [List.getElem?_eq_getElem (by omega)] at h'
              obtain ⟨cs', hc1, hc2⟩ := Option.bind_eq_some_iff.1 h'
              obtain ⟨d, w0, w1, w2, w3, w4, w5, rfl, hd⟩ := ih n' (by omega) cs' _ hc2
              have hc := (t_mapM_cells hc1).2
              exact ⟨d, w0, w1, w2, w3, w4, w5, hc 0 (by omega), hc 1 (by omega), hc 2 (by omega), hc 3 (by omega), hc 4 (by omega), hc 5 (by omega), hd⟩
            obtain ⟨l, hll, hlp⟩ := t_pick_list len hget
            refine ⟨l, some a, cap, by rw [e4, hll], by omega, fun h0 => ?_⟩
            obtain ⟨_, _, _, _, _, _, hz, _⟩ := hlp 0 h0
            obtain ⟨q1, q2⟩ := t_cell_spot hz
            rw [show (a.add (0 * 6)).add 0 = a from by simp [Addr.add]] at q1 q2
            refine ⟨a.block, a.off, by rw [← q1], q2, TypesIn.of_at fun i hi => ?_⟩
            obtain ⟨w0, w1, w2, w3, w4, w5, c0, c1, c2, c3, c4, c5, hd⟩ := hlp i hi
            rw [q1, t_add_none, t_add_none] at c0 c1 c2 c3 c4 c5
            rw [Nat.zero_add]
            exact ⟨w0, w1, w2, w3, w4, w5, c0, c1, c2, c3, c4, c5, hd⟩
        obtain ⟨lf, hlf⟩ := hF
        obtain ⟨lo, hlo⟩ := hO
        exact ⟨.mk k m z ks lf lo, _, _, _, _, _, _, rfl, TypeIn.mk_ (d := .mk k m z ks lf lo) hks hlf hlo⟩
theorem open_type {v : Value} {d : DataW H} {p : List MemPlace} (h : DataW.Trod enc Tryd.prog W base sp held 26 v d p) (hv : ∃ cs, v = .agg cs) :
    ∃ (t : T), TypeV W W.heap.size t v := by
  obtain ⟨fuel, hx⟩ := h
  obtain ⟨cs, rfl⟩ := hv
  obtain ⟨d, v0, v1, v2, v3, v4, v5, e, hd⟩ := open_types fuel fuel (Nat.le_refl _) _ _ hx
  refine ⟨d, v0, v1, v2, v3, v4, v5, ?_, hd⟩
  have : cs.toList = [v0, v1, v2, v3, v4, v5] := e
  obtain ⟨l⟩ := cs
  simp only at this
  rw [this]
theorem open_field {v : Value} {d : DataW H} {p : List MemPlace} (h : DataW.Trod enc Tryd.prog W base sp held 40 v d p) (hv : ∃ cs, v = .agg cs) :
    ∃ (f : F), FieldV W W.heap.size f v := by
  obtain ⟨fuel, hx⟩ := h
  obtain ⟨cs, rfl⟩ := hv
  obtain ⟨d, s, o, v0, v1, v2, v3, v4, v5, e, hd⟩ := open_field_step (fun n hn => open_types n n (Nat.le_refl _)) hx
  refine ⟨.mk s o d, v0, v1, v2, v3, v4, v5, ?_, hd⟩
  have : cs.toList = [.string s, .bool o, v0, v1, v2, v3, v4, v5] := e
  obtain ⟨l⟩ := cs
  simp only at this
  rw [this]
  rfl
end
end Go.Proofs.YtnjmknofojjlmaaDoor
