/-
  What the document's own Put and Drop of types make: pure facts, slices of rows, and what their answers are made of.
-/
import Derived.Test.YtcbbocnblgpbbaaDoorTCopy
import Derived.Test.YtcbbocnblgpbbaaDoorTBackP
import Derived.Test.YtcbbocnblgpbbaaDoorRTRight
import Derived.Test.YtcbbocnblgpbbaaDoorGrow4
namespace Go.Proofs.YtcbbocnblgpbbaaDoor
open Go.RowKit

/-- From one world to a later one: what lay below B stays, and so do the call's own rows of fields that begin as L does, and what is no row of fields, or one of one field at most. -/
def KeepF (B : Nat) (L : List Value) (w w' : World) : Prop :=
  Below B w w' ∧ (∀ (v : Value) (n : Nat) (M : List Value), M <+: L → w.ownsRow B 38 8 v n M → w'.ownsRow B 38 8 v n M) ∧
    (∀ (k : Nat) (cs : Array Value) (ty : TypeId), (ty ≠ 38 ∨ cs.size ≤ 8) → w.heap[k]? = some (.cells cs ty (0, 0)) → w'.heap[k]? = some (.cells cs ty (0, 0)))
theorem KeepF.refl (B : Nat) (L : List Value) (w : World) : KeepF B L w w := ⟨Below.refl _ _, fun _ _ _ _ h => h, fun _ _ _ _ h => h⟩
theorem KeepF.trans {B : Nat} {L : List Value} (a b c : World) (h : KeepF B L a b) (h' : KeepF B L b c) : KeepF B L a c :=
  ⟨h.1.trans h'.1, fun v n M hM hv => h'.2.1 v n M hM (h.2.1 v n M hM hv), fun k cs ty ht hk => h'.2.2 k cs ty ht (h.2.2 k cs ty ht hk)⟩
theorem rowF_below {w w' : World} {B n : Nat} {v : Value} {M : List Value} (h : Below w.heap.size w w') (hv : w.ownsRow B 38 8 v n M) : w'.ownsRow B 38 8 v n M := by
  refine ownsRow_same hv fun k hk => ?_
  rcases hv.2 with ⟨rfl, _⟩ | ⟨g, cap, cur, rfl, _, hg, _⟩
  · cases hk
  · injection hk with hk; subst hk; exact h.block _ (size_block hg)
theorem KeepF.of_below {B : Nat} {L : List Value} {w w' : World} (hB : B ≤ w.heap.size) (h : Below w.heap.size w w') : KeepF B L w w' :=
  ⟨h.mono hB, fun _ _ _ _ hv => rowF_below h hv, fun k _ _ _ hk => (h.block k (size_block hk)).trans hk⟩
/-- A slice of so many; an empty one has no room. -/
def CapOk (v : Value) (n : Nat) : Prop := ∃ A c, v = .slice A n c ∧ (n = 0 → c = 0)
/-- 'append(v, u...)', v a row of the call's own. -/
theorem append_keepF {P : Program} {w : World} {B m n : Nat} {L M N : List Value} {v u : Value} {t ty : TypeId} (i : TypeInfo) (z : Value) (ht : P.underlying t = some (.slice 38)) (hi : P.info? 38 = some i) (hz : i.zero = some z)
    (hsize : i.size = 8) (hby : i.bytes = 120) (hzs : z.cells.size = 8) (hB : B ≤ w.heap.size) (hown : w.ownsRow B 38 8 v m M) (hco : CapOk v m) (hu : RowV w 8 u n N) (hMN : M ++ N <+: L) (hsm : m + n ≤ 10000) :
    ∃ v' w', (Builtin.append_ #[t, t] ty #[v, u]).run P w = .ok v' w' ∧ w'.ownsRow B 38 8 v' (m + n) (M ++ N) ∧ CapOk v' (m + n) ∧ KeepF B L w w' := by
  obtain ⟨A, c, rfl, hc, hl, h1, hA, hcell⟩ := hu
  have hM := hown.1
  cases A with
  | none =>
    obtain rfl := hA rfl
    obtain rfl : N = [] := List.eq_nil_of_length_eq_zero (by omega)
    exact ⟨v, w, run_append_nils (P := P) w t ty 38 i B 8 c ht hi v _ _ hown, by simpa using hown, hco, KeepF.refl _ _ _⟩
  | some ad =>
    have hnews := hcell ad rfl
    have hnl : N.length = n * i.size := by rw [hsize]; omega
    have hlen : (M ++ N).length = (m + n) * 8 := by simp; omega
    have grown : ∀ (old : Nat), old < m + n →
        (w.drew.alloc (.cells (M.toArray ++ N.toArray ++ Builtin.zeroCells z.cells (grownCap w (m + n) old 38 - (m + n))) 38)).ownsRow B 38 8 (.slice (some ⟨w.heap.size, 0, none⟩) (m + n) (grownCap w (m + n) old 38)) (m + n) (M ++ N) ∧
        KeepF B L w (w.drew.alloc (.cells (M.toArray ++ N.toArray ++ Builtin.zeroCells z.cells (grownCap w (m + n) old 38 - (m + n))) 38)) := by
      intro old ho
      have hge := grownCap_ge w (m + n) old 38
      have hcm : grownCap w (m + n) old 38 ≤ maxLen := grownCap_le_maxLen w (m + n) old 38 (by unfold maxLen; omega)
      refine ⟨⟨hlen, .inr ⟨w.heap.size, _, _, rfl, hB, heap_alloc_new w.drew _, hge, hcm, ?_, ?_⟩⟩, KeepF.of_below hB ((Below.refl _ _).drew.alloc (Nat.le_refl _) _)⟩
      · simp only [Array.size_append, List.size_toArray, size_zeroCells, hzs]
        rw [hM, hl]
        generalize grownCap w (m + n) old 38 = cc at hge
        omega
      · simp only [Array.toList_append]
        rw [← hlen]
        exact List.take_left
    by_cases hn : n = 0
    · subst hn
      obtain rfl : N = [] := List.eq_nil_of_length_eq_zero (by omega)
      rcases hown.2 with ⟨rfl, h0⟩ | ⟨g, cap, cur, rfl, hbg, hg, hnc, hcm, hcs, htake⟩
      · subst h0
        obtain rfl : M = [] := List.eq_nil_of_length_eq_zero (by omega)
        refine ⟨.slice none 0 0, w, ?_, by simpa using hown, ⟨_, _, rfl, fun _ => rfl⟩, KeepF.refl _ _ _⟩
        simp [Builtin.append_, run_underlying ht, sizeOf, typeInfo, hi, Builtin.lenOf, Builtin.firstCells, loadCells, loadCellsFrom]
      · have hr := run_append_room (P := P) w t ty 38 i ht hi g m cap cur hg ad 0 c [] (by simp) (by simp) (by simp) (by simpa using hnc) (by rw [hsize, hcs]; simp; omega)
        have e : (List.take (m * i.size) cur.toList ++ ([] : List Value) ++ List.drop (m * i.size + ([] : List Value).length) cur.toList).toArray = cur := by simp
        rw [e] at hr
        have hsame : ∀ k, (w.setRow g cur).heap[k]? = w.heap[k]? := fun k => by
          by_cases hk : k = g
          · subst hk; rw [setRow_heap w _ cur cur 38 _ hg, hg]
          · exact setRow_other w g k cur hk
        refine ⟨_, _, hr, by simpa using ownsRow_same hown fun k _ => hsame k, hco, ?_⟩
        exact ⟨⟨rfl, rfl, rfl, by simp [World.setRow], fun k _ => hsame k⟩, fun v n' M' _ hv => ownsRow_same hv fun k _ => hsame k, fun k cs ty _ hk => (hsame k).trans hk⟩
    have capok : ∀ A c', CapOk (.slice A (m + n) c') (m + n) := fun A c' => ⟨_, _, rfl, fun h => by omega⟩
    rcases hown.2 with ⟨rfl, h0⟩ | ⟨g, cap, cur, rfl, hbg, hg, hnc, hcm, hcs, htake⟩
    · subst h0
      obtain rfl : M = [] := List.eq_nil_of_length_eq_zero (by omega)
      have hr := run_append_nil (P := P) w t ty 38 i z ht hi hz ad n c N hnl hnews (by omega) (by omega) (by rw [hby]; omega)
      have hgr := grown 0 (by omega)
      simp only [Nat.zero_add, List.nil_append, Array.empty_append] at hgr capok ⊢
      exact ⟨_, _, hr, hgr.1, capok _ _, hgr.2⟩
    · by_cases hroom : m + n ≤ cap
      · have hm1 : 1 ≤ m := by
          obtain ⟨A', c', e, h⟩ := hco
          injection e with e1 e2 e3
          rcases Nat.eq_zero_or_pos m with h0 | h0
          · have := h h0; omega
          · exact h0
        have hfit : m * i.size + N.length ≤ cur.size := by rw [hsize, hcs, hl]; omega
        have hr := run_append_room (P := P) w t ty 38 i ht hi g m cap cur hg ad n c N hnl hnews h1 hroom hfit
        simp only [hsize] at hr htake hcs
        generalize hcur : (List.take (m * 8) cur.toList ++ N ++ List.drop (m * 8 + N.length) cur.toList).toArray = cur' at hr
        have hcl : cur'.toList = M ++ N ++ List.drop (m * 8 + N.length) cur.toList := by rw [← hcur, htake]
        have hcz : cur'.size = cap * 8 := by
          rw [← Array.length_toList, hcl]
          simp only [List.length_append, List.length_drop, Array.length_toList, hcs]; omega
        refine ⟨_, _, hr, ⟨hlen, .inr ⟨g, cap, cur', rfl, hbg, setRow_heap w g cur _ 38 _ hg, by omega, hcm, by omega, ?_⟩⟩, capok _ _, ?_, fun v' n' M' hM' hv' => ?_, fun k cs ty hty hk => ?_⟩
        · rw [← hlen, hcl]; exact List.take_left
        · exact ⟨rfl, rfl, rfl, by simp [World.setRow], fun k hk => setRow_other w g k _ (by omega)⟩
        · refine ⟨hv'.1, ?_⟩
          have hM'l := hv'.1
          rcases hv'.2 with h | ⟨g', cap', cu, hv, hbg', hg', hnc', hcm', hcs', ht'⟩
          · exact .inl h
          · refine .inr ⟨g', cap', ?_⟩
            by_cases hgg : g' = g
            · subst hgg
              rw [hg] at hg'
              simp only [Option.some.injEq, Obj.cells.injEq, and_true] at hg'
              subst hg'
              refine ⟨cur', hv, hbg', setRow_heap w _ cur _ 38 _ hg, hnc', hcm', by omega, ?_⟩
              refine List.ext_getElem? fun j => ?_
              rw [List.getElem?_take]
              split
              · rename_i hj
                rw [hcl]
                have hj' : j < M'.length := by omega
                have hL := (List.prefix_iff_getElem?.1 hM') j hj'
                rcases Nat.lt_or_ge j (M ++ N).length with hj2 | hj2
                · rw [List.getElem?_append_left hj2]
                  have hL2 := (List.prefix_iff_getElem?.1 hMN) j hj2
                  rw [List.getElem?_eq_getElem hj2, List.getElem?_eq_getElem hj', ← hL2, ← hL]
                · rw [List.getElem?_append_right hj2, List.getElem?_drop, show m * 8 + N.length + (j - (M ++ N).length) = j by simp only [List.length_append] at hj2 ⊢; omega]
                  have : (List.take (n' * 8) cur.toList)[j]? = M'[j]? := by rw [ht']
                  rw [List.getElem?_take, if_pos hj] at this
                  exact this
              · rename_i hj
                rw [List.getElem?_eq_none (by omega)]
            · exact ⟨cu, hv, hbg', by rw [setRow_other w g g' _ hgg]; exact hg', hnc', hcm', hcs', ht'⟩
        · by_cases hk2 : k = g
          · subst hk2
            rw [hg] at hk
            simp only [Option.some.injEq, Obj.cells.injEq, and_true] at hk
            obtain ⟨hk, rfl⟩ := hk
            subst hk
            rcases hty with hty | hty
            · exact absurd rfl hty
            · omega
          · rw [setRow_other w g k _ hk2]; exact hk
      · have holds : ∀ j u, M[j]? = some u → w.cell? ((⟨g, 0, none⟩ : Addr).add j) = some u := hown.cells (g := g) rfl
        have hr := run_append_grow (P := P) w t ty 38 i z ht hi hz ⟨g, 0, none⟩ m cap M (by rw [hsize]; omega) holds ad n c N hnl hnews (by omega) (by omega) (growslice_fits (by omega) (by rw [hby]; omega))
        have hgr := grown cap (by omega)
        exact ⟨_, _, hr, hgr.1, capok _ _, hgr.2⟩
theorem op_appendF {P : Program} {w w' : World} {o : Oper} {a : Act} {K : Act → World → Prop} {Q : Exit → Act → World → Prop} {v u v' : Value} (s x : Operand) (t : TypeId) (ho : o.op = .call { callee := .builtin .append, args := #[s, x], argTypes := #[t, t] }) (hs : a.eval s = v) (hx : a.eval x = u)
    (hr : (Builtin.append_ #[t, t] o.type #[v, u]).run P w = .ok v' w') (h : K (a.put o.dst v') w') : o.wp P a w K Q := by
  unfold Oper.wp execOp
  simp only [ho, resolve, invoke, builtin, Sem.run_bind, Sem.run_pure, Result.andThen_ok, List.map_toArray, List.map_cons, List.map_nil, hs, hx, hr]
  exact h

theorem record_plain {t : T} (h : recordB t = true) : t.kind = 1 ∧ t.lo = 0 ∧ t.hi = 0 ∧ t.names = [] ∧ t.of = [] := by
  have hk := record_kind h
  unfold recordB at h
  simp only [Bool.and_eq_true] at h
  have hr := h.2
  unfold rightT at hr
  simp only [Bool.and_eq_true] at hr
  have ha := hr.2.2
  obtain ⟨k, lo, hi, ns, f, l⟩ := t
  simp only [allT, Bool.and_eq_true] at ha
  have hs := ha.1
  unfold soundT at hs
  rw [if_pos hk] at hs
  simp only [Bool.and_eq_true, unrB] at hs
  obtain ⟨h1, h2, h3, _⟩ := hs
  simp only [T.lo, T.hi, T.names, T.of, decide_eq_true_eq, List.length_eq_zero_iff] at h1 h2 h3 ⊢
  exact ⟨hk, of_decide_eq_true h2.1, of_decide_eq_true h2.2, h1, h3⟩
/-- What the document's own Put and Drop tell: all of it lies below B, or where there was nothing ahead of the call. -/
def RTRes (B : Nat) (w : World) (r : T × Int) (e : Ending) (w' : World) : Prop :=
  ∃ (y3 y4 y5 : Value), e = .returned (.tuple #[.agg #[.int .i64 r.1.kind, .int .i64 r.1.lo, .int .i64 r.1.hi, y3, y4, y5], .int .i64 r.2]) ∧
    TypeS w' (fun k => k < B ∨ (w.heap.size ≤ k ∧ k < w'.heap.size)) r.1 (.int .i64 r.1.kind) (.int .i64 r.1.lo) (.int .i64 r.1.hi) y3 y4 y5 ∧ Below w.heap.size w w'
theorem zero_typeS {w : World} {S : Nat → Prop} : TypeS w S T.zero (.int .i64 T.zero.kind) (.int .i64 T.zero.lo) (.int .i64 T.zero.hi) (.slice none 0 0) (.slice none 0 0) (.slice none 0 0) :=
  TypeS.mk_ (t := T.zero) ⟨none, 0, rfl, by simp [T.zero, T.names], fun h => absurd h (by simp [T.zero, T.names])⟩ ⟨none, 0, rfl, by simp [T.zero, T.fields], fun h => absurd h (by simp [T.zero, T.fields])⟩ ⟨none, 0, rfl, by simp [T.zero, T.of], fun h => absurd h (by simp [T.zero, T.of])⟩
/-- 's[l:h]' of a row of fields with room for c. -/
def cut8 (A : Option Addr) (l h c : Nat) : Value := .slice (if c = l then A else A.map (·.add (l * 8))) (h - l) (c - l)
theorem sizeOf8 (w : World) : (sizeOf (Tryd.prog.elem 23)).run Tryd.prog w = .ok 8 w := by kernel_rfl
theorem elem8 : Tryd.prog.underlying 23 = some (.slice (Tryd.prog.elem 23)) := by kernel_rfl
theorem op_cut_h {w : World} {o : Oper} {a : Act} {K : Act → World → Prop} {Q : Exit → Act → World → Prop} {A : Option Addr} {n c k : Nat} (x h : Operand) (ho : o.op = .slice 23 x none (some h) none) (hx : a.eval x = .slice A n c) (hh : a.eval h = .int .i64 (k : Nat)) (hk : k ≤ c)
    (hK : K (a.put o.dst (cut8 A 0 k c)) w) : o.wp Tryd.prog a w K Q := by
  unfold Oper.wp execOp
  simp only [ho, Option.map_none, Option.map_some, hx, hh]
  rw [Sem.run_bind, run_sliceAt_slice _ _ _ _ _ _ elem8, run_slice_h _ _ _ _ _ elem8 _ _ (by omega) (by omega), sizeOf8]
  simp only [Result.andThen, Sem.run_pure, sliced, Int.toNat_natCast]
  exact hK
theorem op_cut_l {w : World} {o : Oper} {a : Act} {K : Act → World → Prop} {Q : Exit → Act → World → Prop} {A : Option Addr} {n c k : Nat} (x h : Operand) (ho : o.op = .slice 23 x (some h) none none) (hx : a.eval x = .slice A n c) (hh : a.eval h = .int .i64 (k : Nat)) (hk : k ≤ n)
    (hK : K (a.put o.dst (cut8 A k n c)) w) : o.wp Tryd.prog a w K Q := by
  unfold Oper.wp execOp
  simp only [ho, Option.map_none, Option.map_some, hx, hh]
  rw [Sem.run_bind, run_sliceAt_slice _ _ _ _ _ _ elem8, run_slice_l _ _ _ _ _ elem8 _ _ (by omega) (by omega), sizeOf8]
  simp only [Result.andThen, Sem.run_pure, sliced, Int.toNat_natCast]
  exact hK
theorem rowV_cut {w : World} {A : Option Addr} {n c l h : Nat} {cs : List Value} (hr : RowV w 8 (.slice A n c) n cs) (hl : l ≤ h) (hh : h ≤ n) : RowV w 8 (cut8 A l h c) (h - l) ((cs.drop (l * 8)).take ((h - l) * 8)) := by
  obtain ⟨A', c', e, hc, hlen, h1, hn, hcell⟩ := hr
  injection e with e1 e2 e3
  subst e1 e3
  refine ⟨_, _, rfl, by omega, by simp; omega, fun u hu => h1 u (List.mem_of_mem_drop (List.mem_of_mem_take hu)), fun h0 => ?_, fun a ha j u hj => ?_⟩
  · have : A = none := by
      split at h0
      · exact h0
      · simpa using h0
    have := hn this; omega
  · rw [List.getElem?_take] at hj
    split at hj
    · rename_i hj1
      rw [List.getElem?_drop] at hj
      split at ha
      · omega
      · cases A with
        | none => cases ha
        | some a0 =>
          simp only [Option.map_some, Option.some.injEq] at ha
          subst ha
          rw [Addr.add_add]
          exact hcell a0 rfl _ _ hj
    · cases hj
/-- A row of the call's own that holds the cells of fields that lie below B. -/
theorem own_fields {w0 w : World} {base B W0 : Nat} {l : List F} {v : Value} {cs : List Value} (hr : RawFs w0 (fun k => k < B) l cs) (hk : ∀ p : Addr, p.block < B → w.cell? p = w0.cell? p) (ho : w.ownsRow base 38 8 v l.length cs) (hb : W0 ≤ base) :
    ∃ (A : Option Addr) (c : Nat), v = .slice A l.length c ∧ l.length ≤ c ∧ (0 < l.length → ∃ b off, A = some ⟨b, off, none⟩ ∧ (b < B ∨ (W0 ≤ b ∧ b < w.heap.size)) ∧ FieldsS w (fun k => k < B ∨ (W0 ≤ k ∧ k < w.heap.size)) b off 0 l) := by
  obtain ⟨A, c, e, hc, h⟩ := own_row (S := fun k => k < B ∨ (W0 ≤ k ∧ k < w.heap.size)) ho fun k a b => .inr ⟨by omega, b⟩
  refine ⟨A, c, e, hc, fun h0 => ?_⟩
  obtain ⟨b, off, e1, e2, e3⟩ := h h0
  exact ⟨b, off, e1, e2, RawFs.fields (hr.keep (fun k hk => .inl hk) fun p hp => hk p hp) e3⟩
theorem nilS {w : World} {S : Nat → Prop} : StrsS w S (.slice none 0 0) [] := ⟨none, 0, rfl, by simp, fun h => absurd h (by simp)⟩
theorem nilT {w : World} {S : Nat → Prop} : ∃ (A : Option Addr) (c : Nat), Value.slice none 0 0 = .slice A ([] : List T).length c ∧ ([] : List T).length ≤ c ∧ (0 < ([] : List T).length → ∃ b off, A = some ⟨b, off, none⟩ ∧ S b ∧ TypesS w S b off 0 []) := ⟨none, 0, rfl, by simp, fun h => absurd h (by simp)⟩
theorem dropT_plain {t : T} (h : recordB t = true) (i : Nat) : dropT t i = .mk 1 0 0 [] (t.fields.take i ++ t.fields.drop (i + 1)) [] := by
  obtain ⟨h1, h2, h3, h4, h5⟩ := record_plain h
  unfold dropT
  rw [h1, h2, h3, h4, h5]
theorem putT_plain {t : T} (h : recordB t = true) (f : F) : putT t f = .mk 1 0 0 [] (t.fields.take (putAt t.fields f.name) ++ f :: t.fields.drop (putAt t.fields f.name)) [] := by
  obtain ⟨h1, h2, h3, h4, h5⟩ := record_plain h
  unfold putT
  rw [h1, h2, h3, h4, h5]
/-- The fields' cells. -/
theorem TypeIn.raw {w : World} {B : Nat} {t : T} {v0 v1 v2 v3 v5 : Value} {A : Option Addr} {c : Nat} (h : TypeIn w B t v0 v1 v2 v3 (.slice A t.fields.length c) v5) : ∃ cs, RowV w 8 (.slice A t.fields.length c) t.fields.length cs ∧ RawFs w (fun k => k < B) t.fields cs := by
  have h := h.toS
  obtain ⟨_, _, _, _, fs, _⟩ := t
  simp only [TypeS, T.fields] at h ⊢
  obtain ⟨_, _, _, _, ⟨A', c', e, h1, h2⟩, _⟩ := h
  injection e with e1 e2 e3
  subst e1 e3
  exact rowV_fields ⟨h1, h2⟩
end Go.Proofs.YtcbbocnblgpbbaaDoor
