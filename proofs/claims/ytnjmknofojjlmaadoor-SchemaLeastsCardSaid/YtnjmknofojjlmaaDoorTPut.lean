/-
  schema.Put.
-/
import Derived.Test.YtnjmknofojjlmaaDoorTBehind
import Derived.Test.YtnjmknofojjlmaaDoorGrow2
namespace Go.Proofs.YtnjmknofojjlmaaDoor
open Go.RowKit

/-- The record with one field more. -/
def putT (t : T) (f : F) : T := .mk t.kind t.lo t.hi t.names (t.fields.take (putAt t.fields f.name) ++ f :: t.fields.drop (putAt t.fields f.name)) t.of
/-- What Put tells. -/
def t_putV (t : T) (f : F) : T × Int :=
  if recordB t = true ∧ nameB f.name = true ∧ rightT f.type = true then
    (if 0 ≤ fieldOf t f.name then (T.zero, 5) else if rightT (putT t f) = true then (putT t f, 0) else (T.zero, 2))
  else (T.zero, 1)
theorem putV_arg {t : T} {f : F} (h : ¬ (recordB t = true ∧ nameB f.name = true ∧ rightT f.type = true)) : t_putV t f = (T.zero, 1) := by unfold t_putV; rw [if_neg h]
def TRes (W0 : Nat) (w : World) (r : T × Int) (e : Ending) (w' : World) : Prop :=
  ∃ (x3 x4 x5 : Value), e = .returned (.tuple #[.agg #[.int .i64 r.1.kind, .int .i64 r.1.lo, .int .i64 r.1.hi, x3, x4, x5], .int .i64 r.2]) ∧ Copied W0 w' r.1 x3 x4 x5 ∧ Below W0 w w'
/-- The variables of Put. -/
structure PutSt (w0 w : World) (t : T) (f : F) (A3 : Option Addr) (d3 : Nat) (A4 : Option Addr) (d4 : Nat) (A5 : Option Addr) (d5 : Nat) (v0 v1 v2 v3 v4 v5 : Value) : Prop where
  bt : Box6 w w0.heap.size (.int .i64 t.kind) (.int .i64 t.lo) (.int .i64 t.hi) (.slice A3 t.names.length d3) (.slice A4 t.fields.length d4) (.slice A5 t.of.length d5)
  bf : Box8 w (w0.heap.size + 1) f.name f.opt v0 v1 v2 v3 v4 v5
  br : Box6 w (w0.heap.size + 2) (.int .i64 0) (.int .i64 0) (.int .i64 0) (.slice none 0 0) (.slice none 0 0) (.slice none 0 0)
  bl : Below w0.heap.size w0 w
theorem PutSt.next {w0 w w' : World} {t : T} {f : F} {A3 : Option Addr} {d3 : Nat} {A4 : Option Addr} {d4 : Nat} {A5 : Option Addr} {d5 : Nat} {v0 v1 v2 v3 v4 v5 : Value} (h : PutSt w0 w t f A3 d3 A4 d4 A5 d5 v0 v1 v2 v3 v4 v5) (hb : Below w.heap.size w w') : PutSt w0 w' t f A3 d3 A4 d4 A5 d5 v0 v1 v2 v3 v4 v5 :=
  ⟨h.bt.same (hb.block _ h.bt.lt), h.bf.same (hb.block _ h.bf.lt), h.br.same (hb.block _ h.br.lt), h.bl.trans (hb.mono h.bl.size)⟩
theorem put_ret0 {w0 w : World} {t : T} {f : F} {A3 : Option Addr} {d3 : Nat} {A4 : Option Addr} {d4 : Nat} {A5 : Option Addr} {d5 : Nat} {v0 v1 v2 v3 v4 v5 : Value} (h : PutSt w0 w t f A3 d3 A4 d4 A5 d5 v0 v1 v2 v3 v4 v5) {r : Int} (hp : t_putV t f = (T.zero, r)) :
    TRes w0.heap.size w0 (t_putV t f) (.returned (.tuple #[.agg #[.int .i64 0, .int .i64 0, .int .i64 0, .slice none 0 0, .slice none 0 0, .slice none 0 0], .int .i64 r])) (fill6 w (w0.heap.size + 2) (.int .i64 0) (.int .i64 0) (.int .i64 0) (.slice none 0 0) (.slice none 0 0) (.slice none 0 0)) := by
  rw [hp]
  have := h.bl.size
  exact ⟨_, _, _, rfl, T.zero_own _ (by rw [fill6_size]; omega), fill6_below h.bl (by omega) _ _ _ _ _ _⟩
theorem RawFs.take {w : World} {S : Nat → Prop} : ∀ {l : List F} {cs : List Value} (i : Nat), RawFs w S l cs → RawFs w S (l.take i) (cs.take (i * 8))
  | [], cs, i, h => by simp only [RawFs] at h; subst h; simp [RawFs]
  | f :: r, cs, 0, h => by simp [RawFs]
  | f :: r, cs, i + 1, h => by
    simp only [RawFs] at h
    obtain ⟨v0, v1, v2, v3, v4, v5, c, rfl, h1, h2⟩ := h
    rw [show (i + 1) * 8 = i * 8 + 8 from by omega]
    simp only [List.take_succ_cons, RawFs]
    exact ⟨v0, v1, v2, v3, v4, v5, _, rfl, h1, RawFs.take i h2⟩
theorem RawFs.drop {w : World} {S : Nat → Prop} : ∀ {l : List F} {cs : List Value} (i : Nat), RawFs w S l cs → RawFs w S (l.drop i) (cs.drop (i * 8))
  | [], cs, i, h => by simp only [RawFs] at h; subst h; simp [RawFs]
  | f :: r, cs, 0, h => by simpa using h
  | f :: r, cs, i + 1, h => by
    simp only [RawFs] at h
    obtain ⟨v0, v1, v2, v3, v4, v5, c, rfl, h1, h2⟩ := h
    rw [show (i + 1) * 8 = i * 8 + 8 from by omega]
    simp only [List.drop_succ_cons]
    exact RawFs.drop i h2
/-- What the operations of Put's great statement yield. -/
def t_PutPhi (pw pf : Nat) (x4 : Value) (nm : ByteArray) (n : Int) (cs8 : Array Value) (base : Nat) : Nat → Value → World → Prop
  | 0, v, _ => v = .pointer (some ⟨pw, 4, none⟩)
  | 1, v, _ => v = x4
  | 2, v, _ => v = .pointer (some ⟨pw, 4, none⟩)
  | 3, v, _ => v = x4
  | 4, v, _ => v = .pointer (some ⟨pf, 0, none⟩)
  | 5, v, _ => v = .string nm
  | 6, v, _ => v = .int .i64 n
  | 7, v, _ => v = .agg cs8
  | 8, v, w => ∃ g, v = .slice (some ⟨g, 0, none⟩) 1 1 ∧ base ≤ g ∧ w.heap[g]? = some (.cells cs8 40 (0, 0))
  | _, _, _ => True
theorem putphi_stable (pw pf : Nat) (x4 : Value) (nm : ByteArray) (n : Int) (cs8 : Array Value) (base : Nat) : ∀ i v w w', t_PutPhi pw pf x4 nm n cs8 base i v w → Below w.heap.size w w' → t_PutPhi pw pf x4 nm n cs8 base i v w' := by
  intro i v w w' h hb
  match i, h with
  | 0, h => exact h
  | 1, h => exact h
  | 2, h => exact h
  | 3, h => exact h
  | 4, h => exact h
  | 5, h => exact h
  | 6, h => exact h
  | 7, h => exact h
  | 8, ⟨g, e, h1, h2⟩ => exact ⟨g, e, h1, (hb.block g (size_block h2)).trans h2⟩
  | _ + 9, _ => exact trivial
theorem copied_cells {w0 : Nat} {w : World} {t : T} {x3 x4 x5 : Value} (h : Copied w0 w t x3 x4 x5) : ∃ cs, w.ownsRow w0 40 8 x4 t.fields.length cs ∧ (∀ u ∈ cs, u.oneCell' = true) ∧
    ∀ (i : Nat) (f : F) (w1 w2 : World) (y3 y4 y5 x4' : Value) (b1 : Nat), b1 ≤ w1.heap.size → w.heap.size ≤ b1 → Copied b1 w1 f.type y3 y4 y5 → w1.heap.size ≤ w2.heap.size →
      (∀ k, w0 ≤ k → k < w.heap.size → x4.ownBlock ≠ some k → w2.heap[k]? = w.heap[k]?) → (∀ k, b1 ≤ k → k < w1.heap.size → w2.heap[k]? = w1.heap[k]?) →
      w2.ownsRow w0 40 8 x4' (t.fields.length + 1) (cs.take (i * 8) ++ ([.string f.name, .bool f.opt, .int .i64 f.type.kind, .int .i64 f.type.lo, .int .i64 f.type.hi, y3, y4, y5] ++ cs.drop (i * 8))) →
      (∀ k, x4'.ownBlock = some k → x4.ownBlock = some k ∨ w1.heap.size ≤ k) → i ≤ t.fields.length → Copied w0 w2 (.mk t.kind t.lo t.hi t.names (t.fields.take i ++ f :: t.fields.drop i) t.of) x3 x4' x5 := by
  obtain ⟨cs, ds, h1, o3, o4, o5, r4, r5, n34, n35, n45⟩ := h
  refine ⟨cs, o4, r4.one, fun i f w1 w2 y3 y4 y5 x4' b1 hb1 hb0 hc hz hk1 hk2 hown hat hi => ?_⟩
  have l3 := o3.lt; have l4 := o4.lt; have l5 := o5.lt
  have hS : ∀ k, Apart w0 w x3 x4 x5 k → Apart w0 w2 x3 x4' x5 k := fun k hk => ⟨hk.1, by have := hk.2.1; omega, hk.2.2.1, fun e => by
    rcases hat k e with h | h
    · exact hk.2.2.2.1 h
    · have := hk.2.1; omega, hk.2.2.2.2⟩
  have hP : ∀ p : Addr, Apart w0 w x3 x4 x5 p.block → w2.cell? p = w.cell? p := fun p hp => World.cell?_of_block (hk1 p.block hp.1 hp.2.1 hp.2.2.2.1)
  refine ⟨cs.take (i * 8) ++ ([.string f.name, .bool f.opt, .int .i64 f.type.kind, .int .i64 f.type.lo, .int .i64 f.type.hi, y3, y4, y5] ++ cs.drop (i * 8)), ds, by omega, t_ownsRow_same o3 fun k hk => hk1 k (l3 k hk).1 (l3 k hk).2 (n34 k hk), ?_, t_ownsRow_same o5 fun k hk => hk1 k (l5 k hk).1 (l5 k hk).2 (fun e => n45 k e hk), ?_, r5.keep hS hP, ?_, n35, ?_⟩
  · have hlen : (T.mk t.kind t.lo t.hi t.names (t.fields.take i ++ f :: t.fields.drop i) t.of).fields.length = t.fields.length + 1 := by simp [T.fields, List.length_take, List.length_drop]; omega
    rw [hlen]; exact hown
  · refine RawFs.append ((r4.take i).keep hS hP) ⟨.int .i64 f.type.kind, .int .i64 f.type.lo, .int .i64 f.type.hi, y3, y4, y5, _, rfl, ?_, (r4.drop i).keep hS hP⟩
    exact hc.typeS.keep (fun k hk => ⟨by omega, by omega, fun e => by have := l3 k e; omega, fun e => by
      rcases hat k e with h | h
      · have := l4 k h; omega
      · omega, fun e => by have := l5 k e; omega⟩) fun p hp => World.cell?_of_block (hk2 p.block hp.1 hp.2)
  · intro k e1 e2
    rcases hat k e2 with h | h
    · exact n34 k e1 h
    · have := l3 k e1; omega
  · intro k e1 e2
    rcases hat k e1 with h | h
    · exact n45 k h e2
    · have := l5 k e2; omega
theorem putT_fields (t : T) (f : F) : (putT t f).fields = t.fields.take (putAt t.fields f.name) ++ f :: t.fields.drop (putAt t.fields f.name) := rfl
theorem putT_of (t : T) (f : F) : (putT t f).of = t.of := rfl
theorem putT_size (t : T) (f : F) : (putT t f).size = t.size + f.type.size := by
  rw [T.size_eq, T.size_eq t, putT_fields, putT_of]
  have h := T.sizes_append ((t.fields.take (putAt t.fields f.name)).map F.type) ((t.fields.drop (putAt t.fields f.name)).map F.type)
  rw [← List.map_append, List.take_append_drop] at h
  rw [List.map_append, List.map_cons, T.sizes_append, h]
  simp only [T.sizes]
  omega
theorem putT_depth (t : T) (f : F) : (putT t f).depth ≤ max t.depth (f.type.depth + 1) := by
  rw [T.depth_eq, T.depth_eq t, putT_fields, putT_of]
  have h := T.depths_append ((t.fields.take (putAt t.fields f.name)).map F.type) ((t.fields.drop (putAt t.fields f.name)).map F.type)
  rw [← List.map_append, List.take_append_drop] at h
  rw [List.map_append, List.map_cons, T.depths_append, h]
  simp only [T.depths]
  omega
set_option maxHeartbeats 8000000 in
set_option maxRecDepth 100000 in
theorem tput_any {t : T} {f : F} {v u : Value} {w : World} {B : Nat} (hs : t.size ≤ 4000) (hd : t.depth ≤ 900) (hf : t.Fit) (hs2 : f.type.size ≤ 4000) (hd2 : f.type.depth ≤ 800) (hf2 : f.type.Fit) (hpf : nameB f.name = true → (putT t f).Fit) (hB : B ≤ w.heap.size) (ht : TypeV w B t v) (hu : FieldV w B f u) :
    Calls Tryd.prog 12 #[v, u] w (TRes w.heap.size w (t_putV t f)) := by
  obtain ⟨t0, t1, t2, t3, t4, t5, rfl, hin⟩ := ht
  obtain ⟨v0, v1, v2, v3, v4, v5, rfl, hin'⟩ := hu
  have HIN := Lib.hid hin; have HIN' := Lib.hid hin'
  obtain ⟨A3, d3, A4, d4, A5, d5, rfl, rfl, rfl, rfl, rfl, rfl⟩ := hin.forms
  obtain ⟨B3, g3, B4, g4, B5, g5, rfl, rfl, rfl, rfl, rfl, rfl⟩ := hin'.forms
  have HF := Lib.hid hf; have HF2 := Lib.hid hf2; have HPF := Lib.hid hpf
  clear hin hin' hf hf2 hpf
  obtain ⟨W2, hW2⟩ : ∃ W2, W2 = (((w.alloc (.cells #[.int .i64 t.kind, .int .i64 t.lo, .int .i64 t.hi, .slice A3 t.names.length d3, .slice A4 t.fields.length d4, .slice A5 t.of.length d5] 26)).alloc (.cells #[.string f.name, .bool f.opt, .int .i64 f.type.kind, .int .i64 f.type.lo, .int .i64 f.type.hi, .slice B3 f.type.names.length g3, .slice B4 f.type.fields.length g4, .slice B5 f.type.of.length g5] 40)).alloc
    (.cells #[.int .i64 0, .int .i64 0, .int .i64 0, .slice none 0 0, .slice none 0 0, .slice none 0 0] 26)) := ⟨_, rfl⟩
  have hst : PutSt w W2 t f A3 d3 A4 d4 A5 d5 (.int .i64 f.type.kind) (.int .i64 f.type.lo) (.int .i64 f.type.hi) (.slice B3 f.type.names.length g3) (.slice B4 f.type.fields.length g4) (.slice B5 f.type.of.length g5) := by
    rw [hW2]
    refine ⟨((Box6.new w _ _ _ _ _ _).alloc _).alloc _, ?_, Box6.new' (by simp) _ _ _ _ _ _, (((Below.refl _ _).alloc (Nat.le_refl _) _).alloc (by simp) _).alloc (by simp; omega) _⟩
    refine (Below.heap_alloc _ _ _ (by simp)).trans ?_
    have := heap_alloc_new (w.alloc (.cells #[.int .i64 t.kind, .int .i64 t.lo, .int .i64 t.hi, .slice A3 t.names.length d3, .slice A4 t.fields.length d4, .slice A5 t.of.length d5] 26)) (.cells #[.string f.name, .bool f.opt, .int .i64 f.type.kind, .int .i64 f.type.lo, .int .i64 f.type.hi, .slice B3 f.type.names.length g3, .slice B4 f.type.fields.length g4, .slice B5 f.type.of.length g5] 40)
    rwa [World.size_alloc] at this
  have HST2 := Lib.hid hst; have HW2 := Lib.hid hW2
  have kin : Hid (∀ W, Below w.heap.size w W → TypeIn W B t (.int .i64 t.kind) (.int .i64 t.lo) (.int .i64 t.hi) (.slice A3 t.names.length d3) (.slice A4 t.fields.length d4) (.slice A5 t.of.length d5)) := fun W h => HIN.out.keep (Nat.le_refl _) fun p hp => h.cell (by omega)
  have kin' : Hid (∀ W, Below w.heap.size w W → TypeIn W B f.type (.int .i64 f.type.kind) (.int .i64 f.type.lo) (.int .i64 f.type.hi) (.slice B3 f.type.names.length g3) (.slice B4 f.type.fields.length g4) (.slice B5 f.type.of.length g5)) := fun W h => HIN'.out.keep (Nat.le_refl _) fun p hp => h.cell (by omega)
  have hz2 := hst.bl.size
  clear hst hW2
  cases hrec : recordB t with
  | false =>
    have E := Lib.hid (putV_arg (t := t) (f := f) (fun h => by rw [hrec] at h; cases h.1))
    have HREC := Lib.hid hrec; clear hrec
    go_enter Tryd.func12, Tryd.ntmps12
    go_wp2_with fail
    rw [← HW2.out]
    refine (record_any (B := B) (by omega) (by omega) HF.out (by omega) ⟨_, _, _, _, _, _, rfl, kin.out _ HST2.out.bl⟩).mono ?_
    rintro e w3 ⟨rfl, hb3⟩
    rw [HREC.out]
    have HST3 := Lib.hid (HST2.out.next hb3)
    obtain ⟨r0, r1, r2, r3, r4, r5⟩ := HST3.out.br.cells
    have r6 := HST3.out.br.frozen
    clear hb3
    go_wp2_with fail
    clear r0 r1 r2 r3 r4 r5 r6
    exact ret_cell6_2 (u := .int .i64 1) rfl rfl rfl (fill6_box HST3.out.br _ _ _ _ _ _).load rfl (put_ret0 HST3.out E.out)
  | true =>
    have HREC := Lib.hid hrec
    cases hnm : nameB f.name with
    | false =>
      have E := Lib.hid (putV_arg (t := t) (f := f) (fun h => by rw [hnm] at h; cases h.2.1))
      have HNM := Lib.hid hnm; clear hnm hrec
      go_enter Tryd.func12, Tryd.ntmps12
      go_wp2_with fail
      rw [← HW2.out]
      refine (record_any (B := B) (by omega) (by omega) HF.out (by omega) ⟨_, _, _, _, _, _, rfl, kin.out _ HST2.out.bl⟩).mono ?_
      rintro e w3 ⟨rfl, hb3⟩
      rw [HREC.out]
      have HST3 := Lib.hid (HST2.out.next hb3)
      obtain ⟨f0, f1, f2, f3, f4, f5, f6, f7⟩ := HST3.out.bf.cells
      have hz3 := HST3.out.bl.size
      clear hb3
      go_wp2_with fail
      refine (name_any _ _).mono ?_
      rintro e w' ⟨rfl, rfl⟩
      rw [HNM.out]
      obtain ⟨r0, r1, r2, r3, r4, r5⟩ := HST3.out.br.cells
      have r6 := HST3.out.br.frozen
      go_wp2_with fail
      clear r0 r1 r2 r3 r4 r5 r6
      exact ret_cell6_2 (u := .int .i64 1) rfl rfl rfl (fill6_box HST3.out.br _ _ _ _ _ _).load rfl (put_ret0 HST3.out E.out)

    | true =>
      have HNM := Lib.hid hnm
      cases hrf : rightT f.type with
      | false =>
        have E := Lib.hid (putV_arg (t := t) (f := f) (fun h => by rw [hrf] at h; cases h.2.2))
        have HRF := Lib.hid hrf; clear hnm hrec hrf
        go_enter Tryd.func12, Tryd.ntmps12
        go_wp2_with fail
        rw [← HW2.out]
        refine (record_any (B := B) (by omega) (by omega) HF.out (by omega) ⟨_, _, _, _, _, _, rfl, kin.out _ HST2.out.bl⟩).mono ?_
        rintro e w3 ⟨rfl, hb3⟩
        rw [HREC.out]
        have HST3 := Lib.hid (HST2.out.next hb3)
        obtain ⟨f0, f1, f2, f3, f4, f5, f6, f7⟩ := HST3.out.bf.cells
        have hz3 := HST3.out.bl.size
        clear hb3
        go_wp2_with fail
        refine (name_any _ _).mono ?_
        rintro e w' ⟨rfl, rfl⟩
        rw [HNM.out]

        go_wp2_with fail
        refine (tright_any (B := B) (by omega) (by omega) HF2.out (by omega) ⟨_, _, _, _, _, _, rfl, kin'.out _ HST3.out.bl⟩).mono ?_
        rintro e w4 ⟨rfl, hb4⟩
        rw [HRF.out]
        have HST4 := Lib.hid (HST3.out.next hb4)
        clear hb4 f0 f1 f2 f3 f4 f5 f6 f7
        obtain ⟨r0, r1, r2, r3, r4, r5⟩ := HST4.out.br.cells
        have r6 := HST4.out.br.frozen
        go_wp2_with fail
        clear r0 r1 r2 r3 r4 r5 r6
        exact ret_cell6_2 (u := .int .i64 1) rfl rfl rfl (fill6_box HST4.out.br _ _ _ _ _ _).load rfl (put_ret0 HST4.out E.out)

      | true =>
        have HRF := Lib.hid hrf
        by_cases hfo : 0 ≤ fieldOf t f.name
        · have E := Lib.hid (show t_putV t f = (T.zero, 5) by unfold t_putV; rw [if_pos ⟨hrec, hnm, hrf⟩, if_pos hfo])
          clear hnm hrec hrf
          go_enter Tryd.func12, Tryd.ntmps12
          go_wp2_with fail
          rw [← HW2.out]
          refine (record_any (B := B) (by omega) (by omega) HF.out (by omega) ⟨_, _, _, _, _, _, rfl, kin.out _ HST2.out.bl⟩).mono ?_
          rintro e w3 ⟨rfl, hb3⟩
          rw [HREC.out]
          have HST3 := Lib.hid (HST2.out.next hb3)
          obtain ⟨f0, f1, f2, f3, f4, f5, f6, f7⟩ := HST3.out.bf.cells
          have hz3 := HST3.out.bl.size
          clear hb3
          go_wp2_with fail
          refine (name_any _ _).mono ?_
          rintro e w' ⟨rfl, rfl⟩
          rw [HNM.out]
          go_wp2_with fail
          refine (tright_any (B := B) (by omega) (by omega) HF2.out (by omega) ⟨_, _, _, _, _, _, rfl, kin'.out _ HST3.out.bl⟩).mono ?_
          rintro e w4 ⟨rfl, hb4⟩
          rw [HRF.out]
          have HST4 := Lib.hid (HST3.out.next hb4)
          clear hb4 f0 f1 f2 f3 f4 f5 f6 f7
          obtain ⟨f0, f1, f2, f3, f4, f5, f6, f7⟩ := HST4.out.bf.cells
          obtain ⟨t0, t1, t2, t3, t4, t5⟩ := HST4.out.bt.cells
          have hz4 := HST4.out.bl.size
          go_wp2_with fail
          refine (tfield_any (B := B) HF.out (by omega) ⟨_, _, _, _, _, _, rfl, kin.out _ HST4.out.bl⟩).mono ?_
          rintro e w5 ⟨rfl, hb5⟩
          have HST5 := Lib.hid (HST4.out.next hb5)
          have hz5 := HST5.out.bl.size
          have hr5 := HST5.out.br.lt
          clear hb5 f0 f1 f2 f3 f4 f5 f6 f7 t0 t1 t2 t3 t4 t5
          obtain ⟨r0, r1, r2, r3, r4, r5⟩ := HST5.out.br.cells
          have r6 := HST5.out.br.frozen
          go_wp2_with fail
          clear r0 r1 r2 r3 r4 r5 r6
          exact ret_cell6_2 (u := .int .i64 5) rfl rfl rfl (fill6_box HST5.out.br _ _ _ _ _ _).load rfl (put_ret0 HST5.out E.out)

        · have hfo2 : fieldOf t f.name < 0 := by omega
          have E0 := Lib.hid (show t_putV t f = (if rightT (putT t f) = true then (putT t f, 0) else (T.zero, 2)) by unfold t_putV; rw [if_pos ⟨hrec, hnm, hrf⟩, if_neg hfo])
          clear hnm hrec hrf hfo
          go_enter Tryd.func12, Tryd.ntmps12
          go_wp2_with fail
          rw [← HW2.out]
          refine (record_any (B := B) (by omega) (by omega) HF.out (by omega) ⟨_, _, _, _, _, _, rfl, kin.out _ HST2.out.bl⟩).mono ?_
          rintro e w3 ⟨rfl, hb3⟩
          rw [HREC.out]
          have HST3 := Lib.hid (HST2.out.next hb3)
          obtain ⟨f0, f1, f2, f3, f4, f5, f6, f7⟩ := HST3.out.bf.cells
          have hz3 := HST3.out.bl.size
          clear hb3
          go_wp2_with fail
          refine (name_any _ _).mono ?_
          rintro e w' ⟨rfl, rfl⟩
          rw [HNM.out]
          go_wp2_with fail
          refine (tright_any (B := B) (by omega) (by omega) HF2.out (by omega) ⟨_, _, _, _, _, _, rfl, kin'.out _ HST3.out.bl⟩).mono ?_
          rintro e w4 ⟨rfl, hb4⟩
          rw [HRF.out]
          have HST4 := Lib.hid (HST3.out.next hb4)
          clear hb4 f0 f1 f2 f3 f4 f5 f6 f7
          obtain ⟨f0, f1, f2, f3, f4, f5, f6, f7⟩ := HST4.out.bf.cells
          obtain ⟨t0, t1, t2, t3, t4, t5⟩ := HST4.out.bt.cells
          have hz4 := HST4.out.bl.size
          go_wp2_with fail
          refine (tfield_any (B := B) HF.out (by omega) ⟨_, _, _, _, _, _, rfl, kin.out _ HST4.out.bl⟩).mono ?_
          rintro e w5 ⟨rfl, hb5⟩
          have HST5 := Lib.hid (HST4.out.next hb5)
          have hz5 := HST5.out.bl.size
          have hr5 := HST5.out.br.lt
          clear hb5 f0 f1 f2 f3 f4 f5 f6 f7 t0 t1 t2 t3 t4 t5

          obtain ⟨t0, t1, t2, t3, t4, t5⟩ := HST5.out.bt.cells
          go_wp2_with fail
          refine (tcopy_any (B := B) HF.out (by omega) (by omega) ⟨_, _, _, _, _, _, rfl, kin.out _ HST5.out.bl⟩).mono ?_
          rintro e w6 ⟨x3, x4, x5, rfl, hcp, hb6⟩
          obtain ⟨X3, a3, X4, a4, X5, a5, rfl, rfl, rfl⟩ := hcp.forms
          have HST6 := Lib.hid (HST5.out.next hb6)
          have HCP := Lib.hid hcp
          have hz6 := hb6.size
          clear hb6 hcp t0 t1 t2 t3 t4 t5
          go_upto_region 6 with fail
          obtain ⟨W7, hW7⟩ : ∃ W7, W7 = w6.alloc (.cells #[.int .i64 t.kind, .int .i64 t.lo, .int .i64 t.hi, .slice X3 t.names.length a3, .slice X4 t.fields.length a4, .slice X5 t.of.length a5] 26) := ⟨_, rfl⟩
          have hbw : Box6 W7 w6.heap.size (.int .i64 t.kind) (.int .i64 t.lo) (.int .i64 t.hi) (.slice X3 t.names.length a3) (.slice X4 t.fields.length a4) (.slice X5 t.of.length a5) := by rw [hW7]; exact Box6.new w6 _ _ _ _ _ _
          have hb7 : Below w6.heap.size w6 W7 := by rw [hW7]; exact (Below.refl _ _).alloc (Nat.le_refl _) _
          have HST7 := Lib.hid (HST6.out.next hb7)
          have HCP7 : Hid (Copied w5.heap.size W7 t (.slice X3 t.names.length a3) (.slice X4 t.fields.length a4) (.slice X5 t.of.length a5)) := HCP.out.later hb7.size fun k _ hk => hb7.block k hk
          have HBW := Lib.hid hbw
          obtain ⟨cs, hown6, hone6, hmake⟩ := copied_cells HCP.out
          have hl6 := Lib.hid hown6.lt
          have HOWN6 := Lib.hid hown6; have HONE := Lib.hid hone6; have HMAKE := Lib.hid hmake
          clear hown6 hone6 hmake
          rw [← hW7]
          have hz7 : w6.heap.size + 1 = W7.heap.size := by rw [hW7]; simp
          have HB7 := Lib.hid hb7
          clear hW7 hb7 hbw HST6 HCP
          obtain ⟨f0, f1, f2, f3, f4, f5, f6, f7⟩ := HST7.out.bf.cells
          go_wp2_with fail
          refine (tcopy_any (B := B) HF2.out (by omega) (by have := HST7.out.bl.size; omega) ⟨_, _, _, _, _, _, rfl, kin'.out _ HST7.out.bl⟩).mono ?_
          rintro e w8 ⟨y3, y4, y5, rfl, hcp, hb8⟩
          obtain ⟨Y3, b3, Y4, b4, Y5, b5, rfl, rfl, rfl⟩ := hcp.forms
          have HST8 := Lib.hid (HST7.out.next hb8)
          have HCF := Lib.hid hcp
          have HBW8 := Lib.hid (HBW.out.same (hb8.block _ HBW.out.lt))
          have HCP8 : Hid (Copied w5.heap.size w8 t (.slice X3 t.names.length a3) (.slice X4 t.fields.length a4) (.slice X5 t.of.length a5)) := HCP7.out.later hb8.size fun k _ hk => hb8.block k hk
          have hz8 := hb8.size
          have HB8 := Lib.hid hb8
          clear hb8 hcp HST7 HCP7 HBW f0 f1 f2 f3 f4 f5 f6 f7
          obtain ⟨f0, f1, f2, f3, f4, f5, f6, f7⟩ := HST8.out.bf.cells
          have f8 := HST8.out.bf.frozen
          go_upto_region 7 with fail
          obtain ⟨W9, hW9⟩ : ∃ W9, W9 = fill8 w8 (w.heap.size + 1) (.int .i64 f.type.kind) (.int .i64 f.type.lo) (.int .i64 f.type.hi) (.slice Y3 f.type.names.length b3) (.slice Y4 f.type.fields.length b4) (.slice Y5 f.type.of.length b5) := ⟨_, rfl⟩
          have hfar : ∀ k, k ≠ w.heap.size + 1 → W9.heap[k]? = w8.heap[k]? := fun k hk => by rw [hW9]; exact fill8_far _ _ _ _ _ _ _ _ k hk
          have hz9 : W9.heap.size = w8.heap.size := by rw [hW9]; exact fill8_size _ _ _ _ _ _ _ _
          have hst9 : PutSt w W9 t f A3 d3 A4 d4 A5 d5 (.int .i64 f.type.kind) (.int .i64 f.type.lo) (.int .i64 f.type.hi) (.slice Y3 f.type.names.length b3) (.slice Y4 f.type.fields.length b4) (.slice Y5 f.type.of.length b5) :=
            ⟨HST8.out.bt.same (hfar _ (by omega)), by rw [hW9]; exact HST8.out.bf.fill _ _ _ _ _ _, HST8.out.br.same (hfar _ (by omega)), by rw [hW9]; exact fill8_below HST8.out.bl (by omega) _ _ _ _ _ _⟩
          have HST9 := Lib.hid hst9
          have hsz8 := HST8.out.bl.size
          have HBW9 := Lib.hid (HBW8.out.same (hfar _ (by omega)))
          have HCP9 : Hid (Copied w5.heap.size W9 t (.slice X3 t.names.length a3) (.slice X4 t.fields.length a4) (.slice X5 t.of.length a5)) := HCP8.out.later (by omega) fun k hk _ => hfar k (by omega)
          have HFAR := Lib.hid hfar
          change Code.wp _ _ _ _ (fill8 w8 (w.heap.size + 1) (.int .i64 f.type.kind) (.int .i64 f.type.lo) (.int .i64 f.type.hi) (.slice Y3 f.type.names.length b3) (.slice Y4 f.type.fields.length b4) (.slice Y5 f.type.of.length b5))
          rw [← hW9]
          have HW9 := Lib.hid hW9
          clear hW9 hfar hst9 f0 f1 f2 f3 f4 f5 f6 f7 f8
          have WQ : Hid (∀ wq : World, Below W9.drew.heap.size W9.drew wq → Below W9.heap.size W9 wq) := fun wq h => (Below.refl _ _).drew.trans h
          refine wp_region_grow2_calm 9 51 [false, false, false, false, false, false, false, false, false] (t_PutPhi w6.heap.size (w.heap.size + 1) (.slice X4 t.fields.length a4) f.name (putAt t.fields f.name : Nat) #[.string f.name, .bool f.opt, .int .i64 f.type.kind, .int .i64 f.type.lo, .int .i64 f.type.hi, .slice Y3 f.type.names.length b3, .slice Y4 f.type.fields.length b4, .slice Y5 f.type.of.length b5] W9.heap.size) (by kernel_rfl) (by kernel_rfl) (by simp) (putphi_stable _ _ _ _ _ _ _) ?_ ?_
          · simp only [List.take_succ_cons, List.take_zero]
            refine ⟨?_, ?_, ?_, ?_, ?_, ?_, ?_, ?_, ?_, trivial⟩
            · intro vs wq hq hdep K hK
              simp only [depFacts, putAll, Act.put, List.setIfInBounds_toArray, List.set_cons_zero, List.set_cons_succ, Nat.zero_add, Nat.reduceAdd] at hdep hK ⊢
              go_simp
              exact hK _ _ (Below.refl _ _) rfl
            · intro vs wq hq hdep K hK
              simp only [depFacts, putAll, Act.put, List.setIfInBounds_toArray, List.set_cons_zero, List.set_cons_succ, Nat.zero_add, Nat.reduceAdd] at hdep hK ⊢
              have h1 : vs 0 = .pointer (some ⟨w6.heap.size, 4, none⟩) := hdep.1 rfl
              rw [h1] at hK ⊢
              have q4 := (HBW9.out.same ((WQ.out wq hq).block _ HBW9.out.lt)).cells.2.2.2.2.1
              go_simp
              exact hK _ _ (Below.refl _ _) rfl
            · intro vs wq hq hdep K hK
              simp only [depFacts, putAll, Act.put, List.setIfInBounds_toArray, List.set_cons_zero, List.set_cons_succ, Nat.zero_add, Nat.reduceAdd] at hdep hK ⊢
              go_simp
              exact hK _ _ (Below.refl _ _) rfl
            · intro vs wq hq hdep K hK
              simp only [depFacts, putAll, Act.put, List.setIfInBounds_toArray, List.set_cons_zero, List.set_cons_succ, Nat.zero_add, Nat.reduceAdd] at hdep hK ⊢
              have h1 : vs 2 = .pointer (some ⟨w6.heap.size, 4, none⟩) := hdep.1 rfl
              rw [h1] at hK ⊢
              have q4 := (HBW9.out.same ((WQ.out wq hq).block _ HBW9.out.lt)).cells.2.2.2.2.1
              go_simp
              exact hK _ _ (Below.refl _ _) rfl
            · intro vs wq hq hdep K hK
              simp only [depFacts, putAll, Act.put, List.setIfInBounds_toArray, List.set_cons_zero, List.set_cons_succ, Nat.zero_add, Nat.reduceAdd] at hdep hK ⊢
              go_simp
              exact hK _ _ (Below.refl _ _) rfl
            · intro vs wq hq hdep K hK
              simp only [depFacts, putAll, Act.put, List.setIfInBounds_toArray, List.set_cons_zero, List.set_cons_succ, Nat.zero_add, Nat.reduceAdd] at hdep hK ⊢
              have h1 : vs 4 = .pointer (some ⟨w.heap.size + 1, 0, none⟩) := hdep.1 rfl
              rw [h1] at hK ⊢
              have q0 := (HST9.out.bf.same ((WQ.out wq hq).block _ HST9.out.bf.lt)).cells.1
              go_simp
              exact hK _ _ (Below.refl _ _) rfl
            · intro vs wq hq hdep K hK
              simp only [depFacts, putAll, Act.put, List.setIfInBounds_toArray, List.set_cons_zero, List.set_cons_succ, Nat.zero_add, Nat.reduceAdd] at hdep hK ⊢
              have h3 : vs 3 = .slice X4 t.fields.length a4 := hdep.1 rfl
              have h5 : vs 5 = .string f.name := hdep.2.1 rfl
              rw [h3, h5] at hK ⊢
              go_simp
              go_at_call 32
              refine (behind_any (B := W9.heap.size) HF.out.parts.2.2.2.2.1 HF.out.parts.2.1 (WQ.out wq hq).size (HCP9.out.typeIn.fields_.keep (Nat.le_refl _) fun p hp => (WQ.out wq hq).cell hp)).mono ?_
              rintro e w' ⟨rfl, hb⟩
              exact hK _ _ hb rfl
            · intro vs wq hq hdep K hK
              simp only [depFacts, putAll, Act.put, List.setIfInBounds_toArray, List.set_cons_zero, List.set_cons_succ, Nat.zero_add, Nat.reduceAdd] at hdep hK ⊢
              obtain ⟨q0, q1, q2, q3, q4, q5, q6, q7⟩ := (HST9.out.bf.same ((WQ.out wq hq).block _ HST9.out.bf.lt)).cells
              go_simp
              exact hK _ _ (Below.refl _ _) rfl
            · intro vs wq hq hdep K hK
              simp only [depFacts, putAll, Act.put, List.setIfInBounds_toArray, List.set_cons_zero, List.set_cons_succ, Nat.zero_add, Nat.reduceAdd] at hdep hK ⊢
              have h7 : vs 7 = .agg #[.string f.name, .bool f.opt, .int .i64 f.type.kind, .int .i64 f.type.lo, .int .i64 f.type.hi, .slice Y3 f.type.names.length b3, .slice Y4 f.type.fields.length b4, .slice Y5 f.type.of.length b5] := hdep.1 rfl
              rw [h7] at hK ⊢
              go_simp
              exact hK _ _ ((Below.refl _ _).alloc (Nat.le_refl _) _) ⟨wq.heap.size, rfl, (WQ.out wq hq).size, heap_alloc_new wq _⟩
          · intro vs wq hq hall
            simp only [putAll, Act.put, List.setIfInBounds_toArray, List.set_cons_zero, List.set_cons_succ, List.take_succ_cons, List.take_zero, List.drop_succ_cons, List.drop_zero, allFacts, Nat.zero_add, Nat.reduceAdd] at hall ⊢
            obtain ⟨_, e1, _, _, _, _, e6, _, e8, _⟩ := hall
            have e1 : vs 1 = .slice X4 t.fields.length a4 := e1
            have e6 : vs 6 = .int .i64 (putAt t.fields f.name : Nat) := e6
            obtain ⟨vb, e8, hvb, hbx⟩ : ∃ g, vs 8 = .slice (some ⟨g, 0, none⟩) 1 1 ∧ W9.heap.size ≤ g ∧ wq.heap[g]? = some (.cells #[.string f.name, .bool f.opt, .int .i64 f.type.kind, .int .i64 f.type.lo, .int .i64 f.type.hi, .slice Y3 f.type.names.length b3, .slice Y4 f.type.fields.length b4, .slice Y5 f.type.of.length b5] 40 (0, 0)) := e8
            rw [e1, e6, e8]
            have HQ := Lib.hid (WQ.out wq hq)
            have HBX := Lib.hid hbx
            have hzq := (WQ.out wq hq).size
            clear e1 e6 e8 hbx hq
            have K8 : Hid (∀ k, W7.heap.size ≤ k → k < w8.heap.size → wq.heap[k]? = w8.heap[k]?) := fun k h1 h2 => (HQ.out.block k (by omega)).trans (HFAR.out k (by omega))
            have K6 : Hid (∀ k, w5.heap.size ≤ k → k < w6.heap.size → wq.heap[k]? = w6.heap[k]?) := fun k h1 h2 => (HQ.out.block k (by omega)).trans ((HFAR.out k (by omega)).trans ((HB8.out.block k (by omega)).trans (HB7.out.block k h2)))
            have hownq : wq.ownsRow w5.heap.size 40 8 (.slice X4 t.fields.length a4) t.fields.length cs := t_ownsRow_same HOWN6.out fun k hk => K6.out k (hl6.out k hk).1 (hl6.out k hk).2
            have HOQ := Lib.hid hownq
            have hpl := putAt_le t.fields f.name
            clear hownq
            go_wp2_with fail
            refine (insF_any HOQ.out HONE.out hpl HF.out.parts.2.1 HBX.out (by simp [Value.oneCell']) (fun e => by have := hl6.out _ e; omega) (by omega)).mono ?_
            rintro e w10 ⟨g', cap', rfl, hown10, hgr, hat⟩
            have hz10 := hgr.size
            have HGR := Lib.hid hgr; have HO10 := Lib.hid hown10; have HAT := Lib.hid hat
            have old10 : Hid (∀ k, k < wq.heap.size → (Value.slice X4 t.fields.length a4).ownBlock ≠ some k → w10.heap[k]? = wq.heap[k]?) := fun k h1 h2 => hgr.block k h1 (fun e => h2 e.symm)
            have hbw10 := (HBW9.out.same (HQ.out.block _ (by omega))).same (old10.out w6.heap.size (by omega) (fun e => by have := hl6.out _ e; omega))
            have HBW10 := Lib.hid hbw10
            obtain ⟨p0, p1, p2, p3, p4, p5⟩ := hbw10.cells
            have p6 := hbw10.frozen
            clear hgr hown10 hat hbw10
            go_wp2_with fail
            refine NoPanic.normal ?_
            obtain ⟨w11, hw11⟩ : ∃ w11, w11 = w10.setCell ⟨w6.heap.size, 4, none⟩ (.slice (some ⟨g', 0, none⟩) (t.fields.length + 1) cap') := ⟨_, rfl⟩
            have hfar : ∀ k, k ≠ w6.heap.size → w11.heap[k]? = w10.heap[k]? := fun k hk => by rw [hw11]; exact Below.heap_setCell _ _ _ k hk
            have hz11 : w11.heap.size = w10.heap.size := by rw [hw11]; exact size_setCell _ _ _
            have hbw11 : Box6 w11 w6.heap.size (.int .i64 t.kind) (.int .i64 t.lo) (.int .i64 t.hi) (.slice X3 t.names.length a3) (.slice (some ⟨g', 0, none⟩) (t.fields.length + 1) cap') (.slice X5 t.of.length a5) := by rw [hw11]; exact HBW10.out.set4 _
            have x4lt : ∀ k, (Value.slice X4 t.fields.length a4).ownBlock = some k → k < w6.heap.size ∧ w5.heap.size ≤ k := fun k e => ⟨(hl6.out k e).2, (hl6.out k e).1⟩
            have lowK : ∀ k, k < w5.heap.size → w11.heap[k]? = W9.heap[k]? := fun k hk => (hfar k (by omega)).trans ((old10.out k (by omega) (fun e => by have := x4lt k e; omega)).trans (HQ.out.block k (by omega)))
            have hbl11 : Below w.heap.size w w11 := ⟨by rw [hw11]; exact HGR.out.os.trans (HQ.out.os.trans HST9.out.bl.os), by rw [hw11]; exact HGR.out.tape.trans (HQ.out.tape.trans HST9.out.bl.tape), by rw [hw11]; exact HGR.out.output.trans (HQ.out.output.trans HST9.out.bl.output), by omega, fun k hk => (lowK k (by omega)).trans (HST9.out.bl.block k hk)⟩
            have hg' : g' = w6.heap.size → False := fun e => by
              rcases HAT.out with h | h
              · have := x4lt _ h; omega
              · omega
            have hcn : Copied w5.heap.size w11 (putT t f) (.slice X3 t.names.length a3) (.slice (some ⟨g', 0, none⟩) (t.fields.length + 1) cap') (.slice X5 t.of.length a5) :=
              HMAKE.out (putAt t.fields f.name) f w8 w11 _ _ _ _ W7.heap.size (by omega) (by omega) HCF.out (by omega)
                (fun k h1 h2 h3 => (hfar k (by omega)).trans ((old10.out k (by omega) h3).trans (K6.out k h1 h2)))
                (fun k h1 h2 => (hfar k (by omega)).trans ((old10.out k (by omega) (fun e => by have := x4lt k e; omega)).trans (K8.out k h1 h2)))
                (t_ownsRow_same HO10.out fun k hk => hfar k (fun e => by simp only [Value.ownBlock, Option.some.injEq] at hk; exact hg' (by omega)))
                (fun k hk => by
                  simp only [Value.ownBlock, Option.some.injEq] at hk
                  subst hk
                  rcases HAT.out with h | h
                  · exact .inl h
                  · exact .inr (by omega)) hpl
            have HCN := Lib.hid hcn; have HBL11 := Lib.hid hbl11; have HBW11 := Lib.hid hbw11
            have HBR11 := Lib.hid (HST9.out.br.same (lowK _ (by omega)))
            have hps := putT_size t f; have hpd := putT_depth t f
            rw [← hw11]
            clear hw11 hfar hcn hbl11 hbw11 p0 p1 p2 p3 p4 p5 p6 lowK hg' x4lt
            obtain ⟨p0, p1, p2, p3, p4, p5⟩ := HBW11.out.cells
            cases hrp : rightT (putT t f) with
            | false =>
              have E := Lib.hid (show t_putV t f = (T.zero, 2) by rw [E0.out, hrp]; simp)
              have HRP := Lib.hid hrp
              clear hrp
              go_wp2_with fail
              refine (tright_any (B := w11.heap.size) (t := putT t f) (by omega) (by omega) (HPF.out HNM.out) (Nat.le_refl _) ⟨_, _, _, _, _, _, rfl, HCN.out.typeIn⟩).mono ?_
              rintro e w12 ⟨rfl, hb12⟩
              rw [HRP.out]
              have hbr12 := HBR11.out.same (hb12.block _ HBR11.out.lt)
              have HBR12 := Lib.hid hbr12
              have HBL12 : Hid (Below w.heap.size w w12) := HBL11.out.trans (hb12.mono HBL11.out.size)
              obtain ⟨r0, r1, r2, r3, r4, r5⟩ := hbr12.cells
              have r6 := hbr12.frozen
              clear hb12 hbr12 p0 p1 p2 p3 p4 p5
              go_wp2_with fail
              clear r0 r1 r2 r3 r4 r5 r6
              refine ret_cell6_2 (u := .int .i64 2) rfl rfl rfl (fill6_box HBR12.out _ _ _ _ _ _).load rfl ?_
              rw [E.out]
              have := HBL12.out.size
              exact ⟨_, _, _, rfl, T.zero_own _ (by show w.heap.size ≤ (fill6 w12 (w.heap.size + 2) _ _ _ _ _ _).heap.size; rw [fill6_size]; omega), fill6_below HBL12.out (by omega) _ _ _ _ _ _⟩
            | true =>
              have E := Lib.hid (show t_putV t f = (putT t f, 0) by rw [E0.out, hrp]; simp)
              have HRP := Lib.hid hrp
              clear hrp
              go_wp2_with fail
              refine (tright_any (B := w11.heap.size) (t := putT t f) (by omega) (by omega) (HPF.out HNM.out) (Nat.le_refl _) ⟨_, _, _, _, _, _, rfl, HCN.out.typeIn⟩).mono ?_
              rintro e w12 ⟨rfl, hb12⟩
              rw [HRP.out]
              have hbr12 := HBR11.out.same (hb12.block _ HBR11.out.lt)
              have HBR12 := Lib.hid hbr12
              have HBL12 : Hid (Below w.heap.size w w12) := HBL11.out.trans (hb12.mono HBL11.out.size)
              have HCN12 : Hid (Copied w5.heap.size w12 (putT t f) (.slice X3 t.names.length a3) (.slice (some ⟨g', 0, none⟩) (t.fields.length + 1) cap') (.slice X5 t.of.length a5)) := HCN.out.later hb12.size fun k _ hk => hb12.block k hk
              obtain ⟨r0, r1, r2, r3, r4, r5⟩ := hbr12.cells
              have r6 := hbr12.frozen
              have hbw12 := HBW11.out.same (hb12.block _ HBW11.out.lt)
              clear p0 p1 p2 p3 p4 p5
              obtain ⟨p0, p1, p2, p3, p4, p5⟩ := hbw12.cells
              clear hb12 hbr12 hbw12
              go_wp2_with fail
              clear r0 r1 r2 r3 r4 r5 r6 p0 p1 p2 p3 p4 p5
              refine ret_cell6_2 (u := .int .i64 0) rfl rfl rfl (fill6_box HBR12.out _ _ _ _ _ _).load rfl ?_
              rw [E.out]
              refine ⟨_, _, _, rfl, (HCN12.out.later (by show w12.heap.size ≤ (fill6 w12 (w.heap.size + 2) _ _ _ _ _ _).heap.size; rw [fill6_size]; omega) fun k hk _ => fill6_far w12 (w.heap.size + 2) _ _ _ _ _ _ k (by omega)).mono (by omega), fill6_below HBL12.out (by omega) _ _ _ _ _ _⟩
end Go.Proofs.YtnjmknofojjlmaaDoor
