/-
  schema.Same: the two closures, and the function.
-/
import Derived.Test.YtnjmknofojjlmaaDoorTSame
namespace Go.Proofs.YtnjmknofojjlmaaDoor
open Go.RowKit

set_option maxHeartbeats 2000000 in
set_option maxRecDepth 100000 in
theorem same1_any {B s1 s2 : Nat} {f f' : F} {v u : Value} {w : World} (ih : ∀ (u v : Value) (w' : World), Below w.heap.size w w' → TypeV w' B f.type u → TypeV w' B f'.type v → Calls Tryd.prog 36 #[u, v, .pointer (some ⟨s1, 0, none⟩), .pointer (some ⟨s2, 0, none⟩)] w' fun e w'' => e = .returned (.bool (sameT f.type f'.type)) ∧ Below w'.heap.size w' w'')
    (hB : B ≤ w.heap.size) (hs2 : s2 < w.heap.size) (c2 : w.cell? ⟨s2, 0, none⟩ = some (.func (.func 36) #[] #[.pointer (some ⟨s1, 0, none⟩), .pointer (some ⟨s2, 0, none⟩)])) (hv : FieldV w B f v) (hu : FieldV w B f' u) :
    Calls Tryd.prog 35 #[v, u, .pointer (some ⟨s2, 0, none⟩)] w fun e w' => e = .returned (.bool (sameF f f')) ∧ Below w.heap.size w w' := by
  obtain ⟨v0, v1, v2, v3, v4, v5, rfl, hin⟩ := hv
  obtain ⟨u0, u1, u2, u3, u4, u5, rfl, hin'⟩ := hu
  have HIN := Lib.hid hin; have HIN' := Lib.hid hin'
  obtain ⟨A3, d3, A4, d4, A5, d5, rfl, rfl, rfl, rfl, rfl, rfl⟩ := hin.forms
  obtain ⟨B3, g3, B4, g4, B5, g5, rfl, rfl, rfl, rfl, rfl, rfl⟩ := hin'.forms
  have IH := Lib.hid ih
  have hs2' : ¬ s2 = w.heap.size := by omega
  have hs2'' : ¬ s2 = w.heap.size + 1 := by omega
  have EQ := Lib.hid (sameF_eq f f')
  clear hin hin' ih
  by_cases hn : f.name = f'.name
  · have hn1 : (f.name.toList == f'.name.toList) = true := by rw [beq_iff]; simp [hn]
    by_cases ho : f.opt = f'.opt
    · have E := Lib.hid (show sameF f f' = sameT f.type f'.type by rw [EQ.out, hn, ho]; simp)
      have ho1 : (f.opt == f'.opt) = true := by rw [ho]; simp
      clear hn ho
      go_enter Tryd.func35, Tryd.ntmps35
      go_wp2_with fail
      obtain ⟨W2, hW2⟩ : ∃ W2, W2 = (w.alloc (.cells #[.string f.name, .bool f.opt, .int .i64 f.type.kind, .int .i64 f.type.lo, .int .i64 f.type.hi, .slice A3 f.type.names.length d3, .slice A4 f.type.fields.length d4, .slice A5 f.type.of.length d5] 40)).alloc (.cells #[.string f'.name, .bool f'.opt, .int .i64 f'.type.kind, .int .i64 f'.type.lo, .int .i64 f'.type.hi, .slice B3 f'.type.names.length g3, .slice B4 f'.type.fields.length g4, .slice B5 f'.type.of.length g5] 40) := ⟨_, rfl⟩
      have hbl : Below w.heap.size w W2 := by rw [hW2]; exact ((Below.refl _ _).alloc (Nat.le_refl _) _).alloc (by simp) _
      rw [← hW2]
      clear hW2
      have kp2 : ∀ p : Addr, p.block < B → W2.cell? p = w.cell? p := fun p hp => hbl.cell (by omega)
      refine (IH.out _ _ W2 hbl ⟨_, _, _, _, _, _, rfl, HIN.out.keep (Nat.le_refl _) kp2⟩ ⟨_, _, _, _, _, _, rfl, HIN'.out.keep (Nat.le_refl _) kp2⟩).mono ?_
      rintro e w1 ⟨rfl, hb1⟩
      have HB1 : Hid (Below w.heap.size w w1) := hbl.trans (hb1.mono hbl.size)
      clear hb1 hbl kp2 c2
      go_wp2_with fail
      go_ret
      exact ⟨ret_bool E.out.symm, HB1.out⟩
    · have E := Lib.hid (show sameF f f' = false by rw [EQ.out]; simp [ho])
      have ho1 : (f.opt == f'.opt) = false := by simpa using ho
      clear hn ho
      go_enter Tryd.func35, Tryd.ntmps35
      go_wp2_with fail
      go_ret
      exact ⟨ret_bool E.out.symm, ((Below.refl _ _).alloc (Nat.le_refl _) _).alloc (by simp) _⟩
  · have E := Lib.hid (show sameF f f' = false by rw [EQ.out]; simp [hn])
    have hn1 : (f.name.toList == f'.name.toList) = false := by rw [beq_iff]; simp [hn]
    clear hn
    go_enter Tryd.func35, Tryd.ntmps35
    go_wp2_with fail
    go_ret
    exact ⟨ret_bool E.out.symm, ((Below.refl _ _).alloc (Nat.le_refl _) _).alloc (by simp) _⟩

set_option maxHeartbeats 8000000 in
set_option maxRecDepth 100000 in
theorem same2_any {B s1 s2 : Nat} (m : Nat) : ∀ (a b : T) (v u : Value) (w : World), a.depth ≤ m → a.Fit → b.Fit → B ≤ w.heap.size → TypeV w B a v → TypeV w B b u → s1 < w.heap.size → s2 < w.heap.size →
    w.cell? ⟨s1, 0, none⟩ = some (.func (.func 35) #[] #[.pointer (some ⟨s2, 0, none⟩)]) → w.cell? ⟨s2, 0, none⟩ = some (.func (.func 36) #[] #[.pointer (some ⟨s1, 0, none⟩), .pointer (some ⟨s2, 0, none⟩)]) →
    Calls Tryd.prog 36 #[v, u, .pointer (some ⟨s1, 0, none⟩), .pointer (some ⟨s2, 0, none⟩)] w fun e w' => e = .returned (.bool (sameT a b)) ∧ Below w.heap.size w w' := by
  induction m with
  | zero => intro a; intro _ _ _ _ h; have := a.depth_pos; omega
  | succ m ih =>
    intro a b v u w hm hfa hfb hB ha hb hs1 hs2 c1 c2
    obtain ⟨v0, v1, v2, v3, v4, v5, rfl, hin⟩ := ha
    obtain ⟨u0, u1, u2, u3, u4, u5, rfl, hin'⟩ := hb
    have IH := Lib.hid ih
    have HIN := Lib.hid hin; have HIN' := Lib.hid hin'
    have HN := Lib.hid hin.names_; have HN' := Lib.hid hin'.names_; have HFS := Lib.hid hin.fields_; have HFS' := Lib.hid hin'.fields_; have HOF := Lib.hid hin.of_; have HOF' := Lib.hid hin'.of_
    obtain ⟨A3, d3, A4, d4, A5, d5, rfl, rfl, rfl, rfl, rfl, rfl⟩ := hin.forms
    obtain ⟨B3, g3, B4, g4, B5, g5, rfl, rfl, rfl, rfl, rfl, rfl⟩ := hin'.forms
    have EQ := Lib.hid (sameT_eq a b)
    have hdp := a.depth_eq
    obtain ⟨fa1, fa2, fa3, -, fa5, fa6⟩ := hfa.parts
    obtain ⟨fb1, fb2, fb3, -, fb5, fb6⟩ := hfb.parts
    have FA5 := Lib.hid fa5; have FA6 := Lib.hid fa6; have FB5 := Lib.hid fb5; have FB6 := Lib.hid fb6
    clear ih hin hin' hfa hfb fa5 fa6 fb5 fb6
    have C1 := Lib.hid c1; have C2 := Lib.hid c2
    have hs1' : ¬ s1 = w.heap.size := by omega
    have hs1'' : ¬ s1 = w.heap.size + 1 := by omega
    have hs2' : ¬ s2 = w.heap.size := by omega
    have hs2'' : ¬ s2 = w.heap.size + 1 := by omega
    by_cases hk : a.kind = b.kind
    rotate_left
    · have E := Lib.hid (show sameT a b = false by rw [EQ.out]; simp [hk])
      have hk1 : (a.kind == b.kind) = false := by simp [hk]
      clear hk
      go_enter Tryd.func36, Tryd.ntmps36
      go_wp2_with fail
      go_ret
      exact ⟨ret_bool E.out.symm, ((Below.refl _ _).alloc (Nat.le_refl _) _).alloc (by simp) _⟩
    have hk1 : (a.kind == b.kind) = true := by simp [hk]
    by_cases hl : a.lo = b.lo
    rotate_left
    · have E := Lib.hid (show sameT a b = false by rw [EQ.out]; simp [hl])
      have hl1 : (a.lo == b.lo) = false := by simp [hl]
      clear hl hk
      go_enter Tryd.func36, Tryd.ntmps36
      go_wp2_with fail
      go_ret
      exact ⟨ret_bool E.out.symm, ((Below.refl _ _).alloc (Nat.le_refl _) _).alloc (by simp) _⟩
    have hl1 : (a.lo == b.lo) = true := by simp [hl]
    by_cases hh : a.hi = b.hi
    rotate_left
    · have E := Lib.hid (show sameT a b = false by rw [EQ.out]; simp [hh])
      have hh1 : (a.hi == b.hi) = false := by simp [hh]
      clear hl hk hh
      go_enter Tryd.func36, Tryd.ntmps36
      go_wp2_with fail
      go_ret
      exact ⟨ret_bool E.out.symm, ((Below.refl _ _).alloc (Nat.le_refl _) _).alloc (by simp) _⟩
    have hh1 : (a.hi == b.hi) = true := by simp [hh]
    have EQ2 := Lib.hid (show sameT a b = (decide (a.names = b.names) && (sameFs a.fields b.fields && sameTs a.of b.of)) by rw [EQ.out, hk, hl, hh]; simp)
    clear hk hl hh
    obtain ⟨W2, hW2⟩ : ∃ W2, W2 = (w.alloc (.cells #[.int .i64 a.kind, .int .i64 a.lo, .int .i64 a.hi, .slice A3 a.names.length d3, .slice A4 a.fields.length d4, .slice A5 a.of.length d5] 26)).alloc (.cells #[.int .i64 b.kind, .int .i64 b.lo, .int .i64 b.hi, .slice B3 b.names.length g3, .slice B4 b.fields.length g4, .slice B5 b.of.length g5] 26) := ⟨_, rfl⟩
    have hbl : Below w.heap.size w W2 := by rw [hW2]; exact ((Below.refl _ _).alloc (Nat.le_refl _) _).alloc (by simp) _
    have HBL := Lib.hid hbl
    have hwz : w.heap.size + 2 ≤ W2.heap.size := by rw [hW2]; simp
    have HX : Hid (Box6 W2 w.heap.size (.int .i64 a.kind) (.int .i64 a.lo) (.int .i64 a.hi) (.slice A3 a.names.length d3) (.slice A4 a.fields.length d4) (.slice A5 a.of.length d5)) := by rw [hW2]; exact (Box6.new w _ _ _ _ _ _).alloc _
    have HY : Hid (Box6 W2 (w.heap.size + 1) (.int .i64 b.kind) (.int .i64 b.lo) (.int .i64 b.hi) (.slice B3 b.names.length g3) (.slice B4 b.fields.length g4) (.slice B5 b.of.length g5)) := by rw [hW2]; exact Box6.new' (by simp) _ _ _ _ _ _
    have kp2 : ∀ p : Addr, p.block < B → W2.cell? p = w.cell? p := fun p hp => hbl.cell (by omega)
    have HN2 := Lib.hid (HN.out.keep kp2); have HN2' := Lib.hid (HN'.out.keep kp2)
    have HW2 := Lib.hid hW2
    clear hW2 hbl kp2
    by_cases hn : a.names = b.names
    rotate_left
    · have E := Lib.hid (show sameT a b = false by rw [EQ2.out]; simp [hn])
      have hnd : decide (a.names = b.names) = false := decide_eq_false hn
      have HND := Lib.hid hnd
      clear hn hnd
      go_enter Tryd.func36, Tryd.ntmps36
      go_wp2_with fail
      rw [← HW2.out]
      refine (equalS_any HN2.out HN2'.out fa1 fb1).mono ?_
      rintro e w1 ⟨rfl, n1, rfl⟩
      rw [HND.out]
      go_wp2_with fail
      go_ret
      exact ⟨ret_bool E.out.symm, bel_drewN HBL.out _⟩
    have HND := Lib.hid (show decide (a.names = b.names) = true from decide_eq_true hn)
    have EQ3 := Lib.hid (show sameT a b = (sameFs a.fields b.fields && sameTs a.of b.of) by rw [EQ2.out, HND.out]; simp)
    clear hn
    -- the fields
    have AF : Hid (∀ w' : World, Below w.heap.size w w' → SamesF a.fields s2 w' B) := fun w' hb0 i hi f' v u w'' hb2 hv hu hn hf =>
      same1_any (s1 := s1) (fun u v w3 hb3 hu3 hv3 => IH.out _ _ _ _ w3 (by have := T.field_depth hi; omega) (FA5.out.at_ hi).type hf (by have := hb0.size; have := hb2.size; have := hb3.size; omega) hu3 hv3 (by have := hb0.size; have := hb2.size; have := hb3.size; omega) (by have := hb0.size; have := hb2.size; have := hb3.size; omega)
          ((hb3.cell (by show s1 < _; have := hb0.size; have := hb2.size; omega)).trans ((hb2.cell (by show s1 < _; have := hb0.size; omega)).trans ((hb0.cell (by exact hs1)).trans C1.out)))
          ((hb3.cell (by show s2 < _; have := hb0.size; have := hb2.size; omega)).trans ((hb2.cell (by show s2 < _; have := hb0.size; omega)).trans ((hb0.cell (by exact hs2)).trans C2.out))))
        (by have := hb0.size; have := hb2.size; omega) (by have := hb0.size; have := hb2.size; omega) ((hb2.cell (by show s2 < _; have := hb0.size; omega)).trans ((hb0.cell (by exact hs2)).trans C2.out)) hv hu
    have AT : Hid (∀ w' : World, Below w.heap.size w w' → SamesT a.of s1 s2 w' B) := fun w' hb0 i hi f' v u w'' hb2 hv hu hf =>
      IH.out _ _ _ _ w'' (by have := T.of_depth hi; omega) (FA6.out.at_ hi) hf (by have := hb0.size; have := hb2.size; omega) hv hu (by have := hb0.size; have := hb2.size; omega) (by have := hb0.size; have := hb2.size; omega)
        ((hb2.cell (by show s1 < _; have := hb0.size; omega)).trans ((hb0.cell (by exact hs1)).trans C1.out)) ((hb2.cell (by show s2 < _; have := hb0.size; omega)).trans ((hb0.cell (by exact hs2)).trans C2.out))
    have step : Hid (∀ (n1 : Nat), ∃ W3, W3 = W2.drewN n1 ∧ Below w.heap.size w W3 ∧ Box6 W3 w.heap.size (.int .i64 a.kind) (.int .i64 a.lo) (.int .i64 a.hi) (.slice A3 a.names.length d3) (.slice A4 a.fields.length d4) (.slice A5 a.of.length d5) ∧ Box6 W3 (w.heap.size + 1) (.int .i64 b.kind) (.int .i64 b.lo) (.int .i64 b.hi) (.slice B3 b.names.length g3) (.slice B4 b.fields.length g4) (.slice B5 b.of.length g5)) := fun n1 => ⟨_, rfl, bel_drewN HBL.out _, HX.out, HY.out⟩
    cases hsf : sameFs a.fields b.fields with
    | false =>
      have E := Lib.hid (show sameT a b = false by rw [EQ3.out, hsf]; simp)
      have HSF := Lib.hid hsf
      clear hsf
      go_enter Tryd.func36, Tryd.ntmps36
      go_wp2_with fail
      rw [← HW2.out]
      refine (equalS_any HN2.out HN2'.out fa1 fb1).mono ?_
      rintro e w1 ⟨rfl, n1, rfl⟩
      rw [HND.out]
      obtain ⟨W3, hW3, hb3, hx3, hy3⟩ := step.out n1
      rw [← hW3]
      obtain ⟨x0, x1, x2, x3, x4, x5⟩ := hx3.cells
      obtain ⟨y0, y1, y2, y3, y4, y5⟩ := hy3.cells
      have k1 := (hb3.cell (p := ⟨s1, 0, none⟩) hs1).trans c1
      have k2 := (hb3.cell (p := ⟨s2, 0, none⟩) hs2).trans c2
      have HB3 := Lib.hid hb3
      have hz3 := hb3.size
      clear hx3 hy3 hb3 hW3
      go_wp2_with fail
      refine (equalF_any (AF.out W3 HB3.out) (by omega) (HFS.out.keep (Nat.le_refl _) fun p hp => HB3.out.cell (by omega)) (HFS'.out.keep (Nat.le_refl _) fun p hp => HB3.out.cell (by omega)) fa2 fb2 FB5.out).mono ?_
      rintro e w4 ⟨rfl, hb4⟩
      rw [HSF.out]
      have HB4 : Hid (Below w.heap.size w w4) := HB3.out.trans (hb4.mono hz3)
      clear hb4 x0 x1 x2 x3 x4 x5 y0 y1 y2 y3 y4 y5 k1 k2
      go_wp2_with fail
      go_ret
      exact ⟨ret_bool E.out.symm, HB4.out⟩
    | true =>
      have E := Lib.hid (show sameT a b = sameTs a.of b.of by rw [EQ3.out, hsf]; simp)
      have HSF := Lib.hid hsf
      clear hsf
      go_enter Tryd.func36, Tryd.ntmps36
      go_wp2_with fail
      rw [← HW2.out]
      refine (equalS_any HN2.out HN2'.out fa1 fb1).mono ?_
      rintro e w1 ⟨rfl, n1, rfl⟩
      rw [HND.out]
      obtain ⟨W3, hW3, hb3, hx3, hy3⟩ := step.out n1
      rw [← hW3]
      obtain ⟨x0, x1, x2, x3, x4, x5⟩ := hx3.cells
      obtain ⟨y0, y1, y2, y3, y4, y5⟩ := hy3.cells
      have k1 := (hb3.cell (p := ⟨s1, 0, none⟩) hs1).trans c1
      have k2 := (hb3.cell (p := ⟨s2, 0, none⟩) hs2).trans c2
      have HB3 := Lib.hid hb3
      have hz3 := hb3.size
      have HX3 := Lib.hid hx3; have HY3 := Lib.hid hy3
      clear hx3 hy3 hb3
      have hwz3 : w.heap.size + 2 ≤ W3.heap.size := by rw [hW3]; exact hwz
      clear hW3
      go_wp2_with fail
      refine (equalF_any (AF.out W3 HB3.out) (by omega) (HFS.out.keep (Nat.le_refl _) fun p hp => HB3.out.cell (by omega)) (HFS'.out.keep (Nat.le_refl _) fun p hp => HB3.out.cell (by omega)) fa2 fb2 FB5.out).mono ?_
      rintro e w4 ⟨rfl, hb4⟩
      rw [HSF.out]
      have HB4 : Hid (Below w.heap.size w w4) := HB3.out.trans (hb4.mono hz3)
      clear x0 x1 x2 x3 x4 x5 y0 y1 y2 y3 y4 y5 k1 k2
      obtain ⟨x0, x1, x2, x3, x4, x5⟩ := (HX3.out.same (hb4.block w.heap.size (by omega))).cells
      obtain ⟨y0, y1, y2, y3, y4, y5⟩ := (HY3.out.same (hb4.block (w.heap.size + 1) (by omega))).cells
      have k1 := (HB4.out.cell (p := ⟨s1, 0, none⟩) hs1).trans c1
      have k2 := (HB4.out.cell (p := ⟨s2, 0, none⟩) hs2).trans c2
      have hz4 := HB4.out.size
      clear hb4
      go_wp2_with fail
      refine (equalT_any (AT.out w4 HB4.out) (by omega) (HOF.out.keep (Nat.le_refl _) fun p hp => HB4.out.cell (by omega)) (HOF'.out.keep (Nat.le_refl _) fun p hp => HB4.out.cell (by omega)) fa3 fb3 FB6.out).mono ?_
      rintro e w5 ⟨rfl, hb5⟩
      have HB5 : Hid (Below w.heap.size w w5) := HB4.out.trans (hb5.mono hz4)
      clear hb5 x0 x1 x2 x3 x4 x5 y0 y1 y2 y3 y4 y5 k1 k2
      go_wp2_with fail
      go_ret
      exact ⟨ret_bool E.out.symm, HB5.out⟩
set_option maxHeartbeats 2000000 in
set_option maxRecDepth 100000 in
theorem tsame_any {a b : T} {v u : Value} {w : World} {B : Nat} (hfa : a.Fit) (hfb : b.Fit) (hB : B ≤ w.heap.size) (ha : TypeV w B a v) (hb : TypeV w B b u) :
    Calls Tryd.prog 15 #[v, u] w fun e w' => e = .returned (.bool (sameT a b)) ∧ Below w.heap.size w w' := by
  obtain ⟨v0, v1, v2, v3, v4, v5, rfl, hin⟩ := ha
  obtain ⟨u0, u1, u2, u3, u4, u5, rfl, hin'⟩ := hb
  have HIN := Lib.hid hin; have HIN' := Lib.hid hin'
  obtain ⟨A3, d3, A4, d4, A5, d5, rfl, rfl, rfl, rfl, rfl, rfl⟩ := hin.forms
  obtain ⟨B3, g3, B4, g4, B5, g5, rfl, rfl, rfl, rfl, rfl, rfl⟩ := hin'.forms
  have hmf : ∀ (fn : Fn) (first cap : Array Value) (w : World), (Instr.makeFunc fn first cap).run Tryd.prog w = .ok (.func fn first cap) w := fun _ _ _ _ => rfl
  have HFA := Lib.hid hfa; have HFB := Lib.hid hfb
  clear hin hin' hfa hfb
  go_enter Tryd.func15, Tryd.ntmps15
  go_wp2_with fail
  obtain ⟨W2, hW2⟩ : ∃ W2, W2 = ((((w.alloc (.cells #[.int .i64 a.kind, .int .i64 a.lo, .int .i64 a.hi, .slice A3 a.names.length d3, .slice A4 a.fields.length d4, .slice A5 a.of.length d5] 26)).alloc (.cells #[.int .i64 b.kind, .int .i64 b.lo, .int .i64 b.hi, .slice B3 b.names.length g3, .slice B4 b.fields.length g4, .slice B5 b.of.length g5] 26)).alloc
    (.cells #[.func (.func 36) #[] #[.pointer (some ⟨w.heap.size + 1 + 1 + 1, 0, none⟩), .pointer (some ⟨w.heap.size + 1 + 1, 0, none⟩)]] 44)).alloc (.cells #[.func (.func 35) #[] #[.pointer (some ⟨w.heap.size + 1 + 1, 0, none⟩)]] 60)) := ⟨_, rfl⟩
  have hbl : Below w.heap.size w W2 := by rw [hW2]; exact ((((Below.refl _ _).alloc (Nat.le_refl _) _).alloc (by simp) _).alloc (by simp; omega) _).alloc (by simp; omega) _
  have hz : W2.heap.size = w.heap.size + 1 + 1 + 1 + 1 := by rw [hW2]; simp
  have q1 : W2.cell? ⟨w.heap.size + 1 + 1 + 1, 0, none⟩ = some (.func (.func 35) #[] #[.pointer (some ⟨w.heap.size + 1 + 1, 0, none⟩)]) := by rw [hW2]; go_simp
  have q2 : W2.cell? ⟨w.heap.size + 1 + 1, 0, none⟩ = some (.func (.func 36) #[] #[.pointer (some ⟨w.heap.size + 1 + 1 + 1, 0, none⟩), .pointer (some ⟨w.heap.size + 1 + 1, 0, none⟩)]) := by rw [hW2]; go_simp
  rw [← hW2]
  clear hW2
  have kp2 : ∀ p : Addr, p.block < B → W2.cell? p = w.cell? p := fun p hp => hbl.cell (by omega)
  refine (same2_any (B := B) a.depth a b _ _ W2 (Nat.le_refl _) HFA.out HFB.out (by omega) ⟨_, _, _, _, _, _, rfl, HIN.out.keep (Nat.le_refl _) kp2⟩ ⟨_, _, _, _, _, _, rfl, HIN'.out.keep (Nat.le_refl _) kp2⟩ (by omega) (by omega) q1 q2).mono ?_
  rintro e w1 ⟨rfl, hb1⟩
  have HB1 : Hid (Below w.heap.size w w1) := hbl.trans (hb1.mono hbl.size)
  clear hb1 hbl kp2 q1 q2
  go_wp2_with fail
  go_ret
  exact ⟨rfl, HB1.out⟩
end Go.Proofs.YtnjmknofojjlmaaDoor
