/-
  The walk of DocOrders.
-/
import Derived.Test.YtnpfcpeeimlpeaaDoorSmall
namespace Go.Proofs.YtnpfcpeeimlpeaaDoor
open Go.RowKit
theorem few_fit {d : D} (h : fewB d = true) : d.Fit := by
  have h' : FewP d 20 := by simpa [fewB] using h
  exact h'.fit.fit
theorem cmp_flip (a b : D) : D.cmp b a = - D.cmp a b := D.cmp_ordered.flip a b trivial trivial
theorem cmp_refl (a : D) : D.cmp a a = 0 := D.cmp_ordered.refl a trivial
theorem cmp_cases (a b : D) : D.cmp a b = -1 ∨ D.cmp a b = 0 ∨ D.cmp a b = 1 := D.cmp_ordered.cases a b trivial trivial
theorem cmp_trans {a b c : D} (h1 : D.cmp a b ≤ 0) (h2 : D.cmp b c ≤ 0) : D.cmp a c ≤ 0 := by
  rcases cmp_cases a b with h | h | h
  · rcases cmp_cases b c with k | k | k
    · have := D.cmp_ordered.trans a b c trivial trivial trivial h k; omega
    · obtain rfl := (D.cmp_ordered.eq b c trivial trivial).1 k; omega
    · omega
  · obtain rfl := (D.cmp_ordered.eq a b trivial trivial).1 h; omega
  · omega
theorem doc_alloc {w : World} {d : D} {v0 v1 v2 v3 v4 : Value} (h : DocIn w w.heap.size d v0 v1 v2 v3 v4) (o : Obj) : DocIn (w.alloc o) (w.alloc o).heap.size d v0 v1 v2 v3 v4 := h.keep (by simp) fun _ hp => World.cell?_alloc_lt w _ _ hp
theorem three_held {w : World} {a b c : D} {a0 a1 a2 a3 a4 b0 b1 b2 b3 b4 c0 c1 c2 c3 c4 : Value} (ha : DocIn w w.heap.size a a0 a1 a2 a3 a4) (hb : DocIn w w.heap.size b b0 b1 b2 b3 b4) (hc : DocIn w w.heap.size c c0 c1 c2 c3 c4) :
    Held (((w.alloc (.cells #[a0, a1, a2, a3, a4] 25)).alloc (.cells #[b0, b1, b2, b3, b4] 25)).alloc (.cells #[c0, c1, c2, c3, c4] 25)) w.heap.size a a0 a1 a2 a3 a4 ∧
    Held (((w.alloc (.cells #[a0, a1, a2, a3, a4] 25)).alloc (.cells #[b0, b1, b2, b3, b4] 25)).alloc (.cells #[c0, c1, c2, c3, c4] 25)) (w.heap.size + 1) b b0 b1 b2 b3 b4 ∧
    Held (((w.alloc (.cells #[a0, a1, a2, a3, a4] 25)).alloc (.cells #[b0, b1, b2, b3, b4] 25)).alloc (.cells #[c0, c1, c2, c3, c4] 25)) (w.heap.size + 1 + 1) c c0 c1 c2 c3 c4 := by
  refine ⟨((Held.new ha).alloc _).alloc _, ?_, ?_⟩
  · have := (Held.new (doc_alloc hb (.cells #[a0, a1, a2, a3, a4] 25))).alloc (.cells #[c0, c1, c2, c3, c4] 25)
    rwa [World.size_alloc] at this
  · have := Held.new (doc_alloc (doc_alloc hc (.cells #[a0, a1, a2, a3, a4] 25)) (.cells #[b0, b1, b2, b3, b4] 25))
    rwa [World.size_alloc, World.size_alloc] at this
/-- The three boxes, and what they hold. -/
structure Three (w0 w : World) (a b c : D) (A3 : Option Addr) (d3 : Nat) (A4 : Option Addr) (d4 : Nat) (B3 : Option Addr) (e3 : Nat) (B4 : Option Addr) (e4 : Nat) (C3 : Option Addr) (f3 : Nat) (C4 : Option Addr) (f4 : Nat) : Prop where
  ha : Held w w0.heap.size a (.int .i64 a.kind) (.int .i64 a.num) (.string a.str) (.slice A3 a.keys.length d3) (.slice A4 a.kids.length d4)
  hb : Held w (w0.heap.size + 1) b (.int .i64 b.kind) (.int .i64 b.num) (.string b.str) (.slice B3 b.keys.length e3) (.slice B4 b.kids.length e4)
  hc : Held w (w0.heap.size + 1 + 1) c (.int .i64 c.kind) (.int .i64 c.num) (.string c.str) (.slice C3 c.keys.length f3) (.slice C4 c.kids.length f4)
  bl : Below w0.heap.size w0 w
theorem Three.next {w0 w w' : World} {a b c : D} {A3 : Option Addr} {d3 : Nat} {A4 : Option Addr} {d4 : Nat} {B3 : Option Addr} {e3 : Nat} {B4 : Option Addr} {e4 : Nat} {C3 : Option Addr} {f3 : Nat} {C4 : Option Addr} {f4 : Nat} (h : Three w0 w a b c A3 d3 A4 d4 B3 e3 B4 e4 C3 f3 C4 f4) (hb : Below w.heap.size w w') : Three w0 w' a b c A3 d3 A4 d4 B3 e3 B4 e4 C3 f3 C4 f4 :=
  ⟨h.ha.next hb, h.hb.next hb, h.hc.next hb, h.bl.trans (hb.mono h.bl.size)⟩
theorem Three.start {w : World} {a b c : D} {A3 : Option Addr} {d3 : Nat} {A4 : Option Addr} {d4 : Nat} {B3 : Option Addr} {e3 : Nat} {B4 : Option Addr} {e4 : Nat} {C3 : Option Addr} {f3 : Nat} {C4 : Option Addr} {f4 : Nat} (ha : DocIn w w.heap.size a (.int .i64 a.kind) (.int .i64 a.num) (.string a.str) (.slice A3 a.keys.length d3) (.slice A4 a.kids.length d4)) (hb : DocIn w w.heap.size b (.int .i64 b.kind) (.int .i64 b.num) (.string b.str) (.slice B3 b.keys.length e3) (.slice B4 b.kids.length e4)) (hc : DocIn w w.heap.size c (.int .i64 c.kind) (.int .i64 c.num) (.string c.str) (.slice C3 c.keys.length f3) (.slice C4 c.kids.length f4)) :
    Three w (((w.alloc (.cells #[.int .i64 a.kind, .int .i64 a.num, .string a.str, .slice A3 a.keys.length d3, .slice A4 a.kids.length d4] 25)).alloc (.cells #[.int .i64 b.kind, .int .i64 b.num, .string b.str, .slice B3 b.keys.length e3, .slice B4 b.kids.length e4] 25)).alloc (.cells #[.int .i64 c.kind, .int .i64 c.num, .string c.str, .slice C3 c.keys.length f3, .slice C4 c.kids.length f4] 25)) a b c A3 d3 A4 d4 B3 e3 B4 e4 C3 f3 C4 f4 := by
  obtain ⟨h1, h2, h3⟩ := three_held ha hb hc
  exact ⟨h1, h2, h3, (((Below.refl _ _).alloc (Nat.le_refl _) _).alloc (by simp) _).alloc (by simp; omega) _⟩
set_option maxHeartbeats 4000000 in
set_option maxRecDepth 100000 in
theorem orders_not (a b c : D) (A3 : Option Addr) (d3 : Nat) (A4 : Option Addr) (d4 : Nat) (B3 : Option Addr) (e3 : Nat) (B4 : Option Addr) (e4 : Nat) (C3 : Option Addr) (f3 : Nat) (C4 : Option Addr) (f4 : Nat) (w : World) (hg : Glob w) (ha : DocIn w w.heap.size a (.int .i64 a.kind) (.int .i64 a.num) (.string a.str) (.slice A3 a.keys.length d3) (.slice A4 a.kids.length d4)) (hb : DocIn w w.heap.size b (.int .i64 b.kind) (.int .i64 b.num) (.string b.str) (.slice B3 b.keys.length e3) (.slice B4 b.kids.length e4)) (hc : DocIn w w.heap.size c (.int .i64 c.kind) (.int .i64 c.num) (.string c.str) (.slice C3 c.keys.length f3) (.slice C4 c.kids.length f4)) (x y z : Bool) (FA : Hid (fewB a = x)) (FB : Hid (fewB b = y)) (FC : Hid (fewB c = z)) (hn : x = false ∨ y = false ∨ z = false) :
    Calls Tryd.prog 4 #[.agg #[.int .i64 a.kind, .int .i64 a.num, .string a.str, .slice A3 a.keys.length d3, .slice A4 a.kids.length d4], .agg #[.int .i64 b.kind, .int .i64 b.num, .string b.str, .slice B3 b.keys.length e3, .slice B4 b.kids.length e4], .agg #[.int .i64 c.kind, .int .i64 c.num, .string c.str, .slice C3 c.keys.length f3, .slice C4 c.kids.length f4]] w fun e w' => e = .returned (.bool true) ∧ Below w.heap.size w w' := by
  cases x <;> cases y <;> cases z <;> try (exfalso; simp at hn; done)
  all_goals clear hn
  all_goals (
      have HG := Lib.hid (((hg.alloc (.cells #[.int .i64 a.kind, .int .i64 a.num, .string a.str, .slice A3 a.keys.length d3, .slice A4 a.kids.length d4] 25)).alloc (.cells #[.int .i64 b.kind, .int .i64 b.num, .string b.str, .slice B3 b.keys.length e3, .slice B4 b.kids.length e4] 25)).alloc (.cells #[.int .i64 c.kind, .int .i64 c.num, .string c.str, .slice C3 c.keys.length f3, .slice C4 c.kids.length f4] 25))
      have T0 := Lib.hid (Three.start ha hb hc)
      clear ha hb hc hg
      go_enter Tryd.func4, Tryd.ntmps4
      go_wp2_with fail
      refine (small_v _ HG.out).mono ?_
      rintro e w1 ⟨rfl, h⟩
      have T1 := Lib.hid (T0.out.next h)
      clear T0 HG h
      obtain ⟨q0, q1, q2, q3, q4⟩ := T1.out.ha.box.cells
      obtain ⟨r0, r1, r2, r3, r4⟩ := T1.out.hb.box.cells
      obtain ⟨s0, s1, s2, s3, s4⟩ := T1.out.hc.box.cells
      go_wp2_with fail
      refine (few_v (Nat.le_refl _) T1.out.ha.v).mono ?_
      rintro e w2 ⟨rfl, h⟩
      rw [FA.out]
      have T2 := Lib.hid (T1.out.next h)
      clear q0 q1 q2 q3 q4 r0 r1 r2 r3 r4 s0 s1 s2 s3 s4 T1 h
      obtain ⟨q0, q1, q2, q3, q4⟩ := T2.out.ha.box.cells
      obtain ⟨r0, r1, r2, r3, r4⟩ := T2.out.hb.box.cells
      obtain ⟨s0, s1, s2, s3, s4⟩ := T2.out.hc.box.cells
      go_wp2_with fail
      refine (few_v (Nat.le_refl _) T2.out.hb.v).mono ?_
      rintro e w3 ⟨rfl, h⟩
      rw [FB.out]
      have T3 := Lib.hid (T2.out.next h)
      clear q0 q1 q2 q3 q4 r0 r1 r2 r3 r4 s0 s1 s2 s3 s4 T2 h
      obtain ⟨q0, q1, q2, q3, q4⟩ := T3.out.ha.box.cells
      obtain ⟨r0, r1, r2, r3, r4⟩ := T3.out.hb.box.cells
      obtain ⟨s0, s1, s2, s3, s4⟩ := T3.out.hc.box.cells
      go_wp2_with fail
      refine (few_v (Nat.le_refl _) T3.out.hc.v).mono ?_
      rintro e w4 ⟨rfl, h⟩
      rw [FC.out]
      have T4 := Lib.hid (T3.out.next h)
      clear q0 q1 q2 q3 q4 r0 r1 r2 r3 r4 s0 s1 s2 s3 s4 T3 h
      obtain ⟨q0, q1, q2, q3, q4⟩ := T4.out.ha.box.cells
      obtain ⟨r0, r1, r2, r3, r4⟩ := T4.out.hb.box.cells
      obtain ⟨s0, s1, s2, s3, s4⟩ := T4.out.hc.box.cells
      clear q0 q1 q2 q3 q4 r0 r1 r2 r3 r4 s0 s1 s2 s3 s4
      go_wp2_with fail
      go_ret
      exact ⟨rfl, T4.out.bl⟩)
set_option maxHeartbeats 4000000 in
set_option maxRecDepth 100000 in
theorem orders_gt (a b c : D) (A3 : Option Addr) (d3 : Nat) (A4 : Option Addr) (d4 : Nat) (B3 : Option Addr) (e3 : Nat) (B4 : Option Addr) (e4 : Nat) (C3 : Option Addr) (f3 : Nat) (C4 : Option Addr) (f4 : Nat) (w : World) (hg : Glob w) (ha : DocIn w w.heap.size a (.int .i64 a.kind) (.int .i64 a.num) (.string a.str) (.slice A3 a.keys.length d3) (.slice A4 a.kids.length d4)) (hb : DocIn w w.heap.size b (.int .i64 b.kind) (.int .i64 b.num) (.string b.str) (.slice B3 b.keys.length e3) (.slice B4 b.kids.length e4)) (hc : DocIn w w.heap.size c (.int .i64 c.kind) (.int .i64 c.num) (.string c.str) (.slice C3 c.keys.length f3) (.slice C4 c.kids.length f4)) (FA : Hid (fewB a = true)) (FB : Hid (fewB b = true)) (FC : Hid (fewB c = true)) (x : Int) (HAB : Hid (D.cmp a b = x)) (HBA : Hid (D.cmp b a = -x)) (HS : Hid (D.same a b = decide (x = 0))) (HAA : Hid (D.cmp a a = 0)) (hx : x = 1) :
    Calls Tryd.prog 4 #[.agg #[.int .i64 a.kind, .int .i64 a.num, .string a.str, .slice A3 a.keys.length d3, .slice A4 a.kids.length d4], .agg #[.int .i64 b.kind, .int .i64 b.num, .string b.str, .slice B3 b.keys.length e3, .slice B4 b.kids.length e4], .agg #[.int .i64 c.kind, .int .i64 c.num, .string c.str, .slice C3 c.keys.length f3, .slice C4 c.kids.length f4]] w fun e w' => e = .returned (.bool true) ∧ Below w.heap.size w w' := by
  subst hx
  all_goals (
      have HG := Lib.hid (((hg.alloc (.cells #[.int .i64 a.kind, .int .i64 a.num, .string a.str, .slice A3 a.keys.length d3, .slice A4 a.kids.length d4] 25)).alloc (.cells #[.int .i64 b.kind, .int .i64 b.num, .string b.str, .slice B3 b.keys.length e3, .slice B4 b.kids.length e4] 25)).alloc (.cells #[.int .i64 c.kind, .int .i64 c.num, .string c.str, .slice C3 c.keys.length f3, .slice C4 c.kids.length f4] 25))
      have T0 := Lib.hid (Three.start ha hb hc)
      clear ha hb hc hg
      go_enter Tryd.func4, Tryd.ntmps4
      go_wp2_with fail
      refine (small_v _ HG.out).mono ?_
      rintro e w1 ⟨rfl, h⟩
      have T1 := Lib.hid (T0.out.next h)
      clear T0 HG h
      obtain ⟨q0, q1, q2, q3, q4⟩ := T1.out.ha.box.cells
      obtain ⟨r0, r1, r2, r3, r4⟩ := T1.out.hb.box.cells
      obtain ⟨s0, s1, s2, s3, s4⟩ := T1.out.hc.box.cells
      go_wp2_with fail
      refine (few_v (Nat.le_refl _) T1.out.ha.v).mono ?_
      rintro e w2 ⟨rfl, h⟩
      rw [FA.out]
      have T2 := Lib.hid (T1.out.next h)
      clear q0 q1 q2 q3 q4 r0 r1 r2 r3 r4 s0 s1 s2 s3 s4 T1 h
      obtain ⟨q0, q1, q2, q3, q4⟩ := T2.out.ha.box.cells
      obtain ⟨r0, r1, r2, r3, r4⟩ := T2.out.hb.box.cells
      obtain ⟨s0, s1, s2, s3, s4⟩ := T2.out.hc.box.cells
      go_wp2_with fail
      refine (few_v (Nat.le_refl _) T2.out.hb.v).mono ?_
      rintro e w3 ⟨rfl, h⟩
      rw [FB.out]
      have T3 := Lib.hid (T2.out.next h)
      clear q0 q1 q2 q3 q4 r0 r1 r2 r3 r4 s0 s1 s2 s3 s4 T2 h
      obtain ⟨q0, q1, q2, q3, q4⟩ := T3.out.ha.box.cells
      obtain ⟨r0, r1, r2, r3, r4⟩ := T3.out.hb.box.cells
      obtain ⟨s0, s1, s2, s3, s4⟩ := T3.out.hc.box.cells
      go_wp2_with fail
      refine (few_v (Nat.le_refl _) T3.out.hc.v).mono ?_
      rintro e w4 ⟨rfl, h⟩
      rw [FC.out]
      have T4 := Lib.hid (T3.out.next h)
      clear q0 q1 q2 q3 q4 r0 r1 r2 r3 r4 s0 s1 s2 s3 s4 T3 h
      obtain ⟨q0, q1, q2, q3, q4⟩ := T4.out.ha.box.cells
      obtain ⟨r0, r1, r2, r3, r4⟩ := T4.out.hb.box.cells
      obtain ⟨s0, s1, s2, s3, s4⟩ := T4.out.hc.box.cells
      go_wp2_with fail
      refine (compare_v (few_fit FA.out) (few_fit FB.out) (Nat.le_refl _) T4.out.ha.v T4.out.hb.v).mono ?_
      rintro e w5 ⟨rfl, h⟩
      rw [HAB.out]
      have T5 := Lib.hid (T4.out.next h)
      clear q0 q1 q2 q3 q4 r0 r1 r2 r3 r4 s0 s1 s2 s3 s4 T4 h
      obtain ⟨q0, q1, q2, q3, q4⟩ := T5.out.ha.box.cells
      obtain ⟨r0, r1, r2, r3, r4⟩ := T5.out.hb.box.cells
      obtain ⟨s0, s1, s2, s3, s4⟩ := T5.out.hc.box.cells
      go_wp2_with fail
      refine (compare_v (few_fit FB.out) (few_fit FA.out) (Nat.le_refl _) T5.out.hb.v T5.out.ha.v).mono ?_
      rintro e w6 ⟨rfl, h⟩
      rw [HBA.out]
      have T6 := Lib.hid (T5.out.next h)
      clear q0 q1 q2 q3 q4 r0 r1 r2 r3 r4 s0 s1 s2 s3 s4 T5 h
      obtain ⟨q0, q1, q2, q3, q4⟩ := T6.out.ha.box.cells
      obtain ⟨r0, r1, r2, r3, r4⟩ := T6.out.hb.box.cells
      obtain ⟨s0, s1, s2, s3, s4⟩ := T6.out.hc.box.cells
      go_wp2_with fail
      refine (same_v (few_fit FA.out) (few_fit FB.out) (Nat.le_refl _) T6.out.ha.v T6.out.hb.v).mono ?_
      rintro e w7 ⟨rfl, h⟩
      rw [HS.out]
      have T7 := Lib.hid (T6.out.next h)
      clear q0 q1 q2 q3 q4 r0 r1 r2 r3 r4 s0 s1 s2 s3 s4 T6 h
      obtain ⟨q0, q1, q2, q3, q4⟩ := T7.out.ha.box.cells
      obtain ⟨r0, r1, r2, r3, r4⟩ := T7.out.hb.box.cells
      obtain ⟨s0, s1, s2, s3, s4⟩ := T7.out.hc.box.cells
      go_wp2_with fail
      refine (compare_v (few_fit FA.out) (few_fit FA.out) (Nat.le_refl _) T7.out.ha.v T7.out.ha.v).mono ?_
      rintro e w8 ⟨rfl, h⟩
      rw [HAA.out]
      have T8 := Lib.hid (T7.out.next h)
      clear q0 q1 q2 q3 q4 r0 r1 r2 r3 r4 s0 s1 s2 s3 s4 T7 h
      obtain ⟨q0, q1, q2, q3, q4⟩ := T8.out.ha.box.cells
      obtain ⟨r0, r1, r2, r3, r4⟩ := T8.out.hb.box.cells
      obtain ⟨s0, s1, s2, s3, s4⟩ := T8.out.hc.box.cells
      clear q0 q1 q2 q3 q4 r0 r1 r2 r3 r4 s0 s1 s2 s3 s4
      go_wp2_with fail
      go_ret
      exact ⟨rfl, T8.out.bl⟩)
set_option maxHeartbeats 4000000 in
set_option maxRecDepth 100000 in
theorem orders_bc (a b c : D) (A3 : Option Addr) (d3 : Nat) (A4 : Option Addr) (d4 : Nat) (B3 : Option Addr) (e3 : Nat) (B4 : Option Addr) (e4 : Nat) (C3 : Option Addr) (f3 : Nat) (C4 : Option Addr) (f4 : Nat) (w : World) (hg : Glob w) (ha : DocIn w w.heap.size a (.int .i64 a.kind) (.int .i64 a.num) (.string a.str) (.slice A3 a.keys.length d3) (.slice A4 a.kids.length d4)) (hb : DocIn w w.heap.size b (.int .i64 b.kind) (.int .i64 b.num) (.string b.str) (.slice B3 b.keys.length e3) (.slice B4 b.kids.length e4)) (hc : DocIn w w.heap.size c (.int .i64 c.kind) (.int .i64 c.num) (.string c.str) (.slice C3 c.keys.length f3) (.slice C4 c.kids.length f4)) (FA : Hid (fewB a = true)) (FB : Hid (fewB b = true)) (FC : Hid (fewB c = true)) (x : Int) (HAB : Hid (D.cmp a b = x)) (HBA : Hid (D.cmp b a = -x)) (HS : Hid (D.same a b = decide (x = 0))) (HAA : Hid (D.cmp a a = 0)) (hx : x = -1 ∨ x = 0) (HBC : Hid (D.cmp b c = 1)) :
    Calls Tryd.prog 4 #[.agg #[.int .i64 a.kind, .int .i64 a.num, .string a.str, .slice A3 a.keys.length d3, .slice A4 a.kids.length d4], .agg #[.int .i64 b.kind, .int .i64 b.num, .string b.str, .slice B3 b.keys.length e3, .slice B4 b.kids.length e4], .agg #[.int .i64 c.kind, .int .i64 c.num, .string c.str, .slice C3 c.keys.length f3, .slice C4 c.kids.length f4]] w fun e w' => e = .returned (.bool true) ∧ Below w.heap.size w w' := by
  rcases hx with rfl | rfl
  all_goals (
      have HG := Lib.hid (((hg.alloc (.cells #[.int .i64 a.kind, .int .i64 a.num, .string a.str, .slice A3 a.keys.length d3, .slice A4 a.kids.length d4] 25)).alloc (.cells #[.int .i64 b.kind, .int .i64 b.num, .string b.str, .slice B3 b.keys.length e3, .slice B4 b.kids.length e4] 25)).alloc (.cells #[.int .i64 c.kind, .int .i64 c.num, .string c.str, .slice C3 c.keys.length f3, .slice C4 c.kids.length f4] 25))
      have T0 := Lib.hid (Three.start ha hb hc)
      clear ha hb hc hg
      go_enter Tryd.func4, Tryd.ntmps4
      go_wp2_with fail
      refine (small_v _ HG.out).mono ?_
      rintro e w1 ⟨rfl, h⟩
      have T1 := Lib.hid (T0.out.next h)
      clear T0 HG h
      obtain ⟨q0, q1, q2, q3, q4⟩ := T1.out.ha.box.cells
      obtain ⟨r0, r1, r2, r3, r4⟩ := T1.out.hb.box.cells
      obtain ⟨s0, s1, s2, s3, s4⟩ := T1.out.hc.box.cells
      go_wp2_with fail
      refine (few_v (Nat.le_refl _) T1.out.ha.v).mono ?_
      rintro e w2 ⟨rfl, h⟩
      rw [FA.out]
      have T2 := Lib.hid (T1.out.next h)
      clear q0 q1 q2 q3 q4 r0 r1 r2 r3 r4 s0 s1 s2 s3 s4 T1 h
      obtain ⟨q0, q1, q2, q3, q4⟩ := T2.out.ha.box.cells
      obtain ⟨r0, r1, r2, r3, r4⟩ := T2.out.hb.box.cells
      obtain ⟨s0, s1, s2, s3, s4⟩ := T2.out.hc.box.cells
      go_wp2_with fail
      refine (few_v (Nat.le_refl _) T2.out.hb.v).mono ?_
      rintro e w3 ⟨rfl, h⟩
      rw [FB.out]
      have T3 := Lib.hid (T2.out.next h)
      clear q0 q1 q2 q3 q4 r0 r1 r2 r3 r4 s0 s1 s2 s3 s4 T2 h
      obtain ⟨q0, q1, q2, q3, q4⟩ := T3.out.ha.box.cells
      obtain ⟨r0, r1, r2, r3, r4⟩ := T3.out.hb.box.cells
      obtain ⟨s0, s1, s2, s3, s4⟩ := T3.out.hc.box.cells
      go_wp2_with fail
      refine (few_v (Nat.le_refl _) T3.out.hc.v).mono ?_
      rintro e w4 ⟨rfl, h⟩
      rw [FC.out]
      have T4 := Lib.hid (T3.out.next h)
      clear q0 q1 q2 q3 q4 r0 r1 r2 r3 r4 s0 s1 s2 s3 s4 T3 h
      obtain ⟨q0, q1, q2, q3, q4⟩ := T4.out.ha.box.cells
      obtain ⟨r0, r1, r2, r3, r4⟩ := T4.out.hb.box.cells
      obtain ⟨s0, s1, s2, s3, s4⟩ := T4.out.hc.box.cells
      go_wp2_with fail
      refine (compare_v (few_fit FA.out) (few_fit FB.out) (Nat.le_refl _) T4.out.ha.v T4.out.hb.v).mono ?_
      rintro e w5 ⟨rfl, h⟩
      rw [HAB.out]
      have T5 := Lib.hid (T4.out.next h)
      clear q0 q1 q2 q3 q4 r0 r1 r2 r3 r4 s0 s1 s2 s3 s4 T4 h
      obtain ⟨q0, q1, q2, q3, q4⟩ := T5.out.ha.box.cells
      obtain ⟨r0, r1, r2, r3, r4⟩ := T5.out.hb.box.cells
      obtain ⟨s0, s1, s2, s3, s4⟩ := T5.out.hc.box.cells
      go_wp2_with fail
      refine (compare_v (few_fit FB.out) (few_fit FA.out) (Nat.le_refl _) T5.out.hb.v T5.out.ha.v).mono ?_
      rintro e w6 ⟨rfl, h⟩
      rw [HBA.out]
      have T6 := Lib.hid (T5.out.next h)
      clear q0 q1 q2 q3 q4 r0 r1 r2 r3 r4 s0 s1 s2 s3 s4 T5 h
      obtain ⟨q0, q1, q2, q3, q4⟩ := T6.out.ha.box.cells
      obtain ⟨r0, r1, r2, r3, r4⟩ := T6.out.hb.box.cells
      obtain ⟨s0, s1, s2, s3, s4⟩ := T6.out.hc.box.cells
      go_wp2_with fail
      refine (same_v (few_fit FA.out) (few_fit FB.out) (Nat.le_refl _) T6.out.ha.v T6.out.hb.v).mono ?_
      rintro e w7 ⟨rfl, h⟩
      rw [HS.out]
      have T7 := Lib.hid (T6.out.next h)
      clear q0 q1 q2 q3 q4 r0 r1 r2 r3 r4 s0 s1 s2 s3 s4 T6 h
      obtain ⟨q0, q1, q2, q3, q4⟩ := T7.out.ha.box.cells
      obtain ⟨r0, r1, r2, r3, r4⟩ := T7.out.hb.box.cells
      obtain ⟨s0, s1, s2, s3, s4⟩ := T7.out.hc.box.cells
      go_wp2_with fail
      refine (compare_v (few_fit FB.out) (few_fit FC.out) (Nat.le_refl _) T7.out.hb.v T7.out.hc.v).mono ?_
      rintro e w8 ⟨rfl, h⟩
      rw [HBC.out]
      have T8 := Lib.hid (T7.out.next h)
      clear q0 q1 q2 q3 q4 r0 r1 r2 r3 r4 s0 s1 s2 s3 s4 T7 h
      obtain ⟨q0, q1, q2, q3, q4⟩ := T8.out.ha.box.cells
      obtain ⟨r0, r1, r2, r3, r4⟩ := T8.out.hb.box.cells
      obtain ⟨s0, s1, s2, s3, s4⟩ := T8.out.hc.box.cells
      go_wp2_with fail
      refine (compare_v (few_fit FA.out) (few_fit FA.out) (Nat.le_refl _) T8.out.ha.v T8.out.ha.v).mono ?_
      rintro e w9 ⟨rfl, h⟩
      rw [HAA.out]
      have T9 := Lib.hid (T8.out.next h)
      clear q0 q1 q2 q3 q4 r0 r1 r2 r3 r4 s0 s1 s2 s3 s4 T8 h
      obtain ⟨q0, q1, q2, q3, q4⟩ := T9.out.ha.box.cells
      obtain ⟨r0, r1, r2, r3, r4⟩ := T9.out.hb.box.cells
      obtain ⟨s0, s1, s2, s3, s4⟩ := T9.out.hc.box.cells
      clear q0 q1 q2 q3 q4 r0 r1 r2 r3 r4 s0 s1 s2 s3 s4
      go_wp2_with fail
      go_ret
      exact ⟨rfl, T9.out.bl⟩)
set_option maxHeartbeats 4000000 in
set_option maxRecDepth 100000 in
theorem orders_ac (a b c : D) (A3 : Option Addr) (d3 : Nat) (A4 : Option Addr) (d4 : Nat) (B3 : Option Addr) (e3 : Nat) (B4 : Option Addr) (e4 : Nat) (C3 : Option Addr) (f3 : Nat) (C4 : Option Addr) (f4 : Nat) (w : World) (hg : Glob w) (ha : DocIn w w.heap.size a (.int .i64 a.kind) (.int .i64 a.num) (.string a.str) (.slice A3 a.keys.length d3) (.slice A4 a.kids.length d4)) (hb : DocIn w w.heap.size b (.int .i64 b.kind) (.int .i64 b.num) (.string b.str) (.slice B3 b.keys.length e3) (.slice B4 b.kids.length e4)) (hc : DocIn w w.heap.size c (.int .i64 c.kind) (.int .i64 c.num) (.string c.str) (.slice C3 c.keys.length f3) (.slice C4 c.kids.length f4)) (FA : Hid (fewB a = true)) (FB : Hid (fewB b = true)) (FC : Hid (fewB c = true)) (x : Int) (HAB : Hid (D.cmp a b = x)) (HBA : Hid (D.cmp b a = -x)) (HS : Hid (D.same a b = decide (x = 0))) (HAA : Hid (D.cmp a a = 0)) (y z : Int) (hx : x = -1 ∨ x = 0) (hy : y = -1 ∨ y = 0) (hz : z = -1 ∨ z = 0) (HBC : Hid (D.cmp b c = y)) (HAC : Hid (D.cmp a c = z)) :
    Calls Tryd.prog 4 #[.agg #[.int .i64 a.kind, .int .i64 a.num, .string a.str, .slice A3 a.keys.length d3, .slice A4 a.kids.length d4], .agg #[.int .i64 b.kind, .int .i64 b.num, .string b.str, .slice B3 b.keys.length e3, .slice B4 b.kids.length e4], .agg #[.int .i64 c.kind, .int .i64 c.num, .string c.str, .slice C3 c.keys.length f3, .slice C4 c.kids.length f4]] w fun e w' => e = .returned (.bool true) ∧ Below w.heap.size w w' := by
  rcases hx with rfl | rfl <;> rcases hy with rfl | rfl <;> rcases hz with rfl | rfl
  all_goals (
      have HG := Lib.hid (((hg.alloc (.cells #[.int .i64 a.kind, .int .i64 a.num, .string a.str, .slice A3 a.keys.length d3, .slice A4 a.kids.length d4] 25)).alloc (.cells #[.int .i64 b.kind, .int .i64 b.num, .string b.str, .slice B3 b.keys.length e3, .slice B4 b.kids.length e4] 25)).alloc (.cells #[.int .i64 c.kind, .int .i64 c.num, .string c.str, .slice C3 c.keys.length f3, .slice C4 c.kids.length f4] 25))
      have T0 := Lib.hid (Three.start ha hb hc)
      clear ha hb hc hg
      go_enter Tryd.func4, Tryd.ntmps4
      go_wp2_with fail
      refine (small_v _ HG.out).mono ?_
      rintro e w1 ⟨rfl, h⟩
      have T1 := Lib.hid (T0.out.next h)
      clear T0 HG h
      obtain ⟨q0, q1, q2, q3, q4⟩ := T1.out.ha.box.cells
      obtain ⟨r0, r1, r2, r3, r4⟩ := T1.out.hb.box.cells
      obtain ⟨s0, s1, s2, s3, s4⟩ := T1.out.hc.box.cells
      go_wp2_with fail
      refine (few_v (Nat.le_refl _) T1.out.ha.v).mono ?_
      rintro e w2 ⟨rfl, h⟩
      rw [FA.out]
      have T2 := Lib.hid (T1.out.next h)
      clear q0 q1 q2 q3 q4 r0 r1 r2 r3 r4 s0 s1 s2 s3 s4 T1 h
      obtain ⟨q0, q1, q2, q3, q4⟩ := T2.out.ha.box.cells
      obtain ⟨r0, r1, r2, r3, r4⟩ := T2.out.hb.box.cells
      obtain ⟨s0, s1, s2, s3, s4⟩ := T2.out.hc.box.cells
      go_wp2_with fail
      refine (few_v (Nat.le_refl _) T2.out.hb.v).mono ?_
      rintro e w3 ⟨rfl, h⟩
      rw [FB.out]
      have T3 := Lib.hid (T2.out.next h)
      clear q0 q1 q2 q3 q4 r0 r1 r2 r3 r4 s0 s1 s2 s3 s4 T2 h
      obtain ⟨q0, q1, q2, q3, q4⟩ := T3.out.ha.box.cells
      obtain ⟨r0, r1, r2, r3, r4⟩ := T3.out.hb.box.cells
      obtain ⟨s0, s1, s2, s3, s4⟩ := T3.out.hc.box.cells
      go_wp2_with fail
      refine (few_v (Nat.le_refl _) T3.out.hc.v).mono ?_
      rintro e w4 ⟨rfl, h⟩
      rw [FC.out]
      have T4 := Lib.hid (T3.out.next h)
      clear q0 q1 q2 q3 q4 r0 r1 r2 r3 r4 s0 s1 s2 s3 s4 T3 h
      obtain ⟨q0, q1, q2, q3, q4⟩ := T4.out.ha.box.cells
      obtain ⟨r0, r1, r2, r3, r4⟩ := T4.out.hb.box.cells
      obtain ⟨s0, s1, s2, s3, s4⟩ := T4.out.hc.box.cells
      go_wp2_with fail
      refine (compare_v (few_fit FA.out) (few_fit FB.out) (Nat.le_refl _) T4.out.ha.v T4.out.hb.v).mono ?_
      rintro e w5 ⟨rfl, h⟩
      rw [HAB.out]
      have T5 := Lib.hid (T4.out.next h)
      clear q0 q1 q2 q3 q4 r0 r1 r2 r3 r4 s0 s1 s2 s3 s4 T4 h
      obtain ⟨q0, q1, q2, q3, q4⟩ := T5.out.ha.box.cells
      obtain ⟨r0, r1, r2, r3, r4⟩ := T5.out.hb.box.cells
      obtain ⟨s0, s1, s2, s3, s4⟩ := T5.out.hc.box.cells
      go_wp2_with fail
      refine (compare_v (few_fit FB.out) (few_fit FA.out) (Nat.le_refl _) T5.out.hb.v T5.out.ha.v).mono ?_
      rintro e w6 ⟨rfl, h⟩
      rw [HBA.out]
      have T6 := Lib.hid (T5.out.next h)
      clear q0 q1 q2 q3 q4 r0 r1 r2 r3 r4 s0 s1 s2 s3 s4 T5 h
      obtain ⟨q0, q1, q2, q3, q4⟩ := T6.out.ha.box.cells
      obtain ⟨r0, r1, r2, r3, r4⟩ := T6.out.hb.box.cells
      obtain ⟨s0, s1, s2, s3, s4⟩ := T6.out.hc.box.cells
      go_wp2_with fail
      refine (same_v (few_fit FA.out) (few_fit FB.out) (Nat.le_refl _) T6.out.ha.v T6.out.hb.v).mono ?_
      rintro e w7 ⟨rfl, h⟩
      rw [HS.out]
      have T7 := Lib.hid (T6.out.next h)
      clear q0 q1 q2 q3 q4 r0 r1 r2 r3 r4 s0 s1 s2 s3 s4 T6 h
      obtain ⟨q0, q1, q2, q3, q4⟩ := T7.out.ha.box.cells
      obtain ⟨r0, r1, r2, r3, r4⟩ := T7.out.hb.box.cells
      obtain ⟨s0, s1, s2, s3, s4⟩ := T7.out.hc.box.cells
      go_wp2_with fail
      refine (compare_v (few_fit FB.out) (few_fit FC.out) (Nat.le_refl _) T7.out.hb.v T7.out.hc.v).mono ?_
      rintro e w8 ⟨rfl, h⟩
      rw [HBC.out]
      have T8 := Lib.hid (T7.out.next h)
      clear q0 q1 q2 q3 q4 r0 r1 r2 r3 r4 s0 s1 s2 s3 s4 T7 h
      obtain ⟨q0, q1, q2, q3, q4⟩ := T8.out.ha.box.cells
      obtain ⟨r0, r1, r2, r3, r4⟩ := T8.out.hb.box.cells
      obtain ⟨s0, s1, s2, s3, s4⟩ := T8.out.hc.box.cells
      go_wp2_with fail
      refine (compare_v (few_fit FA.out) (few_fit FC.out) (Nat.le_refl _) T8.out.ha.v T8.out.hc.v).mono ?_
      rintro e w9 ⟨rfl, h⟩
      rw [HAC.out]
      have T9 := Lib.hid (T8.out.next h)
      clear q0 q1 q2 q3 q4 r0 r1 r2 r3 r4 s0 s1 s2 s3 s4 T8 h
      obtain ⟨q0, q1, q2, q3, q4⟩ := T9.out.ha.box.cells
      obtain ⟨r0, r1, r2, r3, r4⟩ := T9.out.hb.box.cells
      obtain ⟨s0, s1, s2, s3, s4⟩ := T9.out.hc.box.cells
      go_wp2_with fail
      refine (compare_v (few_fit FA.out) (few_fit FA.out) (Nat.le_refl _) T9.out.ha.v T9.out.ha.v).mono ?_
      rintro e w10 ⟨rfl, h⟩
      rw [HAA.out]
      have T10 := Lib.hid (T9.out.next h)
      clear q0 q1 q2 q3 q4 r0 r1 r2 r3 r4 s0 s1 s2 s3 s4 T9 h
      obtain ⟨q0, q1, q2, q3, q4⟩ := T10.out.ha.box.cells
      obtain ⟨r0, r1, r2, r3, r4⟩ := T10.out.hb.box.cells
      obtain ⟨s0, s1, s2, s3, s4⟩ := T10.out.hc.box.cells
      clear q0 q1 q2 q3 q4 r0 r1 r2 r3 r4 s0 s1 s2 s3 s4
      go_wp2_with fail
      go_ret
      exact ⟨rfl, T10.out.bl⟩)
theorem orders_v (a b c : D) (A3 : Option Addr) (d3 : Nat) (A4 : Option Addr) (d4 : Nat) (B3 : Option Addr) (e3 : Nat) (B4 : Option Addr) (e4 : Nat) (C3 : Option Addr) (f3 : Nat) (C4 : Option Addr) (f4 : Nat) (w : World) (hg : Glob w) (ha : DocIn w w.heap.size a (.int .i64 a.kind) (.int .i64 a.num) (.string a.str) (.slice A3 a.keys.length d3) (.slice A4 a.kids.length d4)) (hb : DocIn w w.heap.size b (.int .i64 b.kind) (.int .i64 b.num) (.string b.str) (.slice B3 b.keys.length e3) (.slice B4 b.kids.length e4)) (hc : DocIn w w.heap.size c (.int .i64 c.kind) (.int .i64 c.num) (.string c.str) (.slice C3 c.keys.length f3) (.slice C4 c.kids.length f4)) :
    Calls Tryd.prog 4 #[.agg #[.int .i64 a.kind, .int .i64 a.num, .string a.str, .slice A3 a.keys.length d3, .slice A4 a.kids.length d4], .agg #[.int .i64 b.kind, .int .i64 b.num, .string b.str, .slice B3 b.keys.length e3, .slice B4 b.kids.length e4], .agg #[.int .i64 c.kind, .int .i64 c.num, .string c.str, .slice C3 c.keys.length f3, .slice C4 c.kids.length f4]] w fun e w' => e = .returned (.bool true) ∧ Below w.heap.size w w' := by
  cases hA : fewB a
  · exact orders_not a b c A3 d3 A4 d4 B3 e3 B4 e4 C3 f3 C4 f4 w hg ha hb hc false (fewB b) (fewB c) (Lib.hid hA) (Lib.hid rfl) (Lib.hid rfl) (.inl rfl)
  cases hB : fewB b
  · exact orders_not a b c A3 d3 A4 d4 B3 e3 B4 e4 C3 f3 C4 f4 w hg ha hb hc true false (fewB c) (Lib.hid hA) (Lib.hid hB) (Lib.hid rfl) (.inr (.inl rfl))
  cases hC : fewB c
  · exact orders_not a b c A3 d3 A4 d4 B3 e3 B4 e4 C3 f3 C4 f4 w hg ha hb hc true true false (Lib.hid hA) (Lib.hid hB) (Lib.hid hC) (.inr (.inr rfl))
  have FA := Lib.hid hA; have FB := Lib.hid hB; have FC := Lib.hid hC
  have HAB := Lib.hid (rfl : D.cmp a b = D.cmp a b)
  have HBA := Lib.hid (cmp_flip a b)
  have HS : Hid (D.same a b = decide (D.cmp a b = 0)) := Lib.hid rfl
  have HAA := Lib.hid (cmp_refl a)
  by_cases h1 : D.cmp a b = 1
  · exact orders_gt a b c A3 d3 A4 d4 B3 e3 B4 e4 C3 f3 C4 f4 w hg ha hb hc FA FB FC _ HAB HBA HS HAA h1
  have hx : D.cmp a b = -1 ∨ D.cmp a b = 0 := by
    rcases cmp_cases a b with h | h | h
    · exact .inl h
    · exact .inr h
    · exact absurd h h1
  by_cases h2 : D.cmp b c = 1
  · exact orders_bc a b c A3 d3 A4 d4 B3 e3 B4 e4 C3 f3 C4 f4 w hg ha hb hc FA FB FC _ HAB HBA HS HAA hx (Lib.hid h2)
  have hy : D.cmp b c = -1 ∨ D.cmp b c = 0 := by
    rcases cmp_cases b c with h | h | h
    · exact .inl h
    · exact .inr h
    · exact absurd h h2
  have hz : D.cmp a c = -1 ∨ D.cmp a c = 0 := by
    have := cmp_trans (a := a) (b := b) (c := c) (by omega) (by omega)
    rcases cmp_cases a c with h | h | h
    · exact .inl h
    · exact .inr h
    · omega
  exact orders_ac a b c A3 d3 A4 d4 B3 e3 B4 e4 C3 f3 C4 f4 w hg ha hb hc FA FB FC _ HAB HBA HS HAA _ _ hx hy hz (Lib.hid rfl) (Lib.hid rfl)
end Go.Proofs.YtnpfcpeeimlpeaaDoor
