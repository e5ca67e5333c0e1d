/-
  The walk of DocGrows.
-/
import Derived.Test.YtekoicgclkehjaaDoorGrowsP
import Derived.Test.YtekoicgclkehjaaDoorLists
import Derived.Test.YtekoicgclkehjaaDoorSmall
import Derived.Test.YtekoicgclkehjaaDoorWide
namespace Go.Proofs.YtekoicgclkehjaaDoor
open Go.RowKit
theorem few_is {d : D} (h : fewB d = true) : FewP d 20 := by simpa [fewB] using h
theorem doc_alloc' {w : World} {d : D} {v0 v1 v2 v3 v4 : Value} (h : DocIn w w.heap.size d v0 v1 v2 v3 v4) (o : Obj) : DocIn (w.alloc o) (w.alloc o).heap.size d v0 v1 v2 v3 v4 := h.keep (by simp) fun _ hp => World.cell?_alloc_lt w _ _ hp
/-- The two boxes, and what they hold. -/
structure Two (w0 w : World) (a b : D) (A3 : Option Addr) (d3 : Nat) (A4 : Option Addr) (d4 : Nat) (B3 : Option Addr) (e3 : Nat) (B4 : Option Addr) (e4 : Nat) : Prop where
  ha : Held w w0.heap.size a (.int .i64 a.kind) (.int .i64 a.num) (.string a.str) (.slice A3 a.keys.length d3) (.slice A4 a.kids.length d4)
  hb : Held w (w0.heap.size + 1) b (.int .i64 b.kind) (.int .i64 b.num) (.string b.str) (.slice B3 b.keys.length e3) (.slice B4 b.kids.length e4)
  bl : Below w0.heap.size w0 w
theorem Two.next {w0 w w' : World} {a b : D} {A3 : Option Addr} {d3 : Nat} {A4 : Option Addr} {d4 : Nat} {B3 : Option Addr} {e3 : Nat} {B4 : Option Addr} {e4 : Nat} (h : Two w0 w a b A3 d3 A4 d4 B3 e3 B4 e4) (hb : Below w.heap.size w w') : Two w0 w' a b A3 d3 A4 d4 B3 e3 B4 e4 :=
  ⟨h.ha.next hb, h.hb.next hb, h.bl.trans (hb.mono h.bl.size)⟩
theorem Two.start {w : World} {a b : D} {A3 : Option Addr} {d3 : Nat} {A4 : Option Addr} {d4 : Nat} {B3 : Option Addr} {e3 : Nat} {B4 : Option Addr} {e4 : Nat} (ha : DocIn w w.heap.size a (.int .i64 a.kind) (.int .i64 a.num) (.string a.str) (.slice A3 a.keys.length d3) (.slice A4 a.kids.length d4)) (hb : DocIn w w.heap.size b (.int .i64 b.kind) (.int .i64 b.num) (.string b.str) (.slice B3 b.keys.length e3) (.slice B4 b.kids.length e4)) :
    Two w ((w.alloc (.cells #[.int .i64 a.kind, .int .i64 a.num, .string a.str, .slice A3 a.keys.length d3, .slice A4 a.kids.length d4] 25)).alloc (.cells #[.int .i64 b.kind, .int .i64 b.num, .string b.str, .slice B3 b.keys.length e3, .slice B4 b.kids.length e4] 25)) a b A3 d3 A4 d4 B3 e3 B4 e4 := by
  refine ⟨(Held.new ha).alloc _, ?_, ((Below.refl _ _).alloc (Nat.le_refl _) _).alloc (by simp) _⟩
  have := Held.new (doc_alloc' hb (.cells #[.int .i64 a.kind, .int .i64 a.num, .string a.str, .slice A3 a.keys.length d3, .slice A4 a.kids.length d4] 25))
  rwa [World.size_alloc] at this

set_option maxHeartbeats 4000000 in
set_option maxRecDepth 100000 in
theorem grows_not (a b : D) (s : ByteArray) (A3 : Option Addr) (d3 : Nat) (A4 : Option Addr) (d4 : Nat) (B3 : Option Addr) (e3 : Nat) (B4 : Option Addr) (e4 : Nat) (w : World) (hg : Glob w) (ha : DocIn w w.heap.size a (.int .i64 a.kind) (.int .i64 a.num) (.string a.str) (.slice A3 a.keys.length d3) (.slice A4 a.kids.length d4)) (hb : DocIn w w.heap.size b (.int .i64 b.kind) (.int .i64 b.num) (.string b.str) (.slice B3 b.keys.length e3) (.slice B4 b.kids.length e4)) (x y : Bool) (FA : Hid (fewB a = x)) (FB : Hid (fewB b = y)) (hn : x = false ∨ y = false ∨ (a.kind ≠ 1 ∧ a.kind ≠ 2)) :
    Calls Tryd.prog 5 #[(.agg #[.int .i64 a.kind, .int .i64 a.num, .string a.str, .slice A3 a.keys.length d3, .slice A4 a.kids.length d4]), (.agg #[.int .i64 b.kind, .int .i64 b.num, .string b.str, .slice B3 b.keys.length e3, .slice B4 b.kids.length e4]), .string s] w fun e w' => e = .returned (.bool true) ∧ Below w.heap.size w w' := by
  cases x <;> cases y
  case true.true =>
    obtain ⟨h1, h2⟩ : a.kind ≠ 1 ∧ a.kind ≠ 2 := by simpa using hn
    have g1 : (a.kind != 1) = true := by simp [h1]
    have g2 : (a.kind != 2) = true := by simp [h2]
    clear h1 h2 hn
    have HG := Lib.hid ((hg.alloc (.cells #[.int .i64 a.kind, .int .i64 a.num, .string a.str, .slice A3 a.keys.length d3, .slice A4 a.kids.length d4] 25)).alloc (.cells #[.int .i64 b.kind, .int .i64 b.num, .string b.str, .slice B3 b.keys.length e3, .slice B4 b.kids.length e4] 25))
    have T0 := Lib.hid (Two.start ha hb)
    clear ha hb hg
    go_enter Tryd.func5, Tryd.ntmps5
    go_wp2_with fail
    refine (small_v _ HG.out).mono ?_
    rintro e w1 ⟨rfl, h⟩
    have HG1 := Lib.hid (HG.out.below h HG.out.size)
    have T1 := Lib.hid (T0.out.next h)
    clear T0 HG h
    obtain ⟨q0, q1, q2, q3, q4⟩ := T1.out.ha.box.cells
    obtain ⟨r0, r1, r2, r3, r4⟩ := T1.out.hb.box.cells
    go_wp2_with fail
    refine (few_v (Nat.le_refl _) T1.out.ha.v).mono ?_
    rintro e w2 ⟨rfl, h⟩
    rw [FA.out]
    have HG2 := Lib.hid (HG1.out.below h HG1.out.size)
    have T2 := Lib.hid (T1.out.next h)
    clear q0 q1 q2 q3 q4 r0 r1 r2 r3 r4 T1 h HG1
    obtain ⟨q0, q1, q2, q3, q4⟩ := T2.out.ha.box.cells
    obtain ⟨r0, r1, r2, r3, r4⟩ := T2.out.hb.box.cells
    go_wp2_with fail
    refine (few_v (Nat.le_refl _) T2.out.hb.v).mono ?_
    rintro e w3 ⟨rfl, h⟩
    rw [FB.out]
    have HG3 := Lib.hid (HG2.out.below h HG2.out.size)
    have T3 := Lib.hid (T2.out.next h)
    clear q0 q1 q2 q3 q4 r0 r1 r2 r3 r4 T2 h HG2
    obtain ⟨q0, q1, q2, q3, q4⟩ := T3.out.ha.box.cells
    obtain ⟨r0, r1, r2, r3, r4⟩ := T3.out.hb.box.cells
    go_wp2_with fail
    go_ret
    exact ⟨rfl, T3.out.bl⟩
  all_goals clear hn
  all_goals (
    have HG := Lib.hid ((hg.alloc (.cells #[.int .i64 a.kind, .int .i64 a.num, .string a.str, .slice A3 a.keys.length d3, .slice A4 a.kids.length d4] 25)).alloc (.cells #[.int .i64 b.kind, .int .i64 b.num, .string b.str, .slice B3 b.keys.length e3, .slice B4 b.kids.length e4] 25))
    have T0 := Lib.hid (Two.start ha hb)
    clear ha hb hg
    go_enter Tryd.func5, Tryd.ntmps5
    go_wp2_with fail
    refine (small_v _ HG.out).mono ?_
    rintro e w1 ⟨rfl, h⟩
    have HG1 := Lib.hid (HG.out.below h HG.out.size)
    have T1 := Lib.hid (T0.out.next h)
    clear T0 HG h
    obtain ⟨q0, q1, q2, q3, q4⟩ := T1.out.ha.box.cells
    obtain ⟨r0, r1, r2, r3, r4⟩ := T1.out.hb.box.cells
    go_wp2_with fail
    refine (few_v (Nat.le_refl _) T1.out.ha.v).mono ?_
    rintro e w2 ⟨rfl, h⟩
    rw [FA.out]
    have HG2 := Lib.hid (HG1.out.below h HG1.out.size)
    have T2 := Lib.hid (T1.out.next h)
    clear q0 q1 q2 q3 q4 r0 r1 r2 r3 r4 T1 h HG1
    obtain ⟨q0, q1, q2, q3, q4⟩ := T2.out.ha.box.cells
    obtain ⟨r0, r1, r2, r3, r4⟩ := T2.out.hb.box.cells
    go_wp2_with fail
    refine (few_v (Nat.le_refl _) T2.out.hb.v).mono ?_
    rintro e w3 ⟨rfl, h⟩
    rw [FB.out]
    have HG3 := Lib.hid (HG2.out.below h HG2.out.size)
    have T3 := Lib.hid (T2.out.next h)
    clear q0 q1 q2 q3 q4 r0 r1 r2 r3 r4 T2 h HG2
    obtain ⟨q0, q1, q2, q3, q4⟩ := T3.out.ha.box.cells
    obtain ⟨r0, r1, r2, r3, r4⟩ := T3.out.hb.box.cells
    go_wp2_with fail
    go_ret
    exact ⟨rfl, T3.out.bl⟩)

theorem gotK {W : World} {d o : D} {had : Bool} {s : ByteArray} {v : Value} (hf : d.Fit) (hs : Wide d s) (hg : Glob W) (hd : DocV W W.heap.size d v) (hr : getV d [s] = (o, had)) :
    Calls Tryd.prog 11 #[v, .slice (some ⟨W.heap.size, 0, none⟩) 1 1] (W.alloc (.cells #[.string s] 9)) (fun e w' => ∃ A3 c3 A4 c4, e = .returned (.tuple #[.agg #[.int .i64 o.kind, .int .i64 o.num, .string o.str, .slice A3 o.keys.length c3, .slice A4 o.kids.length c4], .bool had]) ∧
      DocIn w' w'.heap.size o (.int .i64 o.kind) (.int .i64 o.num) (.string o.str) (.slice A3 o.keys.length c3) (.slice A4 o.kids.length c4) ∧ Below W.heap.size W w') := by
  have h := (get_key hf hs (hg.alloc _) (Nat.le_refl _) (docv_alloc (.cells #[.string s] 9) hd) (path1 (by simp) (cell_of_row _ _ 0 _ _ _ (heap_alloc_new W _))))
  rw [hr] at h
  refine h.mono fun e w' h' => ?_
  obtain ⟨v0, v1, v2, v3, v4, F, rfl, ho, _, hb1⟩ := h'
  obtain ⟨A3, c3, A4, c4, rfl, rfl, rfl, rfl, rfl⟩ := ho.doc.forms
  exact ⟨A3, c3, A4, c4, rfl, ho.doc, below_al hb1⟩
theorem putK {W : World} {q : Nat} {d y p : D} {er : Int} {s : ByteArray} {v u : Value} (hf : d.Fit) (hfy : y.Fit) (hs : Wide d s) (hg : Glob W) (hq : q = W.heap.size) (hd : DocV W W.heap.size d v) (hy : DocV W W.heap.size y u) (hr : putV d y [s] = (p, er)) :
    Calls Tryd.prog 10 #[v, u, .slice (some ⟨q, 0, none⟩) 1 1] (W.alloc (.cells #[.string s] 9)) (fun e w' => ∃ A3 c3 A4 c4, e = .returned (.tuple #[.agg #[.int .i64 p.kind, .int .i64 p.num, .string p.str, .slice A3 p.keys.length c3, .slice A4 p.kids.length c4], .int .i64 er]) ∧
      DocIn w' w'.heap.size p (.int .i64 p.kind) (.int .i64 p.num) (.string p.str) (.slice A3 p.keys.length c3) (.slice A4 p.kids.length c4) ∧ Below W.heap.size W w') := by
  subst hq
  have h := (put_key hf hfy hs (hg.alloc _) (Nat.le_refl _) (docv_alloc (.cells #[.string s] 9) hd) (docv_alloc (.cells #[.string s] 9) hy) (path1 (by simp) (cell_of_row _ _ 0 _ _ _ (heap_alloc_new W _))))
  rw [hr] at h
  refine h.mono fun e w' h' => ?_
  obtain ⟨v0, v1, v2, v3, v4, F, rfl, ho, _, hb1⟩ := h'
  obtain ⟨A3, c3, A4, c4, rfl, rfl, rfl, rfl, rfl⟩ := ho.doc.forms
  exact ⟨A3, c3, A4, c4, rfl, ho.doc, below_al hb1⟩
/-- A new box, filled. -/
theorem filled {w5 : World} {d : D} {v0 v1 v2 v3 v4 z0 z1 z2 z3 z4 : Value} (ho : DocIn w5 w5.heap.size d v0 v1 v2 v3 v4) :
    Held ((((((w5.alloc (.cells #[z0, z1, z2, z3, z4] 25)).setCell ⟨w5.heap.size, 0, none⟩ v0).setCell ⟨w5.heap.size, 1, none⟩ v1).setCell ⟨w5.heap.size, 2, none⟩ v2).setCell ⟨w5.heap.size, 3, none⟩ v3).setCell ⟨w5.heap.size, 4, none⟩ v4) w5.heap.size d v0 v1 v2 v3 v4 := by
  refine ⟨(((((Box5.new w5 z0 z1 z2 z3 z4).set0 v0).set1 v1).set2 v2).set3 v3).set4 v4, ?_⟩
  have hb : Below w5.heap.size w5 ((((((w5.alloc (.cells #[z0, z1, z2, z3, z4] 25)).setCell ⟨w5.heap.size, 0, none⟩ v0).setCell ⟨w5.heap.size, 1, none⟩ v1).setCell ⟨w5.heap.size, 2, none⟩ v2).setCell ⟨w5.heap.size, 3, none⟩ v3).setCell ⟨w5.heap.size, 4, none⟩ v4) :=
    ((((((Below.refl _ _).alloc (Nat.le_refl _) _).setCell (Nat.le_refl _) _).setCell (Nat.le_refl _) _).setCell (Nat.le_refl _) _).setCell (Nat.le_refl _) _).setCell (Nat.le_refl _) _
  exact ho.keep hb.size fun _ hp => hb.cell hp
theorem filled_below {w5 : World} {v0 v1 v2 v3 v4 z0 z1 z2 z3 z4 : Value} : Below w5.heap.size w5 ((((((w5.alloc (.cells #[z0, z1, z2, z3, z4] 25)).setCell ⟨w5.heap.size, 0, none⟩ v0).setCell ⟨w5.heap.size, 1, none⟩ v1).setCell ⟨w5.heap.size, 2, none⟩ v2).setCell ⟨w5.heap.size, 3, none⟩ v3).setCell ⟨w5.heap.size, 4, none⟩ v4) :=
    ((((((Below.refl _ _).alloc (Nat.le_refl _) _).setCell (Nat.le_refl _) _).setCell (Nat.le_refl _) _).setCell (Nat.le_refl _) _).setCell (Nat.le_refl _) _).setCell (Nat.le_refl _) _

set_option maxHeartbeats 16000000 in
set_option maxRecDepth 100000 in
theorem grows_yes (a b : D) (s : ByteArray) (A3 : Option Addr) (d3 : Nat) (A4 : Option Addr) (d4 : Nat) (B3 : Option Addr) (e3 : Nat) (B4 : Option Addr) (e4 : Nat) (w : World) (hg : Glob w) (ha : DocIn w w.heap.size a (.int .i64 a.kind) (.int .i64 a.num) (.string a.str) (.slice A3 a.keys.length d3) (.slice A4 a.kids.length d4)) (hb : DocIn w w.heap.size b (.int .i64 b.kind) (.int .i64 b.num) (.string b.str) (.slice B3 b.keys.length e3) (.slice B4 b.kids.length e4)) (FA : Hid (fewB a = true)) (FB : Hid (fewB b = true)) (kn : Bool) (hg1 : (a.kind != 1) = !kn) (hg2 : (a.kind != 2) = kn) (hs : Wide a s) (old p : D) (had : Bool) (er : Int) (hgv : getV a [s] = (old, had)) (hpv : putV a b [s] = (p, er)) :
    Calls Tryd.prog 5 #[(.agg #[.int .i64 a.kind, .int .i64 a.num, .string a.str, .slice A3 a.keys.length d3, .slice A4 a.kids.length d4]), (.agg #[.int .i64 b.kind, .int .i64 b.num, .string b.str, .slice B3 b.keys.length e3, .slice B4 b.kids.length e4]), .string s] w fun e w' => e = .returned (.bool true) ∧ Below w.heap.size w w' := by
  have HK : Hid (a.kind = 1 ∨ a.kind = 2) := by
    show _ ∨ _
    cases kn <;> simp at hg1 hg2 <;> simp [hg1, hg2]
  have HS := Lib.hid hs
  have GV := Lib.hid hgv
  have PV := Lib.hid hpv
  have hsz := hs.1
  have hsb : b.size ≤ 10000 := by have := (few_is FB.out).size; omega
  have hsa : a.size ≤ 10000 := by have := (few_is FA.out).size; omega
  have hdb : b.depth ≤ 10000 := by have := (few_is FB.out).depth; omega
  have e1 : (a.kind == 1) = kn := by cases kn <;> simp at hg1 hg2 <;> simp [hg1, hg2]
  have FPA := Lib.hid (few_is FA.out).fit.fit
  have FPB := Lib.hid (few_is FB.out).fit.fit
  clear hs hgv hpv
  cases kn
  all_goals simp only [Bool.not_true, Bool.not_false] at hg1 e1
  case true =>
    have HG := Lib.hid ((hg.alloc (.cells #[.int .i64 a.kind, .int .i64 a.num, .string a.str, .slice A3 a.keys.length d3, .slice A4 a.kids.length d4] 25)).alloc (.cells #[.int .i64 b.kind, .int .i64 b.num, .string b.str, .slice B3 b.keys.length e3, .slice B4 b.kids.length e4] 25))
    have T0 := Lib.hid (Two.start ha hb)
    clear ha hb hg
    go_enter Tryd.func5, Tryd.ntmps5
    go_wp2_with fail
    refine (small_v _ HG.out).mono ?_
    rintro e w1 ⟨rfl, h⟩
    have HG1 := Lib.hid (HG.out.below h HG.out.size)
    have T1 := Lib.hid (T0.out.next h)
    clear T0 HG h
    obtain ⟨q0, q1, q2, q3, q4⟩ := T1.out.ha.box.cells
    obtain ⟨r0, r1, r2, r3, r4⟩ := T1.out.hb.box.cells
    go_wp2_with fail
    refine (few_v (Nat.le_refl _) T1.out.ha.v).mono ?_
    rintro e w2 ⟨rfl, h⟩
    rw [FA.out]
    have HG2 := Lib.hid (HG1.out.below h HG1.out.size)
    have T2 := Lib.hid (T1.out.next h)
    clear q0 q1 q2 q3 q4 r0 r1 r2 r3 r4 T1 h HG1
    obtain ⟨q0, q1, q2, q3, q4⟩ := T2.out.ha.box.cells
    obtain ⟨r0, r1, r2, r3, r4⟩ := T2.out.hb.box.cells
    go_wp2_with fail
    refine (few_v (Nat.le_refl _) T2.out.hb.v).mono ?_
    rintro e w3 ⟨rfl, h⟩
    rw [FB.out]
    have HG3 := Lib.hid (HG2.out.below h HG2.out.size)
    have T3 := Lib.hid (T2.out.next h)
    clear q0 q1 q2 q3 q4 r0 r1 r2 r3 r4 T2 h HG2
    obtain ⟨q0, q1, q2, q3, q4⟩ := T3.out.ha.box.cells
    obtain ⟨r0, r1, r2, r3, r4⟩ := T3.out.hb.box.cells
    go_wp2_with fail
    refine (gotK FPA.out HS.out HG3.out T3.out.ha.v GV.out).mono ?_
    rintro e w4 ⟨O3, f3, O4, f4, rfl, hold, h⟩
    have HG4 := Lib.hid (HG3.out.below h HG3.out.size)
    have T4 := Lib.hid (T3.out.next h)
    have HO := Lib.hid (Held.new hold)
    clear q0 q1 q2 q3 q4 r0 r1 r2 r3 r4 T3 h HG3 hold
    obtain ⟨q0, q1, q2, q3, q4⟩ := T4.out.ha.box.cells
    obtain ⟨r0, r1, r2, r3, r4⟩ := T4.out.hb.box.cells
    have z0 := T4.out.ha.lt
    have z1 := T4.out.hb.lt
    have HN : ∀ o : Obj, Below w4.heap.size w4 (w4.alloc o) := fun o => (Below.refl _ _).alloc (Nat.le_refl _) o
    go_wp2_with fail
    refine (putK FPA.out FPB.out HS.out (HG4.out.alloc _) (by simp) (T4.out.next (HN _)).ha.v (T4.out.next (HN _)).hb.v PV.out).mono ?_
    rintro e w5 ⟨P3, g3, P4, g4, rfl, hput, h⟩
    have T5 := Lib.hid ((T4.out.next (HN _)).next h)
    have HO5 := Lib.hid (HO.out.next h)
    have HP := Lib.hid (Held.new hput)
    clear q0 q1 q2 q3 q4 r0 r1 r2 r3 r4 T4 h HG4 hput HO z0 z1 HN
    have HN : ∀ o : Obj, Below w5.heap.size w5 (w5.alloc o) := fun o => (Below.refl _ _).alloc (Nat.le_refl _) o
    have T6 := Lib.hid (T5.out.next (HN (.cells #[.int .i64 p.kind, .int .i64 p.num, .string p.str, .slice P3 p.keys.length g3, .slice P4 p.kids.length g4] 25)))
    have HO6 := Lib.hid (HO5.out.next (HN (.cells #[.int .i64 p.kind, .int .i64 p.num, .string p.str, .slice P3 p.keys.length g3, .slice P4 p.kids.length g4] 25)))
    obtain ⟨q0, q1, q2, q3, q4⟩ := T5.out.ha.box.cells
    obtain ⟨r0, r1, r2, r3, r4⟩ := T5.out.hb.box.cells
    obtain ⟨o0, o1, o2, o3, o4⟩ := HO5.out.box.cells
    have z0 := T5.out.ha.lt
    have z1 := T5.out.hb.lt
    have z2 := HO5.out.lt
    by_cases h0 : er = 0
    · subst h0
      have GR := Lib.hid (grown2 (few_is FA.out) (few_is FB.out) HK.out GV.out PV.out)
      have hsp : p.size ≤ 10000 := by have := GR.out.small; omega
      have hdp : p.depth ≤ 10000 := by have := GR.out.deep; omega
      have hkp := GR.out.fit.kids
      clear T5 HO5 HN
      go_wp2_with fail
      refine (size_any b.depth b _ _ _ _ _ _ _ (Nat.le_refl _) hsb (Nat.le_refl _) T6.out.hb.doc).mono ?_
      rintro e w6 ⟨rfl, h⟩
      have T7 := Lib.hid (T6.out.next h)
      have HO7 := Lib.hid (HO6.out.next h)
      have HP7 := Lib.hid (HP.out.next h)
      clear q0 q1 q2 q3 q4 r0 r1 r2 r3 r4 o0 o1 o2 o3 o4 z0 z1 z2 T6 HO6 HP h
      obtain ⟨q0, q1, q2, q3, q4⟩ := T7.out.ha.box.cells
      obtain ⟨r0, r1, r2, r3, r4⟩ := T7.out.hb.box.cells
      obtain ⟨o0, o1, o2, o3, o4⟩ := HO7.out.box.cells
      obtain ⟨p0, p1, p2, p3, p4⟩ := HP7.out.box.cells
      cases had
      case false =>
        go_wp2_with fail
        go_loopw [15, 16] (fun t i wr => ∃ k : Nat, k ≤ p.kids.length ∧ i = .int .i64 k ∧ t = .int .i64 ((D.depths (p.kids.take k) : Nat) : Int) ∧ Below w6.heap.size w6 wr) (fun _ i _ => p.kids.length - (intOf i).toNat)
        case atStart => exact ⟨0, Nat.zero_le _, rfl, rfl, Below.refl _ _⟩
        case round =>
          obtain ⟨k, hk, rfl, rfl, hb⟩ := hrel
          have TR := Lib.hid (T7.out.next hb)
          have HPR := Lib.hid (HP7.out.next hb)
          obtain ⟨p0, p1, p2, p3, p4⟩ := HPR.out.box.cells
          by_cases hlt : k < p.kids.length
          · obtain ⟨_, _, h4⟩ := HPR.out.doc.kids_
            obtain ⟨kb, ko, rfl, hab, hkids⟩ := h4 (by omega)
            have hcells := KidsIn.at_ hkids k hlt
            rw [Nat.zero_add] at hcells
            obtain ⟨u0, u1, u2, u3, u4, g0, g1, g2, g3, g4, hdk⟩ := hcells
            clear hkids h4
            obtain ⟨A5, c5, A6, c6, rfl, rfl, rfl, rfl, rfl⟩ := hdk.forms
            have HKD := Lib.hid hdk
            clear hdk
            have HT := Lib.hid (D.depths_take_succ p.kids k hlt)
            have htl : D.depths (p.kids.take k) ≤ D.depths p.kids := D.depths_take_le _ _
            have hde : D.depths p.kids ≤ 20 := by have h1 := GR.out.kids; have h2 := GR.out.deep; omega
            have hkd2 : (p.kids[k]).depth ≤ 10000 := by have := D.depth_kid (d := p) hlt; omega
            go_wp2_with fail
            refine (depth_v hkd2 (GR.out.fit.kid hlt) (Nat.le_refl _) ⟨_, _, _, _, _, rfl, HKD.out⟩).mono ?_
            rintro e w8 ⟨rfl, hb1⟩
            go_wp2_with fail
            all_goals
              go_roundw
              case rel => exact ⟨k + 1, by omega, by go_num, by rw [HT.out]; first | rfl | go_num | (congr 1; omega), hb.trans (hb1.mono hb.size)⟩
              case measure => simp [intOf]; omega
          · have htk : p.kids.take k = p.kids := List.take_of_length_le (by omega)
            rw [htk]
            clear htk
            go_wp2_with fail
            have hSZ : ((p.size : Nat) : Int) = (((a.size : Nat) : Int) + ((b.size : Nat) : Int)) := by have := GR.out.size; simpa using this
            have hDE : ((p.depth : Nat) : Int) = (D.depths p.kids : Nat) + 1 := by have := GR.out.kids; omega
            have hde : D.depths p.kids ≤ 20 := by have h1 := GR.out.kids; have h2 := GR.out.deep; omega
            have hUN : ((b.depth : Nat) : Int) < (D.depths p.kids : Nat) + 1 := by have := GR.out.under; omega
            have CSP : Hid (∀ wq : World, Below wr.heap.size wr wq → Calls Tryd.prog 14 #[(.agg #[.int .i64 p.kind, .int .i64 p.num, .string p.str, .slice P3 p.keys.length g3, .slice P4 p.kids.length g4])] wq fun e w'' => e = .returned (.int .i64 (((a.size : Nat) : Int) + ((b.size : Nat) : Int))) ∧ Below wr.heap.size wr w'') := fun wq hq => (size_any p.depth p _ _ _ _ _ _ wr.heap.size (Nat.le_refl _) hsp hq.size (HPR.out.doc.keep (Nat.le_refl _) fun p hp => hq.cell (p := p) hp)).mono fun e w'' h => ⟨h.1.trans (by rw [hSZ]), hq.trans (h.2.mono hq.size)⟩
            have CSA : Hid (∀ wq : World, Below wr.heap.size wr wq → Calls Tryd.prog 14 #[(.agg #[.int .i64 a.kind, .int .i64 a.num, .string a.str, .slice A3 a.keys.length d3, .slice A4 a.kids.length d4])] wq fun e w'' => e = .returned (.int .i64 (a.size : Nat)) ∧ Below wr.heap.size wr w'') := fun wq hq => (size_any a.depth a _ _ _ _ _ _ wr.heap.size (Nat.le_refl _) hsa hq.size (TR.out.ha.doc.keep (Nat.le_refl _) fun p hp => hq.cell (p := p) hp)).mono fun e w'' h => ⟨h.1, hq.trans (h.2.mono hq.size)⟩
            have CDP : Hid (∀ wq : World, Below wr.heap.size wr wq → Calls Tryd.prog 18 #[(.agg #[.int .i64 p.kind, .int .i64 p.num, .string p.str, .slice P3 p.keys.length g3, .slice P4 p.kids.length g4])] wq fun e w'' => e = .returned (.int .i64 ((D.depths p.kids : Nat) + 1 : Int)) ∧ Below wr.heap.size wr w'') := fun wq hq => (depth_v (B := wr.heap.size) hdp GR.out.fit hq.size (HPR.out.v.keep (Nat.le_refl _) fun p hp => hq.cell (p := p) hp)).mono fun e w'' h => ⟨h.1.trans (by rw [hDE]), hq.trans (h.2.mono hq.size)⟩
            have CDB : Hid (∀ wq : World, Below wr.heap.size wr wq → Calls Tryd.prog 18 #[(.agg #[.int .i64 b.kind, .int .i64 b.num, .string b.str, .slice B3 b.keys.length e3, .slice B4 b.kids.length e4])] wq fun e w'' => e = .returned (.int .i64 (b.depth : Nat)) ∧ Below wr.heap.size wr w'') := fun wq hq => (depth_v (B := wr.heap.size) hdb FPB.out hq.size (TR.out.hb.v.keep (Nat.le_refl _) fun p hp => hq.cell (p := p) hp)).mono fun e w'' h => ⟨h.1, hq.trans (h.2.mono hq.size)⟩
            clear p0 p1 p2 p3 p4 hSZ hDE
            refine wp_region_quiet (C := fun w' => Below wr.heap.size wr w') (by kernel_rfl) (by kernel_rfl) ((Below.refl _ _).drew) ?_
            dsimp only
            repeat (first
                | go_big_quiet_skip
                | (go_big_quiet_want; go_big_quiet_op; go_big_quiet_on)
                | (go_big_quiet_want; refine ⟨(.agg #[.int .i64 p.kind, .int .i64 p.num, .string p.str, .slice P3 p.keys.length g3, .slice P4 p.kids.length g4]), fun wq hq => ?_, ?_⟩
                   · (obtain ⟨q0, q1, q2, q3, q4⟩ := (HPR.out.next hq).box.cells; go_simp; done)
                   (simp only [Act.put, List.setIfInBounds_toArray, List.set_cons_zero, List.set_cons_succ])
                   go_big_quiet_on)
                | (go_big_quiet_want; refine ⟨(.agg #[.int .i64 a.kind, .int .i64 a.num, .string a.str, .slice A3 a.keys.length d3, .slice A4 a.kids.length d4]), fun wq hq => ?_, ?_⟩
                   · (obtain ⟨q0, q1, q2, q3, q4⟩ := (TR.out.next hq).ha.box.cells; go_simp; done)
                   (simp only [Act.put, List.setIfInBounds_toArray, List.set_cons_zero, List.set_cons_succ])
                   go_big_quiet_on)
                | (go_big_quiet_want; refine ⟨(.agg #[.int .i64 b.kind, .int .i64 b.num, .string b.str, .slice B3 b.keys.length e3, .slice B4 b.kids.length e4]), fun wq hq => ?_, ?_⟩
                   · (obtain ⟨q0, q1, q2, q3, q4⟩ := (TR.out.next hq).hb.box.cells; go_simp; done)
                   (simp only [Act.put, List.setIfInBounds_toArray, List.set_cons_zero, List.set_cons_succ])
                   go_big_quiet_on)
                | (go_big_quiet_want; go_big_quiet_op; apply Exists.intro; refine ⟨fun _ _ => rfl, ?_⟩; go_big_quiet_on)
                | (go_big_quiet_want; go_big_quiet_op; apply Exists.intro; refine ⟨fun wq hq => ?_, ?_⟩
                   · (first
                        | (go_at_call 14; with_reducible exact CSP.out wq hq)
                        | (go_at_call 14; with_reducible exact CSA.out wq hq)
                        | (go_at_call 18; with_reducible exact CDP.out wq hq)
                        | (go_at_call 18; with_reducible exact CDB.out wq hq)
                     )
                   go_big_quiet_on))
            refine wpQuiet_nil ?_
            intro wq hq
            go_wp2_with fail
            go_ret
            exact ⟨rfl, TR.out.bl.trans (hq.mono TR.out.bl.size)⟩
      case true =>
        have hso : old.size ≤ 10000 := by have := old_small (few_is FA.out) GV.out; omega
        go_wp2_with fail
        refine (size_any old.depth old _ _ _ _ _ _ _ (Nat.le_refl _) hso (Nat.le_refl _) HO7.out.doc).mono ?_
        rintro e w7 ⟨rfl, h⟩
        have T8 := Lib.hid (T7.out.next h)
        have HP8 := Lib.hid (HP7.out.next h)
        clear q0 q1 q2 q3 q4 r0 r1 r2 r3 r4 o0 o1 o2 o3 o4 p0 p1 p2 p3 p4 T7 HO7 HP7 h
        obtain ⟨p0, p1, p2, p3, p4⟩ := HP8.out.box.cells
        go_wp2_with fail
        go_loopw [15, 16] (fun t i wr => ∃ k : Nat, k ≤ p.kids.length ∧ i = .int .i64 k ∧ t = .int .i64 ((D.depths (p.kids.take k) : Nat) : Int) ∧ Below w7.heap.size w7 wr) (fun _ i _ => p.kids.length - (intOf i).toNat)
        case atStart => exact ⟨0, Nat.zero_le _, rfl, rfl, Below.refl _ _⟩
        case round =>
          obtain ⟨k, hk, rfl, rfl, hb⟩ := hrel
          have TR := Lib.hid (T8.out.next hb)
          have HPR := Lib.hid (HP8.out.next hb)
          obtain ⟨p0, p1, p2, p3, p4⟩ := HPR.out.box.cells
          by_cases hlt : k < p.kids.length
          · obtain ⟨_, _, h4⟩ := HPR.out.doc.kids_
            obtain ⟨kb, ko, rfl, hab, hkids⟩ := h4 (by omega)
            have hcells := KidsIn.at_ hkids k hlt
            rw [Nat.zero_add] at hcells
            obtain ⟨u0, u1, u2, u3, u4, g0, g1, g2, g3, g4, hdk⟩ := hcells
            clear hkids h4
            obtain ⟨A5, c5, A6, c6, rfl, rfl, rfl, rfl, rfl⟩ := hdk.forms
            have HKD := Lib.hid hdk
            clear hdk
            have HT := Lib.hid (D.depths_take_succ p.kids k hlt)
            have htl : D.depths (p.kids.take k) ≤ D.depths p.kids := D.depths_take_le _ _
            have hde : D.depths p.kids ≤ 20 := by have h1 := GR.out.kids; have h2 := GR.out.deep; omega
            have hkd2 : (p.kids[k]).depth ≤ 10000 := by have := D.depth_kid (d := p) hlt; omega
            go_wp2_with fail
            refine (depth_v hkd2 (GR.out.fit.kid hlt) (Nat.le_refl _) ⟨_, _, _, _, _, rfl, HKD.out⟩).mono ?_
            rintro e w8 ⟨rfl, hb1⟩
            go_wp2_with fail
            all_goals
              go_roundw
              case rel => exact ⟨k + 1, by omega, by go_num, by rw [HT.out]; first | rfl | go_num | (congr 1; omega), hb.trans (hb1.mono hb.size)⟩
              case measure => simp [intOf]; omega
          · have htk : p.kids.take k = p.kids := List.take_of_length_le (by omega)
            rw [htk]
            clear htk
            go_wp2_with fail
            have hSZ : ((p.size : Nat) : Int) = (((a.size : Nat) : Int) + (((b.size : Nat) : Int) - ((old.size : Nat) : Int))) := by have := GR.out.size; simpa using this
            have hDE : ((p.depth : Nat) : Int) = (D.depths p.kids : Nat) + 1 := by have := GR.out.kids; omega
            have hde : D.depths p.kids ≤ 20 := by have h1 := GR.out.kids; have h2 := GR.out.deep; omega
            have hUN : ((b.depth : Nat) : Int) < (D.depths p.kids : Nat) + 1 := by have := GR.out.under; omega
            have CSP : Hid (∀ wq : World, Below wr.heap.size wr wq → Calls Tryd.prog 14 #[(.agg #[.int .i64 p.kind, .int .i64 p.num, .string p.str, .slice P3 p.keys.length g3, .slice P4 p.kids.length g4])] wq fun e w'' => e = .returned (.int .i64 (((a.size : Nat) : Int) + (((b.size : Nat) : Int) - ((old.size : Nat) : Int)))) ∧ Below wr.heap.size wr w'') := fun wq hq => (size_any p.depth p _ _ _ _ _ _ wr.heap.size (Nat.le_refl _) hsp hq.size (HPR.out.doc.keep (Nat.le_refl _) fun p hp => hq.cell (p := p) hp)).mono fun e w'' h => ⟨h.1.trans (by rw [hSZ]), hq.trans (h.2.mono hq.size)⟩
            have CSA : Hid (∀ wq : World, Below wr.heap.size wr wq → Calls Tryd.prog 14 #[(.agg #[.int .i64 a.kind, .int .i64 a.num, .string a.str, .slice A3 a.keys.length d3, .slice A4 a.kids.length d4])] wq fun e w'' => e = .returned (.int .i64 (a.size : Nat)) ∧ Below wr.heap.size wr w'') := fun wq hq => (size_any a.depth a _ _ _ _ _ _ wr.heap.size (Nat.le_refl _) hsa hq.size (TR.out.ha.doc.keep (Nat.le_refl _) fun p hp => hq.cell (p := p) hp)).mono fun e w'' h => ⟨h.1, hq.trans (h.2.mono hq.size)⟩
            have CDP : Hid (∀ wq : World, Below wr.heap.size wr wq → Calls Tryd.prog 18 #[(.agg #[.int .i64 p.kind, .int .i64 p.num, .string p.str, .slice P3 p.keys.length g3, .slice P4 p.kids.length g4])] wq fun e w'' => e = .returned (.int .i64 ((D.depths p.kids : Nat) + 1 : Int)) ∧ Below wr.heap.size wr w'') := fun wq hq => (depth_v (B := wr.heap.size) hdp GR.out.fit hq.size (HPR.out.v.keep (Nat.le_refl _) fun p hp => hq.cell (p := p) hp)).mono fun e w'' h => ⟨h.1.trans (by rw [hDE]), hq.trans (h.2.mono hq.size)⟩
            have CDB : Hid (∀ wq : World, Below wr.heap.size wr wq → Calls Tryd.prog 18 #[(.agg #[.int .i64 b.kind, .int .i64 b.num, .string b.str, .slice B3 b.keys.length e3, .slice B4 b.kids.length e4])] wq fun e w'' => e = .returned (.int .i64 (b.depth : Nat)) ∧ Below wr.heap.size wr w'') := fun wq hq => (depth_v (B := wr.heap.size) hdb FPB.out hq.size (TR.out.hb.v.keep (Nat.le_refl _) fun p hp => hq.cell (p := p) hp)).mono fun e w'' h => ⟨h.1, hq.trans (h.2.mono hq.size)⟩
            clear p0 p1 p2 p3 p4 hSZ hDE
            refine wp_region_quiet (C := fun w' => Below wr.heap.size wr w') (by kernel_rfl) (by kernel_rfl) ((Below.refl _ _).drew) ?_
            dsimp only
            repeat (first
                | go_big_quiet_skip
                | (go_big_quiet_want; go_big_quiet_op; go_big_quiet_on)
                | (go_big_quiet_want; refine ⟨(.agg #[.int .i64 p.kind, .int .i64 p.num, .string p.str, .slice P3 p.keys.length g3, .slice P4 p.kids.length g4]), fun wq hq => ?_, ?_⟩
                   · (obtain ⟨q0, q1, q2, q3, q4⟩ := (HPR.out.next hq).box.cells; go_simp; done)
                   (simp only [Act.put, List.setIfInBounds_toArray, List.set_cons_zero, List.set_cons_succ])
                   go_big_quiet_on)
                | (go_big_quiet_want; refine ⟨(.agg #[.int .i64 a.kind, .int .i64 a.num, .string a.str, .slice A3 a.keys.length d3, .slice A4 a.kids.length d4]), fun wq hq => ?_, ?_⟩
                   · (obtain ⟨q0, q1, q2, q3, q4⟩ := (TR.out.next hq).ha.box.cells; go_simp; done)
                   (simp only [Act.put, List.setIfInBounds_toArray, List.set_cons_zero, List.set_cons_succ])
                   go_big_quiet_on)
                | (go_big_quiet_want; refine ⟨(.agg #[.int .i64 b.kind, .int .i64 b.num, .string b.str, .slice B3 b.keys.length e3, .slice B4 b.kids.length e4]), fun wq hq => ?_, ?_⟩
                   · (obtain ⟨q0, q1, q2, q3, q4⟩ := (TR.out.next hq).hb.box.cells; go_simp; done)
                   (simp only [Act.put, List.setIfInBounds_toArray, List.set_cons_zero, List.set_cons_succ])
                   go_big_quiet_on)
                | (go_big_quiet_want; go_big_quiet_op; apply Exists.intro; refine ⟨fun _ _ => rfl, ?_⟩; go_big_quiet_on)
                | (go_big_quiet_want; go_big_quiet_op; apply Exists.intro; refine ⟨fun wq hq => ?_, ?_⟩
                   · (first
                        | (go_at_call 14; with_reducible exact CSP.out wq hq)
                        | (go_at_call 14; with_reducible exact CSA.out wq hq)
                        | (go_at_call 18; with_reducible exact CDP.out wq hq)
                        | (go_at_call 18; with_reducible exact CDB.out wq hq)
                     )
                   go_big_quiet_on))
            refine wpQuiet_nil ?_
            intro wq hq
            go_wp2_with fail
            go_ret
            exact ⟨rfl, TR.out.bl.trans (hq.mono TR.out.bl.size)⟩
    · have NO := Lib.hid (no_of HK.out PV.out h0)
      have g0 : (er != 0) = true := by simp [h0]
      clear h0
      clear T5 HO5 HN
      go_wp2_with fail
      refine (right_v FPA.out (Nat.le_refl _) T6.out.ha.v).mono ?_
      rintro e w6 ⟨rfl, h⟩
      have T7 := Lib.hid (T6.out.next h)
      clear q0 q1 q2 q3 q4 r0 r1 r2 r3 r4 o0 o1 o2 o3 o4 z0 z1 z2 T6 HO6 HP h
      obtain ⟨q0, q1, q2, q3, q4⟩ := T7.out.ha.box.cells
      obtain ⟨r0, r1, r2, r3, r4⟩ := T7.out.hb.box.cells
      have NA := NO.out
      cases hra : rightB a with
      | false =>
        clear NA
        go_wp2_with fail
        go_ret
        exact ⟨rfl, T7.out.bl⟩
      | true =>
        clear NA
        go_wp2_with fail
        refine (right_v FPB.out (Nat.le_refl _) T7.out.hb.v).mono ?_
        rintro e w7 ⟨rfl, h⟩
        have T8 := Lib.hid (T7.out.next h)
        clear q0 q1 q2 q3 q4 r0 r1 r2 r3 r4 T7 h
        obtain ⟨q0, q1, q2, q3, q4⟩ := T8.out.ha.box.cells
        cases hrb : rightB b with
        | false =>
          go_wp2_with fail
          go_ret
          exact ⟨rfl, T8.out.bl⟩
        | true =>
          have N2 : Hid ((a.kind = 1 ∧ nameB s = false) ∨ 256 < s.size) := by
            show _ ∨ _
            have := NO.out
            rw [hra, hrb] at this
            simpa using this
          clear NO
          go_wp2_with fail
          refine (name_any s _).mono ?_
          rintro e w8 ⟨rfl, rfl⟩
          cases hnm : nameB s with
          | false =>
            go_wp2_with fail
            go_ret
            exact ⟨rfl, T8.out.bl⟩
          | true =>
            have hlong : 256 < s.size := by
              have := N2.out
              rw [hnm] at this
              simpa using this
            have hdec : decide (256 < (s.size : Int)) = true := by simp; omega
            go_wp2_with fail
            go_ret
            exact ⟨rfl, T8.out.bl⟩
  case false =>
    have HG := Lib.hid ((hg.alloc (.cells #[.int .i64 a.kind, .int .i64 a.num, .string a.str, .slice A3 a.keys.length d3, .slice A4 a.kids.length d4] 25)).alloc (.cells #[.int .i64 b.kind, .int .i64 b.num, .string b.str, .slice B3 b.keys.length e3, .slice B4 b.kids.length e4] 25))
    have T0 := Lib.hid (Two.start ha hb)
    clear ha hb hg
    go_enter Tryd.func5, Tryd.ntmps5
    go_wp2_with fail
    refine (small_v _ HG.out).mono ?_
    rintro e w1 ⟨rfl, h⟩
    have HG1 := Lib.hid (HG.out.below h HG.out.size)
    have T1 := Lib.hid (T0.out.next h)
    clear T0 HG h
    obtain ⟨q0, q1, q2, q3, q4⟩ := T1.out.ha.box.cells
    obtain ⟨r0, r1, r2, r3, r4⟩ := T1.out.hb.box.cells
    go_wp2_with fail
    refine (few_v (Nat.le_refl _) T1.out.ha.v).mono ?_
    rintro e w2 ⟨rfl, h⟩
    rw [FA.out]
    have HG2 := Lib.hid (HG1.out.below h HG1.out.size)
    have T2 := Lib.hid (T1.out.next h)
    clear q0 q1 q2 q3 q4 r0 r1 r2 r3 r4 T1 h HG1
    obtain ⟨q0, q1, q2, q3, q4⟩ := T2.out.ha.box.cells
    obtain ⟨r0, r1, r2, r3, r4⟩ := T2.out.hb.box.cells
    go_wp2_with fail
    refine (few_v (Nat.le_refl _) T2.out.hb.v).mono ?_
    rintro e w3 ⟨rfl, h⟩
    rw [FB.out]
    have HG3 := Lib.hid (HG2.out.below h HG2.out.size)
    have T3 := Lib.hid (T2.out.next h)
    clear q0 q1 q2 q3 q4 r0 r1 r2 r3 r4 T2 h HG2
    obtain ⟨q0, q1, q2, q3, q4⟩ := T3.out.ha.box.cells
    obtain ⟨r0, r1, r2, r3, r4⟩ := T3.out.hb.box.cells
    go_wp2_with fail
    refine (gotK FPA.out HS.out HG3.out T3.out.ha.v GV.out).mono ?_
    rintro e w4 ⟨O3, f3, O4, f4, rfl, hold, h⟩
    have HG4 := Lib.hid (HG3.out.below h HG3.out.size)
    have T4 := Lib.hid (T3.out.next h)
    have HO := Lib.hid (Held.new hold)
    clear q0 q1 q2 q3 q4 r0 r1 r2 r3 r4 T3 h HG3 hold
    obtain ⟨q0, q1, q2, q3, q4⟩ := T4.out.ha.box.cells
    obtain ⟨r0, r1, r2, r3, r4⟩ := T4.out.hb.box.cells
    have z0 := T4.out.ha.lt
    have z1 := T4.out.hb.lt
    have HN : ∀ o : Obj, Below w4.heap.size w4 (w4.alloc o) := fun o => (Below.refl _ _).alloc (Nat.le_refl _) o
    go_wp2_with fail
    refine (putK FPA.out FPB.out HS.out (HG4.out.alloc _) (by simp) (T4.out.next (HN _)).ha.v (T4.out.next (HN _)).hb.v PV.out).mono ?_
    rintro e w5 ⟨P3, g3, P4, g4, rfl, hput, h⟩
    have T5 := Lib.hid ((T4.out.next (HN _)).next h)
    have HO5 := Lib.hid (HO.out.next h)
    have HP := Lib.hid (Held.new hput)
    clear q0 q1 q2 q3 q4 r0 r1 r2 r3 r4 T4 h HG4 hput HO z0 z1 HN
    have HN : ∀ o : Obj, Below w5.heap.size w5 (w5.alloc o) := fun o => (Below.refl _ _).alloc (Nat.le_refl _) o
    have T6 := Lib.hid (T5.out.next (HN (.cells #[.int .i64 p.kind, .int .i64 p.num, .string p.str, .slice P3 p.keys.length g3, .slice P4 p.kids.length g4] 25)))
    have HO6 := Lib.hid (HO5.out.next (HN (.cells #[.int .i64 p.kind, .int .i64 p.num, .string p.str, .slice P3 p.keys.length g3, .slice P4 p.kids.length g4] 25)))
    obtain ⟨q0, q1, q2, q3, q4⟩ := T5.out.ha.box.cells
    obtain ⟨r0, r1, r2, r3, r4⟩ := T5.out.hb.box.cells
    obtain ⟨o0, o1, o2, o3, o4⟩ := HO5.out.box.cells
    have z0 := T5.out.ha.lt
    have z1 := T5.out.hb.lt
    have z2 := HO5.out.lt
    by_cases h0 : er = 0
    · subst h0
      have GR := Lib.hid (grown2 (few_is FA.out) (few_is FB.out) HK.out GV.out PV.out)
      have hsp : p.size ≤ 10000 := by have := GR.out.small; omega
      have hdp : p.depth ≤ 10000 := by have := GR.out.deep; omega
      have hkp := GR.out.fit.kids
      clear T5 HO5 HN
      go_wp2_with fail
      refine (size_any b.depth b _ _ _ _ _ _ _ (Nat.le_refl _) hsb (Nat.le_refl _) T6.out.hb.doc).mono ?_
      rintro e w6 ⟨rfl, h⟩
      have T7 := Lib.hid (T6.out.next h)
      have HO7 := Lib.hid (HO6.out.next h)
      have HP7 := Lib.hid (HP.out.next h)
      clear q0 q1 q2 q3 q4 r0 r1 r2 r3 r4 o0 o1 o2 o3 o4 z0 z1 z2 T6 HO6 HP h
      obtain ⟨q0, q1, q2, q3, q4⟩ := T7.out.ha.box.cells
      obtain ⟨r0, r1, r2, r3, r4⟩ := T7.out.hb.box.cells
      obtain ⟨o0, o1, o2, o3, o4⟩ := HO7.out.box.cells
      obtain ⟨p0, p1, p2, p3, p4⟩ := HP7.out.box.cells
      cases had
      case false =>
        go_wp2_with fail
        go_loopw [15, 16] (fun t i wr => ∃ k : Nat, k ≤ p.kids.length ∧ i = .int .i64 k ∧ t = .int .i64 ((D.depths (p.kids.take k) : Nat) : Int) ∧ Below w6.heap.size w6 wr) (fun _ i _ => p.kids.length - (intOf i).toNat)
        case atStart => exact ⟨0, Nat.zero_le _, rfl, rfl, Below.refl _ _⟩
        case round =>
          obtain ⟨k, hk, rfl, rfl, hb⟩ := hrel
          have TR := Lib.hid (T7.out.next hb)
          have HPR := Lib.hid (HP7.out.next hb)
          obtain ⟨p0, p1, p2, p3, p4⟩ := HPR.out.box.cells
          by_cases hlt : k < p.kids.length
          · obtain ⟨_, _, h4⟩ := HPR.out.doc.kids_
            obtain ⟨kb, ko, rfl, hab, hkids⟩ := h4 (by omega)
            have hcells := KidsIn.at_ hkids k hlt
            rw [Nat.zero_add] at hcells
            obtain ⟨u0, u1, u2, u3, u4, g0, g1, g2, g3, g4, hdk⟩ := hcells
            clear hkids h4
            obtain ⟨A5, c5, A6, c6, rfl, rfl, rfl, rfl, rfl⟩ := hdk.forms
            have HKD := Lib.hid hdk
            clear hdk
            have HT := Lib.hid (D.depths_take_succ p.kids k hlt)
            have htl : D.depths (p.kids.take k) ≤ D.depths p.kids := D.depths_take_le _ _
            have hde : D.depths p.kids ≤ 20 := by have h1 := GR.out.kids; have h2 := GR.out.deep; omega
            have hkd2 : (p.kids[k]).depth ≤ 10000 := by have := D.depth_kid (d := p) hlt; omega
            go_wp2_with fail
            refine (depth_v hkd2 (GR.out.fit.kid hlt) (Nat.le_refl _) ⟨_, _, _, _, _, rfl, HKD.out⟩).mono ?_
            rintro e w8 ⟨rfl, hb1⟩
            go_wp2_with fail
            all_goals
              go_roundw
              case rel => exact ⟨k + 1, by omega, by go_num, by rw [HT.out]; first | rfl | go_num | (congr 1; omega), hb.trans (hb1.mono hb.size)⟩
              case measure => simp [intOf]; omega
          · have htk : p.kids.take k = p.kids := List.take_of_length_le (by omega)
            rw [htk]
            clear htk
            go_wp2_with fail
            have hSZ : ((p.size : Nat) : Int) = (((a.size : Nat) : Int) + ((b.size : Nat) : Int)) := by have := GR.out.size; simpa using this
            have hDE : ((p.depth : Nat) : Int) = (D.depths p.kids : Nat) + 1 := by have := GR.out.kids; omega
            have hde : D.depths p.kids ≤ 20 := by have h1 := GR.out.kids; have h2 := GR.out.deep; omega
            have hUN : ((b.depth : Nat) : Int) < (D.depths p.kids : Nat) + 1 := by have := GR.out.under; omega
            have CSP : Hid (∀ wq : World, Below wr.heap.size wr wq → Calls Tryd.prog 14 #[(.agg #[.int .i64 p.kind, .int .i64 p.num, .string p.str, .slice P3 p.keys.length g3, .slice P4 p.kids.length g4])] wq fun e w'' => e = .returned (.int .i64 (((a.size : Nat) : Int) + ((b.size : Nat) : Int))) ∧ Below wr.heap.size wr w'') := fun wq hq => (size_any p.depth p _ _ _ _ _ _ wr.heap.size (Nat.le_refl _) hsp hq.size (HPR.out.doc.keep (Nat.le_refl _) fun p hp => hq.cell (p := p) hp)).mono fun e w'' h => ⟨h.1.trans (by rw [hSZ]), hq.trans (h.2.mono hq.size)⟩
            have CSA : Hid (∀ wq : World, Below wr.heap.size wr wq → Calls Tryd.prog 14 #[(.agg #[.int .i64 a.kind, .int .i64 a.num, .string a.str, .slice A3 a.keys.length d3, .slice A4 a.kids.length d4])] wq fun e w'' => e = .returned (.int .i64 (a.size : Nat)) ∧ Below wr.heap.size wr w'') := fun wq hq => (size_any a.depth a _ _ _ _ _ _ wr.heap.size (Nat.le_refl _) hsa hq.size (TR.out.ha.doc.keep (Nat.le_refl _) fun p hp => hq.cell (p := p) hp)).mono fun e w'' h => ⟨h.1, hq.trans (h.2.mono hq.size)⟩
            have CDP : Hid (∀ wq : World, Below wr.heap.size wr wq → Calls Tryd.prog 18 #[(.agg #[.int .i64 p.kind, .int .i64 p.num, .string p.str, .slice P3 p.keys.length g3, .slice P4 p.kids.length g4])] wq fun e w'' => e = .returned (.int .i64 ((D.depths p.kids : Nat) + 1 : Int)) ∧ Below wr.heap.size wr w'') := fun wq hq => (depth_v (B := wr.heap.size) hdp GR.out.fit hq.size (HPR.out.v.keep (Nat.le_refl _) fun p hp => hq.cell (p := p) hp)).mono fun e w'' h => ⟨h.1.trans (by rw [hDE]), hq.trans (h.2.mono hq.size)⟩
            have CDB : Hid (∀ wq : World, Below wr.heap.size wr wq → Calls Tryd.prog 18 #[(.agg #[.int .i64 b.kind, .int .i64 b.num, .string b.str, .slice B3 b.keys.length e3, .slice B4 b.kids.length e4])] wq fun e w'' => e = .returned (.int .i64 (b.depth : Nat)) ∧ Below wr.heap.size wr w'') := fun wq hq => (depth_v (B := wr.heap.size) hdb FPB.out hq.size (TR.out.hb.v.keep (Nat.le_refl _) fun p hp => hq.cell (p := p) hp)).mono fun e w'' h => ⟨h.1, hq.trans (h.2.mono hq.size)⟩
            clear p0 p1 p2 p3 p4 hSZ hDE
            refine wp_region_quiet (C := fun w' => Below wr.heap.size wr w') (by kernel_rfl) (by kernel_rfl) ((Below.refl _ _).drew) ?_
            dsimp only
            repeat (first
                | go_big_quiet_skip
                | (go_big_quiet_want; go_big_quiet_op; go_big_quiet_on)
                | (go_big_quiet_want; refine ⟨(.agg #[.int .i64 p.kind, .int .i64 p.num, .string p.str, .slice P3 p.keys.length g3, .slice P4 p.kids.length g4]), fun wq hq => ?_, ?_⟩
                   · (obtain ⟨q0, q1, q2, q3, q4⟩ := (HPR.out.next hq).box.cells; go_simp; done)
                   (simp only [Act.put, List.setIfInBounds_toArray, List.set_cons_zero, List.set_cons_succ])
                   go_big_quiet_on)
                | (go_big_quiet_want; refine ⟨(.agg #[.int .i64 a.kind, .int .i64 a.num, .string a.str, .slice A3 a.keys.length d3, .slice A4 a.kids.length d4]), fun wq hq => ?_, ?_⟩
                   · (obtain ⟨q0, q1, q2, q3, q4⟩ := (TR.out.next hq).ha.box.cells; go_simp; done)
                   (simp only [Act.put, List.setIfInBounds_toArray, List.set_cons_zero, List.set_cons_succ])
                   go_big_quiet_on)
                | (go_big_quiet_want; refine ⟨(.agg #[.int .i64 b.kind, .int .i64 b.num, .string b.str, .slice B3 b.keys.length e3, .slice B4 b.kids.length e4]), fun wq hq => ?_, ?_⟩
                   · (obtain ⟨q0, q1, q2, q3, q4⟩ := (TR.out.next hq).hb.box.cells; go_simp; done)
                   (simp only [Act.put, List.setIfInBounds_toArray, List.set_cons_zero, List.set_cons_succ])
                   go_big_quiet_on)
                | (go_big_quiet_want; go_big_quiet_op; apply Exists.intro; refine ⟨fun _ _ => rfl, ?_⟩; go_big_quiet_on)
                | (go_big_quiet_want; go_big_quiet_op; apply Exists.intro; refine ⟨fun wq hq => ?_, ?_⟩
                   · (first
                        | (go_at_call 14; with_reducible exact CSP.out wq hq)
                        | (go_at_call 14; with_reducible exact CSA.out wq hq)
                        | (go_at_call 18; with_reducible exact CDP.out wq hq)
                        | (go_at_call 18; with_reducible exact CDB.out wq hq)
                     )
                   go_big_quiet_on))
            refine wpQuiet_nil ?_
            intro wq hq
            go_wp2_with fail
            go_ret
            exact ⟨rfl, TR.out.bl.trans (hq.mono TR.out.bl.size)⟩
      case true =>
        have hso : old.size ≤ 10000 := by have := old_small (few_is FA.out) GV.out; omega
        go_wp2_with fail
        refine (size_any old.depth old _ _ _ _ _ _ _ (Nat.le_refl _) hso (Nat.le_refl _) HO7.out.doc).mono ?_
        rintro e w7 ⟨rfl, h⟩
        have T8 := Lib.hid (T7.out.next h)
        have HP8 := Lib.hid (HP7.out.next h)
        clear q0 q1 q2 q3 q4 r0 r1 r2 r3 r4 o0 o1 o2 o3 o4 p0 p1 p2 p3 p4 T7 HO7 HP7 h
        obtain ⟨p0, p1, p2, p3, p4⟩ := HP8.out.box.cells
        go_wp2_with fail
        go_loopw [15, 16] (fun t i wr => ∃ k : Nat, k ≤ p.kids.length ∧ i = .int .i64 k ∧ t = .int .i64 ((D.depths (p.kids.take k) : Nat) : Int) ∧ Below w7.heap.size w7 wr) (fun _ i _ => p.kids.length - (intOf i).toNat)
        case atStart => exact ⟨0, Nat.zero_le _, rfl, rfl, Below.refl _ _⟩
        case round =>
          obtain ⟨k, hk, rfl, rfl, hb⟩ := hrel
          have TR := Lib.hid (T8.out.next hb)
          have HPR := Lib.hid (HP8.out.next hb)
          obtain ⟨p0, p1, p2, p3, p4⟩ := HPR.out.box.cells
          by_cases hlt : k < p.kids.length
          · obtain ⟨_, _, h4⟩ := HPR.out.doc.kids_
            obtain ⟨kb, ko, rfl, hab, hkids⟩ := h4 (by omega)
            have hcells := KidsIn.at_ hkids k hlt
            rw [Nat.zero_add] at hcells
            obtain ⟨u0, u1, u2, u3, u4, g0, g1, g2, g3, g4, hdk⟩ := hcells
            clear hkids h4
            obtain ⟨A5, c5, A6, c6, rfl, rfl, rfl, rfl, rfl⟩ := hdk.forms
            have HKD := Lib.hid hdk
            clear hdk
            have HT := Lib.hid (D.depths_take_succ p.kids k hlt)
            have htl : D.depths (p.kids.take k) ≤ D.depths p.kids := D.depths_take_le _ _
            have hde : D.depths p.kids ≤ 20 := by have h1 := GR.out.kids; have h2 := GR.out.deep; omega
            have hkd2 : (p.kids[k]).depth ≤ 10000 := by have := D.depth_kid (d := p) hlt; omega
            go_wp2_with fail
            refine (depth_v hkd2 (GR.out.fit.kid hlt) (Nat.le_refl _) ⟨_, _, _, _, _, rfl, HKD.out⟩).mono ?_
            rintro e w8 ⟨rfl, hb1⟩
            go_wp2_with fail
            all_goals
              go_roundw
              case rel => exact ⟨k + 1, by omega, by go_num, by rw [HT.out]; first | rfl | go_num | (congr 1; omega), hb.trans (hb1.mono hb.size)⟩
              case measure => simp [intOf]; omega
          · have htk : p.kids.take k = p.kids := List.take_of_length_le (by omega)
            rw [htk]
            clear htk
            go_wp2_with fail
            have hSZ : ((p.size : Nat) : Int) = (((a.size : Nat) : Int) + (((b.size : Nat) : Int) - ((old.size : Nat) : Int))) := by have := GR.out.size; simpa using this
            have hDE : ((p.depth : Nat) : Int) = (D.depths p.kids : Nat) + 1 := by have := GR.out.kids; omega
            have hde : D.depths p.kids ≤ 20 := by have h1 := GR.out.kids; have h2 := GR.out.deep; omega
            have hUN : ((b.depth : Nat) : Int) < (D.depths p.kids : Nat) + 1 := by have := GR.out.under; omega
            have CSP : Hid (∀ wq : World, Below wr.heap.size wr wq → Calls Tryd.prog 14 #[(.agg #[.int .i64 p.kind, .int .i64 p.num, .string p.str, .slice P3 p.keys.length g3, .slice P4 p.kids.length g4])] wq fun e w'' => e = .returned (.int .i64 (((a.size : Nat) : Int) + (((b.size : Nat) : Int) - ((old.size : Nat) : Int)))) ∧ Below wr.heap.size wr w'') := fun wq hq => (size_any p.depth p _ _ _ _ _ _ wr.heap.size (Nat.le_refl _) hsp hq.size (HPR.out.doc.keep (Nat.le_refl _) fun p hp => hq.cell (p := p) hp)).mono fun e w'' h => ⟨h.1.trans (by rw [hSZ]), hq.trans (h.2.mono hq.size)⟩
            have CSA : Hid (∀ wq : World, Below wr.heap.size wr wq → Calls Tryd.prog 14 #[(.agg #[.int .i64 a.kind, .int .i64 a.num, .string a.str, .slice A3 a.keys.length d3, .slice A4 a.kids.length d4])] wq fun e w'' => e = .returned (.int .i64 (a.size : Nat)) ∧ Below wr.heap.size wr w'') := fun wq hq => (size_any a.depth a _ _ _ _ _ _ wr.heap.size (Nat.le_refl _) hsa hq.size (TR.out.ha.doc.keep (Nat.le_refl _) fun p hp => hq.cell (p := p) hp)).mono fun e w'' h => ⟨h.1, hq.trans (h.2.mono hq.size)⟩
            have CDP : Hid (∀ wq : World, Below wr.heap.size wr wq → Calls Tryd.prog 18 #[(.agg #[.int .i64 p.kind, .int .i64 p.num, .string p.str, .slice P3 p.keys.length g3, .slice P4 p.kids.length g4])] wq fun e w'' => e = .returned (.int .i64 ((D.depths p.kids : Nat) + 1 : Int)) ∧ Below wr.heap.size wr w'') := fun wq hq => (depth_v (B := wr.heap.size) hdp GR.out.fit hq.size (HPR.out.v.keep (Nat.le_refl _) fun p hp => hq.cell (p := p) hp)).mono fun e w'' h => ⟨h.1.trans (by rw [hDE]), hq.trans (h.2.mono hq.size)⟩
            have CDB : Hid (∀ wq : World, Below wr.heap.size wr wq → Calls Tryd.prog 18 #[(.agg #[.int .i64 b.kind, .int .i64 b.num, .string b.str, .slice B3 b.keys.length e3, .slice B4 b.kids.length e4])] wq fun e w'' => e = .returned (.int .i64 (b.depth : Nat)) ∧ Below wr.heap.size wr w'') := fun wq hq => (depth_v (B := wr.heap.size) hdb FPB.out hq.size (TR.out.hb.v.keep (Nat.le_refl _) fun p hp => hq.cell (p := p) hp)).mono fun e w'' h => ⟨h.1, hq.trans (h.2.mono hq.size)⟩
            clear p0 p1 p2 p3 p4 hSZ hDE
            refine wp_region_quiet (C := fun w' => Below wr.heap.size wr w') (by kernel_rfl) (by kernel_rfl) ((Below.refl _ _).drew) ?_
            dsimp only
            repeat (first
                | go_big_quiet_skip
                | (go_big_quiet_want; go_big_quiet_op; go_big_quiet_on)
                | (go_big_quiet_want; refine ⟨(.agg #[.int .i64 p.kind, .int .i64 p.num, .string p.str, .slice P3 p.keys.length g3, .slice P4 p.kids.length g4]), fun wq hq => ?_, ?_⟩
                   · (obtain ⟨q0, q1, q2, q3, q4⟩ := (HPR.out.next hq).box.cells; go_simp; done)
                   (simp only [Act.put, List.setIfInBounds_toArray, List.set_cons_zero, List.set_cons_succ])
                   go_big_quiet_on)
                | (go_big_quiet_want; refine ⟨(.agg #[.int .i64 a.kind, .int .i64 a.num, .string a.str, .slice A3 a.keys.length d3, .slice A4 a.kids.length d4]), fun wq hq => ?_, ?_⟩
                   · (obtain ⟨q0, q1, q2, q3, q4⟩ := (TR.out.next hq).ha.box.cells; go_simp; done)
                   (simp only [Act.put, List.setIfInBounds_toArray, List.set_cons_zero, List.set_cons_succ])
                   go_big_quiet_on)
                | (go_big_quiet_want; refine ⟨(.agg #[.int .i64 b.kind, .int .i64 b.num, .string b.str, .slice B3 b.keys.length e3, .slice B4 b.kids.length e4]), fun wq hq => ?_, ?_⟩
                   · (obtain ⟨q0, q1, q2, q3, q4⟩ := (TR.out.next hq).hb.box.cells; go_simp; done)
                   (simp only [Act.put, List.setIfInBounds_toArray, List.set_cons_zero, List.set_cons_succ])
                   go_big_quiet_on)
                | (go_big_quiet_want; go_big_quiet_op; apply Exists.intro; refine ⟨fun _ _ => rfl, ?_⟩; go_big_quiet_on)
                | (go_big_quiet_want; go_big_quiet_op; apply Exists.intro; refine ⟨fun wq hq => ?_, ?_⟩
                   · (first
                        | (go_at_call 14; with_reducible exact CSP.out wq hq)
                        | (go_at_call 14; with_reducible exact CSA.out wq hq)
                        | (go_at_call 18; with_reducible exact CDP.out wq hq)
                        | (go_at_call 18; with_reducible exact CDB.out wq hq)
                     )
                   go_big_quiet_on))
            refine wpQuiet_nil ?_
            intro wq hq
            go_wp2_with fail
            go_ret
            exact ⟨rfl, TR.out.bl.trans (hq.mono TR.out.bl.size)⟩
    · have NO := Lib.hid (no_of HK.out PV.out h0)
      have g0 : (er != 0) = true := by simp [h0]
      clear h0
      clear T5 HO5 HN
      go_wp2_with fail
      refine (right_v FPA.out (Nat.le_refl _) T6.out.ha.v).mono ?_
      rintro e w6 ⟨rfl, h⟩
      have T7 := Lib.hid (T6.out.next h)
      clear q0 q1 q2 q3 q4 r0 r1 r2 r3 r4 o0 o1 o2 o3 o4 z0 z1 z2 T6 HO6 HP h
      obtain ⟨q0, q1, q2, q3, q4⟩ := T7.out.ha.box.cells
      obtain ⟨r0, r1, r2, r3, r4⟩ := T7.out.hb.box.cells
      have NA := NO.out
      cases hra : rightB a with
      | false =>
        clear NA
        go_wp2_with fail
        go_ret
        exact ⟨rfl, T7.out.bl⟩
      | true =>
        clear NA
        go_wp2_with fail
        refine (right_v FPB.out (Nat.le_refl _) T7.out.hb.v).mono ?_
        rintro e w7 ⟨rfl, h⟩
        have T8 := Lib.hid (T7.out.next h)
        clear q0 q1 q2 q3 q4 r0 r1 r2 r3 r4 T7 h
        obtain ⟨q0, q1, q2, q3, q4⟩ := T8.out.ha.box.cells
        cases hrb : rightB b with
        | false =>
          go_wp2_with fail
          go_ret
          exact ⟨rfl, T8.out.bl⟩
        | true =>
          have N2 : Hid ((a.kind = 1 ∧ nameB s = false) ∨ 256 < s.size) := by
            show _ ∨ _
            have := NO.out
            rw [hra, hrb] at this
            simpa using this
          clear NO
          have hlong : 256 < s.size := by
            rcases N2.out with h | h
            · have := h.1; simp [this] at e1
            · exact h
          have hdec : decide (256 < (s.size : Int)) = true := by simp; omega
          go_wp2_with fail
          go_ret
          exact ⟨rfl, T8.out.bl⟩
end Go.Proofs.YtekoicgclkehjaaDoor
