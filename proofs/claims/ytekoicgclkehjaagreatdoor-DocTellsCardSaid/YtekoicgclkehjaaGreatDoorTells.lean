/-
  The walk of DocTells.
-/
import Derived.Test.YtekoicgclkehjaaGreatDoorRRight
import Derived.Test.YtekoicgclkehjaaGreatDoorSmall
namespace Go.Proofs.YtekoicgclkehjaaGreatDoor
open Go.RowKit
theorem few_is {d : D} (h : fewB d = true) : FewP d 20 := by simpa [fewB] using h
theorem doc_alloc' {w : World} {d : D} {v0 v1 v2 v3 v4 : Value} (h : DocIn w w.heap.size d v0 v1 v2 v3 v4) (o : Obj) : DocIn (w.alloc o) (w.alloc o).heap.size d v0 v1 v2 v3 v4 := h.keep (by simp) fun _ hp => World.cell?_alloc_lt w _ _ hp
/-- The two boxes, and what they hold. -/
structure Two (w0 w : World) (a b : D) (A3 : Option Addr) (d3 : Nat) (A4 : Option Addr) (d4 : Nat) (B3 : Option Addr) (e3 : Nat) (B4 : Option Addr) (e4 : Nat) : Prop where
  ha : Held w w0.heap.size a (.int .i64 a.kind) (.int .i64 a.num) (.string a.str) (.slice A3 a.keys.length d3) (.slice A4 a.kids.length d4)
  hb : Held w (w0.heap.size + 1) b (.int .i64 b.kind) (.int .i64 b.num) (.string b.str) (.slice B3 b.keys.length e3) (.slice B4 b.kids.length e4)
  bl : Below w0.heap.size w0 w
theorem Two.next {w0 w w' : World} {a b : D} {A3 : Option Addr} {d3 : Nat} {A4 : Option Addr} {d4 : Nat} {B3 : Option Addr} {e3 : Nat} {B4 : Option Addr} {e4 : Nat} (h : Two w0 w a b A3 d3 A4 d4 B3 e3 B4 e4) (hb : Below w.heap.size w w') : Two w0 w' a b A3 d3 A4 d4 B3 e3 B4 e4 :=
  ⟨h.ha.next hb, h.hb.next hb, h.bl.trans (hb.mono h.bl.size)⟩
theorem Two.start {w : World} {a b : D} {A3 : Option Addr} {d3 : Nat} {A4 : Option Addr} {d4 : Nat} {B3 : Option Addr} {e3 : Nat} {B4 : Option Addr} {e4 : Nat} (ha : DocIn w w.heap.size a (.int .i64 a.kind) (.int .i64 a.num) (.string a.str) (.slice A3 a.keys.length d3) (.slice A4 a.kids.length d4)) (hb : DocIn w w.heap.size b (.int .i64 b.kind) (.int .i64 b.num) (.string b.str) (.slice B3 b.keys.length e3) (.slice B4 b.kids.length e4)) :
    Two w ((w.alloc (.cells #[.int .i64 a.kind, .int .i64 a.num, .string a.str, .slice A3 a.keys.length d3, .slice A4 a.kids.length d4] 25)).alloc (.cells #[.int .i64 b.kind, .int .i64 b.num, .string b.str, .slice B3 b.keys.length e3, .slice B4 b.kids.length e4] 25)) a b A3 d3 A4 d4 B3 e3 B4 e4 := by
  refine ⟨(Held.new ha).alloc _, ?_, ((Below.refl _ _).alloc (Nat.le_refl _) _).alloc (by simp) _⟩
  have := Held.new (doc_alloc' hb (.cells #[.int .i64 a.kind, .int .i64 a.num, .string a.str, .slice A3 a.keys.length d3, .slice A4 a.kids.length d4] 25))
  rwa [World.size_alloc] at this

set_option maxHeartbeats 4000000 in
set_option maxRecDepth 100000 in
theorem tells_not (a b : D) (s : ByteArray) (A3 : Option Addr) (d3 : Nat) (A4 : Option Addr) (d4 : Nat) (B3 : Option Addr) (e3 : Nat) (B4 : Option Addr) (e4 : Nat) (w : World) (hg : Glob w) (ha : DocIn w w.heap.size a (.int .i64 a.kind) (.int .i64 a.num) (.string a.str) (.slice A3 a.keys.length d3) (.slice A4 a.kids.length d4)) (hb : DocIn w w.heap.size b (.int .i64 b.kind) (.int .i64 b.num) (.string b.str) (.slice B3 b.keys.length e3) (.slice B4 b.kids.length e4)) (x y : Bool) (FA : Hid (fewB a = x)) (FB : Hid (fewB b = y)) (hn : x = false ∨ y = false ∨ 600 < s.size) :
    Calls Tryz.prog 3 #[(.agg #[.int .i64 a.kind, .int .i64 a.num, .string a.str, .slice A3 a.keys.length d3, .slice A4 a.kids.length d4]), (.agg #[.int .i64 b.kind, .int .i64 b.num, .string b.str, .slice B3 b.keys.length e3, .slice B4 b.kids.length e4]), .string s] w fun e w' => e = .returned (.bool true) ∧ Below w.heap.size w w' := by
  cases x <;> cases y
  all_goals (try (have hs : 600 < s.size := by simpa using hn))
  all_goals clear hn
  all_goals (
    have HG := Lib.hid ((hg.alloc (.cells #[.int .i64 a.kind, .int .i64 a.num, .string a.str, .slice A3 a.keys.length d3, .slice A4 a.kids.length d4] 25)).alloc (.cells #[.int .i64 b.kind, .int .i64 b.num, .string b.str, .slice B3 b.keys.length e3, .slice B4 b.kids.length e4] 25))
    have T0 := Lib.hid (Two.start ha hb)
    clear ha hb hg
    go_enter Tryz.func3, Tryz.ntmps3
    go_wp2_with fail
    refine (small_v _ HG.out).mono ?_
    rintro e w1 ⟨rfl, h⟩
    have T1 := Lib.hid (T0.out.next h)
    clear T0 HG h
    obtain ⟨q0, q1, q2, q3, q4⟩ := T1.out.ha.box.cells
    obtain ⟨r0, r1, r2, r3, r4⟩ := T1.out.hb.box.cells
    go_wp2_with fail
    refine (few_v (Nat.le_refl _) T1.out.ha.v).mono ?_
    rintro e w2 ⟨rfl, h⟩
    rw [FA.out]
    have T2 := Lib.hid (T1.out.next h)
    clear q0 q1 q2 q3 q4 r0 r1 r2 r3 r4 T1 h
    obtain ⟨q0, q1, q2, q3, q4⟩ := T2.out.ha.box.cells
    obtain ⟨r0, r1, r2, r3, r4⟩ := T2.out.hb.box.cells
    go_wp2_with fail
    refine (few_v (Nat.le_refl _) T2.out.hb.v).mono ?_
    rintro e w3 ⟨rfl, h⟩
    rw [FB.out]
    have T3 := Lib.hid (T2.out.next h)
    clear q0 q1 q2 q3 q4 r0 r1 r2 r3 r4 T2 h
    go_wp2_with fail
    go_ret
    exact ⟨rfl, T3.out.bl⟩)

set_option maxHeartbeats 16000000 in
set_option maxRecDepth 100000 in
theorem tells_yes (a b : D) (s : ByteArray) (A3 : Option Addr) (d3 : Nat) (A4 : Option Addr) (d4 : Nat) (B3 : Option Addr) (e3 : Nat) (B4 : Option Addr) (e4 : Nat) (w : World) (hg : Glob w) (ha : DocIn w w.heap.size a (.int .i64 a.kind) (.int .i64 a.num) (.string a.str) (.slice A3 a.keys.length d3) (.slice A4 a.kids.length d4)) (hb : DocIn w w.heap.size b (.int .i64 b.kind) (.int .i64 b.num) (.string b.str) (.slice B3 b.keys.length e3) (.slice B4 b.kids.length e4)) (FA : Hid (fewB a = true)) (FB : Hid (fewB b = true)) (hs : s.size ≤ 600) :
    Calls Tryz.prog 3 #[(.agg #[.int .i64 a.kind, .int .i64 a.num, .string a.str, .slice A3 a.keys.length d3, .slice A4 a.kids.length d4]), (.agg #[.int .i64 b.kind, .int .i64 b.num, .string b.str, .slice B3 b.keys.length e3, .slice B4 b.kids.length e4]), .string s] w fun e w' => e = .returned (.bool true) ∧ Below w.heap.size w w' := by
  have FPA := Lib.hid (few_is FA.out).fit.fit
  have FPB := Lib.hid (few_is FB.out).fit.fit
  have DPA : a.depth ≤ 10000 := by have := (few_is FA.out).depth; omega
  have SPA : a.size ≤ 10000 := by have := (few_is FA.out).size; omega
  have KPA : a.kids.length ≤ 10000 := FPA.out.kids
  have HG := Lib.hid ((hg.alloc (.cells #[.int .i64 a.kind, .int .i64 a.num, .string a.str, .slice A3 a.keys.length d3, .slice A4 a.kids.length d4] 25)).alloc (.cells #[.int .i64 b.kind, .int .i64 b.num, .string b.str, .slice B3 b.keys.length e3, .slice B4 b.kids.length e4] 25))
  have T0 := Lib.hid (Two.start ha hb)
  clear ha hb hg
  go_enter Tryz.func3, Tryz.ntmps3
  go_wp2_with fail
  refine (small_v _ HG.out).mono ?_
  rintro e w1 ⟨rfl, h⟩
  have T1 := Lib.hid (T0.out.next h)
  clear T0 HG h
  obtain ⟨q0, q1, q2, q3, q4⟩ := T1.out.ha.box.cells
  obtain ⟨r0, r1, r2, r3, r4⟩ := T1.out.hb.box.cells
  go_wp2_with fail
  refine (few_v (Nat.le_refl _) T1.out.ha.v).mono ?_
  rintro e w2 ⟨rfl, h⟩
  rw [FA.out]
  have T2 := Lib.hid (T1.out.next h)
  clear q0 q1 q2 q3 q4 r0 r1 r2 r3 r4 T1 h
  obtain ⟨q0, q1, q2, q3, q4⟩ := T2.out.ha.box.cells
  obtain ⟨r0, r1, r2, r3, r4⟩ := T2.out.hb.box.cells
  go_wp2_with fail
  refine (few_v (Nat.le_refl _) T2.out.hb.v).mono ?_
  rintro e w3 ⟨rfl, h⟩
  rw [FB.out]
  have T3 := Lib.hid (T2.out.next h)
  clear q0 q1 q2 q3 q4 r0 r1 r2 r3 r4 T2 h
  go_wp2_with fail
  refine wp_region_quiet (C := fun w' => Below w3.heap.size w3 w') (by kernel_rfl) (by kernel_rfl) ((Below.refl _ _).drew) ?_
  dsimp only
  repeat (first
    | go_big_quiet_skip
    | (go_big_quiet_want; go_big_quiet_op; go_big_quiet_on)
    | (go_big_quiet_want; refine ⟨(.agg #[.int .i64 a.kind, .int .i64 a.num, .string a.str, .slice A3 a.keys.length d3, .slice A4 a.kids.length d4]), fun wq hq => ?_, ?_⟩
       · (obtain ⟨q0, q1, q2, q3, q4⟩ := (T3.out.next hq).ha.box.cells; go_simp; done)
       (simp only [Act.put, List.setIfInBounds_toArray, List.set_cons_zero, List.set_cons_succ])
       go_big_quiet_on)
    | (go_big_quiet_want; refine ⟨(.agg #[.int .i64 b.kind, .int .i64 b.num, .string b.str, .slice B3 b.keys.length e3, .slice B4 b.kids.length e4]), fun wq hq => ?_, ?_⟩
       · (obtain ⟨q0, q1, q2, q3, q4⟩ := (T3.out.next hq).hb.box.cells; go_simp; done)
       (simp only [Act.put, List.setIfInBounds_toArray, List.set_cons_zero, List.set_cons_succ])
       go_big_quiet_on)
    | (go_big_quiet_want; go_big_quiet_op; apply Exists.intro; refine ⟨fun _ _ => rfl, ?_⟩; go_big_quiet_on)
    | (go_big_quiet_want; go_big_quiet_op; apply Exists.intro; refine ⟨fun wq hq => ?_, ?_⟩
       · (first
            | (go_at_call 7; exact (right_v (B := w3.heap.size) FPA.out hq.size (T3.out.ha.v.keep (Nat.le_refl _) fun p hp => hq.cell (p := p) hp)).mono fun e w'' h => ⟨h.1, hq.trans (h.2.mono hq.size)⟩)
            | (go_at_call 8; exact (rright_v (B := w3.heap.size) FPA.out DPA SPA hq.size (T3.out.ha.v.keep (Nat.le_refl _) fun p hp => hq.cell (p := p) hp)).mono fun e w'' h => ⟨h.1, hq.trans (h.2.mono hq.size)⟩)
            | (go_at_call 9; exact (depth_v (B := w3.heap.size) DPA FPA.out hq.size (T3.out.ha.v.keep (Nat.le_refl _) fun p hp => hq.cell (p := p) hp)).mono fun e w'' h => ⟨h.1, hq.trans (h.2.mono hq.size)⟩)
            | (go_at_call 10; exact (rdepth_any a.depth a _ _ _ _ _ _ w3.heap.size (Nat.le_refl _) DPA KPA FPA.out hq.size (T3.out.ha.doc.keep (Nat.le_refl _) fun p hp => hq.cell (p := p) hp)).mono fun e w'' h => ⟨h.1, hq.trans (h.2.mono hq.size)⟩)
            | (go_at_call 11; exact (size_any a.depth a _ _ _ _ _ _ w3.heap.size (Nat.le_refl _) SPA hq.size (T3.out.ha.doc.keep (Nat.le_refl _) fun p hp => hq.cell (p := p) hp)).mono fun e w'' h => ⟨h.1, hq.trans (h.2.mono hq.size)⟩)
            | (go_at_call 12; exact (rsize_any a.depth a _ _ _ _ _ _ w3.heap.size (Nat.le_refl _) SPA hq.size (T3.out.ha.doc.keep (Nat.le_refl _) fun p hp => hq.cell (p := p) hp)).mono fun e w'' h => ⟨h.1, hq.trans (h.2.mono hq.size)⟩)
            | (go_at_call 13; exact (compare_v (B := w3.heap.size) FPA.out FPB.out hq.size (T3.out.ha.v.keep (Nat.le_refl _) fun p hp => hq.cell (p := p) hp) (T3.out.hb.v.keep (Nat.le_refl _) fun p hp => hq.cell (p := p) hp)).mono fun e w'' h => ⟨h.1, hq.trans (h.2.mono hq.size)⟩)
            | (go_at_call 14; exact (rcompare_v (B := w3.heap.size) FPA.out FPB.out hq.size (T3.out.ha.v.keep (Nat.le_refl _) fun p hp => hq.cell (p := p) hp) (T3.out.hb.v.keep (Nat.le_refl _) fun p hp => hq.cell (p := p) hp)).mono fun e w'' h => ⟨h.1, hq.trans (h.2.mono hq.size)⟩)
            | (go_at_call 15; exact (same_v (B := w3.heap.size) FPA.out FPB.out hq.size (T3.out.ha.v.keep (Nat.le_refl _) fun p hp => hq.cell (p := p) hp) (T3.out.hb.v.keep (Nat.le_refl _) fun p hp => hq.cell (p := p) hp)).mono fun e w'' h => ⟨h.1, hq.trans (h.2.mono hq.size)⟩)
            | (go_at_call 16; exact (rsame_v (B := w3.heap.size) FPA.out FPB.out hq.size (T3.out.ha.v.keep (Nat.le_refl _) fun p hp => hq.cell (p := p) hp) (T3.out.hb.v.keep (Nat.le_refl _) fun p hp => hq.cell (p := p) hp)).mono fun e w'' h => ⟨h.1, hq.trans (h.2.mono hq.size)⟩)
            | (go_at_call 17; exact (name_any s _).mono fun e w'' h => ⟨h.1, h.2 ▸ hq⟩)
            | (go_at_call 18; exact (rname_any s _).mono fun e w'' h => ⟨h.1, h.2 ▸ hq⟩)
         )
       go_big_quiet_on))
  refine wpQuiet_nil ?_
  intro wq hq
  go_wp2_with fail
  go_ret
  exact ⟨rfl, T3.out.bl.trans (hq.mono T3.out.bl.size)⟩
end Go.Proofs.YtekoicgclkehjaaGreatDoor
