/-
  The walk of SchemaTells.
-/
import Derived.Test.YtcbbocnblgpbbaaDoorTTell0
namespace Go.Proofs.YtcbbocnblgpbbaaDoor
open Go.RowKit

set_option maxHeartbeats 16000000 in
set_option maxRecDepth 100000 in
theorem ttells_any {a b : T} {A3 A4 A5 B3 B4 B5 PA : Option Addr} {c3 c4 c5 d3 d4 d5 pc : Nat} {ps : List ByteArray} {s : ByteArray} {w : World}
    (ha : TypeIn w w.heap.size a (.int .i64 a.kind) (.int .i64 a.lo) (.int .i64 a.hi) (.slice A3 a.names.length c3) (.slice A4 a.fields.length c4) (.slice A5 a.of.length c5))
    (hb : TypeIn w w.heap.size b (.int .i64 b.kind) (.int .i64 b.lo) (.int .i64 b.hi) (.slice B3 b.names.length d3) (.slice B4 b.fields.length d4) (.slice B5 b.of.length d5))
    (hp : Strs w w.heap.size (.slice PA ps.length pc) ps) :
    Calls Tryd.prog 3 #[.agg #[.int .i64 a.kind, .int .i64 a.lo, .int .i64 a.hi, .slice A3 a.names.length c3, .slice A4 a.fields.length c4, .slice A5 a.of.length c5], .agg #[.int .i64 b.kind, .int .i64 b.lo, .int .i64 b.hi, .slice B3 b.names.length d3, .slice B4 b.fields.length d4, .slice B5 b.of.length d5], .slice PA ps.length pc, .string s] w fun e w' => e = .returned (.bool true) ∧ Below w.heap.size w w' := by
  have ST0 := Lib.hid (TellSt.start ha hb)
  have PS := Lib.hid hp
  clear ha hb hp
  go_enter Tryd.func3, Tryd.ntmps3
  go_wp2_with fail
  refine (tsmall_any _).mono ?_
  rintro e w1 ⟨rfl, hb1⟩
  have ST1 := Lib.hid (ST0.out.next hb1)
  clear ST0 hb1
  obtain ⟨x0, x1, x2, x3, x4, x5⟩ := ST1.out.bx.cells
  obtain ⟨f0, f1, f2, f3, f4, f5⟩ := ST1.out.by_.cells
  have lx : w.heap.size < w1.heap.size := by have := ST1.out.sz; omega
  have lf : w.heap.size + 1 < w1.heap.size := by have := ST1.out.sz; omega
  go_wp2_with fail
  refine (few_v (Nat.le_refl _) ST1.out.av).mono ?_
  rintro e w2 ⟨rfl, hb2⟩
  have ST2 := Lib.hid (ST1.out.next hb2)
  clear x0 x1 x2 x3 x4 x5 f0 f1 f2 f3 f4 f5 lx lf
  clear ST1 hb2
  obtain ⟨x0, x1, x2, x3, x4, x5⟩ := ST2.out.bx.cells
  obtain ⟨f0, f1, f2, f3, f4, f5⟩ := ST2.out.by_.cells
  have lx : w.heap.size < w2.heap.size := by have := ST2.out.sz; omega
  have lf : w.heap.size + 1 < w2.heap.size := by have := ST2.out.sz; omega
  go_wp2_with fail
  refine (few_v (Nat.le_refl _) ST2.out.bv).mono ?_
  rintro e w3 ⟨rfl, hb3⟩
  have ST3 := Lib.hid (ST2.out.next hb3)
  clear x0 x1 x2 x3 x4 x5 f0 f1 f2 f3 f4 f5 lx lf
  clear ST2 hb3
  cases hft : fewB a
  · go_wp2_with fail
    go_ret
    exact ⟨rfl, ST3.out.bl⟩
  cases hff : fewB b
  · go_wp2_with fail
    go_ret
    exact ⟨rfl, ST3.out.bl⟩
  by_cases hpl : (20 : Int) < (ps.length : Int)
  · have h1 : decide ((20 : Int) < (ps.length : Int)) = true := by simpa using hpl
    go_wp2_with fail
    go_ret
    exact ⟨rfl, ST3.out.bl⟩
  have h1 : decide ((20 : Int) < (ps.length : Int)) = false := by simpa using hpl
  have hpl2 : ps.length ≤ 20 := by omega
  have hok : okFew a 20 := by simpa [fewB] using hft
  have hok' : okFew b 20 := by simpa [fewB] using hff
  have HFA : Hid a.Fit := fit_of_allP a hok.2.2
  have HFB : Hid b.Fit := fit_of_allP b hok'.2.2
  have td : a.depth ≤ 20 := hok.1
  have ts : a.size ≤ 199 := hok.2.1
  clear hok hok'
  obtain ⟨x0, x1, x2, x3, x4, x5⟩ := ST3.out.bx.cells
  obtain ⟨f0, f1, f2, f3, f4, f5⟩ := ST3.out.by_.cells
  have lx : w.heap.size < w3.heap.size := by have := ST3.out.sz; omega
  have lf : w.heap.size + 1 < w3.heap.size := by have := ST3.out.sz; omega
  go_wp2_with fail
  clear x0 x1 x2 x3 x4 x5 f0 f1 f2 f3 f4 f5 lx lf
  have hb03 := ST3.out.bl
  refine (tat_any (t := a) (ps := ps) HFA.out (by omega) (by omega) (Nat.le_refl _) ST3.out.av ((PS.out.keep fun p hp => hb03.cell hp).more hb03.size)).mono ?_
  rintro e w4 ⟨y3, y4, y5, rfl, hcp, hb4⟩
  generalize hro : goAt a ps = ro at hcp ⊢
  have hsm : (ro.getD T.zero).Fit := by
    cases ro with
    | none => exact fit_of_allP _ (by kernel_rfl)
    | some y => exact (goAt_small hro).2.2 HFA.out
  have HSM := Lib.hid hsm
  have HRO := Lib.hid hro
  obtain ⟨D3, e3, D4, e4, D5, e5, rfl, rfl, rfl⟩ := hcp.forms
  have ST4 := Lib.hid (ST3.out.next hb4)
  have HX4 := Lib.hid hcp.typeIn
  clear hcp hb4 hb03 ST3 hro hsm
  obtain ⟨x0, x1, x2, x3, x4, x5⟩ := ST4.out.bx.cells
  obtain ⟨f0, f1, f2, f3, f4, f5⟩ := ST4.out.by_.cells
  have lx : w.heap.size < w4.heap.size := by have := ST4.out.sz; omega
  have lf : w.heap.size + 1 < w4.heap.size := by have := ST4.out.sz; omega
  go_wp2_with fail
  clear x0 x1 x2 x3 x4 x5 f0 f1 f2 f3 f4 f5 lx lf
  obtain ⟨w5, hw5⟩ : ∃ w5, w5 = w4.alloc (.cells #[.int .i64 (ro.getD T.zero).kind, .int .i64 (ro.getD T.zero).lo, .int .i64 (ro.getD T.zero).hi, .slice D3 (ro.getD T.zero).names.length e3, .slice D4 (ro.getD T.zero).fields.length e4, .slice D5 (ro.getD T.zero).of.length e5] 26) := ⟨_, rfl⟩
  have hz5 : w5.heap.size = w4.heap.size + 1 := by rw [hw5]; simp
  have hb5 : Below w4.heap.size w4 w5 := by rw [hw5]; exact (Below.refl _ _).alloc (Nat.le_refl _) _
  have HX5 : Hid (HoldT w5 w4.heap.size (ro.getD T.zero) D3 D4 D5 e3 e4 e5) := by rw [hw5]; exact HoldT.new (Nat.le_refl _) HX4.out
  have ST5 := Lib.hid (ST4.out.next hb5)
  rw [← hw5]
  clear hw5 hb5 HX4 ST4
  have hb05 := ST5.out.bl
  refine (rtat_any (t := a) (ps := ps) HFA.out (by omega) (Nat.le_refl _) ST5.out.av ((PS.out.keep fun p hp => hb05.cell hp).more hb05.size)).mono ?_
  rw [HRO.out]
  rintro e w6 ⟨y3, y4, y5, rfl, hty, hb6⟩
  obtain ⟨E3, h3, E4, h4, E5, h5, -, -, -, rfl, rfl, rfl⟩ := hty.forms
  have hz6 := hb6.size
  have ST6 := Lib.hid (ST5.out.next hb6)
  have HX6 := Lib.hid (HX5.out.next hb6)
  have HY6 := Lib.hid hty
  clear hty hb6 hb05 ST5 HX5
  obtain ⟨x0, x1, x2, x3, x4, x5⟩ := ST6.out.bx.cells
  obtain ⟨f0, f1, f2, f3, f4, f5⟩ := ST6.out.by_.cells
  have lx : w.heap.size < w6.heap.size := by have := ST6.out.sz; omega
  have lf : w.heap.size + 1 < w6.heap.size := by have := ST6.out.sz; omega
  go_wp2_with fail
  clear x0 x1 x2 x3 x4 x5 f0 f1 f2 f3 f4 f5 lx lf
  obtain ⟨w7, hw7⟩ : ∃ w7, w7 = w6.alloc (.cells #[.int .i64 (ro.getD T.zero).kind, .int .i64 (ro.getD T.zero).lo, .int .i64 (ro.getD T.zero).hi, .slice E3 (ro.getD T.zero).names.length h3, .slice E4 (ro.getD T.zero).fields.length h4, .slice E5 (ro.getD T.zero).of.length h5] 26) := ⟨_, rfl⟩
  have hz7 : w7.heap.size = w6.heap.size + 1 := by rw [hw7]; simp
  have hb7 : Below w6.heap.size w6 w7 := by rw [hw7]; exact (Below.refl _ _).alloc (Nat.le_refl _) _
  have HY7 : Hid (HoldT w7 w6.heap.size (ro.getD T.zero) E3 E4 E5 h3 h4 h5) := by rw [hw7]; exact HoldT.new (by omega) HY6.out
  have ST7 := Lib.hid (ST6.out.next hb7)
  have HX7 := Lib.hid (HX6.out.next hb7)
  rw [← hw7]
  clear hw7 hb7 HY6 ST6 HX6
  refine (tcopy_any (t := a) (B := w7.heap.size) HFA.out (by omega) (Nat.le_refl _) ST7.out.av).mono ?_
  rintro e w8 ⟨y3, y4, y5, rfl, hcp, hb8⟩
  obtain ⟨G3, k3, G4, k4, G5, k5, rfl, rfl, rfl⟩ := hcp.forms
  have hz8 := hb8.size
  have ST8 := Lib.hid (ST7.out.next hb8)
  have HX8 := Lib.hid (HX7.out.next hb8)
  have HY8 := Lib.hid (HY7.out.next hb8)
  have HC8 := Lib.hid hcp.typeIn
  clear hcp hb8 ST7 HX7 HY7
  go_wp2_with fail
  obtain ⟨w9, hw9⟩ : ∃ w9, w9 = w8.alloc (.cells #[.int .i64 a.kind, .int .i64 a.lo, .int .i64 a.hi, .slice G3 a.names.length k3, .slice G4 a.fields.length k4, .slice G5 a.of.length k5] 26) := ⟨_, rfl⟩
  have hz9 : w8.heap.size + 1 ≤ w9.heap.size := by rw [hw9]; simp
  have hb9 : Below w8.heap.size w8 w9 := by rw [hw9]; exact (Below.refl _ _).alloc (Nat.le_refl _) _
  have HC9 : Hid (HoldT w9 w8.heap.size a G3 G4 G5 k3 k4 k5) := by rw [hw9]; exact HoldT.new (Nat.le_refl _) HC8.out
  have ST9 := Lib.hid (ST8.out.next hb9)
  have HX9 := Lib.hid (HX8.out.next hb9)
  have HY9 := Lib.hid (HY8.out.next hb9)
  rw [← hw9]
  clear hw9 hb9 HC8 ST8 HX8 HY8
  have z1 : (rightT a == rightT a) = true := by simp
  have z2 : (sameT a b == sameT a b) = true := by simp
  have z3 : (scalarB a == scalarB a) = true := by simp
  have z4 : (fieldOf a s == fieldOf a s) = true := by simp
  have z5 : (ro.isSome == ro.isSome) = true := by simp
  refine wp_region_quiet (C := fun w' => Below w9.heap.size w9 w') (by kernel_rfl) (by kernel_rfl) ((Below.refl _ _).drew) ?_
  dsimp only
  repeat (first
    | go_big_quiet_skip
    | (go_big_quiet_want; go_big_quiet_op; go_big_quiet_on)
    | (go_big_quiet_want; go_big_quiet_op; apply Exists.intro; refine ⟨fun _ _ => rfl, ?_⟩; go_big_quiet_on))
  go_big_quiet_want
  refine quiet_load6 (b := w.heap.size) _ rfl rfl (fun wq hq => (ST9.out.next hq).bx) ?_
  simp only [Act.put, List.setIfInBounds_toArray, List.set_cons_zero, List.set_cons_succ]
  go_big_quiet_on
  go_big_quiet_want
  go_big_quiet_op
  apply Exists.intro
  refine ⟨fun wq hq => ?_, ?_⟩
  · go_at_call 14
    exact (tright_any (t := a) (B := wq.heap.size) (by omega) (by omega) HFA.out (Nat.le_refl _) (ST9.out.next hq).av).mono fun e w'' h => ⟨h.1, hq.trans (h.2.mono hq.size)⟩
  go_big_quiet_on
  go_big_quiet_want
  refine quiet_load6 (b := w.heap.size) _ rfl rfl (fun wq hq => (ST9.out.next hq).bx) ?_
  simp only [Act.put, List.setIfInBounds_toArray, List.set_cons_zero, List.set_cons_succ]
  go_big_quiet_on
  go_big_quiet_want
  go_big_quiet_op
  apply Exists.intro
  refine ⟨fun wq hq => ?_, ?_⟩
  · go_at_call 15
    exact (rtright_any (t := a) (B := wq.heap.size) (by omega) (by omega) HFA.out (Nat.le_refl _) (ST9.out.next hq).av).mono fun e w'' h => ⟨h.1, hq.trans (h.2.mono hq.size)⟩
  go_big_quiet_on
  repeat (first
    | go_big_quiet_skip
    | (go_big_quiet_want; go_big_quiet_op; go_big_quiet_on)
    | (go_big_quiet_want; go_big_quiet_op; apply Exists.intro; refine ⟨fun _ _ => rfl, ?_⟩; go_big_quiet_on))
  go_big_quiet_want
  refine quiet_load6 (b := w.heap.size) _ rfl rfl (fun wq hq => (ST9.out.next hq).bx) ?_
  simp only [Act.put, List.setIfInBounds_toArray, List.set_cons_zero, List.set_cons_succ]
  go_big_quiet_on
  go_big_quiet_want
  go_big_quiet_op
  apply Exists.intro
  refine ⟨fun wq hq => ?_, ?_⟩
  · go_at_call 16
    exact (tsize_any (t := a) (B := wq.heap.size) (by omega) (by omega) HFA.out (Nat.le_refl _) (ST9.out.next hq).av).mono fun e w'' h => ⟨h.1, hq.trans (h.2.mono hq.size)⟩
  go_big_quiet_on
  go_big_quiet_want
  refine quiet_load6 (b := w.heap.size) _ rfl rfl (fun wq hq => (ST9.out.next hq).bx) ?_
  simp only [Act.put, List.setIfInBounds_toArray, List.set_cons_zero, List.set_cons_succ]
  go_big_quiet_on
  go_big_quiet_want
  go_big_quiet_op
  apply Exists.intro
  refine ⟨fun wq hq => ?_, ?_⟩
  · go_at_call 17
    exact (rtsize_any a.depth a _ wq wq.heap.size (Nat.le_refl _) (by omega) (Nat.le_refl _) (ST9.out.next hq).av).mono fun e w'' h => ⟨h.1, hq.trans (h.2.mono hq.size)⟩
  go_big_quiet_on
  repeat (first
    | go_big_quiet_skip
    | (go_big_quiet_want; go_big_quiet_op; go_big_quiet_on)
    | (go_big_quiet_want; go_big_quiet_op; apply Exists.intro; refine ⟨fun _ _ => rfl, ?_⟩; go_big_quiet_on))
  go_big_quiet_want
  refine quiet_load6 (b := w.heap.size) _ rfl rfl (fun wq hq => (ST9.out.next hq).bx) ?_
  simp only [Act.put, List.setIfInBounds_toArray, List.set_cons_zero, List.set_cons_succ]
  go_big_quiet_on
  go_big_quiet_want
  go_big_quiet_op
  apply Exists.intro
  refine ⟨fun wq hq => ?_, ?_⟩
  · go_at_call 18
    exact (tdepth_any (t := a) (B := wq.heap.size) (by omega) (by omega) HFA.out (Nat.le_refl _) (ST9.out.next hq).av).mono fun e w'' h => ⟨h.1, hq.trans (h.2.mono hq.size)⟩
  go_big_quiet_on
  go_big_quiet_want
  refine quiet_load6 (b := w.heap.size) _ rfl rfl (fun wq hq => (ST9.out.next hq).bx) ?_
  simp only [Act.put, List.setIfInBounds_toArray, List.set_cons_zero, List.set_cons_succ]
  go_big_quiet_on
  go_big_quiet_want
  go_big_quiet_op
  apply Exists.intro
  refine ⟨fun wq hq => ?_, ?_⟩
  · go_at_call 19
    exact (rtdepth_any a.depth a _ wq wq.heap.size (Nat.le_refl _) (by omega) HFA.out (Nat.le_refl _) (ST9.out.next hq).av).mono fun e w'' h => ⟨h.1, hq.trans (h.2.mono hq.size)⟩
  go_big_quiet_on
  repeat (first
    | go_big_quiet_skip
    | (go_big_quiet_want; go_big_quiet_op; go_big_quiet_on)
    | (go_big_quiet_want; go_big_quiet_op; apply Exists.intro; refine ⟨fun _ _ => rfl, ?_⟩; go_big_quiet_on))
  go_big_quiet_want
  refine quiet_load6 (b := w.heap.size) _ rfl rfl (fun wq hq => (ST9.out.next hq).bx) ?_
  simp only [Act.put, List.setIfInBounds_toArray, List.set_cons_zero, List.set_cons_succ]
  go_big_quiet_on
  go_big_quiet_want
  refine quiet_load6 (b := w.heap.size + 1) _ rfl rfl (fun wq hq => (ST9.out.next hq).by_) ?_
  simp only [Act.put, List.setIfInBounds_toArray, List.set_cons_zero, List.set_cons_succ]
  go_big_quiet_on
  go_big_quiet_want
  go_big_quiet_op
  apply Exists.intro
  refine ⟨fun wq hq => ?_, ?_⟩
  · go_at_call 20
    exact (tsame_any (a := a) (b := b) (B := wq.heap.size) HFA.out HFB.out (Nat.le_refl _) (ST9.out.next hq).av (ST9.out.next hq).bv).mono fun e w'' h => ⟨h.1, hq.trans (h.2.mono hq.size)⟩
  go_big_quiet_on
  go_big_quiet_want
  refine quiet_load6 (b := w.heap.size) _ rfl rfl (fun wq hq => (ST9.out.next hq).bx) ?_
  simp only [Act.put, List.setIfInBounds_toArray, List.set_cons_zero, List.set_cons_succ]
  go_big_quiet_on
  go_big_quiet_want
  refine quiet_load6 (b := w.heap.size + 1) _ rfl rfl (fun wq hq => (ST9.out.next hq).by_) ?_
  simp only [Act.put, List.setIfInBounds_toArray, List.set_cons_zero, List.set_cons_succ]
  go_big_quiet_on
  go_big_quiet_want
  go_big_quiet_op
  apply Exists.intro
  refine ⟨fun wq hq => ?_, ?_⟩
  · go_at_call 21
    exact (rtsame_any a.depth a b _ _ wq wq.heap.size (Nat.le_refl _) HFA.out HFB.out (Nat.le_refl _) (ST9.out.next hq).av (ST9.out.next hq).bv).mono fun e w'' h => ⟨h.1, hq.trans (h.2.mono hq.size)⟩
  go_big_quiet_on
  repeat (first
    | go_big_quiet_skip
    | (go_big_quiet_want; go_big_quiet_op; go_big_quiet_on)
    | (go_big_quiet_want; go_big_quiet_op; apply Exists.intro; refine ⟨fun _ _ => rfl, ?_⟩; go_big_quiet_on))
  go_big_quiet_want
  refine quiet_load6 (b := w.heap.size) _ rfl rfl (fun wq hq => (ST9.out.next hq).bx) ?_
  simp only [Act.put, List.setIfInBounds_toArray, List.set_cons_zero, List.set_cons_succ]
  go_big_quiet_on
  go_big_quiet_want
  go_big_quiet_op
  apply Exists.intro
  refine ⟨fun wq hq => ?_, ?_⟩
  · go_at_call 22
    exact (scalar_any (t := a) (B := wq.heap.size) (ST9.out.next hq).av).mono fun e w'' h => ⟨h.1, hq.trans (h.2.mono hq.size)⟩
  go_big_quiet_on
  go_big_quiet_want
  refine quiet_load6 (b := w.heap.size) _ rfl rfl (fun wq hq => (ST9.out.next hq).bx) ?_
  simp only [Act.put, List.setIfInBounds_toArray, List.set_cons_zero, List.set_cons_succ]
  go_big_quiet_on
  go_big_quiet_want
  go_big_quiet_op
  apply Exists.intro
  refine ⟨fun wq hq => ?_, ?_⟩
  · go_at_call 23
    exact (rscalar_any (t := a) (B := wq.heap.size) (ST9.out.next hq).av).mono fun e w'' h => ⟨h.1, hq.trans (h.2.mono hq.size)⟩
  go_big_quiet_on
  repeat (first
    | go_big_quiet_skip
    | (go_big_quiet_want; go_big_quiet_op; go_big_quiet_on)
    | (go_big_quiet_want; go_big_quiet_op; apply Exists.intro; refine ⟨fun _ _ => rfl, ?_⟩; go_big_quiet_on))
  go_big_quiet_want
  refine quiet_load6 (b := w.heap.size) _ rfl rfl (fun wq hq => (ST9.out.next hq).bx) ?_
  simp only [Act.put, List.setIfInBounds_toArray, List.set_cons_zero, List.set_cons_succ]
  go_big_quiet_on
  repeat (first
    | go_big_quiet_skip
    | (go_big_quiet_want; go_big_quiet_op; go_big_quiet_on)
    | (go_big_quiet_want; go_big_quiet_op; apply Exists.intro; refine ⟨fun _ _ => rfl, ?_⟩; go_big_quiet_on))
  go_big_quiet_want
  go_big_quiet_op
  apply Exists.intro
  refine ⟨fun wq hq => ?_, ?_⟩
  · go_at_call 24
    exact (tfield_any (t := a) (s := s) (B := wq.heap.size) HFA.out (Nat.le_refl _) (ST9.out.next hq).av).mono fun e w'' h => ⟨h.1, hq.trans (h.2.mono hq.size)⟩
  go_big_quiet_on
  go_big_quiet_want
  refine quiet_load6 (b := w.heap.size) _ rfl rfl (fun wq hq => (ST9.out.next hq).bx) ?_
  simp only [Act.put, List.setIfInBounds_toArray, List.set_cons_zero, List.set_cons_succ]
  go_big_quiet_on
  repeat (first
    | go_big_quiet_skip
    | (go_big_quiet_want; go_big_quiet_op; go_big_quiet_on)
    | (go_big_quiet_want; go_big_quiet_op; apply Exists.intro; refine ⟨fun _ _ => rfl, ?_⟩; go_big_quiet_on))
  go_big_quiet_want
  go_big_quiet_op
  apply Exists.intro
  refine ⟨fun wq hq => ?_, ?_⟩
  · go_at_call 25
    exact (rfield_any (t := a) (s := s) (B := wq.heap.size) HFA.out (Nat.le_refl _) (ST9.out.next hq).av).mono fun e w'' h => ⟨h.1, hq.trans (h.2.mono hq.size)⟩
  go_big_quiet_on
  repeat (first
    | go_big_quiet_skip
    | (go_big_quiet_want; go_big_quiet_op; go_big_quiet_on)
    | (go_big_quiet_want; go_big_quiet_op; apply Exists.intro; refine ⟨fun _ _ => rfl, ?_⟩; go_big_quiet_on))
  go_big_quiet_want
  refine quiet_load6 (b := w4.heap.size) _ rfl rfl (fun wq hq => (HX9.out.next hq).box) ?_
  simp only [Act.put, List.setIfInBounds_toArray, List.set_cons_zero, List.set_cons_succ]
  go_big_quiet_on
  go_big_quiet_want
  refine quiet_load6 (b := w6.heap.size) _ rfl rfl (fun wq hq => (HY9.out.next hq).box) ?_
  simp only [Act.put, List.setIfInBounds_toArray, List.set_cons_zero, List.set_cons_succ]
  go_big_quiet_on
  go_big_quiet_want
  go_big_quiet_op
  apply Exists.intro
  refine ⟨fun wq hq => ?_, ?_⟩
  · go_at_call 21
    exact (rtsame_self (t := ro.getD T.zero) (B := wq.heap.size) HSM.out (Nat.le_refl _) (HX9.out.next hq).v (HY9.out.next hq).v).mono fun e w'' h => ⟨h.1, hq.trans (h.2.mono hq.size)⟩
  go_big_quiet_on
  repeat (first
    | go_big_quiet_skip
    | (go_big_quiet_want; go_big_quiet_op; go_big_quiet_on)
    | (go_big_quiet_want; go_big_quiet_op; apply Exists.intro; refine ⟨fun _ _ => rfl, ?_⟩; go_big_quiet_on))
  go_big_quiet_want
  refine quiet_load6 (b := w8.heap.size) _ rfl rfl (fun wq hq => (HC9.out.next hq).box) ?_
  simp only [Act.put, List.setIfInBounds_toArray, List.set_cons_zero, List.set_cons_succ]
  go_big_quiet_on
  go_big_quiet_want
  refine quiet_load6 (b := w.heap.size) _ rfl rfl (fun wq hq => (ST9.out.next hq).bx) ?_
  simp only [Act.put, List.setIfInBounds_toArray, List.set_cons_zero, List.set_cons_succ]
  go_big_quiet_on
  go_big_quiet_want
  go_big_quiet_op
  apply Exists.intro
  refine ⟨fun wq hq => ?_, ?_⟩
  · go_at_call 21
    exact (rtsame_self (t := a) (B := wq.heap.size) HFA.out (Nat.le_refl _) (HC9.out.next hq).v (ST9.out.next hq).av).mono fun e w'' h => ⟨h.1, hq.trans (h.2.mono hq.size)⟩
  go_big_quiet_on
  repeat (first
    | go_big_quiet_skip
    | (go_big_quiet_want; go_big_quiet_op; go_big_quiet_on)
    | (go_big_quiet_want; go_big_quiet_op; apply Exists.intro; refine ⟨fun _ _ => rfl, ?_⟩; go_big_quiet_on))
  refine wpQuiet_nil ?_
  intro wz hz
  go_wp2_with fail
  go_ret
  exact ⟨rfl, ST9.out.bl.trans (hz.mono ST9.out.bl.size)⟩
end Go.Proofs.YtcbbocnblgpbbaaDoor
