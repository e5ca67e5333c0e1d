/-
  The walk of SchemaBack.
-/
import Derived.Test.YtcbbocnblgpbbaaDoorTBack0
namespace Go.Proofs.YtcbbocnblgpbbaaDoor
open Go.RowKit

set_option maxHeartbeats 8000000 in
set_option maxRecDepth 100000 in
theorem back_any {t : T} {f : F} {A3 A4 A5 B3 B4 B5 : Option Addr} {c3 c4 c5 d3 d4 d5 : Nat} {s : ByteArray} {w : World}
    (ht : TypeIn w w.heap.size t (.int .i64 t.kind) (.int .i64 t.lo) (.int .i64 t.hi) (.slice A3 t.names.length c3) (.slice A4 t.fields.length c4) (.slice A5 t.of.length c5))
    (hf : TypeIn w w.heap.size f.type (.int .i64 f.type.kind) (.int .i64 f.type.lo) (.int .i64 f.type.hi) (.slice B3 f.type.names.length d3) (.slice B4 f.type.fields.length d4) (.slice B5 f.type.of.length d5)) :
    Calls Tryd.prog 6 #[.agg #[.int .i64 t.kind, .int .i64 t.lo, .int .i64 t.hi, .slice A3 t.names.length c3, .slice A4 t.fields.length c4, .slice A5 t.of.length c5], .agg #[.string f.name, .bool f.opt, .int .i64 f.type.kind, .int .i64 f.type.lo, .int .i64 f.type.hi, .slice B3 f.type.names.length d3, .slice B4 f.type.fields.length d4, .slice B5 f.type.of.length d5], .string s] w fun e w' => e = .returned (.bool true) ∧ Below w.heap.size w w' := by
  have ST0 := Lib.hid (BackSt.start ht hf)
  clear ht hf
  go_enter Tryd.func6, Tryd.ntmps6
  go_wp2_with fail
  refine (tsmall_any _).mono ?_
  rintro e w1 ⟨rfl, hb1⟩
  have ST1 := Lib.hid (ST0.out.next hb1)
  clear ST0 hb1
  obtain ⟨x0, x1, x2, x3, x4, x5⟩ := ST1.out.bx.cells
  obtain ⟨f0, f1, f2, f3, f4, f5, f6, f7⟩ := ST1.out.bf.cells
  have lx : w.heap.size < w1.heap.size := by have := ST1.out.sz; omega
  have lf : w.heap.size + 1 < w1.heap.size := by have := ST1.out.sz; omega
  go_wp2_with fail
  refine (few_v (Nat.le_refl _) ST1.out.tv).mono ?_
  rintro e w2 ⟨rfl, hb2⟩
  have ST2 := Lib.hid (ST1.out.next hb2)
  clear x0 x1 x2 x3 x4 x5 f0 f1 f2 f3 f4 f5 f6 f7 lx lf
  clear ST1 hb2
  obtain ⟨x0, x1, x2, x3, x4, x5⟩ := ST2.out.bx.cells
  obtain ⟨f0, f1, f2, f3, f4, f5, f6, f7⟩ := ST2.out.bf.cells
  have lx : w.heap.size < w2.heap.size := by have := ST2.out.sz; omega
  have lf : w.heap.size + 1 < w2.heap.size := by have := ST2.out.sz; omega
  go_wp2_with fail
  refine (few_v (Nat.le_refl _) ST2.out.fv).mono ?_
  rintro e w3 ⟨rfl, hb3⟩
  have ST3 := Lib.hid (ST2.out.next hb3)
  clear x0 x1 x2 x3 x4 x5 f0 f1 f2 f3 f4 f5 f6 f7 lx lf
  clear ST2 hb3
  cases hft : fewB t
  · go_wp2_with fail
    go_ret
    exact ⟨rfl, ST3.out.bl⟩
  cases hff : fewB f.type
  · go_wp2_with fail
    go_ret
    exact ⟨rfl, ST3.out.bl⟩
  have hok : okFew t 20 := by simpa [fewB] using hft
  have hok' : okFew f.type 20 := by simpa [fewB] using hff
  have HFT : Hid t.Fit := fit_of_allP t hok.2.2
  have HFF : Hid f.type.Fit := fit_of_allP f.type hok'.2.2
  have td : t.depth ≤ 20 := hok.1
  have ts : t.size ≤ 199 := hok.2.1
  have fd : f.type.depth ≤ 20 := hok'.1
  have fs : f.type.size ≤ 199 := hok'.2.1
  have tl : t.fields.length ≤ 60 := by
    have := hok.2.2
    rw [allP_eq, Bool.and_eq_true, partP_iff] at this
    exact this.1.1
  clear hok hok'
  obtain ⟨x0, x1, x2, x3, x4, x5⟩ := ST3.out.bx.cells
  obtain ⟨f0, f1, f2, f3, f4, f5, f6, f7⟩ := ST3.out.bf.cells
  have lx : w.heap.size < w3.heap.size := by have := ST3.out.sz; omega
  have lf : w.heap.size + 1 < w3.heap.size := by have := ST3.out.sz; omega
  go_wp2_with fail
  refine (tput_any (t := t) (f := f) (by omega) (by omega) HFT.out (by omega) (by omega) HFF.out (fun h => put_fit HFT.out (by omega) (by have := name_size h; omega) HFF.out) (Nat.le_refl _) ST3.out.tv ST3.out.ffv).mono ?_
  rintro e w4 ⟨y3, y4, y5, rfl, hcp, hb4⟩
  obtain ⟨C3, g3, C4, g4, C5, g5, rfl, rfl, rfl⟩ := hcp.forms
  have ST4 := Lib.hid (ST3.out.next hb4)
  clear x0 x1 x2 x3 x4 x5 f0 f1 f2 f3 f4 f5 f6 f7 lx lf
  clear ST3
  have hz4 := hb4.size
  clear hb4
  by_cases he : (putV t f).2 = 0
  rotate_left
  · have e1 := putV_none he
    rw [e1]
    rw [show T.zero.fields.length = 0 from rfl]
    have he1 : ((putV t f).2 != 0) = true := by simp [he]
    clear he e1 hcp
    go_wp2_with fail
    go_ret
    exact ⟨rfl, ST4.out.bl.alloc ST4.out.bl.size _⟩
  obtain ⟨hrec, hnm, hrf, habs, hp, hrp⟩ := putV_ok he
  have hk := record_kind hrec
  have F1 := Lib.hid (put_at hk habs)
  have F2 := Lib.hid (put_drop hk habs hrp)
  have F3 := Lib.hid (fieldOf_put hk habs)
  have F4 : Hid (∀ s, s ≠ f.name → goAt (putT t f) [s] = goAt t [s]) := fun s hs => put_else hk hs
  have F5 : Hid ((putT t f).fields[putAt t.fields f.name]? = some f) := put_field
  have F6 : Hid (((putT t f).size : Int) = (t.size : Int) + (f.type.size : Int)) := by show ((putT t f).size : Int) = _; rw [putT_size]; omega
  have F7 := Lib.hid hrp
  have ps : (putT t f).size ≤ 400 := by rw [putT_size]; omega
  have pd : (putT t f).depth ≤ 30 := by have := putT_depth t f; omega
  have HFP : Hid (putT t f).Fit := put_fit HFT.out (by omega) (by have := name_size hnm; omega) HFF.out
  have kl : putAt t.fields f.name < (putT t f).fields.length := (List.getElem?_eq_some_iff.1 F5.out).1
  have pl : (putT t f).fields.length ≤ 61 := by rw [putT_fields]; have := putAt_le t.fields f.name; simp; omega
  rw [hp] at hcp ⊢
  rw [he]
  generalize putT t f = P at hcp F1 F2 F3 F4 F5 F6 F7 ps pd HFP kl pl ⊢
  generalize putAt t.fields f.name = k at F3 F5 kl
  clear hrec hnm hrf habs hp hrp hk he
  have HP4 := Lib.hid hcp
  clear hcp
  obtain ⟨x0, x1, x2, x3, x4, x5⟩ := ST4.out.bx.cells
  obtain ⟨f0, f1, f2, f3, f4, f5, f6, f7⟩ := ST4.out.bf.cells
  have lx : w.heap.size < w4.heap.size := by have := ST4.out.sz; omega
  have lf : w.heap.size + 1 < w4.heap.size := by have := ST4.out.sz; omega
  have lf1 : w.heap.size + 1 < w4.heap.size + 1 := by omega
  have lf2 : w.heap.size + 1 < w4.heap.size + 1 + 1 := by omega
  go_wp2_with fail
  clear x0 x1 x2 x3 x4 x5 f0 f1 f2 f3 f4 f5 f6 f7 lx lf
  clear lf1 lf2
  obtain ⟨w5, hw5⟩ : ∃ w5, w5 = (w4.alloc (.cells #[.int .i64 P.kind, .int .i64 P.lo, .int .i64 P.hi, .slice C3 P.names.length g3, .slice C4 P.fields.length g4, .slice C5 P.of.length g5] 26)).alloc (.cells #[.string f.name] 9) := ⟨_, rfl⟩
  have hz5 : w5.heap.size = w4.heap.size + 1 + 1 := by rw [hw5]; simp
  have hb5 : Below w4.heap.size w4 w5 := by rw [hw5]; exact ((Below.refl _ _).alloc (Nat.le_refl _) _).alloc (by simp) _
  have hpath : w5.heap[w4.heap.size + 1]? = some (.cells #[.string f.name] 9 (0, 0)) := by rw [hw5]; exact heap_at _ (by simp)
  have HP5 : Hid (Hold w5 w4.heap.size w3.heap.size P C3 C4 C5 g3 g4 g5) := by rw [hw5]; exact (Hold.new HP4.out).next ((Below.refl _ _).alloc (Nat.le_refl _) _)
  have ST5 := Lib.hid (ST4.out.next hb5)
  rw [← hw5]
  clear hw5 hb5 HP4 ST4
  refine (tat_any (t := P) (ps := [f.name]) HFP.out (by omega) (by simp) (Nat.le_refl _) HP5.out.v (one_way hpath (by omega))).mono ?_
  rw [F1.out]
  rintro e w6 ⟨y3, y4, y5, rfl, hcp, hb6⟩
  rw [show (some f.type).getD T.zero = f.type from rfl] at hcp ⊢
  obtain ⟨D3, e3, D4, e4, D5, e5, rfl, rfl, rfl⟩ := hcp.forms
  have hz6 := hb6.size
  have ST6 := Lib.hid (ST5.out.next hb6)
  have HP6 := Lib.hid (HP5.out.next hb6)
  have HX6 := Lib.hid hcp
  clear hcp hb6 hpath ST5 HP5
  obtain ⟨p0, p1, p2, p3, p4, p5⟩ := HP6.out.box.cells
  have lp := HP6.out.box.lt
  obtain ⟨x0, x1, x2, x3, x4, x5⟩ := ST6.out.bx.cells
  obtain ⟨f0, f1, f2, f3, f4, f5, f6, f7⟩ := ST6.out.bf.cells
  have lx : w.heap.size < w6.heap.size := by have := ST6.out.sz; omega
  have lf : w.heap.size + 1 < w6.heap.size := by have := ST6.out.sz; omega
  go_wp2_with fail
  clear x0 x1 x2 x3 x4 x5 f0 f1 f2 f3 f4 f5 f6 f7 lx lf
  clear p0 p1 p2 p3 p4 p5 lp
  obtain ⟨w7, hw7⟩ : ∃ w7, w7 = w6.alloc (.cells #[.int .i64 f.type.kind, .int .i64 f.type.lo, .int .i64 f.type.hi, .slice D3 f.type.names.length e3, .slice D4 f.type.fields.length e4, .slice D5 f.type.of.length e5] 26) := ⟨_, rfl⟩
  have hz7 : w7.heap.size = w6.heap.size + 1 := by rw [hw7]; simp
  have hb7 : Below w6.heap.size w6 w7 := by rw [hw7]; exact (Below.refl _ _).alloc (Nat.le_refl _) _
  have HX7 : Hid (Hold w7 w6.heap.size w5.heap.size f.type D3 D4 D5 e3 e4 e5) := by rw [hw7]; exact Hold.new HX6.out
  have ST7 := Lib.hid (ST6.out.next hb7)
  have HP7 := Lib.hid (HP6.out.next hb7)
  rw [← hw7]
  clear hw7 hb7 HX6 ST6 HP6
  refine (tdrop_any (t := P) (s := f.name) (by omega) (by omega) HFP.out (Nat.le_refl _) HP7.out.v).mono ?_
  rw [F2.out]
  rintro e w8 ⟨y3, y4, y5, rfl, hcp, hb8⟩
  rw [show (t, (0 : Int)).1 = t from rfl] at hcp ⊢
  rw [show (t, (0 : Int)).2 = 0 from rfl]
  obtain ⟨E3, h3, E4, h4, E5, h5, rfl, rfl, rfl⟩ := hcp.forms
  have hz8 := hb8.size
  have ST8 := Lib.hid (ST7.out.next hb8)
  have HP8 := Lib.hid (HP7.out.next hb8)
  have HX8 := Lib.hid (HX7.out.next hb8)
  have HD8 := Lib.hid hcp
  clear hcp hb8 ST7 HP7 HX7
  obtain ⟨p0, p1, p2, p3, p4, p5⟩ := HP8.out.box.cells
  have lp := HP8.out.box.lt
  obtain ⟨x0, x1, x2, x3, x4, x5⟩ := ST8.out.bx.cells
  obtain ⟨f0, f1, f2, f3, f4, f5, f6, f7⟩ := ST8.out.bf.cells
  have lx : w.heap.size < w8.heap.size := by have := ST8.out.sz; omega
  have lf : w.heap.size + 1 < w8.heap.size := by have := ST8.out.sz; omega
  go_wp2_with fail
  clear x0 x1 x2 x3 x4 x5 f0 f1 f2 f3 f4 f5 f6 f7 lx lf
  clear p0 p1 p2 p3 p4 p5 lp
  obtain ⟨w9, hw9⟩ : ∃ w9, w9 = w8.alloc (.cells #[.int .i64 t.kind, .int .i64 t.lo, .int .i64 t.hi, .slice E3 t.names.length h3, .slice E4 t.fields.length h4, .slice E5 t.of.length h5] 26) := ⟨_, rfl⟩
  have hz9 : w9.heap.size = w8.heap.size + 1 := by rw [hw9]; simp
  have hb9 : Below w8.heap.size w8 w9 := by rw [hw9]; exact (Below.refl _ _).alloc (Nat.le_refl _) _
  have HD9 : Hid (Hold w9 w8.heap.size w7.heap.size t E3 E4 E5 h3 h4 h5) := by rw [hw9]; exact Hold.new HD8.out
  have ST9 := Lib.hid (ST8.out.next hb9)
  have HP9 := Lib.hid (HP8.out.next hb9)
  have HX9 := Lib.hid (HX8.out.next hb9)
  rw [← hw9]
  clear hw9 hb9 HD8 ST8 HP8 HX8
  refine (tfield_any (t := P) (s := f.name) HFP.out (Nat.le_refl _) HP9.out.v).mono ?_
  rw [F3.out]
  rintro e w10 ⟨rfl, hb10⟩
  have hz10 := hb10.size
  have ST10 := Lib.hid (ST9.out.next hb10)
  have HP10 := Lib.hid (HP9.out.next hb10)
  have HX10 := Lib.hid (HX9.out.next hb10)
  have HD10 := Lib.hid (HD9.out.next hb10)
  clear hb10 ST9 HP9 HX9 HD9
  obtain ⟨qb, qo, rfl, hqb, hopt⟩ := HP10.out.opt F5.out
  have HOPT := Lib.hid hopt
  have hk0 : (0 : Int) ≤ (k : Int) := by omega
  have hk1 : (k : Int) < (P.fields.length : Int) := by omega
  have hk2 : (P.fields.length : Int) ≤ 61 := by omega
  have hkn : decide ((k : Int) < 0) = false := decide_eq_false (by omega)
  have hkg : decide ((P.fields.length : Int) ≤ (k : Int)) = false := decide_eq_false (by omega)
  have hkg3 : decide (P.fields.length ≤ k) = false := decide_eq_false (by omega)
  have hff2 : (f.opt != f.opt) = false := by simp
  clear hopt
  have hzz : w9.heap.size ≤ w10.heap.size := hz10
  go_wp2_with fail
  refine wp_region_quiet (C := fun w' => Below w10.heap.size w10 w') (by kernel_rfl) (by kernel_rfl) ((Below.refl _ _).drew) ?_
  dsimp only
  repeat (first
    | go_big_quiet_skip
    | (go_big_quiet_want; go_big_quiet_op; go_big_quiet_on)
    | (go_big_quiet_want; go_big_quiet_op; apply Exists.intro; refine ⟨fun _ _ => rfl, ?_⟩; go_big_quiet_on))
  go_big_quiet_want
  refine quiet_load6 (b := w6.heap.size) _ rfl rfl (fun wq hq => (HX10.out.next hq).box) ?_
  simp only [Act.put, List.setIfInBounds_toArray, List.set_cons_zero, List.set_cons_succ]
  go_big_quiet_on
  repeat (first
    | go_big_quiet_skip
    | (go_big_quiet_want; go_big_quiet_op; go_big_quiet_on)
    | (go_big_quiet_want; go_big_quiet_op; apply Exists.intro; refine ⟨fun _ _ => rfl, ?_⟩; go_big_quiet_on))
  go_big_quiet_want
  refine quiet_load6f (b := w.heap.size + 1) _ rfl rfl (fun wq hq => (ST10.out.next hq).bf) ?_
  simp only [Act.put, List.setIfInBounds_toArray, List.set_cons_zero, List.set_cons_succ]
  go_big_quiet_on
  go_big_quiet_want
  go_big_quiet_op
  apply Exists.intro
  refine ⟨fun wq hq => ?_, ?_⟩
  · go_at_call 20
    exact (tsame_self (t := f.type) (B := wq.heap.size) HFF.out (Nat.le_refl _) (HX10.out.next hq).v (ST10.out.next hq).fv).mono fun e w'' h => ⟨h.1, hq.trans (h.2.mono hq.size)⟩
  go_big_quiet_on
  repeat (first
    | go_big_quiet_skip
    | (go_big_quiet_want; go_big_quiet_op; go_big_quiet_on)
    | (go_big_quiet_want; go_big_quiet_op; apply Exists.intro; refine ⟨fun _ _ => rfl, ?_⟩; go_big_quiet_on))
  go_big_quiet_want
  refine quiet_load6 (b := w8.heap.size) _ rfl rfl (fun wq hq => (HD10.out.next hq).box) ?_
  simp only [Act.put, List.setIfInBounds_toArray, List.set_cons_zero, List.set_cons_succ]
  go_big_quiet_on
  go_big_quiet_want
  refine quiet_load6 (b := w.heap.size) _ rfl rfl (fun wq hq => (ST10.out.next hq).bx) ?_
  simp only [Act.put, List.setIfInBounds_toArray, List.set_cons_zero, List.set_cons_succ]
  go_big_quiet_on
  go_big_quiet_want
  go_big_quiet_op
  apply Exists.intro
  refine ⟨fun wq hq => ?_, ?_⟩
  · go_at_call 20
    exact (tsame_self (t := t) (B := wq.heap.size) HFT.out (Nat.le_refl _) (HD10.out.next hq).v (ST10.out.next hq).tv).mono fun e w'' h => ⟨h.1, hq.trans (h.2.mono hq.size)⟩
  go_big_quiet_on
  repeat (first
    | go_big_quiet_skip
    | (go_big_quiet_want; go_big_quiet_op; go_big_quiet_on)
    | (go_big_quiet_want; go_big_quiet_op; apply Exists.intro; refine ⟨fun _ _ => rfl, ?_⟩; go_big_quiet_on))
  go_big_quiet_want
  refine quiet_load6 (b := w4.heap.size) _ rfl rfl (fun wq hq => (HP10.out.next hq).box) ?_
  simp only [Act.put, List.setIfInBounds_toArray, List.set_cons_zero, List.set_cons_succ]
  go_big_quiet_on
  go_big_quiet_want
  go_big_quiet_op
  apply Exists.intro
  refine ⟨fun wq hq => ?_, ?_⟩
  · go_at_call 14
    exact (tright_is (t := P) (B := wq.heap.size) F7.out (by omega) (by omega) HFP.out (Nat.le_refl _) (HP10.out.next hq).v).mono fun e w'' h => ⟨h.1, hq.trans (h.2.mono hq.size)⟩
  go_big_quiet_on
  repeat (first
    | go_big_quiet_skip
    | (go_big_quiet_want; go_big_quiet_op; go_big_quiet_on)
    | (go_big_quiet_want; go_big_quiet_op; apply Exists.intro; refine ⟨fun _ _ => rfl, ?_⟩; go_big_quiet_on))
  go_big_quiet_want
  refine ⟨(.slice (some ⟨qb, qo, none⟩) P.fields.length g4), fun wq hq => ?_, ?_⟩
  · obtain ⟨q0, q1, q2, q3, q4, q5⟩ := (HP10.out.next hq).box.cells
    go_simp
  simp only [Act.put, List.setIfInBounds_toArray, List.set_cons_zero, List.set_cons_succ]
  go_big_quiet_on
  repeat (first
    | go_big_quiet_skip
    | (go_big_quiet_want; go_big_quiet_op; go_big_quiet_on)
    | (go_big_quiet_want; go_big_quiet_op; apply Exists.intro; refine ⟨fun _ _ => rfl, ?_⟩; go_big_quiet_on))
  go_big_quiet_want
  refine ⟨(.slice (some ⟨qb, qo, none⟩) P.fields.length g4), fun wq hq => ?_, ?_⟩
  · obtain ⟨q0, q1, q2, q3, q4, q5⟩ := (HP10.out.next hq).box.cells
    go_simp
  simp only [Act.put, List.setIfInBounds_toArray, List.set_cons_zero, List.set_cons_succ]
  go_big_quiet_on
  repeat (first
    | go_big_quiet_skip
    | (go_big_quiet_want; go_big_quiet_op; go_big_quiet_on)
    | (go_big_quiet_want; go_big_quiet_op; apply Exists.intro; refine ⟨fun _ _ => rfl, ?_⟩; go_big_quiet_on))
  go_big_quiet_want
  refine ⟨(.bool f.opt), fun wq hq => ?_, ?_⟩
  · have c1 := (hq.cell (p := ⟨qb, _, none⟩) hqb).trans HOPT.out
    go_simp
  simp only [Act.put, List.setIfInBounds_toArray, List.set_cons_zero, List.set_cons_succ]
  go_big_quiet_on
  repeat (first
    | go_big_quiet_skip
    | (go_big_quiet_want; go_big_quiet_op; go_big_quiet_on)
    | (go_big_quiet_want; go_big_quiet_op; apply Exists.intro; refine ⟨fun _ _ => rfl, ?_⟩; go_big_quiet_on))
  go_big_quiet_want
  refine ⟨(.bool f.opt), fun wq hq => ?_, ?_⟩
  · obtain ⟨f0, f1, _⟩ := (ST10.out.next hq).bf.cells
    go_simp
  simp only [Act.put, List.setIfInBounds_toArray, List.set_cons_zero, List.set_cons_succ]
  go_big_quiet_on
  repeat (first
    | go_big_quiet_skip
    | (go_big_quiet_want; go_big_quiet_op; go_big_quiet_on)
    | (go_big_quiet_want; go_big_quiet_op; apply Exists.intro; refine ⟨fun _ _ => rfl, ?_⟩; go_big_quiet_on))
  refine wpQuiet_nil ?_
  intro wq hq
  have hzq := hq.size
  have ST11 := Lib.hid (ST10.out.next hq)
  have HP11 := Lib.hid (HP10.out.next hq)
  clear hq ST10 HP10 HX10 HD10 HOPT F5
  obtain ⟨x0, x1, x2, x3, x4, x5⟩ := ST11.out.bx.cells
  obtain ⟨f0, f1, f2, f3, f4, f5, f6, f7⟩ := ST11.out.bf.cells
  have lx : w.heap.size < wq.heap.size := by have := ST11.out.sz; omega
  have lf : w.heap.size + 1 < wq.heap.size := by have := ST11.out.sz; omega
  go_wp2_with fail
  clear x0 x1 x2 x3 x4 x5 f0 f1 f2 f3 f4 f5 f6 f7 lx lf
  obtain ⟨wa, hwa⟩ : ∃ wa, wa = wq.alloc (.cells #[.string s] 9) := ⟨_, rfl⟩
  have hza : wa.heap.size = wq.heap.size + 1 := by rw [hwa]; simp
  have hba : Below wq.heap.size wq wa := by rw [hwa]; exact (Below.refl _ _).alloc (Nat.le_refl _) _
  have hpath : wa.heap[wq.heap.size]? = some (.cells #[.string s] 9 (0, 0)) := by rw [hwa]; exact heap_at _ rfl
  have STa := Lib.hid (ST11.out.next hba)
  have HPa := Lib.hid (HP11.out.next hba)
  rw [← hwa]
  clear hwa hba ST11 HP11
  refine (tat_any (t := t) (ps := [s]) HFT.out (by omega) (by simp) (Nat.le_refl _) STa.out.tv (one_way hpath (by omega))).mono ?_
  rintro e wb ⟨y3, y4, y5, rfl, hcp, hbb⟩
  generalize hro : goAt t [s] = ro at hcp ⊢
  have hsm : (ro.getD T.zero).Fit := by
    cases ro with
    | none => exact fit_of_allP _ (by kernel_rfl)
    | some y => exact (goAt_small hro).2.2 HFT.out
  have HSM := Lib.hid hsm
  have HRO := Lib.hid hro
  obtain ⟨D3, e3, D4, e4, D5, e5, rfl, rfl, rfl⟩ := hcp.forms
  have hzb := hbb.size
  have STb := Lib.hid (STa.out.next hbb)
  have HPb := Lib.hid (HPa.out.next hbb)
  have HAb := Lib.hid hcp
  clear hcp hbb hpath STa HPa hro hsm
  obtain ⟨p0, p1, p2, p3, p4, p5⟩ := HPb.out.box.cells
  have lp := HPb.out.box.lt
  have lp1 : w4.heap.size < wb.heap.size + 1 := by omega
  go_wp2_with fail
  clear p0 p1 p2 p3 p4 p5 lp lp1
  obtain ⟨wc, hwc⟩ : ∃ wc, wc = (wb.alloc (.cells #[.int .i64 (ro.getD T.zero).kind, .int .i64 (ro.getD T.zero).lo, .int .i64 (ro.getD T.zero).hi, .slice D3 (ro.getD T.zero).names.length e3, .slice D4 (ro.getD T.zero).fields.length e4, .slice D5 (ro.getD T.zero).of.length e5] 26)).alloc (.cells #[.string s] 9) := ⟨_, rfl⟩
  have hzc : wc.heap.size = wb.heap.size + 1 + 1 := by rw [hwc]; simp
  have hbc : Below wb.heap.size wb wc := by rw [hwc]; exact ((Below.refl _ _).alloc (Nat.le_refl _) _).alloc (by simp) _
  have hpath : wc.heap[wb.heap.size + 1]? = some (.cells #[.string s] 9 (0, 0)) := by rw [hwc]; exact heap_at _ (by simp)
  have HAc : Hid (Hold wc wb.heap.size wa.heap.size (ro.getD T.zero) D3 D4 D5 e3 e4 e5) := by rw [hwc]; exact (Hold.new HAb.out).next ((Below.refl _ _).alloc (Nat.le_refl _) _)
  have STc := Lib.hid (STb.out.next hbc)
  have HPc := Lib.hid (HPb.out.next hbc)
  rw [← hwc]
  clear hwc hbc STb HPb HAb
  refine (tat_any (t := P) (ps := [s]) HFP.out (by omega) (by simp) (Nat.le_refl _) HPc.out.v (one_way hpath (by omega))).mono ?_
  rintro e wd ⟨y3, y4, y5, rfl, hcp, hbd⟩
  generalize hrp : goAt P [s] = rp at hcp ⊢
  have HRP := Lib.hid hrp
  obtain ⟨E3, h3, E4, h4, E5, h5, rfl, rfl, rfl⟩ := hcp.forms
  have hzd := hbd.size
  have STd := Lib.hid (STc.out.next hbd)
  have HPd := Lib.hid (HPc.out.next hbd)
  have HAd := Lib.hid (HAc.out.next hbd)
  have HBd := Lib.hid hcp
  clear hcp hbd hpath STc HPc HAc hrp
  go_wp2_with fail
  obtain ⟨we, hwe⟩ : ∃ we, we = wd.alloc (.cells #[.int .i64 (rp.getD T.zero).kind, .int .i64 (rp.getD T.zero).lo, .int .i64 (rp.getD T.zero).hi, .slice E3 (rp.getD T.zero).names.length h3, .slice E4 (rp.getD T.zero).fields.length h4, .slice E5 (rp.getD T.zero).of.length h5] 26) := ⟨_, rfl⟩
  have hze : wd.heap.size + 1 ≤ we.heap.size := by rw [hwe]; simp
  have hbe : Below wd.heap.size wd we := by rw [hwe]; exact (Below.refl _ _).alloc (Nat.le_refl _) _
  have HBe : Hid (Hold we wd.heap.size wc.heap.size (rp.getD T.zero) E3 E4 E5 h3 h4 h5) := by rw [hwe]; exact Hold.new HBd.out
  have STe := Lib.hid (STd.out.next hbe)
  have HPe := Lib.hid (HPd.out.next hbe)
  have HAe := Lib.hid (HAd.out.next hbe)
  rw [← hwe]
  clear hwe hbe STd HPd HAd HBd
  by_cases hs : s = f.name
  · have hs1 : (s.toList == f.name.toList) = true := by rw [beq_iff]; exact decide_eq_true hs
    clear hs
    refine wp_region_quiet (C := fun w' => Below we.heap.size we w') (by kernel_rfl) (by kernel_rfl) ((Below.refl _ _).drew) ?_
    dsimp only
    repeat (first
      | go_big_quiet_skip
      | (go_big_quiet_want; go_big_quiet_op; go_big_quiet_on)
      | (go_big_quiet_want; go_big_quiet_op; apply Exists.intro; refine ⟨fun _ _ => rfl, ?_⟩; go_big_quiet_on))
    go_big_quiet_want
    refine ⟨(.string f.name), fun wq hq => ?_, ?_⟩
    · obtain ⟨f0, f1, _⟩ := (STe.out.next hq).bf.cells
      go_simp
    simp only [Act.put, List.setIfInBounds_toArray, List.set_cons_zero, List.set_cons_succ]
    go_big_quiet_on
    repeat (first
      | go_big_quiet_skip
      | (go_big_quiet_want; go_big_quiet_op; go_big_quiet_on)
      | (go_big_quiet_want; go_big_quiet_op; apply Exists.intro; refine ⟨fun _ _ => rfl, ?_⟩; go_big_quiet_on))
    go_big_quiet_want
    refine quiet_load6 (b := w4.heap.size) _ rfl rfl (fun wq hq => (HPe.out.next hq).box) ?_
    simp only [Act.put, List.setIfInBounds_toArray, List.set_cons_zero, List.set_cons_succ]
    go_big_quiet_on
    go_big_quiet_want
    go_big_quiet_op
    apply Exists.intro
    refine ⟨fun wq hq => ?_, ?_⟩
    · go_at_call 16
      exact (tsize_is (t := P) (B := wq.heap.size) (by omega) (by omega) HFP.out F6.out (Nat.le_refl _) (HPe.out.next hq).v).mono fun e w'' h => ⟨h.1, hq.trans (h.2.mono hq.size)⟩
    go_big_quiet_on
    go_big_quiet_want
    refine quiet_load6 (b := w.heap.size) _ rfl rfl (fun wq hq => (STe.out.next hq).bx) ?_
    simp only [Act.put, List.setIfInBounds_toArray, List.set_cons_zero, List.set_cons_succ]
    go_big_quiet_on
    go_big_quiet_want
    go_big_quiet_op
    apply Exists.intro
    refine ⟨fun wq hq => ?_, ?_⟩
    · go_at_call 16
      exact (tsize_any (t := t) (B := wq.heap.size) (by omega) (by omega) HFT.out (Nat.le_refl _) (STe.out.next hq).tv).mono fun e w'' h => ⟨h.1, hq.trans (h.2.mono hq.size)⟩
    go_big_quiet_on
    repeat (first
      | go_big_quiet_skip
      | (go_big_quiet_want; go_big_quiet_op; go_big_quiet_on)
      | (go_big_quiet_want; go_big_quiet_op; apply Exists.intro; refine ⟨fun _ _ => rfl, ?_⟩; go_big_quiet_on))
    go_big_quiet_want
    refine quiet_load6f (b := w.heap.size + 1) _ rfl rfl (fun wq hq => (STe.out.next hq).bf) ?_
    simp only [Act.put, List.setIfInBounds_toArray, List.set_cons_zero, List.set_cons_succ]
    go_big_quiet_on
    go_big_quiet_want
    go_big_quiet_op
    apply Exists.intro
    refine ⟨fun wq hq => ?_, ?_⟩
    · go_at_call 16
      exact (tsize_any (t := f.type) (B := wq.heap.size) (by omega) (by omega) HFF.out (Nat.le_refl _) (STe.out.next hq).fv).mono fun e w'' h => ⟨h.1, hq.trans (h.2.mono hq.size)⟩
    go_big_quiet_on
    repeat (first
      | go_big_quiet_skip
      | (go_big_quiet_want; go_big_quiet_op; go_big_quiet_on)
      | (go_big_quiet_want; go_big_quiet_op; apply Exists.intro; refine ⟨fun _ _ => rfl, ?_⟩; go_big_quiet_on))
    refine wpQuiet_nil ?_
    intro wz hz
    go_wp2_with fail
    go_ret
    exact ⟨rfl, STe.out.bl.trans (hz.mono STe.out.bl.size)⟩
  · have hs1 : (s.toList == f.name.toList) = false := by rw [beq_iff]; exact decide_eq_false hs
    obtain rfl : rp = ro := by
      have h1 := F4.out s hs
      have h2 := HRO.out
      have h3 := HRP.out
      rw [← h2, ← h3]; exact h1
    have hq1 : (rp.isSome == rp.isSome) = true := by simp
    clear hs
    refine wp_region_quiet (C := fun w' => Below we.heap.size we w') (by kernel_rfl) (by kernel_rfl) ((Below.refl _ _).drew) ?_
    dsimp only
    repeat (first
      | go_big_quiet_skip
      | (go_big_quiet_want; go_big_quiet_op; go_big_quiet_on)
      | (go_big_quiet_want; go_big_quiet_op; apply Exists.intro; refine ⟨fun _ _ => rfl, ?_⟩; go_big_quiet_on))
    go_big_quiet_want
    refine ⟨(.string f.name), fun wq hq => ?_, ?_⟩
    · obtain ⟨f0, f1, _⟩ := (STe.out.next hq).bf.cells
      go_simp
    simp only [Act.put, List.setIfInBounds_toArray, List.set_cons_zero, List.set_cons_succ]
    go_big_quiet_on
    repeat (first
      | go_big_quiet_skip
      | (go_big_quiet_want; go_big_quiet_op; go_big_quiet_on)
      | (go_big_quiet_want; go_big_quiet_op; apply Exists.intro; refine ⟨fun _ _ => rfl, ?_⟩; go_big_quiet_on))
    go_big_quiet_want
    refine quiet_load6 (b := wb.heap.size) _ rfl rfl (fun wq hq => (HAe.out.next hq).box) ?_
    simp only [Act.put, List.setIfInBounds_toArray, List.set_cons_zero, List.set_cons_succ]
    go_big_quiet_on
    go_big_quiet_want
    refine quiet_load6 (b := wd.heap.size) _ rfl rfl (fun wq hq => (HBe.out.next hq).box) ?_
    simp only [Act.put, List.setIfInBounds_toArray, List.set_cons_zero, List.set_cons_succ]
    go_big_quiet_on
    go_big_quiet_want
    go_big_quiet_op
    apply Exists.intro
    refine ⟨fun wq hq => ?_, ?_⟩
    · go_at_call 20
      exact (tsame_self (t := rp.getD T.zero) (B := wq.heap.size) HSM.out (Nat.le_refl _) (HAe.out.next hq).v (HBe.out.next hq).v).mono fun e w'' h => ⟨h.1, hq.trans (h.2.mono hq.size)⟩
    go_big_quiet_on
    repeat (first
      | go_big_quiet_skip
      | (go_big_quiet_want; go_big_quiet_op; go_big_quiet_on)
      | (go_big_quiet_want; go_big_quiet_op; apply Exists.intro; refine ⟨fun _ _ => rfl, ?_⟩; go_big_quiet_on))
    go_big_quiet_want
    refine quiet_load6 (b := w4.heap.size) _ rfl rfl (fun wq hq => (HPe.out.next hq).box) ?_
    simp only [Act.put, List.setIfInBounds_toArray, List.set_cons_zero, List.set_cons_succ]
    go_big_quiet_on
    go_big_quiet_want
    go_big_quiet_op
    apply Exists.intro
    refine ⟨fun wq hq => ?_, ?_⟩
    · go_at_call 16
      exact (tsize_is (t := P) (B := wq.heap.size) (by omega) (by omega) HFP.out F6.out (Nat.le_refl _) (HPe.out.next hq).v).mono fun e w'' h => ⟨h.1, hq.trans (h.2.mono hq.size)⟩
    go_big_quiet_on
    go_big_quiet_want
    refine quiet_load6 (b := w.heap.size) _ rfl rfl (fun wq hq => (STe.out.next hq).bx) ?_
    simp only [Act.put, List.setIfInBounds_toArray, List.set_cons_zero, List.set_cons_succ]
    go_big_quiet_on
    go_big_quiet_want
    go_big_quiet_op
    apply Exists.intro
    refine ⟨fun wq hq => ?_, ?_⟩
    · go_at_call 16
      exact (tsize_any (t := t) (B := wq.heap.size) (by omega) (by omega) HFT.out (Nat.le_refl _) (STe.out.next hq).tv).mono fun e w'' h => ⟨h.1, hq.trans (h.2.mono hq.size)⟩
    go_big_quiet_on
    repeat (first
      | go_big_quiet_skip
      | (go_big_quiet_want; go_big_quiet_op; go_big_quiet_on)
      | (go_big_quiet_want; go_big_quiet_op; apply Exists.intro; refine ⟨fun _ _ => rfl, ?_⟩; go_big_quiet_on))
    go_big_quiet_want
    refine quiet_load6f (b := w.heap.size + 1) _ rfl rfl (fun wq hq => (STe.out.next hq).bf) ?_
    simp only [Act.put, List.setIfInBounds_toArray, List.set_cons_zero, List.set_cons_succ]
    go_big_quiet_on
    go_big_quiet_want
    go_big_quiet_op
    apply Exists.intro
    refine ⟨fun wq hq => ?_, ?_⟩
    · go_at_call 16
      exact (tsize_any (t := f.type) (B := wq.heap.size) (by omega) (by omega) HFF.out (Nat.le_refl _) (STe.out.next hq).fv).mono fun e w'' h => ⟨h.1, hq.trans (h.2.mono hq.size)⟩
    go_big_quiet_on
    repeat (first
      | go_big_quiet_skip
      | (go_big_quiet_want; go_big_quiet_op; go_big_quiet_on)
      | (go_big_quiet_want; go_big_quiet_op; apply Exists.intro; refine ⟨fun _ _ => rfl, ?_⟩; go_big_quiet_on))
    refine wpQuiet_nil ?_
    intro wz hz
    go_wp2_with fail
    go_ret
    exact ⟨rfl, STe.out.bl.trans (hz.mono STe.out.bl.size)⟩
end Go.Proofs.YtcbbocnblgpbbaaDoor
