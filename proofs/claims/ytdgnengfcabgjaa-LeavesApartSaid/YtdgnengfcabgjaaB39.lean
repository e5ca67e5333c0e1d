/-
  The record of two keys that come rising, and the record of none.
-/
import Derived.Test.YtdgnengfcabgjaaB38
namespace Go.Proofs.Ytdgnengfcabgjaa
open Go.RowKit

/-- What the sort leaves of two that come rising: both as they were. -/
def Stayed (w : World) (e : Ending) (w' : World) : Prop := (∃ v, e = .returned v) ∧ ∃ m : Nat, w' = w.drewN m
set_option maxRecDepth 100000 in
theorem insertion_up (kb b off c g : Nat) (x y : ByteArray) (w : World) (hk : w.cell? ⟨kb, 0, none⟩ = some (.slice (some ⟨b, off, none⟩) 2 c))
    (hx : w.cell? ⟨b, off, none⟩ = some (.string x)) (hy : w.cell? ⟨b, off + 1, none⟩ = some (.string y)) (hlt : 0 ≤ scmp y x) (h0 : w.cell? ⟨g, 0, none⟩ = some (.int .i64 0)) (h1 : w.cell? ⟨g, 1, none⟩ = some (.int .i64 1)) :
    Calls Try.prog 94 #[.slice (some ⟨g, 0, none⟩) 2 2, .int .i64 0, .int .i64 2, .func (.func 76) #[] #[.pointer (some ⟨kb, 0, none⟩)]] w (Stayed w) := by
  have hlt' : decide (scmp y x < 0) = false := by simp; omega
  go_enter Try.func94, Try.ntmps94
  go_wp2_with fail
  refine wp_loop_rounds 2 ?_
  rw [rounds_succ]
  go_wp2_with fail
  refine wp_loop_rounds 2 ?_
  rw [rounds_succ]
  go_wp2_with fail
  go_quiet ((go_at_call 76; exact Calls.quiet_of (less_quiet (i := 1) (j := 0) (n := 2) (by omega) (by omega) hk hy hx)))
  go_wp2_with fail
  rw [rounds_succ]
  go_wp2_with fail
  go_end0
  exact ⟨⟨_, rfl⟩, _, rfl⟩
set_option maxRecDepth 100000 in
theorem stable_up (kb b off c g : Nat) (x y : ByteArray) (w : World) (hk : w.cell? ⟨kb, 0, none⟩ = some (.slice (some ⟨b, off, none⟩) 2 c))
    (hx : w.cell? ⟨b, off, none⟩ = some (.string x)) (hy : w.cell? ⟨b, off + 1, none⟩ = some (.string y)) (hlt : 0 ≤ scmp y x) (h0 : w.cell? ⟨g, 0, none⟩ = some (.int .i64 0)) (h1 : w.cell? ⟨g, 1, none⟩ = some (.int .i64 1)) :
    Calls Try.prog 88 #[.slice (some ⟨g, 0, none⟩) 2 2, .int .i64 2, .func (.func 76) #[] #[.pointer (some ⟨kb, 0, none⟩)]] w (Stayed w) := by
  go_enter Try.func88, Try.ntmps88
  go_wp2_with fail
  refine wp_loop_rounds 1 ?_
  rw [rounds_succ]
  go_wp2_with fail
  refine (insertion_up kb b off c g x y w hk hx hy hlt h0 h1).mono ?_
  rintro e w' ⟨⟨v, rfl⟩, m, hw⟩
  have HW := Lib.hid hw; clear hw
  go_wp2_with fail
  refine wp_loop_rounds 1 ?_
  rw [rounds_succ]
  go_wp2_with fail
  go_end0
  exact ⟨⟨_, rfl⟩, m, HW.out⟩
set_option maxRecDepth 100000 in
theorem sort_up (kb b off c g : Nat) (x y : ByteArray) (w : World) (hk : w.cell? ⟨kb, 0, none⟩ = some (.slice (some ⟨b, off, none⟩) 2 c))
    (hx : w.cell? ⟨b, off, none⟩ = some (.string x)) (hy : w.cell? ⟨b, off + 1, none⟩ = some (.string y)) (hlt : 0 ≤ scmp y x) (h0 : w.cell? ⟨g, 0, none⟩ = some (.int .i64 0)) (h1 : w.cell? ⟨g, 1, none⟩ = some (.int .i64 1)) :
    Calls Try.prog 75 #[.slice (some ⟨g, 0, none⟩) 2 2, .func (.func 76) #[] #[.pointer (some ⟨kb, 0, none⟩)]] w (Stayed w) := by
  go_enter Try.func75, Try.ntmps75
  go_wp2_with fail
  refine (stable_up kb b off c g x y w hk hx hy hlt h0 h1).mono ?_
  rintro e w' ⟨⟨v, rfl⟩, m, hw⟩
  have HW := Lib.hid hw; clear hw
  go_wp2_with fail
  go_end0
  exact ⟨⟨_, rfl⟩, m, HW.out⟩
set_option maxRecDepth 100000 in
/-- Two keys that come rising: their places as they are. -/
theorem rising_up (x y : ByteArray) (b off c : Nat) (w : World) (hb : b < w.heap.size) (hlt : 0 ≤ scmp y x) (h0 : w.cell? ⟨b, off, none⟩ = some (.string x)) (h1 : w.cell? ⟨b, off + 1, none⟩ = some (.string y)) :
    Calls Try.prog 55 #[.slice (some ⟨b, off, none⟩) 2 c] w (fun e w' => e = .returned (.slice (some ⟨w.heap.size + 1, 0, none⟩) 2 2) ∧ w'.cell? ⟨w.heap.size + 1, 0, none⟩ = some (.int .i64 0) ∧ w'.cell? ⟨w.heap.size + 1, 1, none⟩ = some (.int .i64 1) ∧ Below w.heap.size w w') := by
  have hmk : ∀ w, (Instr.makeSlice 70 (.int .i64 2) (.int .i64 2)).run Try.prog w = .ok (.slice (some ⟨w.heap.size, 0, none⟩) 2 2) (w.alloc (.cells #[.int .i64 0, .int .i64 0] 3)) := fun _ => by kernel_rfl
  go_enter Try.func55, Try.ntmps55
  go_wp2_with fail
  refine wp_loop_rounds 3 ?_
  rw [rounds_succ]
  go_wp2_with fail
  rw [rounds_succ]
  go_wp2_with fail
  rw [rounds_succ]
  go_wp2_with fail
  have e0 : (((w.alloc (.cells #[.slice (some ⟨b, off, none⟩) 2 c] 22)).alloc (.cells #[.int .i64 0, .int .i64 1] 3))).heap[w.heap.size + 1]? = some (.cells #[.int .i64 0, .int .i64 1] 3 (0, 0)) := by simpa using heap_alloc_new (w.alloc (.cells #[.slice (some ⟨b, off, none⟩) 2 c] 22)) (.cells #[.int .i64 0, .int .i64 1] 3)
  have ek : (((w.alloc (.cells #[.slice (some ⟨b, off, none⟩) 2 c] 22)).alloc (.cells #[.int .i64 0, .int .i64 1] 3))).heap[w.heap.size]? = some (.cells #[.slice (some ⟨b, off, none⟩) 2 c] 22 (0, 0)) :=
    (Below.heap_alloc (w.alloc _) _ w.heap.size (by simp)).trans (heap_alloc_new w _)
  have keep : ∀ p : Addr, p.block < w.heap.size → (((w.alloc (.cells #[.slice (some ⟨b, off, none⟩) 2 c] 22)).alloc (.cells #[.int .i64 0, .int .i64 1] 3))).cell? p = w.cell? p := fun p hp =>
    (World.cell?_alloc_lt (w.alloc _) _ p (by simp; omega)).trans (World.cell?_alloc_lt w _ p hp)
  refine (sort_up w.heap.size b off c (w.heap.size + 1) x y _ (cell_of_row _ _ 0 _ _ _ ek) ((keep _ hb).trans h0) ((keep _ hb).trans h1) hlt (cell_of_row _ _ 0 _ _ _ e0) (cell_of_row _ _ 1 _ _ _ e0)).mono ?_
  rintro e w' ⟨⟨v, rfl⟩, m, hw⟩
  have HW := Lib.hid hw; clear hw
  go_wp2_with fail
  go_ret
  have hw := HW.out
  subst hw
  have e1 := drewN_row m e0
  refine ⟨rfl, ?_, ?_, ?_⟩
  · exact cell_of_row _ _ 0 _ _ _ e1
  · exact cell_of_row _ _ 1 _ _ _ e1
  · exact (((Below.refl w.heap.size w).alloc (Nat.le_refl _) _).alloc (by simp) _).trans ((below_drewN _ m).mono (by simp; omega))
theorem rec_up (x y : ByteArray) (d0 d1 : D) (b off c : Nat) (v : Value) (w : World) (B : Nat) (hc : 2 ≤ c) (hf : D.Fits [d0, d1]) (hB : B ≤ w.heap.size) (hb : b < B) (hlt : 0 ≤ scmp y x) (hxy : (y.toList == x.toList) = false)
    (h0 : w.cell? ⟨b, off, none⟩ = some (.string x)) (h1 : w.cell? ⟨b, off + 1, none⟩ = some (.string y)) (hv : KidsV w B [d0, d1] v) :
    Calls Try.prog 28 #[.slice (some ⟨b, off, none⟩) 2 c, v] w (MadeDoc w.heap.size w (.mk 1 0 ⟨#[]⟩ [x, y] [d0, d1])) := by
  have hk : recKept [x, y] [0, 1] 2 = [0, 1] := by
    simp [recKept, recSkip, hxy]
  have h := rec_of [x, y] [d0, d1] [0, 1] (some ⟨b, off, none⟩) c v w B rfl (by simp) hf hB ⟨some ⟨b, off, none⟩, c, rfl, hc, fun _ => ⟨b, off, rfl, hb, fun i hi => ?_⟩⟩ hv rfl (fun i hi => ?_) (fun w1 hw1 => ?_)
  · show Calls Try.prog 28 _ w (MadeDoc w.heap.size w (.mk 1 0 ⟨#[]⟩ (recKeys [x, y] [0, 1]) (recKids [d0, d1] [0, 1])))
    rw [← hk]
    exact h
  · match i, hi with
    | 0, _ => exact h0
    | 1, _ => exact h1
  · match i, hi with
    | 0, _ => simp
    | 1, _ => simp
  · refine (rising_up x y b off c w1 (by have := hw1.size; omega) hlt ((hw1.cell (by show b < w.heap.size; omega)).trans h0) ((hw1.cell (by show b < w.heap.size; omega)).trans h1)).mono ?_
    rintro e w' ⟨rfl, o0, o1, hb1⟩
    refine ⟨w1.heap.size + 1, rfl, by omega, ?_, fun i hi => ?_, hb1⟩
    · rcases Nat.lt_or_ge (w1.heap.size + 1) w'.heap.size with h | h
      · exact h
      · simp [World.cell?, Array.getElem?_eq_none h] at o0
    · match i, hi with
      | 0, _ => exact o0
      | 1, _ => exact o1
/-- The record of none. -/
def Still0 (w : World) (e : Ending) (w' : World) : Prop := (∃ v, e = .returned v) ∧ w' = w
set_option maxRecDepth 100000 in
theorem insertion_none (g : Nat) (f : Value) (w : World) : Calls Try.prog 94 #[.slice (some ⟨g, 0, none⟩) 0 0, .int .i64 0, .int .i64 0, f] w (Still0 w) := by
  go_enter Try.func94, Try.ntmps94
  go_wp2_with fail
  refine wp_loop_rounds 1 ?_
  rw [rounds_succ]
  go_wp2_with fail
  go_end0
  exact ⟨⟨_, rfl⟩, rfl⟩
set_option maxRecDepth 100000 in
theorem stable_none (g : Nat) (f : Value) (w : World) : Calls Try.prog 88 #[.slice (some ⟨g, 0, none⟩) 0 0, .int .i64 0, f] w (Still0 w) := by
  go_enter Try.func88, Try.ntmps88
  go_wp2_with fail
  refine wp_loop_rounds 1 ?_
  rw [rounds_succ]
  go_wp2_with fail
  refine (insertion_none g f w).mono ?_
  rintro e w' ⟨⟨v, rfl⟩, hw⟩
  rw [hw]
  clear hw
  go_wp2_with fail
  refine wp_loop_rounds 1 ?_
  rw [rounds_succ]
  go_wp2_with fail
  go_end0
  exact ⟨⟨_, rfl⟩, rfl⟩
set_option maxRecDepth 100000 in
theorem sort_none (g : Nat) (f : Value) (w : World) : Calls Try.prog 75 #[.slice (some ⟨g, 0, none⟩) 0 0, f] w (Still0 w) := by
  go_enter Try.func75, Try.ntmps75
  go_wp2_with fail
  refine (stable_none g f w).mono ?_
  rintro e w' ⟨⟨v, rfl⟩, hw⟩
  rw [hw]
  clear hw
  go_wp2_with fail
  go_end0
  exact ⟨⟨_, rfl⟩, rfl⟩
set_option maxRecDepth 100000 in
theorem rising_none (w : World) : Calls Try.prog 55 #[.slice none 0 0] w (fun e w' => e = .returned (.slice (some ⟨w.heap.size + 1, 0, none⟩) 0 0) ∧ w'.heap.size = w.heap.size + 2 ∧ Below w.heap.size w w') := by
  have hmk : ∀ w, (Instr.makeSlice 70 (.int .i64 0) (.int .i64 0)).run Try.prog w = .ok (.slice (some ⟨w.heap.size, 0, none⟩) 0 0) (w.alloc (.cells #[] 3)) := fun _ => by kernel_rfl
  go_enter Try.func55, Try.ntmps55
  go_wp2_with fail
  refine wp_loop_rounds 1 ?_
  rw [rounds_succ]
  go_wp2_with fail
  refine (sort_none (w.heap.size + 1) _ _).mono ?_
  rintro e w' ⟨⟨v, rfl⟩, hw⟩
  rw [hw]
  clear hw
  go_wp2_with fail
  go_ret
  exact ⟨rfl, by simp, ((Below.refl _ _).alloc (Nat.le_refl _) _).alloc (by simp) _⟩
theorem rec_none (w : World) : Calls Try.prog 28 #[.slice none 0 0, .slice none 0 0] w (MadeDoc w.heap.size w (.mk 1 0 ⟨#[]⟩ [] [])) := by
  refine rec_of [] [] [] none 0 (.slice none 0 0) w 0 rfl (by simp) (by simp [D.Fits]) (Nat.zero_le _) ⟨none, 0, rfl, by simp, fun h => absurd h (by simp)⟩ ⟨none, 0, rfl, by simp, fun h => absurd h (by simp)⟩ rfl (fun i hi => absurd hi (by simp)) fun w1 hw1 => ?_
  refine (rising_none w1).mono ?_
  rintro e w' ⟨rfl, hz, hb1⟩
  exact ⟨_, rfl, by omega, by omega, fun i hi => absurd hi (by simp), hb1⟩
end Go.Proofs.Ytdgnengfcabgjaa
