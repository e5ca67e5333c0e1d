/-
  
-/
import Derived.Test.YtdgnengfcabgjaaB11
import Derived.Test.YtdgnengfcabgjaaB02
import Derived.Test.YtdgnengfcabgjaaB07
import Derived.LoopN
import Derived.BigRegion
import Derived.StillTailTactics
import Derived.Deep.QuietTactic
import Derived.IntWalk
import Derived.Deep.DrawnRows
import Derived.Deep.RegionHeld3
import Derived.Deep.RegionLaw
import Derived.Lib.AppendIntMem
namespace Go.Proofs.Ytdgnengfcabgjaa
open Go.RowKit
theorem frozen_row {w : World} {g : Nat} {cs : Array Value} {t : TypeId} (h : w.heap[g]? = some (.cells cs t (0, 0))) (i : Nat) : w.frozen? ⟨g, i, none⟩ = false := by
  simp [World.frozen?, h]
theorem row2_set0 {w : World} {g : Nat} {p q u : Value} {t : TypeId} (h : w.heap[g]? = some (.cells #[p, q] t (0, 0))) : (w.setCell ⟨g, 0, none⟩ u).heap[g]? = some (.cells #[u, q] t (0, 0)) := by
  simp [World.setCell, Array.getElem?_modify, h]
theorem row2_set1 {w : World} {g : Nat} {p q u : Value} {t : TypeId} (h : w.heap[g]? = some (.cells #[p, q] t (0, 0))) : (w.setCell ⟨g, 1, none⟩ u).heap[g]? = some (.cells #[p, u] t (0, 0)) := by
  simp [World.setCell, Array.getElem?_modify, h]
theorem drewN_row {w : World} {g : Nat} {o : Option Obj} (m : Nat) (h : w.heap[g]? = o) : (w.drewN m).heap[g]? = o := h
/-- What the sort of two leaves: the two swapped. -/
def Swapped (g : Nat) (w : World) (e : Ending) (w' : World) : Prop :=
  (∃ v, e = .returned v) ∧ ∃ m n : Nat, w' = (((w.drewN m).setCell ⟨g, 1, none⟩ (.int .i64 0)).setCell ⟨g, 0, none⟩ (.int .i64 1)).drewN n
set_option maxRecDepth 100000 in
theorem less_two (kb b off n c i j : Nat) (x y : ByteArray) (w : World) (hi : i < n) (hj : j < n) (hk : w.cell? ⟨kb, 0, none⟩ = some (.slice (some ⟨b, off, none⟩) n c))
    (hx : w.cell? ⟨b, off + i, none⟩ = some (.string x)) (hy : w.cell? ⟨b, off + j, none⟩ = some (.string y)) :
    Calls Try.prog 76 #[.int .i64 i, .int .i64 j, .pointer (some ⟨kb, 0, none⟩)] w (fun e w' => e = .returned (.int .i64 (scmp x y)) ∧ w' = w.drew) := by
  have hi0 : (0 : Int) ≤ (i : Int) := by omega
  have hj0 : (0 : Int) ≤ (j : Int) := by omega
  have hil : (i : Int) < (n : Int) := by omega
  have hjl : (j : Int) < (n : Int) := by omega
  go_enter Try.func76, Try.ntmps76
  go_wp2_with fail
  refine wp_region_still_tail 9 (by kernel_rfl) (by kernel_rfl) ?_
  change wpStill _ _ (World.drew w) (fun a' => wpList _ _ _ _ a' (World.drew w)) _ _
  simp only [List.take_succ_cons, List.take_zero, List.drop_succ_cons, List.drop_zero]
  repeat still_step
  still_call (cmpStr_any _ _ _)
  repeat still_step
  refine wpStill_nil ?_
  go_wp2_with fail
  go_ret
  exact ⟨rfl, rfl⟩
theorem less_quiet {kb b off n c i j : Nat} {x y : ByteArray} {w : World} (hi : i < n) (hj : j < n) (hk : w.cell? ⟨kb, 0, none⟩ = some (.slice (some ⟨b, off, none⟩) n c))
    (hx : w.cell? ⟨b, off + i, none⟩ = some (.string x)) (hy : w.cell? ⟨b, off + j, none⟩ = some (.string y)) :
    Calls Try.prog 76 #[.int .i64 i, .int .i64 j, .pointer (some ⟨kb, 0, none⟩)] w (fun e w' => e = .returned (.int .i64 (scmp x y)) ∧ ∃ m, w' = w.drewN m) :=
  (less_two kb b off n c i j x y w hi hj hk hx hy).mono fun _ _ ⟨h, hw⟩ => ⟨h, 1, hw⟩
set_option maxRecDepth 100000 in
theorem insertion_two (kb b off c g : Nat) (x y : ByteArray) (w : World) (hk : w.cell? ⟨kb, 0, none⟩ = some (.slice (some ⟨b, off, none⟩) 2 c))
    (hx : w.cell? ⟨b, off, none⟩ = some (.string x)) (hy : w.cell? ⟨b, off + 1, none⟩ = some (.string y)) (hlt : scmp y x < 0) (h0 : w.cell? ⟨g, 0, none⟩ = some (.int .i64 0)) (h1 : w.cell? ⟨g, 1, none⟩ = some (.int .i64 1)) (f0 : w.frozen? ⟨g, 0, none⟩ = false) (f1 : w.frozen? ⟨g, 1, none⟩ = false) :
    Calls Try.prog 94 #[.slice (some ⟨g, 0, none⟩) 2 2, .int .i64 0, .int .i64 2, .func (.func 76) #[] #[.pointer (some ⟨kb, 0, none⟩)]] w (Swapped g w) := by
  go_enter Try.func94, Try.ntmps94
  go_wp2_with fail
  refine wp_loop_rounds 2 ?_
  rw [rounds_succ]
  go_wp2_with fail
  refine wp_loop_rounds 2 ?_
  rw [rounds_succ]
  go_wp2_with fail
  go_quiet ((go_at_call 76; exact Calls.quiet_of (less_quiet (i := 1) (j := 0) (n := 2) (by omega) (by omega) hk hy hx)))
  go_wp2_with fail
  go_region
  all_goals go_wp2_with fail
  all_goals rw [rounds_succ]
  all_goals go_wp2_with fail
  all_goals go_quiet (fail)
  all_goals go_wp2_with fail
  all_goals rw [rounds_succ]
  all_goals go_wp2_with fail
  all_goals go_end0
  all_goals exact ⟨⟨_, rfl⟩, _, _, rfl⟩
set_option maxRecDepth 100000 in
theorem stable_two (kb b off c g : Nat) (x y : ByteArray) (w : World) (hk : w.cell? ⟨kb, 0, none⟩ = some (.slice (some ⟨b, off, none⟩) 2 c))
    (hx : w.cell? ⟨b, off, none⟩ = some (.string x)) (hy : w.cell? ⟨b, off + 1, none⟩ = some (.string y)) (hlt : scmp y x < 0) (h0 : w.cell? ⟨g, 0, none⟩ = some (.int .i64 0)) (h1 : w.cell? ⟨g, 1, none⟩ = some (.int .i64 1)) (f0 : w.frozen? ⟨g, 0, none⟩ = false) (f1 : w.frozen? ⟨g, 1, none⟩ = false) :
    Calls Try.prog 88 #[.slice (some ⟨g, 0, none⟩) 2 2, .int .i64 2, .func (.func 76) #[] #[.pointer (some ⟨kb, 0, none⟩)]] w (Swapped g w) := by
  go_enter Try.func88, Try.ntmps88
  go_wp2_with fail
  refine wp_loop_rounds 1 ?_
  rw [rounds_succ]
  go_wp2_with fail
  refine (insertion_two kb b off c g x y w hk hx hy hlt h0 h1 f0 f1).mono ?_
  rintro e w' ⟨⟨v, rfl⟩, m, n, hw⟩
  have HW := Lib.hid hw; clear hw
  go_wp2_with fail
  refine wp_loop_rounds 1 ?_
  rw [rounds_succ]
  go_wp2_with fail
  go_end0
  exact ⟨⟨_, rfl⟩, m, n, HW.out⟩
set_option maxRecDepth 100000 in
theorem sort_two (kb b off c g : Nat) (x y : ByteArray) (w : World) (hk : w.cell? ⟨kb, 0, none⟩ = some (.slice (some ⟨b, off, none⟩) 2 c))
    (hx : w.cell? ⟨b, off, none⟩ = some (.string x)) (hy : w.cell? ⟨b, off + 1, none⟩ = some (.string y)) (hlt : scmp y x < 0) (h0 : w.cell? ⟨g, 0, none⟩ = some (.int .i64 0)) (h1 : w.cell? ⟨g, 1, none⟩ = some (.int .i64 1)) (f0 : w.frozen? ⟨g, 0, none⟩ = false) (f1 : w.frozen? ⟨g, 1, none⟩ = false) :
    Calls Try.prog 75 #[.slice (some ⟨g, 0, none⟩) 2 2, .func (.func 76) #[] #[.pointer (some ⟨kb, 0, none⟩)]] w (Swapped g w) := by
  go_enter Try.func75, Try.ntmps75
  go_wp2_with fail
  refine (stable_two kb b off c g x y w hk hx hy hlt h0 h1 f0 f1).mono ?_
  rintro e w' ⟨⟨v, rfl⟩, m, n, hw⟩
  have HW := Lib.hid hw; clear hw
  go_wp2_with fail
  go_end0
  exact ⟨⟨_, rfl⟩, m, n, HW.out⟩
set_option maxRecDepth 100000 in
/-- Two keys that come falling: the places of the second and the first. -/
theorem rising_two (x y : ByteArray) (b off c : Nat) (w : World) (hb : b < w.heap.size) (hlt : scmp y x < 0) (h0 : w.cell? ⟨b, off, none⟩ = some (.string x)) (h1 : w.cell? ⟨b, off + 1, none⟩ = some (.string y)) :
    Calls Try.prog 55 #[.slice (some ⟨b, off, none⟩) 2 c] w (fun e w' => e = .returned (.slice (some ⟨w.heap.size + 1, 0, none⟩) 2 2) ∧ w'.cell? ⟨w.heap.size + 1, 0, none⟩ = some (.int .i64 1) ∧ w'.cell? ⟨w.heap.size + 1, 1, none⟩ = some (.int .i64 0) ∧ Below w.heap.size w w') := by
  have hmk : ∀ w, (Instr.makeSlice 70 (.int .i64 2) (.int .i64 2)).run Try.prog w = .ok (.slice (some ⟨w.heap.size, 0, none⟩) 2 2) (w.alloc (.cells #[.int .i64 0, .int .i64 0] 3)) := fun _ => by kernel_rfl
  go_enter Try.func55, Try.ntmps55
  go_wp2_with fail
  refine wp_loop_rounds 3 ?_
  rw [rounds_succ]
  go_wp2_with fail
  rw [rounds_succ]
  go_wp2_with fail
  rw [rounds_succ]
  go_wp2_with fail
  have e0 : (((w.alloc (.cells #[.slice (some ⟨b, off, none⟩) 2 c] 22)).alloc (.cells #[.int .i64 0, .int .i64 1] 3))).heap[w.heap.size + 1]? = some (.cells #[.int .i64 0, .int .i64 1] 3 (0, 0)) := by simpa using heap_alloc_new (w.alloc (.cells #[.slice (some ⟨b, off, none⟩) 2 c] 22)) (.cells #[.int .i64 0, .int .i64 1] 3)
  have ek : (((w.alloc (.cells #[.slice (some ⟨b, off, none⟩) 2 c] 22)).alloc (.cells #[.int .i64 0, .int .i64 1] 3))).heap[w.heap.size]? = some (.cells #[.slice (some ⟨b, off, none⟩) 2 c] 22 (0, 0)) :=
    (Below.heap_alloc (w.alloc _) _ w.heap.size (by simp)).trans (heap_alloc_new w _)
  have keep : ∀ p : Addr, p.block < w.heap.size → (((w.alloc (.cells #[.slice (some ⟨b, off, none⟩) 2 c] 22)).alloc (.cells #[.int .i64 0, .int .i64 1] 3))).cell? p = w.cell? p := fun p hp =>
    (World.cell?_alloc_lt (w.alloc _) _ p (by simp; omega)).trans (World.cell?_alloc_lt w _ p hp)
  refine (sort_two w.heap.size b off c (w.heap.size + 1) x y _ (cell_of_row _ _ 0 _ _ _ ek) ((keep _ hb).trans h0) ((keep _ hb).trans h1) hlt (cell_of_row _ _ 0 _ _ _ e0) (cell_of_row _ _ 1 _ _ _ e0) (frozen_row e0 0) (frozen_row e0 1)).mono ?_
  rintro e w' ⟨⟨v, rfl⟩, m, n, hw⟩
  have HW := Lib.hid hw; clear hw
  go_wp2_with fail
  go_ret
  have hw := HW.out
  subst hw
  have e1 := row2_set0 (u := .int .i64 1) (row2_set1 (u := .int .i64 0) (drewN_row m e0))
  refine ⟨rfl, ?_, ?_, ?_⟩
  · exact cell_of_row _ _ 0 _ _ _ e1
  · exact cell_of_row _ _ 1 _ _ _ e1
  · refine (((((((Below.refl w.heap.size w).alloc (Nat.le_refl _) _).alloc (by simp) _).trans ((below_drewN _ m).mono (by simp; omega))).setCell (by show w.heap.size ≤ w.heap.size + 1; omega) _).setCell (by show w.heap.size ≤ w.heap.size + 1; omega) _).trans ((below_drewN _ n).mono (by simp [World.setCell]; omega)))
end Go.Proofs.Ytdgnengfcabgjaa
