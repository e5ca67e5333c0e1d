/-
  text.read: a text read whole, or where it is wrong, and how.
-/
import Derived.Test.YtgklnafliaplkaaGreatDoorB04
namespace Go.Proofs.YtgklnafliaplkaaGreatDoor
open Go.RowKit

theorem heap_alloc_at {w : World} {b : Nat} (hb : w.heap.size = b) (o : Obj) : (w.alloc o).heap[b]? = some o := hb ▸ heap_alloc_new w o

theorem cell1_set {X : World} {b : Nat} {z : Value} {t : TypeId} (h : X.heap[b]? = some (.cells #[z] t (0, 0))) (u : Value) : (X.setCell ⟨b, 0, none⟩ u).heap[b]? = some (.cells #[u] t (0, 0)) := by
  simp [World.setCell, Array.getElem?_modify, h]
set_option maxHeartbeats 4000000 in
set_option maxRecDepth 100000 in
/-- Where what is handed in panics. -/
theorem read_bad {s : ByteArray} {g : Nat} {caps : Array Value} {at_ err : Nat} {w : World} {T : World → Prop}
    (eg : ∀ args w, (callFunc g args).run Tryz.prog w = .ok (.enter g args) w)
    (hb : ∀ w1, Below w.heap.size w w1 → Rdr w1 (w.heap.size + 1 + 1) s 0 0 → Calls Tryz.prog g (#[.pointer (some ⟨w.heap.size + 1 + 1, 0, none⟩)] ++ caps) w1 fun e w2 => Failed at_ err e ∧ T w2 ∧ (∀ k, w.heap.size ≤ k → k < w.heap.size + 2 → w2.heap[k]? = w1.heap[k]?) ∧ w1.heap.size ≤ w2.heap.size) :
    Calls Tryz.prog 22 #[.string s, .func (.func g) #[] caps] w fun e w' => e = .returned (.tuple #[.int .i64 at_, .int .i64 err]) ∧ ∃ w2, T w2 ∧ Below w.heap.size w2 w' := by
  have hmf : ∀ (fn : Fn) (first cap : Array Value) (w : World), (Instr.makeFunc fn first cap).run Tryz.prog w = .ok (.func fn first cap) w := fun _ _ _ _ => rfl
  go_enter_defers Tryz.func22, Tryz.ntmps22
  go_wp2_with fail
  have hbw : Below w.heap.size w (((w.alloc (.cells #[.int .i64 0] 3)).alloc (.cells #[.int .i64 0] 35)).alloc (.cells #[.string s, .int .i64 0, .int .i64 0] 65)) := (((Below.refl _ _).alloc (Nat.le_refl _) _).alloc (by simp) _).alloc (by simp; omega) _
  have hz : ((w.alloc (.cells #[.int .i64 0] 3)).alloc (.cells #[.int .i64 0] 35)).heap.size = w.heap.size + 1 + 1 := by simp
  refine (hb _ hbw (by unfold Rdr; rw [← hz]; exact heap_alloc_new _ _)).mono ?_
  rintro e w2 ⟨hf, htw, ht, hts⟩
  unfold Failed at hf
  subst hf
  have ha : w2.heap[w.heap.size]? = some (.cells #[.int .i64 0] 3 (0, 0)) := (ht _ (Nat.le_refl _) (by omega)).trans ((Below.heap_alloc _ _ _ (by simp; omega)).trans ((Below.heap_alloc _ _ _ (by simp)).trans (heap_alloc_new w _)))
  have he : w2.heap[w.heap.size + 1]? = some (.cells #[.int .i64 0] 35 (0, 0)) := (ht _ (by omega) (by omega)).trans ((Below.heap_alloc _ _ _ (by simp)).trans (heap_alloc_at (by simp) _))
  refine leaves_cons (f := 39) (args := #[.pointer (some ⟨w.heap.size, 0, none⟩), .pointer (some ⟨w.heap.size + 1, 0, none⟩)]) (by simp) (by simp [go_sem]) ?_
  refine (rescue_any at_ err [] w2 ha he (by omega)).mono ?_
  rintro en u' w3 ⟨rfl, rfl, rfl⟩
  obtain ⟨w4, hw4⟩ : ∃ w4, w4 = (((w2.alloc (.cells #[.int .i64 at_, .int .i64 err] 67)).setCell ⟨w.heap.size, 0, none⟩ (.int .i64 at_)).setCell ⟨w.heap.size + 1, 0, none⟩ (.int .i64 err)).drew := ⟨_, rfl⟩
  have hsz : w.heap.size + 1 < w2.heap.size := by simp at hts; omega
  have ga : w4.heap[w.heap.size]? = some (.cells #[.int .i64 at_] 3 (0, 0)) := by
    rw [hw4]
    show (World.setCell _ _ _).heap[w.heap.size]? = _
    rw [Below.heap_setCell _ _ _ _ (by show w.heap.size ≠ w.heap.size + 1; omega)]
    have h0 : (w2.alloc (.cells #[.int .i64 at_, .int .i64 err] 67)).heap[w.heap.size]? = some (.cells #[.int .i64 0] 3 (0, 0)) := (Below.heap_alloc _ _ _ (by omega)).trans ha
    exact cell1_set h0 _
  have gen : w4.heap[w.heap.size + 1]? = some (.cells #[.int .i64 err] 35 (0, 0)) := by
    rw [hw4]
    show (World.setCell _ _ _).heap[w.heap.size + 1]? = _
    have h0 : ((w2.alloc (.cells #[.int .i64 at_, .int .i64 err] 67)).setCell ⟨w.heap.size, 0, none⟩ (.int .i64 at_)).heap[w.heap.size + 1]? = some (.cells #[.int .i64 0] 35 (0, 0)) := (Below.heap_setCell _ _ _ _ (by show w.heap.size + 1 ≠ w.heap.size; omega)).trans ((Below.heap_alloc _ _ _ (by omega)).trans he)
    exact cell1_set h0 _
  have hb4 : Below w.heap.size w2 w4 := by
    rw [hw4]
    exact ((((Below.refl w.heap.size w2).alloc (by omega) _).setCell (by show w.heap.size ≤ w.heap.size; omega) _).setCell (by show w.heap.size ≤ w.heap.size + 1; omega) _).drew
  rw [← hw4]
  clear hw4
  have ca : w4.cell? ⟨w.heap.size, 0, none⟩ = some (.int .i64 at_) := rdr_cell ga
  have ce : w4.cell? ⟨w.heap.size + 1, 0, none⟩ = some (.int .i64 err) := rdr_cell gen
  simp [Leaves, settle, results, Tryz.results22, go_sem, ca, ce]
  exact ⟨w2, htw, hb4⟩
set_option maxHeartbeats 4000000 in
set_option maxRecDepth 100000 in
/-- Where what is handed in reads all of it. -/
theorem read_ok {s : ByteArray} {g : Nat} {caps : Array Value} {w : World} {T : World → Prop}
    (eg : ∀ args w, (callFunc g args).run Tryz.prog w = .ok (.enter g args) w)
    (hb : ∀ w1, Below w.heap.size w w1 → Rdr w1 (w.heap.size + 1 + 1) s 0 0 → Calls Tryz.prog g (#[.pointer (some ⟨w.heap.size + 1 + 1, 0, none⟩)] ++ caps) w1 fun e w2 => e = .returned (.tuple #[]) ∧ T w2 ∧ (∃ p, Rdr w2 (w.heap.size + 1 + 1) s s.size p) ∧ (∀ k, w.heap.size ≤ k → k < w.heap.size + 2 → w2.heap[k]? = w1.heap[k]?) ∧ w1.heap.size ≤ w2.heap.size) :
    Calls Tryz.prog 22 #[.string s, .func (.func g) #[] caps] w fun e w' => e = .returned (.tuple #[.int .i64 s.size, .int .i64 0]) ∧ ∃ w2, T w2 ∧ Below w.heap.size w2 w' ∧ (∀ k, k ≠ w.heap.size → k ≠ w.heap.size + 1 → w'.heap[k]? = w2.heap[k]?) := by
  have hmf : ∀ (fn : Fn) (first cap : Array Value) (w : World), (Instr.makeFunc fn first cap).run Tryz.prog w = .ok (.func fn first cap) w := fun _ _ _ _ => rfl
  go_enter_defers Tryz.func22, Tryz.ntmps22
  go_wp2_with fail
  have hbw : Below w.heap.size w (((w.alloc (.cells #[.int .i64 0] 3)).alloc (.cells #[.int .i64 0] 35)).alloc (.cells #[.string s, .int .i64 0, .int .i64 0] 65)) := (((Below.refl _ _).alloc (Nat.le_refl _) _).alloc (by simp) _).alloc (by simp; omega) _
  have hz : ((w.alloc (.cells #[.int .i64 0] 3)).alloc (.cells #[.int .i64 0] 35)).heap.size = w.heap.size + 1 + 1 := by simp
  refine (hb _ hbw (by unfold Rdr; rw [← hz]; exact heap_alloc_new _ _)).mono ?_
  rintro e w2 ⟨rfl, htw, ⟨p, hr⟩, ht, hts⟩
  have ha : w2.heap[w.heap.size]? = some (.cells #[.int .i64 0] 3 (0, 0)) := (ht _ (Nat.le_refl _) (by omega)).trans ((Below.heap_alloc _ _ _ (by simp; omega)).trans ((Below.heap_alloc _ _ _ (by simp)).trans (heap_alloc_new w _)))
  have he : w2.heap[w.heap.size + 1]? = some (.cells #[.int .i64 0] 35 (0, 0)) := (ht _ (by omega) (by omega)).trans ((Below.heap_alloc _ _ _ (by simp)).trans (heap_alloc_at (by simp) _))
  obtain ⟨c0, c1, c2⟩ := hr.cells
  have ca : w2.cell? ⟨w.heap.size, 0, none⟩ = some (.int .i64 0) := rdr_cell ha
  have ce : w2.cell? ⟨w.heap.size + 1, 0, none⟩ = some (.int .i64 0) := rdr_cell he
  have fa : w2.frozen? ⟨w.heap.size, 0, none⟩ = false := by simp [World.frozen?, ha]
  have fe : w2.frozen? ⟨w.heap.size + 1, 0, none⟩ = false := by simp [World.frozen?, he]
  have HA := Lib.hid ha; have HE := Lib.hid he
  clear ha he ht hr
  go_wp2_with fail
  refine leaves_cons (f := 39) (args := #[.pointer (some ⟨w.heap.size, 0, none⟩), .pointer (some ⟨w.heap.size + 1, 0, none⟩)]) (by simp) (by simp [go_sem]) ?_
  refine (rescue_idle _ _ _).mono ?_
  rintro en u' w3 ⟨rfl, rfl, rfl⟩
  obtain ⟨w4, hw4⟩ : ∃ w4, w4 = (w2.setCell ⟨w.heap.size, 0, none⟩ (.int .i64 s.size)).setCell ⟨w.heap.size + 1, 0, none⟩ (.int .i64 0) := ⟨_, rfl⟩
  have ga : w4.heap[w.heap.size]? = some (.cells #[.int .i64 s.size] 3 (0, 0)) := by
    rw [hw4, Below.heap_setCell _ _ _ _ (by show w.heap.size ≠ w.heap.size + 1; omega)]
    exact cell1_set HA.out _
  have gen : w4.heap[w.heap.size + 1]? = some (.cells #[.int .i64 0] 35 (0, 0)) := by
    rw [hw4]
    exact cell1_set ((Below.heap_setCell _ _ _ _ (by show w.heap.size + 1 ≠ w.heap.size; omega)).trans HE.out) _
  have hfar4 : ∀ k, k ≠ w.heap.size → k ≠ w.heap.size + 1 → w4.heap[k]? = w2.heap[k]? := fun k h1 h2 => by
    rw [hw4, Below.heap_setCell _ _ _ k (by exact h2), Below.heap_setCell _ _ _ k (by exact h1)]
  have hb4 : Below w.heap.size w2 w4 := by
    rw [hw4]
    exact ((Below.refl w.heap.size w2).setCell (by show w.heap.size ≤ w.heap.size; omega) _).setCell (by show w.heap.size ≤ w.heap.size + 1; omega) _
  rw [← hw4]
  clear hw4 ca ce fa fe c0 c1 c2
  have ca : w4.cell? ⟨w.heap.size, 0, none⟩ = some (.int .i64 s.size) := rdr_cell ga
  have ce : w4.cell? ⟨w.heap.size + 1, 0, none⟩ = some (.int .i64 0) := rdr_cell gen
  simp [Leaves, settle, results, Tryz.results22, go_sem, ca, ce]
  exact ⟨w2, htw, hb4, hfar4⟩
set_option maxHeartbeats 4000000 in
set_option maxRecDepth 100000 in
/-- Where what is handed in stops ahead of the end. -/
theorem read_more {s : ByteArray} {k : Nat} {g : Nat} {caps : Array Value} {w : World} {T : World → Prop}
    (eg : ∀ args w, (callFunc g args).run Tryz.prog w = .ok (.enter g args) w)
    (hk : k < s.size) (hb : ∀ w1, Below w.heap.size w w1 → Rdr w1 (w.heap.size + 1 + 1) s 0 0 → Calls Tryz.prog g (#[.pointer (some ⟨w.heap.size + 1 + 1, 0, none⟩)] ++ caps) w1 fun e w2 => e = .returned (.tuple #[]) ∧ T w2 ∧ (∃ p, Rdr w2 (w.heap.size + 1 + 1) s k p) ∧ (∀ k, w.heap.size ≤ k → k < w.heap.size + 2 → w2.heap[k]? = w1.heap[k]?) ∧ w1.heap.size ≤ w2.heap.size) :
    Calls Tryz.prog 22 #[.string s, .func (.func g) #[] caps] w fun e w' => e = .returned (.tuple #[.int .i64 k, .int .i64 4]) ∧ ∃ w2, T w2 ∧ Below w.heap.size w2 w' := by
  have hmf : ∀ (fn : Fn) (first cap : Array Value) (w : World), (Instr.makeFunc fn first cap).run Tryz.prog w = .ok (.func fn first cap) w := fun _ _ _ _ => rfl
  go_enter_defers Tryz.func22, Tryz.ntmps22
  go_wp2_with fail
  have hbw : Below w.heap.size w (((w.alloc (.cells #[.int .i64 0] 3)).alloc (.cells #[.int .i64 0] 35)).alloc (.cells #[.string s, .int .i64 0, .int .i64 0] 65)) := (((Below.refl _ _).alloc (Nat.le_refl _) _).alloc (by simp) _).alloc (by simp; omega) _
  have hz : ((w.alloc (.cells #[.int .i64 0] 3)).alloc (.cells #[.int .i64 0] 35)).heap.size = w.heap.size + 1 + 1 := by simp
  refine (hb _ hbw (by unfold Rdr; rw [← hz]; exact heap_alloc_new _ _)).mono ?_
  rintro e w2 ⟨rfl, htw, ⟨p, hr⟩, ht, hts⟩
  have ha : w2.heap[w.heap.size]? = some (.cells #[.int .i64 0] 3 (0, 0)) := (ht _ (Nat.le_refl _) (by omega)).trans ((Below.heap_alloc _ _ _ (by simp; omega)).trans ((Below.heap_alloc _ _ _ (by simp)).trans (heap_alloc_new w _)))
  have he : w2.heap[w.heap.size + 1]? = some (.cells #[.int .i64 0] 35 (0, 0)) := (ht _ (by omega) (by omega)).trans ((Below.heap_alloc _ _ _ (by simp)).trans (heap_alloc_at (by simp) _))
  obtain ⟨c0, c1, c2⟩ := hr.cells
  have ca : w2.cell? ⟨w.heap.size, 0, none⟩ = some (.int .i64 0) := rdr_cell ha
  have ce : w2.cell? ⟨w.heap.size + 1, 0, none⟩ = some (.int .i64 0) := rdr_cell he
  have fa : w2.frozen? ⟨w.heap.size, 0, none⟩ = false := by simp [World.frozen?, ha]
  have fe : w2.frozen? ⟨w.heap.size + 1, 0, none⟩ = false := by simp [World.frozen?, he]
  have HA := Lib.hid ha; have HE := Lib.hid he
  have hk1 : (k : Int) < (s.size : Int) := by omega
  clear ht hr ca ce fa fe
  go_wp2_with fail
  refine (fail_any (k : Int) 4 _).mono ?_
  rintro e w5 ⟨hf, h5⟩
  subst w5
  unfold Failed at hf
  subst hf
  refine leaves_cons (f := 39) (args := #[.pointer (some ⟨w.heap.size, 0, none⟩), .pointer (some ⟨w.heap.size + 1, 0, none⟩)]) (by simp) (by simp [go_sem]) ?_
  refine (rescue_any k 4 [] w2 ha he (by omega)).mono ?_
  rintro en u' w3 ⟨rfl, rfl, rfl⟩
  obtain ⟨w4, hw4⟩ : ∃ w4, w4 = (((w2.alloc (.cells #[.int .i64 k, .int .i64 4] 67)).setCell ⟨w.heap.size, 0, none⟩ (.int .i64 k)).setCell ⟨w.heap.size + 1, 0, none⟩ (.int .i64 4)).drew := ⟨_, rfl⟩
  have hsz : w.heap.size + 1 < w2.heap.size := by simp at hts; omega
  have ga : w4.heap[w.heap.size]? = some (.cells #[.int .i64 k] 3 (0, 0)) := by
    rw [hw4]
    show (World.setCell _ _ _).heap[w.heap.size]? = _
    rw [Below.heap_setCell _ _ _ _ (by show w.heap.size ≠ w.heap.size + 1; omega)]
    have h0 : (w2.alloc (.cells #[.int .i64 k, .int .i64 4] 67)).heap[w.heap.size]? = some (.cells #[.int .i64 0] 3 (0, 0)) := (Below.heap_alloc _ _ _ (by omega)).trans ha
    exact cell1_set h0 _
  have gen : w4.heap[w.heap.size + 1]? = some (.cells #[.int .i64 4] 35 (0, 0)) := by
    rw [hw4]
    show (World.setCell _ _ _).heap[w.heap.size + 1]? = _
    have h0 : ((w2.alloc (.cells #[.int .i64 k, .int .i64 4] 67)).setCell ⟨w.heap.size, 0, none⟩ (.int .i64 k)).heap[w.heap.size + 1]? = some (.cells #[.int .i64 0] 35 (0, 0)) := (Below.heap_setCell _ _ _ _ (by show w.heap.size + 1 ≠ w.heap.size; omega)).trans ((Below.heap_alloc _ _ _ (by omega)).trans he)
    exact cell1_set h0 _
  have hb4 : Below w.heap.size w2 w4 := by
    rw [hw4]
    exact ((((Below.refl w.heap.size w2).alloc (by omega) _).setCell (by show w.heap.size ≤ w.heap.size; omega) _).setCell (by show w.heap.size ≤ w.heap.size + 1; omega) _).drew
  rw [← hw4]
  clear hw4
  have ca : w4.cell? ⟨w.heap.size, 0, none⟩ = some (.int .i64 k) := rdr_cell ga
  have ce : w4.cell? ⟨w.heap.size + 1, 0, none⟩ = some (.int .i64 4) := rdr_cell gen
  simp [Leaves, settle, results, Tryz.results22, go_sem, ca, ce]
  exact ⟨w2, htw, hb4⟩
end Go.Proofs.YtgklnafliaplkaaGreatDoor
