/-
  The document's own 'part' of types: numbers, yes and no, byte strings.
-/
import Derived.Test.YtcbbocnblgpbbaaDoorRTPartP
namespace Go.Proofs.YtcbbocnblgpbbaaDoor
open Go.RowKit

set_option maxHeartbeats 8000000 in
set_option maxRecDepth 100000 in
theorem rpart_flat {t : T} {A3 A4 A5 : Option Addr} {d3 d4 d5 : Nat} {w : World} (h : ¬ NoShape t) (hk : t.kind = 4 ∨ t.kind = 5 ∨ t.kind = 6) :
    Calls Tryd.prog 40 #[.agg #[.int .i64 t.kind, .int .i64 t.lo, .int .i64 t.hi, .slice A3 t.names.length d3, .slice A4 t.fields.length d4, .slice A5 t.of.length d5]] w fun e w' => e = .returned (.bool (allT t)) ∧ Below w.heap.size w w' := by
  have hz : t.fields.length = 0 ∧ t.names.length = 0 ∧ t.of.length = 0 := by
    unfold NoShape at h
    omega
  clear h
  obtain ⟨z1, z2, z3⟩ := hz
  rcases hk with hk | hk | hk
  · have E : Hid (allT t = decide (t.lo ≤ t.hi)) := by show allT t = _; rw [allT_flat (by omega) (by omega) (by omega), soundT4 hk]; simp [z1, z2, z3]
    rw [hk, z1, z2, z3]
    clear hk z1 z2 z3
    go_enter Tryd.func40, Tryd.ntmps40
    go_wp2_with fail
    all_goals (go_ret; refine ⟨ret_bool ?_, (Below.refl _ _).alloc (Nat.le_refl _) _⟩; rw [E.out]; try (rw [Bool.eq_iff_iff]; simp only [decide_eq_true_eq, Bool.false_eq_true, Bool.true_eq_false, false_iff, true_iff]; omega))
  · have E : Hid (allT t = (decide (t.lo = 0) && decide (t.hi = 0))) := by show allT t = _; rw [allT_flat (by omega) (by omega) (by omega), soundT5 hk]; simp [z1, z2, z3, unrB]
    rw [hk, z1, z2, z3]
    clear hk z1 z2 z3
    go_enter Tryd.func40, Tryd.ntmps40
    go_wp2_with fail
    all_goals (go_ret; refine ⟨ret_bool ?_, (Below.refl _ _).alloc (Nat.le_refl _) _⟩; rw [E.out]; rw [Bool.eq_iff_iff]; simp_all)
  · have E : Hid (allT t = (decide (0 ≤ t.lo) && (decide (t.lo ≤ t.hi) && decide (t.hi ≤ 256)))) := by show allT t = _; rw [allT_flat (by omega) (by omega) (by omega), soundT6 hk]; simp [z1, z2, z3]
    rw [hk, z1, z2, z3]
    clear hk z1 z2 z3
    go_enter Tryd.func40, Tryd.ntmps40
    go_wp2_with fail
    all_goals (go_ret; refine ⟨ret_bool ?_, (Below.refl _ _).alloc (Nat.le_refl _) _⟩; rw [E.out]; rw [Bool.eq_iff_iff]; simp only [Bool.and_eq_true, decide_eq_true_eq, Bool.false_eq_true, false_iff]; omega)

end Go.Proofs.YtcbbocnblgpbbaaDoor
