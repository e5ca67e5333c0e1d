/-
  The document's own 'part' of types: what is none at once.
-/
import Derived.Test.YteecdmceleanjaaGreatDoorB32
namespace Go.Proofs.YteecdmceleanjaaGreatDoor
open Go.RowKit

set_option maxHeartbeats 8000000 in
set_option maxRecDepth 100000 in
theorem rpart_no {kind lo hi : Int} {nN nF nO : Nat} {A3 A4 A5 : Option Addr} {d3 d4 d5 : Nat} {w : World} (hN : nN ≤ 10000) (hF : nF ≤ 10000) (hO : nO ≤ 10000)
    (h : kind < 1 ∨ 7 < kind ∨ (kind ≠ 1 ∧ 0 < nF) ∨ (kind ≠ 7 ∧ 0 < nN) ∨ (kind ≠ 2 ∧ kind ≠ 3 ∧ 0 < nO)) :
    Calls Tryz.prog 109 #[.agg #[.int .i64 kind, .int .i64 lo, .int .i64 hi, .slice A3 nN d3, .slice A4 nF d4, .slice A5 nO d5]] w fun e w' => e = .returned (.bool false) ∧ Below w.heap.size w w' := by
  by_cases hk1 : kind < 1
  · clear h
    go_enter Tryz.func109, Tryz.ntmps109
    go_wp2_with fail
    all_goals (go_ret; exact ⟨rfl, (Below.refl _ _).alloc (Nat.le_refl _) _⟩)
  by_cases hk7 : 7 < kind
  · clear h
    go_enter Tryz.func109, Tryz.ntmps109
    go_wp2_with fail
    all_goals (go_ret; exact ⟨rfl, (Below.refl _ _).alloc (Nat.le_refl _) _⟩)
  have g1 : ¬ kind < 1 := hk1
  have g7 : ¬ 7 < kind := hk7
  have HH := Lib.hid (h.resolve_left hk1 |>.resolve_left hk7)
  clear h hk1 hk7
  have hK1 : kind = 1 ∨ kind ≠ 1 := by omega
  rcases hK1 with rfl | hK1
  · have hh := HH.out
    by_cases hn : 0 < nN
    · have g2 : (0 : Int) < (nN : Int) := by omega
      clear HH hh hn
      go_enter Tryz.func109, Tryz.ntmps109
      go_wp2_with fail
      all_goals (go_ret; exact ⟨rfl, (Below.refl _ _).alloc (Nat.le_refl _) _⟩)
    obtain rfl : nN = 0 := by omega
    have g2 : (0 : Int) < (nO : Int) := by omega
    clear HH hh hn
    go_enter Tryz.func109, Tryz.ntmps109
    go_wp2_with fail
    all_goals (go_ret; exact ⟨rfl, (Below.refl _ _).alloc (Nat.le_refl _) _⟩)
  have q1 : (kind != 1) = true := by simp [hK1]
  by_cases hn : 0 < nF
  · have g2 : (0 : Int) < (nF : Int) := by omega
    clear HH hn
    go_enter Tryz.func109, Tryz.ntmps109
    go_wp2_with fail
    all_goals (go_ret; exact ⟨rfl, (Below.refl _ _).alloc (Nat.le_refl _) _⟩)
  obtain rfl : nF = 0 := by omega
  clear hn
  have hK7 : kind = 7 ∨ kind ≠ 7 := by omega
  rcases hK7 with rfl | hK7
  · have g2 : (0 : Int) < (nO : Int) := by have := HH.out; omega
    clear HH
    go_enter Tryz.func109, Tryz.ntmps109
    go_wp2_with fail
    all_goals (go_ret; exact ⟨rfl, (Below.refl _ _).alloc (Nat.le_refl _) _⟩)
  have q7 : (kind != 7) = true := by simp [hK7]
  by_cases hn : 0 < nN
  · have g2 : (0 : Int) < (nN : Int) := by omega
    clear HH hn
    go_enter Tryz.func109, Tryz.ntmps109
    go_wp2_with fail
    all_goals (go_ret; exact ⟨rfl, (Below.refl _ _).alloc (Nat.le_refl _) _⟩)
  obtain rfl : nN = 0 := by omega
  have hh : kind ≠ 2 ∧ kind ≠ 3 ∧ 0 < nO := by have := HH.out; omega
  have q2 : (kind != 2) = true := by simp [hh.1]
  have q3 : (kind != 3) = true := by simp [hh.2.1]
  have g2 : (0 : Int) < (nO : Int) := by omega
  clear HH hn hh
  go_enter Tryz.func109, Tryz.ntmps109
  go_wp2_with fail
  all_goals (go_ret; exact ⟨rfl, (Below.refl _ _).alloc (Nat.le_refl _) _⟩)
end Go.Proofs.YteecdmceleanjaaGreatDoor
