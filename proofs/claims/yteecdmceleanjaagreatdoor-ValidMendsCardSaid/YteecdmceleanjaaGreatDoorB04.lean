/-
  schema.sound: a type is right but for the types within it.
-/
import Derived.Test.YteecdmceleanjaaGreatDoorB03
namespace Go.Proofs.YteecdmceleanjaaGreatDoor
open Go.RowKit

set_option maxHeartbeats 8000000 in
set_option maxRecDepth 100000 in
theorem tsound_any {t : T} {b o : Nat} {w : World} {B : Nat} (hf : t.Fit) (hB : B ≤ w.heap.size) (ht : TypeAt w B b o t) :
    Calls Tryz.prog 49 #[.pointer (some ⟨b, o, none⟩)] w fun e w' => e = .returned (.bool (soundT t)) ∧ Below w.heap.size w w' := by
  obtain ⟨f1, f2, f3, f4, f5, f6⟩ := hf.parts
  have HNM := Lib.hid f4; have HFF := Lib.hid f5
  have HT := Lib.hid ht
  obtain ⟨v0, v1, v2, v3, v4, v5, c0, c1, c2, c3, c4, c5, hin⟩ := ht
  have HFV := Lib.hid hin.fields_; have HNV := Lib.hid hin.names_
  obtain ⟨A3, d3, A4, d4, A5, d5, rfl, rfl, rfl, rfl, rfl, rfl⟩ := hin.forms
  clear hin f4 f5 f6 hf
  by_cases k1 : t.kind = 1
  · rw [k1] at c0
    have E := Lib.hid (show soundT t = (decide (t.names.length = 0) && (unrB t && (decide (t.of.length = 0) && fieldedB t.fields))) by unfold soundT; rw [if_pos k1])
    clear k1
    by_cases hn : t.names.length = 0
    · rw [hn] at c3
      cases hu : unrB t with
      | false =>
        have E2 := Lib.hid (show soundT t = false by rw [E.out, hu]; simp)
        have HU := Lib.hid (show ∀ W B, TypeAt W B b o t → Calls Tryz.prog 79 #[.pointer (some ⟨b, o, none⟩)] W fun e w' => e = .returned (.bool false) ∧ W = w' from fun W B h => hu ▸ unr_any h)
        clear hu hn
        go_enter Tryz.func49, Tryz.ntmps49
        go_wp2_with (go_at_call 79; refine (HU.out _ _ HT.out).mono ?_; rintro e w' ⟨rfl, rfl⟩)
        go_ret
        exact ⟨ret_bool E2.out.symm, Below.refl _ _⟩
      | true =>
        by_cases ho : t.of.length = 0
        · rw [ho] at c5
          have E2 := Lib.hid (show soundT t = fieldedB t.fields by rw [E.out, hn, hu, ho]; simp)
          have HU := Lib.hid (show ∀ W B, TypeAt W B b o t → Calls Tryz.prog 79 #[.pointer (some ⟨b, o, none⟩)] W fun e w' => e = .returned (.bool true) ∧ W = w' from fun W B h => hu ▸ unr_any h)
          clear hu hn ho
          go_enter Tryz.func49, Tryz.ntmps49
          go_wp2_with (first | (go_at_call 79; refine (HU.out _ _ HT.out).mono ?_; rintro e w' ⟨rfl, rfl⟩) | (go_at_call 80; refine (fielded_any hB HFV.out f2 HFF.out).mono ?_; rintro e w' ⟨rfl, hb1⟩))
          go_ret
          exact ⟨ret_bool E2.out.symm, hb1⟩
        · have ho2 : ((t.of.length : Int) == 0) = false := by rw [beq_eq_false_iff_ne]; omega
          have E2 := Lib.hid (show soundT t = false by rw [E.out, hu]; simp [ho])
          have HU := Lib.hid (show ∀ W B, TypeAt W B b o t → Calls Tryz.prog 79 #[.pointer (some ⟨b, o, none⟩)] W fun e w' => e = .returned (.bool true) ∧ W = w' from fun W B h => hu ▸ unr_any h)
          clear hu hn ho
          go_enter Tryz.func49, Tryz.ntmps49
          go_wp2_with (go_at_call 79; refine (HU.out _ _ HT.out).mono ?_; rintro e w' ⟨rfl, rfl⟩)
          go_ret
          exact ⟨ret_bool E2.out.symm, Below.refl _ _⟩
    · have hn2 : (0 : Int) < (t.names.length : Int) := by omega
      have E2 := Lib.hid (show soundT t = false by rw [E.out]; simp [hn])
      clear hn
      go_enter Tryz.func49, Tryz.ntmps49
      go_wp2_with fail
      go_ret
      exact ⟨ret_bool E2.out.symm, Below.refl _ _⟩
  have g1 : (t.kind != 1) = true := by simp [k1]
  have g1' : (t.kind == 1) = false := by simp [k1]
  by_cases hf0 : t.fields.length = 0
  rotate_left
  · have hf2 : (0 : Int) < (t.fields.length : Int) := by omega
    have hf3 : ¬ t.fields = [] := fun e => hf0 (by rw [e]; rfl)
    have E2 := Lib.hid (show soundT t = false by unfold soundT; rw [if_neg k1]; simp [hf0])
    clear hf0 k1
    go_enter Tryz.func49, Tryz.ntmps49
    go_wp2_with fail
    go_ret
    exact ⟨ret_bool E2.out.symm, Below.refl _ _⟩
  rw [hf0] at c4
  by_cases k7 : t.kind = 7
  · rw [k7] at c0
    have E := Lib.hid (show soundT t = (unrB t && (decide (t.of.length = 0) && namedB t.names)) by unfold soundT; simp [k7, hf0])
    clear k7 k1 g1 g1' hf0
    cases hu : unrB t with
    | false =>
      have E2 := Lib.hid (show soundT t = false by rw [E.out, hu]; simp)
      have HU := Lib.hid (show ∀ W B, TypeAt W B b o t → Calls Tryz.prog 79 #[.pointer (some ⟨b, o, none⟩)] W fun e w' => e = .returned (.bool false) ∧ W = w' from fun W B h => hu ▸ unr_any h)
      clear hu
      go_enter Tryz.func49, Tryz.ntmps49
      go_wp2_with (go_at_call 79; refine (HU.out _ _ HT.out).mono ?_; rintro e w' ⟨rfl, rfl⟩)
      go_ret
      exact ⟨ret_bool E2.out.symm, Below.refl _ _⟩
    | true =>
      by_cases ho : t.of.length = 0
      · rw [ho] at c5
        have E2 := Lib.hid (show soundT t = namedB t.names by rw [E.out, hu, ho]; simp)
        have HU := Lib.hid (show ∀ W B, TypeAt W B b o t → Calls Tryz.prog 79 #[.pointer (some ⟨b, o, none⟩)] W fun e w' => e = .returned (.bool true) ∧ W = w' from fun W B h => hu ▸ unr_any h)
        clear hu ho
        go_enter Tryz.func49, Tryz.ntmps49
        go_wp2_with (first | (go_at_call 79; refine (HU.out _ _ HT.out).mono ?_; rintro e w' ⟨rfl, rfl⟩) | (go_at_call 81; refine (named_any HNV.out f1 HNM.out).mono ?_; rintro e w' ⟨rfl, rfl⟩))
        go_ret
        exact ⟨ret_bool E2.out.symm, Below.refl _ _⟩
      · have ho2 : ((t.of.length : Int) == 0) = false := by rw [beq_eq_false_iff_ne]; omega
        have E2 := Lib.hid (show soundT t = false by rw [E.out, hu]; simp [ho])
        have HU := Lib.hid (show ∀ W B, TypeAt W B b o t → Calls Tryz.prog 79 #[.pointer (some ⟨b, o, none⟩)] W fun e w' => e = .returned (.bool true) ∧ W = w' from fun W B h => hu ▸ unr_any h)
        clear hu ho
        go_enter Tryz.func49, Tryz.ntmps49
        go_wp2_with (go_at_call 79; refine (HU.out _ _ HT.out).mono ?_; rintro e w' ⟨rfl, rfl⟩)
        go_ret
        exact ⟨ret_bool E2.out.symm, Below.refl _ _⟩
  have g7 : (t.kind != 7) = true := by simp [k7]
  have g7' : (t.kind == 7) = false := by simp [k7]
  by_cases hn0 : t.names.length = 0
  rotate_left
  · have hn2 : (0 : Int) < (t.names.length : Int) := by omega
    have E2 := Lib.hid (show soundT t = false by unfold soundT; rw [if_neg k1]; simp [hf0, hn0, k7])
    clear hf0 k1 hn0 k7
    go_enter Tryz.func49, Tryz.ntmps49
    go_wp2_with fail
    go_ret
    exact ⟨ret_bool E2.out.symm, Below.refl _ _⟩
  rw [hn0] at c3
  by_cases k2 : t.kind = 2
  · rw [k2] at c0
    have E := Lib.hid (show soundT t = (decide (0 ≤ t.lo) && (decide (t.lo ≤ t.hi) && decide (t.of.length = 1))) by unfold soundT; simp [k2, hf0, hn0])
    clear k2 k1 g1 g1' g7 g7' k7 hf0 hn0
    by_cases ha : 0 ≤ t.lo
    · have ha2 : decide (0 ≤ t.lo) = true := decide_eq_true ha
      by_cases hb : t.lo ≤ t.hi
      · have hb2 : decide (t.lo ≤ t.hi) = true := decide_eq_true hb
        by_cases ho : t.of.length = 1
        · rw [ho] at c5
          have E2 := Lib.hid (show soundT t = true by rw [E.out, ho]; simp [ha, hb])
          clear ho
          go_enter Tryz.func49, Tryz.ntmps49
          go_wp2_with fail
          go_quiet (fail)
          go_wp2_with fail
          go_ret
          exact ⟨ret_bool E2.out.symm, bel_drewN (Below.refl _ _) _⟩
        · have ho2 : ((t.of.length : Int) == 1) = false := by rw [beq_eq_false_iff_ne]; omega
          have E2 := Lib.hid (show soundT t = false by rw [E.out]; simp [ho])
          clear ho
          go_enter Tryz.func49, Tryz.ntmps49
          go_wp2_with fail
          go_quiet (fail)
          go_wp2_with fail
          go_ret
          exact ⟨ret_bool E2.out.symm, bel_drewN (Below.refl _ _) _⟩
      · have hb2 : decide (t.lo ≤ t.hi) = false := decide_eq_false hb
        have E2 := Lib.hid (show soundT t = false by rw [E.out]; simp [hb])
        clear hb
        go_enter Tryz.func49, Tryz.ntmps49
        go_wp2_with fail
        go_quiet (fail)
        go_wp2_with fail
        go_ret
        exact ⟨ret_bool E2.out.symm, bel_drewN (Below.refl _ _) _⟩
    · have ha2 : decide (0 ≤ t.lo) = false := decide_eq_false ha
      have E2 := Lib.hid (show soundT t = false by rw [E.out]; simp [ha])
      clear ha
      go_enter Tryz.func49, Tryz.ntmps49
      go_wp2_with fail
      go_quiet (fail)
      go_wp2_with fail
      go_ret
      exact ⟨ret_bool E2.out.symm, bel_drewN (Below.refl _ _) _⟩
  have g2 : (t.kind == 2) = false := by simp [k2]
  by_cases k3 : t.kind = 3
  · rw [k3] at c0
    have E := Lib.hid (show soundT t = (decide (0 ≤ t.lo) && (decide (t.lo ≤ t.hi) && decide (t.of.length = 1))) by unfold soundT; simp [k3, hf0, hn0])
    clear k3 k1 g1 g1' g7 g7' k7 hf0 hn0
    by_cases ha : 0 ≤ t.lo
    · have ha2 : decide (0 ≤ t.lo) = true := decide_eq_true ha
      by_cases hb : t.lo ≤ t.hi
      · have hb2 : decide (t.lo ≤ t.hi) = true := decide_eq_true hb
        by_cases ho : t.of.length = 1
        · rw [ho] at c5
          have E2 := Lib.hid (show soundT t = true by rw [E.out, ho]; simp [ha, hb])
          clear ho
          go_enter Tryz.func49, Tryz.ntmps49
          go_wp2_with fail
          go_quiet (fail)
          go_wp2_with fail
          go_ret
          exact ⟨ret_bool E2.out.symm, bel_drewN (Below.refl _ _) _⟩
        · have ho2 : ((t.of.length : Int) == 1) = false := by rw [beq_eq_false_iff_ne]; omega
          have E2 := Lib.hid (show soundT t = false by rw [E.out]; simp [ho])
          clear ho
          go_enter Tryz.func49, Tryz.ntmps49
          go_wp2_with fail
          go_quiet (fail)
          go_wp2_with fail
          go_ret
          exact ⟨ret_bool E2.out.symm, bel_drewN (Below.refl _ _) _⟩
      · have hb2 : decide (t.lo ≤ t.hi) = false := decide_eq_false hb
        have E2 := Lib.hid (show soundT t = false by rw [E.out]; simp [hb])
        clear hb
        go_enter Tryz.func49, Tryz.ntmps49
        go_wp2_with fail
        go_quiet (fail)
        go_wp2_with fail
        go_ret
        exact ⟨ret_bool E2.out.symm, bel_drewN (Below.refl _ _) _⟩
    · have ha2 : decide (0 ≤ t.lo) = false := decide_eq_false ha
      have E2 := Lib.hid (show soundT t = false by rw [E.out]; simp [ha])
      clear ha
      go_enter Tryz.func49, Tryz.ntmps49
      go_wp2_with fail
      go_quiet (fail)
      go_wp2_with fail
      go_ret
      exact ⟨ret_bool E2.out.symm, bel_drewN (Below.refl _ _) _⟩
  have g3 : (t.kind == 3) = false := by simp [k3]
  by_cases k4 : t.kind = 4
  · rw [k4] at c0
    have E := Lib.hid (show soundT t = (decide (t.lo ≤ t.hi) && decide (t.of.length = 0)) by unfold soundT; simp [k4, hf0, hn0])
    clear k4 k1 k2 k3 g2 g3 g1 g1' g7 g7' k7 hf0 hn0
    by_cases hb : t.lo ≤ t.hi
    · have hb2 : decide (t.lo ≤ t.hi) = true := decide_eq_true hb
      by_cases ho : t.of.length = 0
      · rw [ho] at c5
        have E2 := Lib.hid (show soundT t = true by rw [E.out, ho]; simp [hb])
        clear ho
        go_enter Tryz.func49, Tryz.ntmps49
        go_wp2_with fail
        go_quiet (fail)
        go_wp2_with fail
        go_ret
        exact ⟨ret_bool E2.out.symm, bel_drewN (Below.refl _ _) _⟩
      · have ho2 : ((t.of.length : Int) == 0) = false := by rw [beq_eq_false_iff_ne]; omega
        have E2 := Lib.hid (show soundT t = false by rw [E.out]; simp [ho])
        clear ho
        go_enter Tryz.func49, Tryz.ntmps49
        go_wp2_with fail
        go_quiet (fail)
        go_wp2_with fail
        go_ret
        exact ⟨ret_bool E2.out.symm, bel_drewN (Below.refl _ _) _⟩
    · have hb2 : decide (t.lo ≤ t.hi) = false := decide_eq_false hb
      have E2 := Lib.hid (show soundT t = false by rw [E.out]; simp [hb])
      clear hb
      go_enter Tryz.func49, Tryz.ntmps49
      go_wp2_with fail
      go_quiet (fail)
      go_wp2_with fail
      go_ret
      exact ⟨ret_bool E2.out.symm, bel_drewN (Below.refl _ _) _⟩
  have g4 : (t.kind == 4) = false := by simp [k4]
  by_cases k5 : t.kind = 5
  · rw [k5] at c0
    have E := Lib.hid (show soundT t = (unrB t && decide (t.of.length = 0)) by unfold soundT; simp [k5, hf0, hn0])
    clear k5 k4 g4 k1 k2 k3 g2 g3 g1 g1' g7 g7' k7 hf0 hn0
    cases hu : unrB t with
    | false =>
      have E2 := Lib.hid (show soundT t = false by rw [E.out, hu]; simp)
      have HU := Lib.hid (show ∀ W B, TypeAt W B b o t → Calls Tryz.prog 79 #[.pointer (some ⟨b, o, none⟩)] W fun e w' => e = .returned (.bool false) ∧ W = w' from fun W B h => hu ▸ unr_any h)
      clear hu
      go_enter Tryz.func49, Tryz.ntmps49
      go_wp2_with (go_at_call 79; refine (HU.out _ _ HT.out).mono ?_; rintro e w' ⟨rfl, rfl⟩)
      go_ret
      exact ⟨ret_bool E2.out.symm, Below.refl _ _⟩
    | true =>
      by_cases ho : t.of.length = 0
      · rw [ho] at c5
        have E2 := Lib.hid (show soundT t = true by rw [E.out, hu, ho]; simp)
        have HU := Lib.hid (show ∀ W B, TypeAt W B b o t → Calls Tryz.prog 79 #[.pointer (some ⟨b, o, none⟩)] W fun e w' => e = .returned (.bool true) ∧ W = w' from fun W B h => hu ▸ unr_any h)
        clear hu ho
        go_enter Tryz.func49, Tryz.ntmps49
        go_wp2_with (go_at_call 79; refine (HU.out _ _ HT.out).mono ?_; rintro e w' ⟨rfl, rfl⟩)
        go_ret
        exact ⟨ret_bool E2.out.symm, Below.refl _ _⟩
      · have ho2 : ((t.of.length : Int) == 0) = false := by rw [beq_eq_false_iff_ne]; omega
        have E2 := Lib.hid (show soundT t = false by rw [E.out, hu]; simp [ho])
        have HU := Lib.hid (show ∀ W B, TypeAt W B b o t → Calls Tryz.prog 79 #[.pointer (some ⟨b, o, none⟩)] W fun e w' => e = .returned (.bool true) ∧ W = w' from fun W B h => hu ▸ unr_any h)
        clear hu ho
        go_enter Tryz.func49, Tryz.ntmps49
        go_wp2_with (go_at_call 79; refine (HU.out _ _ HT.out).mono ?_; rintro e w' ⟨rfl, rfl⟩)
        go_ret
        exact ⟨ret_bool E2.out.symm, Below.refl _ _⟩
  have g5 : (t.kind == 5) = false := by simp [k5]
  by_cases k6 : t.kind = 6
  · rw [k6] at c0
    have E := Lib.hid (show soundT t = (decide (0 ≤ t.lo) && (decide (t.lo ≤ t.hi) && (decide (t.hi ≤ 256) && decide (t.of.length = 0)))) by unfold soundT; simp [k6, hf0, hn0])
    clear k6 k5 k4 g4 g5 k1 k2 k3 g2 g3 g1 g1' g7 g7' k7 hf0 hn0
    by_cases ha : 0 ≤ t.lo
    · have ha2 : decide (0 ≤ t.lo) = true := decide_eq_true ha
      by_cases hb : t.lo ≤ t.hi
      · have hb2 : decide (t.lo ≤ t.hi) = true := decide_eq_true hb
        by_cases hc : t.hi ≤ 256
        · have hc2 : decide (t.hi ≤ 256) = true := decide_eq_true hc
          by_cases ho : t.of.length = 0
          · rw [ho] at c5
            have E2 := Lib.hid (show soundT t = true by rw [E.out, ho]; simp [ha, hb, hc])
            clear ho
            go_enter Tryz.func49, Tryz.ntmps49
            go_wp2_with fail
            go_quiet (fail)
            go_wp2_with fail
            go_ret
            exact ⟨ret_bool E2.out.symm, bel_drewN (Below.refl _ _) _⟩
          · have ho2 : ((t.of.length : Int) == 0) = false := by rw [beq_eq_false_iff_ne]; omega
            have E2 := Lib.hid (show soundT t = false by rw [E.out]; simp [ho])
            clear ho
            go_enter Tryz.func49, Tryz.ntmps49
            go_wp2_with fail
            go_quiet (fail)
            go_wp2_with fail
            go_ret
            exact ⟨ret_bool E2.out.symm, bel_drewN (Below.refl _ _) _⟩
        · have hc2 : decide (t.hi ≤ 256) = false := decide_eq_false hc
          have E2 := Lib.hid (show soundT t = false by rw [E.out]; simp [hc])
          clear hc
          go_enter Tryz.func49, Tryz.ntmps49
          go_wp2_with fail
          go_quiet (fail)
          go_wp2_with fail
          go_ret
          exact ⟨ret_bool E2.out.symm, bel_drewN (Below.refl _ _) _⟩
      · have hb2 : decide (t.lo ≤ t.hi) = false := decide_eq_false hb
        have E2 := Lib.hid (show soundT t = false by rw [E.out]; simp [hb])
        clear hb
        go_enter Tryz.func49, Tryz.ntmps49
        go_wp2_with fail
        go_quiet (fail)
        go_wp2_with fail
        go_ret
        exact ⟨ret_bool E2.out.symm, bel_drewN (Below.refl _ _) _⟩
    · have ha2 : decide (0 ≤ t.lo) = false := decide_eq_false ha
      have E2 := Lib.hid (show soundT t = false by rw [E.out]; simp [ha])
      clear ha
      go_enter Tryz.func49, Tryz.ntmps49
      go_wp2_with fail
      go_quiet (fail)
      go_wp2_with fail
      go_ret
      exact ⟨ret_bool E2.out.symm, bel_drewN (Below.refl _ _) _⟩
  have g6 : (t.kind == 6) = false := by simp [k6]
  have E2 := Lib.hid (show soundT t = false by unfold soundT; simp [k1, k2, k3, k4, k5, k6, k7])
  clear k1 k2 k3 k4 k5 k6 k7 hf0 hn0
  go_enter Tryz.func49, Tryz.ntmps49
  go_wp2_with fail
  go_ret
  exact ⟨ret_bool E2.out.symm, Below.refl _ _⟩
end Go.Proofs.YteecdmceleanjaaGreatDoor
