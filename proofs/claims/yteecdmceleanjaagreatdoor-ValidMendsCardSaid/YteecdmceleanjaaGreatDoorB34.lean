/-
  The document's own 'part' of types: one of some.
-/
import Derived.Test.YteecdmceleanjaaGreatDoorB32
namespace Go.Proofs.YteecdmceleanjaaGreatDoor
open Go.RowKit

set_option maxHeartbeats 8000000 in
set_option maxRecDepth 100000 in
theorem rpart_enum {t : T} {A3 A4 A5 : Option Addr} {d3 d4 d5 : Nat} {w : World} {B : Nat} (h : ¬ NoShape t) (hk : t.kind = 7) (hB : B ≤ w.heap.size) (hf : t.Fit) (hs : Strs w B (.slice A3 t.names.length d3) t.names) :
    Calls Tryz.prog 109 #[.agg #[.int .i64 t.kind, .int .i64 t.lo, .int .i64 t.hi, .slice A3 t.names.length d3, .slice A4 t.fields.length d4, .slice A5 t.of.length d5]] w fun e w' => e = .returned (.bool (allT t)) ∧ Below w.heap.size w w' := by
  have hz : t.fields.length = 0 ∧ t.of.length = 0 := by
    unfold NoShape at h
    omega
  clear h
  obtain ⟨z1, z3⟩ := hz
  have E : Hid (allT t = (unrB t && namedB t.names)) := by show allT t = _; rw [allT_flat (by omega) (by omega) (by omega), soundT7 hk]; simp [z1, z3]
  have HC := Lib.hid hs.row
  have HL : Hid (∀ k ∈ t.names, k.size ≤ 10000) := hf.parts.2.2.2.1
  rw [hk, z1, z3]
  clear hk z1 z3 hs hf
  obtain ⟨lo, hlo⟩ : ∃ x, x = t.lo := ⟨_, rfl⟩
  obtain ⟨hi, hhi⟩ : ∃ x, x = t.hi := ⟨_, rfl⟩
  obtain ⟨l, hl⟩ : ∃ x, x = t.names := ⟨_, rfl⟩
  rw [← hl] at HC HL ⊢
  rw [← hlo, ← hhi]
  have E2 : Hid (allT t = (decide (lo = 0) && decide (hi = 0) && namedB l)) := by rw [hlo, hhi, hl]; exact E.out
  clear E hlo hhi hl
  by_cases hu : lo = 0 ∧ hi = 0 ∧ 1 ≤ l.length ∧ l.length ≤ 32
  rotate_left
  · have E : Hid (allT t = false) := by
      show allT t = false
      rw [E2.out, ← Bool.not_eq_true]
      simp only [namedB, Bool.and_eq_true, decide_eq_true_eq]
      omega
    have HU := Lib.hid hu
    clear hu
    go_enter Tryz.func109, Tryz.ntmps109
    go_wp2_with fail
    all_goals first
      | (go_ret; exact ⟨ret_bool E.out.symm, (Below.refl _ _).alloc (Nat.le_refl _) _⟩)
      | (exfalso; have := HU.out; simp_all; omega)
  obtain ⟨rfl, rfl, h0, h1⟩ := hu
  have E : Hid (allT t = rowB shortB l) := by
    show allT t = _
    rw [E2.out]
    unfold namedB
    rw [decide_eq_true (show 0 < l.length by omega), decide_eq_true h1]; rfl
  clear E2
  have g1 : (1 : Int) ≤ (l.length : Int) := by omega
  have g2 : (l.length : Int) ≤ 32 := by omega
  go_enter Tryz.func109, Tryz.ntmps109
  go_wp2_with fail
  obtain ⟨W2, hW2⟩ : ∃ W2, W2 = w.alloc (.cells #[.int .i64 7, .int .i64 0, .int .i64 0, .slice A3 l.length d3, .slice A4 0 d4, .slice A5 0 d5] 26) := ⟨_, rfl⟩
  have HBX : Hid (Box6 W2 w.heap.size (.int .i64 7) (.int .i64 0) (.int .i64 0) (.slice A3 l.length d3) (.slice A4 0 d4) (.slice A5 0 d5)) := by rw [hW2]; exact Box6.new w _ _ _ _ _ _
  have HBL : Hid (Below w.heap.size w W2) := by rw [hW2]; exact (Below.refl _ _).alloc (Nat.le_refl _) _
  have hzw := HBL.out.size
  rw [← hW2]
  clear hW2
  go_loopw [5] (fun i wr => ∃ k : Nat, k ≤ l.length ∧ i = .int .i64 k ∧ (∀ i, i < k → rowAt shortB l i = true) ∧ Below W2.heap.size W2 wr) (fun i _ => l.length - (intOf i).toNat)
  case atStart => exact ⟨0, Nat.zero_le _, rfl, fun i h => absurd h (by omega), Below.refl _ _⟩
  case round =>
    obtain ⟨k, hk, rfl, hall, hb⟩ := hrel
    have HA := Lib.hid hall; have HB := Lib.hid hb; clear hall hb
    obtain ⟨q0, q1, q2, q3, q4, q5⟩ := (HBX.out.same (HB.out.block _ HBX.out.lt)).cells
    have HBF : Hid (Below w.heap.size w wr) := HBL.out.trans (HB.out.mono hzw)
    by_cases hlt : k < l.length
    · obtain ⟨b, off, rfl, hab, hcells⟩ := HC.out (by omega)
      have gk := (HBF.out.cell (p := ⟨b, off + k, none⟩) (by show b < _; omega)).trans (hcells k hlt)
      have hkey := HL.out l[k] (List.getElem_mem hlt)
      have hk0 : (0 : Int) ≤ (k : Int) := by omega
      have hk1 : (k : Int) < (l.length : Int) := by omega
      rcases Nat.lt_or_ge 256 (l[k]).size with hbig | hbig
      · have EK := Lib.hid (rowB_bad (p := shortB) k hlt (by simp [rowAt, hlt, shortB]; omega))
        have hbg : decide ((256 : Int) < ((l[k]).size : Int)) = true := decide_eq_true (by omega)
        clear hcells
        go_wp2_with fail
        go_quiet (fail)
        go_wp2_with fail
        go_ret
        exact ⟨ret_bool (by rw [E.out, EK.out]), bel_drewN HBF.out _⟩
      have hbg : decide ((256 : Int) < ((l[k]).size : Int)) = false := decide_eq_false (by omega)
      rcases Nat.eq_zero_or_pos k with rfl | hkp
      · have EK := Lib.hid (show rowAt shortB l 0 = true by rw [rowAt_zero hlt]; simp [shortB]; omega)
        rw [Nat.add_zero] at gk
        clear hcells
        go_wp2_with fail
        go_quiet (fail)
        go_wp2_with fail
        go_roundw
        case rel => exact ⟨1, by omega, by go_num, t_one_all EK.out, bel_drewN HB.out _⟩
        case measure => simp [intOf]; omega
      · obtain ⟨j, rfl⟩ : ∃ j, k = j + 1 := ⟨k - 1, by omega⟩
        have gj := (HBF.out.cell (p := ⟨b, off + j, none⟩) (by show b < _; omega)).trans (hcells j (by omega))
        have gk2 : wr.cell? ⟨b, off + j + 1, none⟩ = some (.string l[j + 1]) := gk
        have hj0 : (0 : Int) < (j : Int) + 1 := by omega
        have hj1 : (j : Int) + 1 < (l.length : Int) := by omega
        have hj2 : (0 : Int) ≤ (j : Int) + 1 := by omega
        have hj3 : (j : Int) < (l.length : Int) := by omega
        have hj4 : (0 : Int) ≤ (j : Int) := by omega
        have hjp : decide ((0 : Int) < (j : Int) + 1) = true := decide_eq_true (by omega)
        clear hcells hkp
        by_cases hsc : scmp l[j] l[j + 1] = -1
        · have EK := Lib.hid (show rowAt shortB l (j + 1) = true by rw [rowAt_succ hlt, hsc]; simp [shortB]; omega)
          have hflip := scmp_ordered.flip l[j] l[j + 1] trivial trivial
          have hlt3 : Op.bytesLess l[j + 1].toList l[j].toList = false := t_scmp_nlt (by omega)
          have hlt4 : (l[j + 1].toList == l[j].toList) = false := t_scmp_ne (by omega)
          clear hflip
          clear hsc
          go_wp2_with fail
          go_quiet (fail)
          go_wp2_with fail
          go_roundw
          case rel => exact ⟨j + 2, by omega, by go_num, t_more_all HA.out EK.out, bel_drewN HB.out _⟩
          case measure => simp [intOf]; omega
        · have EK := Lib.hid (rowB_bad (p := shortB) (j + 1) hlt (by rw [rowAt_succ hlt]; simp [hsc]))
          have hlt3 : (Op.bytesLess l[j + 1].toList l[j].toList || (l[j + 1].toList == l[j].toList)) = true := by
            have hflip := scmp_ordered.flip l[j] l[j + 1] trivial trivial
            rcases scmp_ordered.cases l[j + 1] l[j] trivial trivial with h | h | h
            · rw [t_scmp_lt h]; rfl
            · rw [t_scmp_eq h, Bool.or_true]
            · exfalso; omega
          clear hsc
          go_wp2_with fail
          go_quiet (fail)
          go_wp2_with fail
          go_ret
          exact ⟨ret_bool (by rw [E.out, EK.out]), bel_drewN HBF.out _⟩
    · have EK := Lib.hid (rowB_true (p := shortB) (l := l) fun i hi => HA.out i (by omega))
      go_wp2_with fail
      go_ret
      exact ⟨ret_bool (by rw [E.out, EK.out]), HBF.out⟩
end Go.Proofs.YteecdmceleanjaaGreatDoor
