/-
  The document's own Name, Rows, Scalar and Field: as the program's.
  The document's own 'part' of types: plain lemmas.
  The document's own 'part' of types: numbers, yes and no, byte strings.
-/
import Derived.Test.YteecdmceleanjaaGreatDoorB05
import Derived.Test.YteecdmceleanjaaGreatDoorB06
namespace Go.Proofs.YteecdmceleanjaaGreatDoor
open Go.RowKit

set_option maxHeartbeats 1600000 in
theorem t_rname_any (s : ByteArray) (w : World) : Calls Tryz.prog 138 #[.string s] w fun e w' => e = .returned (.bool (nameB s)) ∧ w = w' := by
  by_cases hl : 16 < s.size
  · have E := Lib.hid (nameB_long hl)
    go_enter Tryz.func138, Tryz.ntmps138
    go_wp2_with fail
    all_goals (go_ret; exact ⟨ret_bool E.out.symm, rfl⟩)
  rcases Nat.eq_zero_or_pos s.size with h0 | h0
  · have E := Lib.hid (nameB_short h0)
    go_enter Tryz.func138, Tryz.ntmps138
    go_wp2_with fail
    all_goals (go_ret; exact ⟨ret_bool E.out.symm, rfl⟩)
  go_enter Tryz.func138, Tryz.ntmps138
  go_wp2_with fail
  go_loop [3] (fun i => ∃ k : Nat, k ≤ s.size ∧ i = .int .i64 k ∧ ∀ (j : Nat) (h : j < s.size), j < k → okAt j s[j] = true) (fun i => s.size - (intOf i).toNat)
  case atStart => exact ⟨0, Nat.zero_le _, rfl, fun j h hj => absurd hj (by omega)⟩
  case round =>
    obtain ⟨k, hk2, rfl, hall⟩ := hrel
    have HA := Lib.hid hall; clear hall
    by_cases hlt : k < s.size
    · have hkn : (0 : Int) ≤ (k : Int) := by omega
      go_wp2_with fail
      all_goals first
        | (go_ret; exact ⟨ret_bool (nameB_bad (s := s) k hlt (by simp [okAt, smallB, digitB] at *; omega)).symm, rfl⟩)
        | (go_round
           case rel => exact ⟨k + 1, by omega, by go_num, fun j h hj => by
             rcases Nat.lt_or_ge j k with hjk | hjk
             · exact HA.out j h hjk
             · obtain rfl : j = k := by omega
               simp [okAt, smallB, digitB] at *; omega⟩
           case measure => simp [intOf]; omega)
    · have E := Lib.hid (nameB_true (s := s) (by omega) (by omega) (fun j h => HA.out j h (by omega)))
      go_wp2_with fail
      go_ret
      exact ⟨ret_bool E.out.symm, rfl⟩

theorem Strs.row {w : World} {B c : Nat} {A : Option Addr} {l : List ByteArray} (h : Strs w B (.slice A l.length c) l) : 0 < l.length → ∃ b off, A = some ⟨b, off, none⟩ ∧ b < B ∧ ∀ (i : Nat) (h : i < l.length), w.cell? ⟨b, off + i, none⟩ = some (.string l[i]) := by
  obtain ⟨A', c', e, _, h2⟩ := h
  injection e with e1 _ _; subst e1
  exact h2
set_option maxHeartbeats 2000000 in
set_option maxRecDepth 100000 in
theorem rrows_any {a b : List ByteArray} {v u : Value} {w : World} {B : Nat} (hB : B ≤ w.heap.size) (ha : Strs w B v a) (hb : Strs w B u b) (hn : a.length ≤ 10000) (hn' : b.length ≤ 10000) :
    Calls Tryz.prog 37 #[v, u] w fun e w' => e = .returned (.bool (decide (a = b))) ∧ Below w.heap.size w w' := by
  obtain ⟨A, c, rfl, _⟩ := id ha
  obtain ⟨A', c', rfl, _⟩ := id hb
  have HA := Lib.hid ha.row; have HB := Lib.hid hb.row
  clear ha hb
  by_cases hl : a.length = b.length
  rotate_left
  · have E : Hid (decide (a = b) = false) := decide_eq_false fun h => hl (by rw [h])
    have g : ((a.length : Int) != (b.length : Int)) = true := by simp; omega
    clear hl
    go_enter Tryz.func37, Tryz.ntmps37
    go_wp2_with fail
    go_ret
    exact ⟨ret_bool E.out.symm, Below.refl _ _⟩
  have g : ((a.length : Int) != (b.length : Int)) = false := by simp; omega
  have HL := Lib.hid hl
  clear hl
  go_enter Tryz.func37, Tryz.ntmps37
  go_wp2_with fail
  go_loopw [5] (fun i wr => ∃ k : Nat, k ≤ a.length ∧ i = .int .i64 k ∧ (∀ (j : Nat) (h : j < a.length) (h' : j < b.length), j < k → a[j] = b[j]) ∧ Below w.heap.size w wr) (fun i _ => a.length - (intOf i).toNat)
  case atStart => exact ⟨0, Nat.zero_le _, rfl, fun j _ _ hj => absurd hj (by omega), Below.refl _ _⟩
  case round =>
    obtain ⟨k, hk, rfl, hall, hb⟩ := hrel
    have HALL := Lib.hid hall
    have HBL := Lib.hid hb
    clear hall hb
    by_cases hlt : k < a.length
    · have hlb : k < b.length := by have := HL.out; omega
      obtain ⟨q, o, rfl, hqb, hq⟩ := HA.out (by omega)
      obtain ⟨q', o', rfl, hqb', hq'⟩ := HB.out (by omega)
      have g1 := (HBL.out.cell (p := ⟨q, o + k, none⟩) (by show q < _; omega)).trans (hq k hlt)
      have g2 := (HBL.out.cell (p := ⟨q', o' + k, none⟩) (by show q' < _; omega)).trans (hq' k hlb)
      have hk0 : (0 : Int) ≤ (k : Int) := by omega
      have hk1 : (k : Int) < (a.length : Int) := by omega
      have hk2 : (k : Int) < (b.length : Int) := by omega
      clear hq hq'
      by_cases he : a[k] = b[k]
      · have HE := Lib.hid he
        have ge : (a[k].toList == b[k].toList) = true := by rw [beq_iff]; exact decide_eq_true he
        clear he
        go_wp2_with fail
        go_quiet (fail)
        go_wp2_with fail
        go_roundw
        case rel => exact ⟨k + 1, by omega, by go_num, fun j h h' hj => by
          rcases Nat.lt_or_ge j k with h1 | h1
          · exact HALL.out j h h' h1
          · obtain rfl : j = k := by omega
            exact HE.out, bel_drewN HBL.out _⟩
        case measure => simp [intOf]; omega
      · have E : Hid (decide (a = b) = false) := decide_eq_false fun h => he (by subst h; rfl)
        have ge : (a[k].toList == b[k].toList) = false := by rw [beq_iff]; exact decide_eq_false he
        clear he
        go_wp2_with fail
        go_quiet (fail)
        go_wp2_with fail
        go_ret
        exact ⟨ret_bool E.out.symm, bel_drewN HBL.out _⟩
    · have E : Hid (decide (a = b) = true) := decide_eq_true (List.ext_getElem HL.out fun i h1 h2 => HALL.out i h1 h2 (by omega))
      go_wp2_with fail
      go_ret
      exact ⟨ret_bool E.out.symm, HBL.out⟩
set_option maxHeartbeats 4000000 in
set_option maxRecDepth 100000 in
theorem rfield_any {t : T} {v : Value} {s : ByteArray} {w : World} {B : Nat} (hf : t.Fit) (hB : B ≤ w.heap.size) (ht : TypeV w B t v) :
    Calls Tryz.prog 73 #[v, .string s] w fun e w' => e = .returned (.int .i64 (fieldOf t s)) ∧ Below w.heap.size w w' := by
  obtain ⟨v0, v1, v2, v3, v4, v5, rfl, hin⟩ := ht
  obtain ⟨A3, d3, A4, d4, A5, d5, rfl, rfl, rfl, rfl, rfl, rfl⟩ := hin.forms
  have HFV := Lib.hid hin.fields_
  obtain ⟨hl0, hl1, hl2, _, _, _⟩ := hf.parts
  clear hin hf
  go_enter Tryz.func73, Tryz.ntmps73
  go_wp2_with fail
  obtain ⟨W2, hW2⟩ : ∃ W2, W2 = w.alloc (.cells #[.int .i64 t.kind, .int .i64 t.lo, .int .i64 t.hi, .slice A3 t.names.length d3, .slice A4 t.fields.length d4, .slice A5 t.of.length d5] 26) := ⟨_, rfl⟩
  have HBX : Hid (Box6 W2 w.heap.size (.int .i64 t.kind) (.int .i64 t.lo) (.int .i64 t.hi) (.slice A3 t.names.length d3) (.slice A4 t.fields.length d4) (.slice A5 t.of.length d5)) := by rw [hW2]; exact Box6.new w _ _ _ _ _ _
  have HBL : Hid (Below w.heap.size w W2) := by rw [hW2]; exact (Below.refl _ _).alloc (Nat.le_refl _) _
  rw [← hW2]
  clear hW2
  obtain ⟨q0, q1, q2, q3, q4, q5⟩ := HBX.out.cells
  by_cases hkd : t.kind = 1
  rotate_left
  · have E : Hid (fieldOf t s = -1) := by show fieldOf t s = -1; unfold fieldOf; rw [if_neg hkd]
    have gk : (t.kind == 1) = false := by rw [beq_eq_false_iff_ne]; exact hkd
    clear hkd
    go_loop [5] (fun i => i = .int .i64 0) (fun _ => 0)
    case atStart => rfl
    case round =>
      obtain rfl := hrel
      go_wp2_with fail
      all_goals (go_ret; exact ⟨ret_int E.out.symm, HBL.out⟩)
  have HK := Lib.hid hkd
  rw [hkd] at q0
  clear hkd
  go_loop [5] (fun i => ∃ k : Nat, k ≤ t.fields.length ∧ i = .int .i64 k ∧ ∀ (j : Nat) (h : j < t.fields.length), j < k → calledB s t.fields[j] = false) (fun i => t.fields.length - (intOf i).toNat)
  case atStart => exact ⟨0, Nat.zero_le _, rfl, fun j _ hj => absurd hj (by omega)⟩
  case round =>
    obtain ⟨k, hk, rfl, hall⟩ := hrel
    have HALL := Lib.hid hall
    clear hall
    by_cases hlt : k < t.fields.length
    · have hk0 : (0 : Int) ≤ (k : Int) := by omega
      have hk1 : (k : Int) < (t.fields.length : Int) := by omega
      obtain ⟨b, off, rfl, hbb, s6, _⟩ := HFV.out.kid HBL.out hB hlt
      by_cases he : (t.fields[k]).name = s
      · have E : Hid (fieldOf t s = k) := by
          show fieldOf t s = k
          unfold fieldOf
          rw [if_pos HK.out]
          exact fieldIdx_at hlt (by simp [calledB, he]) fun j hj => HALL.out j (by omega) hj
        have ge : ((t.fields[k]).name.toList == s.toList) = true := by rw [beq_iff]; exact decide_eq_true he
        clear he
        go_wp2_with fail
        go_ret
        exact ⟨ret_int E.out.symm, HBL.out⟩
      · have HE : Hid (calledB s t.fields[k] = false) := by show calledB s t.fields[k] = false; simp [calledB, he]
        have ge : ((t.fields[k]).name.toList == s.toList) = false := by rw [beq_iff]; exact decide_eq_false he
        clear he
        go_wp2_with fail
        go_round
        case rel => exact ⟨k + 1, by omega, by go_num, fun j h hj => by
          rcases Nat.lt_or_ge j k with h1 | h1
          · exact HALL.out j h h1
          · obtain rfl : j = k := by omega
            exact HE.out⟩
        case measure => simp [intOf]; omega
    · have E : Hid (fieldOf t s = -1) := by
        show fieldOf t s = -1
        unfold fieldOf
        rw [if_pos HK.out]
        exact fieldIdx_none fun i h => HALL.out i h (by omega)
      go_wp2_with fail
      go_ret
      exact ⟨ret_int E.out.symm, HBL.out⟩
end Go.Proofs.YteecdmceleanjaaGreatDoor
namespace Go.Proofs.YteecdmceleanjaaGreatDoor
open Go.RowKit

theorem allT_flat {t : T} (h1 : t.kind ≠ 1) (h2 : t.kind ≠ 2) (h3 : t.kind ≠ 3) : allT t = soundT t := by
  rw [allT_eq]
  cases hs : soundT t with
  | false => rfl
  | true =>
    have : t.fields.length = 0 ∧ t.of.length = 0 := by
      unfold soundT at hs
      rw [if_neg h1, if_neg (by omega)] at hs
      split at hs
      · simp only [Bool.and_eq_true, decide_eq_true_eq] at hs; exact ⟨hs.1, hs.2.2.2⟩
      split at hs
      · simp only [Bool.and_eq_true, decide_eq_true_eq] at hs; exact ⟨hs.1, hs.2.2.2⟩
      split at hs
      · simp only [Bool.and_eq_true, decide_eq_true_eq] at hs; exact ⟨hs.1, hs.2.2.2.2.2⟩
      split at hs
      · simp only [Bool.and_eq_true, decide_eq_true_eq] at hs; exact ⟨hs.1, hs.2.2.1⟩
      · cases hs
    have hk : t.kids = [] := by
      have e1 := List.eq_nil_of_length_eq_zero this.1
      have e2 := List.eq_nil_of_length_eq_zero this.2
      simp [T.kids, e1, e2]
    rw [hk]; rfl

/-- What stands in the way at once. -/
def NoShape (t : T) : Prop := t.kind < 1 ∨ 7 < t.kind ∨ (t.kind ≠ 1 ∧ 0 < t.fields.length) ∨ (t.kind ≠ 7 ∧ 0 < t.names.length) ∨ (t.kind ≠ 2 ∧ t.kind ≠ 3 ∧ 0 < t.of.length)
theorem allT_shape {t : T} (h : NoShape t) : allT t = false := by
  rw [allT_eq]
  have : soundT t = false := by
    rw [← Bool.not_eq_true]
    intro hs
    unfold NoShape at h
    unfold soundT at hs
    split at hs
    · simp only [Bool.and_eq_true, decide_eq_true_eq] at hs; obtain ⟨a1, a2, a3, a4⟩ := hs; omega
    split at hs
    · simp only [Bool.and_eq_true, decide_eq_true_eq] at hs; obtain ⟨a1, a2, a3, a4, a5⟩ := hs; omega
    split at hs
    · simp only [Bool.and_eq_true, decide_eq_true_eq] at hs; obtain ⟨a1, a2, a3, a4⟩ := hs; omega
    split at hs
    · simp only [Bool.and_eq_true, decide_eq_true_eq] at hs; obtain ⟨a1, a2, a3, a4⟩ := hs; omega
    split at hs
    · simp only [Bool.and_eq_true, decide_eq_true_eq] at hs; obtain ⟨a1, a2, a3, a4, a5, a6⟩ := hs; omega
    split at hs
    · simp only [Bool.and_eq_true, decide_eq_true_eq] at hs; obtain ⟨a1, a2, a3, a4⟩ := hs; omega
    · cases hs
  rw [this]; rfl
theorem soundT4 {t : T} (h : t.kind = 4) : soundT t = (decide (t.fields.length = 0) && (decide (t.names.length = 0) && (decide (t.lo ≤ t.hi) && decide (t.of.length = 0)))) := by
  unfold soundT; rw [if_neg (by omega), if_neg (by omega), if_pos h]
theorem soundT5 {t : T} (h : t.kind = 5) : soundT t = (decide (t.fields.length = 0) && (decide (t.names.length = 0) && (unrB t && decide (t.of.length = 0)))) := by
  unfold soundT; rw [if_neg (by omega), if_neg (by omega), if_neg (by omega), if_pos h]
theorem soundT6 {t : T} (h : t.kind = 6) : soundT t = (decide (t.fields.length = 0) && (decide (t.names.length = 0) && (decide (0 ≤ t.lo) && (decide (t.lo ≤ t.hi) && (decide (t.hi ≤ 256) && decide (t.of.length = 0)))))) := by
  unfold soundT; rw [if_neg (by omega), if_neg (by omega), if_neg (by omega), if_neg (by omega), if_pos h]
theorem soundT7 {t : T} (h : t.kind = 7) : soundT t = (decide (t.fields.length = 0) && (unrB t && (decide (t.of.length = 0) && namedB t.names))) := by
  unfold soundT; rw [if_neg (by omega), if_neg (by omega), if_neg (by omega), if_neg (by omega), if_neg (by omega), if_pos h]
theorem soundT2 {t : T} (h : t.kind = 2 ∨ t.kind = 3) : soundT t = (decide (t.fields.length = 0) && (decide (t.names.length = 0) && (decide (0 ≤ t.lo) && (decide (t.lo ≤ t.hi) && decide (t.of.length = 1))))) := by
  unfold soundT; rw [if_neg (by omega), if_pos h]
theorem soundT1 {t : T} (h : t.kind = 1) : soundT t = (decide (t.names.length = 0) && (unrB t && (decide (t.of.length = 0) && fieldedB t.fields))) := by
  unfold soundT; rw [if_pos h]
end Go.Proofs.YteecdmceleanjaaGreatDoor
namespace Go.Proofs.YteecdmceleanjaaGreatDoor
open Go.RowKit

set_option maxHeartbeats 8000000 in
set_option maxRecDepth 100000 in
theorem rpart_flat {t : T} {A3 A4 A5 : Option Addr} {d3 d4 d5 : Nat} {w : World} (h : ¬ NoShape t) (hk : t.kind = 4 ∨ t.kind = 5 ∨ t.kind = 6) :
    Calls Tryz.prog 109 #[.agg #[.int .i64 t.kind, .int .i64 t.lo, .int .i64 t.hi, .slice A3 t.names.length d3, .slice A4 t.fields.length d4, .slice A5 t.of.length d5]] w fun e w' => e = .returned (.bool (allT t)) ∧ Below w.heap.size w w' := by
  have hz : t.fields.length = 0 ∧ t.names.length = 0 ∧ t.of.length = 0 := by
    unfold NoShape at h
    omega
  clear h
  obtain ⟨z1, z2, z3⟩ := hz
  rcases hk with hk | hk | hk
  · have E : Hid (allT t = decide (t.lo ≤ t.hi)) := by show allT t = _; rw [allT_flat (by omega) (by omega) (by omega), soundT4 hk]; simp [z1, z2, z3]
    rw [hk, z1, z2, z3]
    clear hk z1 z2 z3
    go_enter Tryz.func109, Tryz.ntmps109
    go_wp2_with fail
    all_goals (go_ret; refine ⟨ret_bool ?_, (Below.refl _ _).alloc (Nat.le_refl _) _⟩; rw [E.out]; try (rw [Bool.eq_iff_iff]; simp only [decide_eq_true_eq, Bool.false_eq_true, Bool.true_eq_false, false_iff, true_iff]; omega))
  · have E : Hid (allT t = (decide (t.lo = 0) && decide (t.hi = 0))) := by show allT t = _; rw [allT_flat (by omega) (by omega) (by omega), soundT5 hk]; simp [z1, z2, z3, unrB]
    rw [hk, z1, z2, z3]
    clear hk z1 z2 z3
    go_enter Tryz.func109, Tryz.ntmps109
    go_wp2_with fail
    all_goals (go_ret; refine ⟨ret_bool ?_, (Below.refl _ _).alloc (Nat.le_refl _) _⟩; rw [E.out]; rw [Bool.eq_iff_iff]; simp_all)
  · have E : Hid (allT t = (decide (0 ≤ t.lo) && (decide (t.lo ≤ t.hi) && decide (t.hi ≤ 256)))) := by show allT t = _; rw [allT_flat (by omega) (by omega) (by omega), soundT6 hk]; simp [z1, z2, z3]
    rw [hk, z1, z2, z3]
    clear hk z1 z2 z3
    go_enter Tryz.func109, Tryz.ntmps109
    go_wp2_with fail
    all_goals (go_ret; refine ⟨ret_bool ?_, (Below.refl _ _).alloc (Nat.le_refl _) _⟩; rw [E.out]; rw [Bool.eq_iff_iff]; simp only [Bool.and_eq_true, decide_eq_true_eq, Bool.false_eq_true, false_iff]; omega)

end Go.Proofs.YteecdmceleanjaaGreatDoor
