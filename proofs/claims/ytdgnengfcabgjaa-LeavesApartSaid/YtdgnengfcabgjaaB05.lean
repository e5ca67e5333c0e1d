/-
  
-/
import Derived.Test.YtdgnengfcabgjaaProg
import Derived.Test.YtdgnengfcabgjaaB01
import Derived.Lib.Hide
import Derived.WalkLawsBesides
import Derived.WalkSpells
namespace Go.Proofs.Ytdgnengfcabgjaa
open Go.RowKit

def smallB (c : UInt8) : Bool := decide (97 ≤ c.toNat) && decide (c.toNat ≤ 122)
def digitB (c : UInt8) : Bool := decide (48 ≤ c.toNat) && decide (c.toNat ≤ 57)
/-- May this byte stand at that place of a name? -/
def okAt (i : Nat) (c : UInt8) : Bool := smallB c || (decide (0 < i) && (digitB c || decide (c.toNat = 95)))
def nameB (s : ByteArray) : Bool := decide (1 ≤ s.size) && decide (s.size ≤ 16) && decide (∀ (i : Nat) (h : i < s.size), okAt i s[i] = true)

theorem nameB_true {s : ByteArray} (h1 : 1 ≤ s.size) (h2 : s.size ≤ 16) (h3 : ∀ (i : Nat) (h : i < s.size), okAt i s[i] = true) : nameB s = true := by
  simp only [nameB, Bool.and_eq_true, decide_eq_true_eq]; exact ⟨⟨h1, h2⟩, h3⟩
theorem nameB_short {s : ByteArray} (h1 : s.size = 0) : nameB s = false := by
  simp only [nameB, Bool.and_eq_false_imp, h1]; simp
theorem nameB_long {s : ByteArray} (h1 : 16 < s.size) : nameB s = false := by
  simp only [nameB]; rw [show decide (s.size ≤ 16) = false from by simp; omega]; simp
theorem nameB_bad {s : ByteArray} (i : Nat) (h : i < s.size) (h3 : okAt i s[i] = false) : nameB s = false := by
  simp only [nameB]
  rw [show decide (∀ (i : Nat) (h : i < s.size), okAt i s[i] = true) = false from by
    rw [decide_eq_false_iff_not]; intro hh; rw [hh i h] at h3; cases h3]
  simp

theorem ret_bool {a b : Bool} (h : a = b) : Ending.returned (.bool a) = .returned (.bool b) := by rw [h]
theorem ret_int {k : IntKind} {a b : Int} (h : a = b) : Ending.returned (.int k a) = .returned (.int k b) := by rw [h]
set_option maxHeartbeats 400000 in
theorem small_any (c : UInt8) (w : World) : Calls Try.prog 101 #[.int .u8 (c.toNat : Int)] w fun e w' => e = .returned (.bool (smallB c)) ∧ w = w' := by
  go_enter Try.func101, Try.ntmps101
  go_wp2
  all_goals (go_ret; refine ⟨ret_bool ?_, rfl⟩; rw [Bool.eq_iff_iff]; simp [smallB]; omega)

set_option maxHeartbeats 400000 in
theorem digit_any (c : UInt8) (w : World) : Calls Try.prog 102 #[.int .u8 (c.toNat : Int)] w fun e w' => e = .returned (.bool (digitB c)) ∧ w = w' := by
  go_enter Try.func102, Try.ntmps102
  go_wp2
  all_goals (go_ret; refine ⟨ret_bool ?_, rfl⟩; rw [Bool.eq_iff_iff]; simp [digitB]; omega)

theorem toList_empty {s : ByteArray} (h : s.size = 0) : s.toList.isEmpty = true := by
  rw [List.isEmpty_iff]
  exact List.eq_nil_of_length_eq_zero (by rw [ByteArray.toList_eq]; exact h)
theorem toList_some {s : ByteArray} (h : 0 < s.size) : s.toList.isEmpty = false := by
  cases hh : s.toList.isEmpty with
  | false => rfl
  | true =>
    rw [List.isEmpty_iff, ByteArray.toList_eq] at hh
    have : s.data.toList.length = s.size := rfl
    rw [hh] at this; simp at this; omega
set_option maxHeartbeats 800000 in
theorem name_any (s : ByteArray) (w : World) : Calls Try.prog 98 #[.string s] w fun e w' => e = .returned (.bool (nameB s)) ∧ w = w' := by
  rcases Nat.lt_or_ge 16 s.size with hl | hl
  · have E := Lib.hid (nameB_long hl)
    have h0 := toList_some (s := s) (by omega)
    go_enter Try.func98, Try.ntmps98
    go_wp2_with fail
    go_ret
    exact ⟨ret_bool E.out.symm, rfl⟩
  rcases Nat.eq_zero_or_pos s.size with h0 | h0
  · have E := Lib.hid (nameB_short h0)
    have h0' : s.toList.isEmpty = true := toList_empty h0
    go_enter Try.func98, Try.ntmps98
    go_wp2_with fail
    all_goals (go_ret; exact ⟨ret_bool E.out.symm, rfl⟩)
  have h0' := toList_some h0
  by_cases hs0 : smallB s[0] = true
  · go_enter Try.func98, Try.ntmps98
    go_wp2_with fail
    refine (small_any s[0] _).mono ?_
    rintro e w' ⟨rfl, rfl⟩
    go_wp2_with fail
    go_loop [3] (fun i => ∃ k : Nat, 1 ≤ k ∧ k ≤ s.size ∧ i = .int .i64 k ∧ ∀ (j : Nat) (h : j < s.size), j < k → okAt j s[j] = true) (fun i => s.size - (intOf i).toNat)
    case atStart => exact ⟨1, Nat.le_refl _, h0, rfl, fun j h hj => by obtain rfl : j = 0 := by omega
                                                                       simp [okAt, hs0]⟩
    case round =>
      obtain ⟨k, hk1, hk2, rfl, hall⟩ := hrel
      have HA := Lib.hid hall; clear hall
      by_cases hlt : k < s.size
      · cases hsm : smallB s[k] with
        | true =>
          have OK : Hid (okAt k s[k] = true) := by show okAt k s[k] = true; simp [okAt, hsm]
          go_wp2_with fail
          refine (small_any s[k] _).mono ?_
          rintro e w' ⟨rfl, rfl⟩
          go_wp2_with fail
          go_round
          case rel => exact ⟨k + 1, by omega, by omega, by go_num, fun j h hj => by
            rcases Nat.lt_or_ge j k with hjk | hjk
            · exact HA.out j h hjk
            · obtain rfl : j = k := by omega
              exact OK.out⟩
          case measure => simp [intOf]; omega
        | false =>
          cases hdg : digitB s[k] with
          | true =>
            have OK : Hid (okAt k s[k] = true) := by show okAt k s[k] = true; simp [okAt, hdg]; omega
            go_wp2_with fail
            refine (small_any s[k] _).mono ?_
            rintro e w' ⟨rfl, rfl⟩
            go_wp2_with fail
            refine (digit_any s[k] _).mono ?_
            rintro e w' ⟨rfl, rfl⟩
            go_wp2_with fail
            go_round
            case rel => exact ⟨k + 1, by omega, by omega, by go_num, fun j h hj => by
              rcases Nat.lt_or_ge j k with hjk | hjk
              · exact HA.out j h hjk
              · obtain rfl : j = k := by omega
                exact OK.out⟩
            case measure => simp [intOf]; omega
          | false =>
            by_cases hu : s[k].toNat = 95
            · have OK : Hid (okAt k s[k] = true) := by show okAt k s[k] = true; simp [okAt, hu]; omega
              have hu' : (!((s[k].toNat : Int) == 95)) = false := by simp [hu]
              have hu2 : ((s[k].toNat : Int) != 95) = false := by simp [hu]
              clear hu
              go_wp2_with fail
              refine (small_any s[k] _).mono ?_
              rintro e w' ⟨rfl, rfl⟩
              go_wp2_with fail
              refine (digit_any s[k] _).mono ?_
              rintro e w' ⟨rfl, rfl⟩
              go_wp2_with fail
              go_round
              case rel => exact ⟨k + 1, by omega, by omega, by go_num, fun j h hj => by
                rcases Nat.lt_or_ge j k with hjk | hjk
                · exact HA.out j h hjk
                · obtain rfl : j = k := by omega
                  exact OK.out⟩
              case measure => simp [intOf]; omega
            · have E := Lib.hid (nameB_bad (s := s) k hlt (by simp [okAt, hsm, hdg, hu]))
              have hu2 : ((s[k].toNat : Int) != 95) = true := by simp; omega
              clear hu
              go_wp2_with fail
              refine (small_any s[k] _).mono ?_
              rintro e w' ⟨rfl, rfl⟩
              go_wp2_with fail
              refine (digit_any s[k] _).mono ?_
              rintro e w' ⟨rfl, rfl⟩
              go_wp2_with fail
              go_ret
              exact ⟨ret_bool E.out.symm, rfl⟩
      · have E := Lib.hid (nameB_true (s := s) (by omega) hl (fun j h => HA.out j h (by omega)))
        go_wp2_with fail
        go_ret
        exact ⟨ret_bool E.out.symm, rfl⟩
  · have E := Lib.hid (nameB_bad (s := s) 0 h0 (by simpa [okAt] using hs0))
    have hs0' : smallB s[0] = false := by simpa using hs0
    clear hs0
    go_enter Try.func98, Try.ntmps98
    go_wp2_with fail
    refine (small_any s[0] _).mono ?_
    rintro e w' ⟨rfl, rfl⟩
    go_wp2_with fail
    go_ret
    exact ⟨ret_bool E.out.symm, rfl⟩
end Go.Proofs.Ytdgnengfcabgjaa
