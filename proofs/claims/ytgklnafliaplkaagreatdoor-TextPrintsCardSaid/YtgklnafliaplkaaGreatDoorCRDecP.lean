/-
  The document's own decimals.
-/
import Derived.Test.YtgklnafliaplkaaGreatDoorB01
import Derived.Test.YtgklnafliaplkaaGreatDoorB30
import Derived.Lib.ItoaMem
import Derived.Lib.ItoaLen
import Derived.IntWalk
namespace Go.Proofs.YtgklnafliaplkaaGreatDoor
open Go.RowKit

/-- A number's last digit. -/
def dgC (m : Nat) : UInt8 := UInt8.ofNat (48 + m % 10)
theorem dgC_nat (m : Nat) : ((dgC m).toNat : Int) = 48 + ((m % 10 : Nat) : Int) := by
  unfold dgC
  rw [UInt8.toNat_ofNat']
  omega
/-- The digits that are left, and those that are told. -/
def DecSt (u m : Nat) (sl : List UInt8) : Prop := Lib.decDigits u = (if m = 0 then [] else Lib.decDigits m) ++ sl
theorem DecSt.step {u m : Nat} {sl : List UInt8} (h : DecSt u m sl) (hm : m ≠ 0) : DecSt u (m / 10) (dgC m :: sl) := by
  unfold DecSt at h ⊢
  rw [if_neg hm] at h
  rw [h]
  by_cases h10 : m < 10
  · rw [if_pos (by omega), Lib.decDigits_one h10]
    unfold dgC
    rw [Nat.mod_eq_of_lt h10]
    rfl
  · rw [if_neg (by omega), Lib.decDigits, dif_neg h10]
    unfold dgC
    simp
theorem DecSt.last {u : Nat} {sl : List UInt8} (h : DecSt u 0 sl) : sl = Lib.decDigits u := by
  unfold DecSt at h
  simpa using h.symm
theorem DecSt.len {u m : Nat} {sl : List UInt8} (h : DecSt u m sl) (hu : u ≤ 9223372036854775808) : sl.length ≤ 30 := by
  have h1 : (Lib.decDigits u).length ≤ 30 := by
    have h2 := Lib.itoa_length_le (-(u : Int)) (by omega) (by omega)
    rcases Nat.eq_zero_or_pos u with h0 | h0
    · subst h0; rw [Lib.decDigits_one (by omega)]; simp
    · rw [Lib.itoa_neg u h0] at h2; simp only [List.length_cons] at h2; omega
  unfold DecSt at h
  rw [h, List.length_append] at h1
  omega
/-- A sign's number. -/
def sgN (neg : Bool) (m : Nat) : Int := if neg then -(m : Int) else (m : Int)
theorem sg_rem (neg : Bool) (m : Nat) : (sgN neg m).tmod 10 = sgN neg (m % 10) := by
  cases neg
  · show ((m : Int)).tmod 10 = ((m % 10 : Nat) : Int)
    rw [Int.tmod_eq_emod_of_nonneg (by omega)]; omega
  · show (-(m : Int)).tmod 10 = -((m % 10 : Nat) : Int)
    rw [Int.neg_tmod, Int.tmod_eq_emod_of_nonneg (by omega)]; omega
theorem sg_quo (neg : Bool) (m : Nat) : (sgN neg m).tdiv 10 = sgN neg (m / 10) := by
  cases neg
  · show ((m : Int)).tdiv 10 = ((m / 10 : Nat) : Int)
    rw [Int.tdiv_eq_ediv_of_nonneg (by omega)]; omega
  · show (-(m : Int)).tdiv 10 = -((m / 10 : Nat) : Int)
    rw [Int.neg_tdiv, Int.tdiv_eq_ediv_of_nonneg (by omega)]; omega
set_option maxHeartbeats 2000000 in
set_option maxRecDepth 100000 in
theorem rdec_any (n : Int) (w : World) (hn1 : -9223372036854775808 ≤ n) (hn2 : n ≤ 9223372036854775807) : Calls Tryz.prog 31 #[.int .i64 n] w fun e w' => e = .returned (.string ⟨(Lib.itoa n).toArray⟩) ∧ Below w.heap.size w w' := by
  by_cases h0 : n = 0
  · subst h0
    have E := Lib.hid (show Lib.itoa 0 = [48] by
      have h := Lib.itoa_nonneg 0
      rw [Lib.decDigits_one (by omega)] at h
      exact h)
    go_enter Tryz.func31, Tryz.ntmps31
    go_wp2_with fail
    go_ret
    exact ⟨by rw [E.out]; rfl, Below.refl _ _⟩
  have e0 : (n == 0) = false := by simp [h0]
  obtain ⟨u, hu⟩ : ∃ u, u = n.natAbs := ⟨_, rfl⟩
  have hub : u ≤ 9223372036854775808 := by omega
  obtain ⟨neg, hneg⟩ : ∃ neg : Bool, neg = decide (n < 0) := ⟨_, rfl⟩
  have HNS : Hid (n = sgN neg u) := Lib.hid (by
    unfold sgN
    rw [hneg, hu]
    by_cases h : n < 0
    · rw [if_pos (by simpa using h)]; omega
    · rw [if_neg (by simpa using h)]; omega)
  have HU0 := Lib.hid (show u ≠ 0 by omega)
  have HNEG := Lib.hid hneg
  have HUB := Lib.hid hub
  clear hu hneg h0
  go_enter Tryz.func31, Tryz.ntmps31
  go_wp2_with fail
  go_loopw [3, 4] (fun t k wr => ∃ (m : Nat) (kv : Int) (sl : List UInt8), m ≤ u ∧ t = .string ⟨sl.toArray⟩ ∧ k = .int .i64 kv ∧ Hid (kv = sgN neg m) ∧ Hid (DecSt u m sl) ∧ Hid (Below w.heap.size w wr)) (fun _ k _ => (intOf k).natAbs)
  case atStart => exact ⟨u, n, [], Nat.le_refl _, rfl, rfl, HNS, Lib.hid (by unfold DecSt; rw [if_neg HU0.out, List.append_nil]), Lib.hid (Below.refl _ _)⟩
  case round =>
    obtain ⟨m, kv, sl, hm, rfl, rfl, HKV, HD, HB⟩ := hrel
    have hsl := HD.out.len HUB.out
    have hsz : (⟨sl.toArray⟩ : ByteArray).size ≤ 30 := by show sl.toArray.size ≤ _; simpa using hsl
    have hzr := HB.out.size
    by_cases hm0 : m = 0
    · obtain rfl : kv = 0 := by rw [HKV.out, hm0]; cases neg <;> rfl
      subst hm0
      have HL := Lib.hid HD.out.last
      cases neg with
      | true =>
        have hlt : n < 0 := by simpa using HNEG.out.symm
        have E : Hid (Lib.itoa n = 45 :: sl) := Lib.hid (by
          rw [HNS.out, HL.out]
          show Lib.itoa (-(u : Int)) = _
          rw [Lib.itoa_neg u (by have := HU0.out; omega)])
        go_wp2_with fail
        go_ret
        refine ⟨?_, HB.out⟩
        rw [E.out, show (45 :: sl) = [45] ++ sl from rfl, ← str_append]; rfl
      | false =>
        have hlt : ¬ n < 0 := by simpa using HNEG.out.symm
        have E : Hid (Lib.itoa n = sl) := Lib.hid (by
          rw [HNS.out, HL.out]
          show Lib.itoa (u : Int) = _
          rw [Lib.itoa_nonneg u])
        go_wp2_with fail
        go_ret
        refine ⟨?_, HB.out⟩
        rw [E.out]; rfl
    · have hm1 : 1 ≤ m := by omega
      have hk := HKV.out
      have e1 : (kv != 0) = true := by rw [hk]; cases neg <;> simp [sgN, hm0]
      have hb1 : -9223372036854775808 ≤ kv := by rw [hk]; cases neg <;> simp [sgN] <;> omega
      have hb2 : kv ≤ 9223372036854775807 := by
        cases neg with
        | true => rw [hk]; simp [sgN]; try omega
        | false => have := HNS.out; rw [hk]; simp [sgN] at this ⊢; omega
      have hr := sg_rem neg m
      have hq := sg_quo neg m
      rw [← hk] at hr hq
      obtain ⟨dv, hdv⟩ : ∃ dv, dv = m % 10 := ⟨_, rfl⟩
      obtain ⟨rv, hrv⟩ : ∃ rv, rv = sgN neg dv := ⟨_, rfl⟩
      obtain ⟨qv, hqv⟩ : ∃ qv, qv = sgN neg (m / 10) := ⟨_, rfl⟩
      have HQ := Lib.hid hqv
      have hqb : -9223372036854775808 ≤ qv ∧ qv ≤ 9223372036854775807 := by
        rw [hk] at hb1 hb2
        rw [hqv]
        cases neg <;> simp only [sgN, if_true, Bool.false_eq_true, if_false] at hb1 hb2 ⊢ <;> omega
      obtain ⟨hqb1, hqb2⟩ := hqb
      have hd9 : dv ≤ 9 := by omega
      rw [← hdv, ← hrv] at hr
      rw [← hqv] at hq
      have HST := Lib.hid (HD.out.step hm0)
      have HMS := Lib.hid (show (intOf (.int .i64 qv)).natAbs < (intOf (.int .i64 kv)).natAbs by rw [hqv, hk]; cases neg <;> simp [intOf, sgN] <;> omega)
      have ec := run_conv1 wr (g := wr.heap.size) rfl (dgC m)
      rw [dgC_nat, ← hdv] at ec
      have hle : m / 10 ≤ u := by omega
      have hrv2 : rv = (dv : Int) ∨ rv = -(dv : Int) := by rw [hrv]; cases neg <;> simp [sgN]
      clear hdv hm0 hk hqv hrv hm1
      by_cases hneg : rv < 0
      · have hd2 : -rv = (dv : Int) := by omega
        have hd3 : -9 ≤ rv := by omega
        clear hrv2
        go_wp2_with fail
        go_roundw
        case rel => exact ⟨m / 10, qv, _, hle, by rw [show dgC m :: sl = [dgC m] ++ sl from rfl, ← str_append], by first | rfl | go_num, HQ, HST, Lib.hid (HB.out.alloc hzr _)⟩
        case measure => exact HMS.out
      · obtain rfl : rv = (dv : Int) := by omega
        clear hrv2
        go_wp2_with fail
        go_roundw
        case rel => exact ⟨m / 10, qv, _, hle, by rw [show dgC m :: sl = [dgC m] ++ sl from rfl, ← str_append], by first | rfl | go_num, HQ, HST, Lib.hid (HB.out.alloc hzr _)⟩
        case measure => exact HMS.out
end Go.Proofs.YtgklnafliaplkaaGreatDoor
