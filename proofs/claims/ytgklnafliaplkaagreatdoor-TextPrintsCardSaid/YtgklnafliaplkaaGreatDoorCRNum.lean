/-
  The document's own Number.
-/
import Derived.Test.YtgklnafliaplkaaGreatDoorCRNumP
import Derived.Test.YtgklnafliaplkaaGreatDoorB24
namespace Go.Proofs.YtgklnafliaplkaaGreatDoor
open Go.RowKit

/-- Cut towards nought: when one digit more is too much. -/
theorem over_iff {nv : Int} {N d : Nat} (hn : nv = -(N : Int)) (hd : d ≤ 9) : nv < ((-9223372036854775808 + (d : Int)).tdiv 10) ↔ M63 < N * 10 + d := by
  have e : (-9223372036854775808 + (d : Int)).tdiv 10 = -((9223372036854775808 - (d : Int)) / 10) := by
    rw [show (-9223372036854775808 + (d : Int)) = -(9223372036854775808 - (d : Int)) by omega, Int.neg_tdiv, Int.tdiv_eq_ediv_of_nonneg (by omega)]
  rw [e]
  unfold M63
  omega
theorem ret_num {o o' : Option Int} (h : o = o') : Ending.returned (.tuple #[numS o, .bool o.isSome]) = Ending.returned (.tuple #[numS o', .bool o'.isSome]) := by rw [h]
set_option maxHeartbeats 2000000 in
set_option maxRecDepth 100000 in
theorem rnumber_any (s : ByteArray) (w : World) (hs : s.size ≤ 1000000) : Calls Tryz.prog 12 #[.string s] w fun e w' => e = .returned (.tuple #[numS (numP s.data.toList), .bool (numP s.data.toList).isSome]) ∧ w = w' := by
  have HI := Lib.hid (rinteger_any s w hs)
  by_cases hok : isI s.data.toList = true ∧ restI s.data.toList = []
  · obtain ⟨h1, h2⟩ := hok
    have HP := Lib.hid (numP_I h1 h2)
    have HSH := Lib.hid (fun (k : Nat) (hk : k < s.data.toList.length) => shape_at h1 h2 hk)
    have HNE := Lib.hid (isI_shape h1 h2)
    have hz : s.size - (restI s.data.toList).length = s.size := by rw [h2]; simp
    rw [h1, hz] at HI
    obtain ⟨L, hL⟩ : ∃ L, L = s.data.toList := ⟨_, rfl⟩
    have hll : L.length = s.size := by rw [hL]; rfl
    have hp0 : 0 < s.size := by
      rcases Nat.eq_zero_or_pos s.size with h | h
      · exact absurd (List.eq_nil_of_length_eq_zero (by rw [← hL] at *; omega)) HNE.out.2.1
      · exact h
    have HAT : Hid (∀ (k : Nat) (hk : k < s.size) (hk' : k < L.length), L[k] = s[k]) := Lib.hid (fun k hk hk' => by subst hL; rfl)
    rw [← hL] at HP HSH HNE
    have HPK : Hid (pk L = s[0]) := Lib.hid (by rw [hL]; exact ro_pk hp0)
    have HLL := Lib.hid hll
    have HLE := Lib.hid hL
    have e0 : ((s.size : Int) != (s.size : Int)) = false := by simp
    clear h1 h2 hz hll hL
    have hp : (0 : Int) < (s.size : Int) := by omega
    go_enter Tryz.func12, Tryz.ntmps12
    go_wp2_with fail
    refine HI.out.mono ?_
    rintro e w1 ⟨rfl, rfl⟩
    go_wp2_with fail
    go_loopw [6, 7] (fun n i wr => ∃ (k : Nat) (nv : Int), k ≤ s.size ∧ n = .int .i64 nv ∧ i = .int .i64 k ∧ Hid (nv = -(dgI L k : Nat)) ∧ -9223372036854775808 ≤ nv ∧ nv ≤ 0 ∧ wr = w) (fun _ i _ => s.size - (intOf i).toNat)
    case atStart => exact ⟨0, 0, Nat.zero_le _, rfl, rfl, Lib.hid (by rw [dg_zero]; rfl), by omega, by omega, rfl⟩
    case round =>
      obtain ⟨k, nv, hk, rfl, rfl, HN, hn1, hn2, rfl⟩ := hrel
      by_cases hlt : k < s.size
      · have h1 : (k : Int) < (s.size : Int) := by omega
        have h2 : (0 : Int) ≤ (k : Int) := by omega
        rcases HSH.out k (by rw [HLL.out]; exact hlt) with ⟨q1, q2, q3⟩ | ⟨q1, q2, q3⟩
        · have e45 : ((s[k].toNat : Int) == 45) = true := by rw [← HAT.out k hlt (by rw [HLL.out]; exact hlt), q1]; rfl
          have HN1 : Hid (nv = -(dgI L (k + 1) : Nat)) := Lib.hid (by rw [HN.out, q2, dg_sign q3])
          clear q1 q2 q3
          go_wp2_with fail
          go_roundw
          case rel => exact ⟨k + 1, nv, by omega, rfl, by go_num, HN1, hn1, hn2, by first | rfl | trivial⟩
          case measure => simp [intOf]; omega
        · rw [HAT.out k hlt (by rw [HLL.out]; exact hlt)] at q1 q3
          have hd1 : 48 ≤ s[k].toNat ∧ s[k].toNat ≤ 57 := by simpa [digB] using q1
          have n45 : ¬ s[k].toNat = 45 := by omega
          have e45 : ((s[k].toNat : Int) == 45) = false := by simp; omega
          obtain ⟨d, hd⟩ : ∃ d : Nat, s[k].toNat = 48 + d := ⟨s[k].toNat - 48, by omega⟩
          have hd9 : d ≤ 9 := by omega
          have HST : Hid (dgI L (k + 1) = dgI L k * 10 + d) := Lib.hid (by rw [dg_step (by rw [HLL.out]; exact hlt) q2, HAT.out k hlt (by rw [HLL.out]; exact hlt), hd]; omega)
          have ed : ((s[k].toNat : Int)) = 48 + (d : Int) := by omega
          have HOV := Lib.hid (over_iff (N := dgI L k) (d := d) HN.out hd9)
          have HD := Lib.hid hd
          have hu8 : IntKind.u8.wrap ((s[k].toNat : Int) - 48) = (d : Int) := by rw [IntWalk.u8_in _ (by omega)]; omega
          clear q1 q2 q3 hd1 n45 hd
          by_cases hov : M63 < dgI L k * 10 + d
          · have hq := HOV.out.2 hov
            have HR : Hid (numI L = none) := Lib.hid (by
              have h1 := dg_mono L (k + 1)
              rw [HST.out] at h1
              unfold numI
              unfold bI at h1
              by_cases hp : Go.Proofs.YtgklnafliaplkaaGreatDoor.pk L = 45
              · rw [if_pos hp] at h1 ⊢
                rw [List.drop_one] at h1
                rw [if_neg (by omega)]
              · rw [if_neg hp] at h1 ⊢
                rw [List.drop_zero] at h1
                rw [if_neg (by omega)])
            clear hov ed
            go_wp2_with fail
            go_ret2
            refine ⟨?_, rfl⟩
            rw [← HLE.out, HP.out, HR.out]; rfl
          · have hq : ¬ nv < ((-9223372036854775808 + (d : Int)).tdiv 10) := fun h => hov (HOV.out.1 h)
            have hb : -9223372036854775808 ≤ 10 * nv - (d : Int) := by have h1 := HN.out; unfold M63 at hov; omega
            have hb2 : 10 * nv - (d : Int) ≤ 0 := by omega
            have HN1 : Hid (10 * nv - (d : Int) = -(dgI L (k + 1) : Nat)) := Lib.hid (by have h1 := HN.out; rw [HST.out]; omega)
            have hm : -9223372036854775808 ≤ 10 * nv := by omega
            clear hov ed
            go_wp2_with fail
            go_roundw
            case rel => exact ⟨k + 1, 10 * nv - (d : Int), by omega, by go_num, by go_num, HN1, hb, hb2, by first | rfl | trivial⟩
            case measure => simp [intOf]; omega
      · have hke : k = s.size := by omega
        have h1 : ¬ (k : Int) < (s.size : Int) := by omega
        have HE : Hid (nv = -(foldD 0 (L.drop (bI L)) : Nat)) := Lib.hid (by rw [HN.out, dg_all (by rw [HLL.out]; omega)])
        clear hke
        by_cases h45 : s[0] = 45
        · have e45 : ((s[0].toNat : Int) == 45) = true := by rw [h45]; rfl
          have HR : Hid (numI L = some nv) := Lib.hid (by
            have h1 := HE.out
            have hp : Go.Proofs.YtgklnafliaplkaaGreatDoor.pk L = 45 := by rw [HPK.out, h45]
            unfold numI
            unfold bI at h1
            rw [if_pos hp] at h1 ⊢
            rw [List.drop_one] at h1
            rw [if_pos (by unfold M63; omega), h1])
          clear h45
          go_wp2_with fail
          go_ret2
          refine ⟨?_, rfl⟩
          rw [← HLE.out, HP.out, HR.out]; rfl
        · have n45 : ¬ s[0].toNat = 45 := fun e => h45 (UInt8.toNat_inj.1 e)
          have e45 : ((s[0].toNat : Int) == 45) = false := by simp; omega
          have HNI : Hid (numI L = if foldD 0 L < M63 then some ((foldD 0 L : Nat) : Int) else none) := Lib.hid (by
            have hp : ¬ Go.Proofs.YtgklnafliaplkaaGreatDoor.pk L = 45 := by rw [HPK.out]; exact h45
            unfold numI
            rw [if_neg hp])
          have HEN : Hid (nv = -(foldD 0 L : Nat)) := Lib.hid (by
            have h1 := HE.out
            have hp : ¬ Go.Proofs.YtgklnafliaplkaaGreatDoor.pk L = 45 := by rw [HPK.out]; exact h45
            unfold bI at h1
            rw [if_neg hp, List.drop_zero] at h1
            exact h1)
          clear h45 n45
          by_cases hm : nv = -9223372036854775808
          · have em : (nv == -9223372036854775808) = true := by simp [hm]
            have HR : Hid (numI L = none) := Lib.hid (by rw [HNI.out, if_neg (by have := HEN.out; unfold M63; omega)])
            clear hm
            go_wp2_with fail
            go_ret2
            refine ⟨?_, rfl⟩
            rw [← HLE.out, HP.out, HR.out]; rfl
          · have em : (nv == -9223372036854775808) = false := by simp [hm]
            have hm2 : -9223372036854775807 ≤ nv := by omega
            have HR : Hid (numI L = some (-nv)) := Lib.hid (by
              have := HEN.out
              rw [HNI.out, if_pos (by unfold M63; omega), this]
              simp)
            clear hm
            go_wp2_with fail
            go_ret2
            refine ⟨?_, rfl⟩
            rw [← HLE.out, HP.out, HR.out]; rfl
  · have HP : Hid (numP s.data.toList = none) := Lib.hid (numP_no (by
      cases h : isI s.data.toList with
      | false => exact .inl rfl
      | true => exact .inr fun e => hok ⟨h, e⟩))
    cases hi : isI s.data.toList with
    | false =>
      rw [hi] at HI
      clear hi hok
      go_enter Tryz.func12, Tryz.ntmps12
      go_wp2_with fail
      refine HI.out.mono ?_
      rintro e w1 ⟨rfl, rfl⟩
      go_wp2_with fail
      go_ret2
      refine ⟨?_, rfl⟩
      rw [HP.out]; rfl
    | true =>
      have hne : restI s.data.toList ≠ [] := fun e => hok ⟨hi, e⟩
      have hl := List.length_pos_iff.2 hne
      rw [hi] at HI
      obtain ⟨k, hk⟩ : ∃ k, k = s.size - (restI s.data.toList).length := ⟨_, rfl⟩
      by_cases h0 : s.size = 0
      · exfalso
        have : s.data.toList = [] := List.eq_nil_of_length_eq_zero h0
        rw [this] at hi
        exact absurd hi (by decide)
      have hne2 : k ≠ s.size := by omega
      rw [← hk] at HI
      have e0 : ((k : Int) != (s.size : Int)) = true := by simp; omega
      clear hi hok hne hl hk h0 hne2
      go_enter Tryz.func12, Tryz.ntmps12
      go_wp2_with fail
      refine HI.out.mono ?_
      rintro e w1 ⟨rfl, rfl⟩
      go_wp2_with fail
      go_ret2
      refine ⟨?_, rfl⟩
      rw [HP.out]; rfl
end Go.Proofs.YtgklnafliaplkaaGreatDoor
