/-
  leaves.miss.
-/
import Derived.Test.YtdgnengfcabgjaaB08
import Derived.Test.YtdgnengfcabgjaaB09
import Derived.Test.YtdgnengfcabgjaaB10
import Derived.Deep.RegionLaw
namespace Go.Proofs.Ytdgnengfcabgjaa
open Go.RowKit

theorem missK_next {ls : List Lf} {k : Nat} (h : k + 1 < ls.length) : missK (ls[k]).path (ls.drop (k + 1)) = (!(begs (ls[k]).path ((ls[k + 1]).path.take ((ls[k + 1]).path.length - 1))) || missK (ls[k + 1]).path (ls.drop (k + 2))) := by
  rw [List.drop_eq_getElem_cons h, missK]
theorem missK_end {ls : List Lf} {k : Nat} (p : List ByteArray) (h : ls.length ≤ k + 1) : missK p (ls.drop (k + 1)) = false := by
  rw [List.drop_eq_nil_of_le h]; rfl
theorem Strs_take {w : World} {B : Nat} {A : Option Addr} {p : List ByteArray} {c : Nat} (h : Strs w B (.slice A p.length c) p) (k : Nat) (hk : k ≤ p.length) : Strs w B (.slice A k c) (p.take k) := by
  obtain ⟨A', c', e, hl, h1⟩ := h
  injection e with e1 e2 e3
  subst e1; subst e3
  refine ⟨_, _, by rw [List.length_take, Nat.min_eq_left hk], by rw [List.length_take]; omega, fun h0 => ?_⟩
  rw [List.length_take] at h0
  obtain ⟨b, off, eA, hb, hcl⟩ := h1 (by omega)
  refine ⟨b, off, eA, hb, fun i hi => ?_⟩
  rw [List.length_take] at hi
  rw [hcl i (by omega)]; simp
set_option maxRecDepth 100000 in
set_option maxHeartbeats 2000000 in
/-- In a row in which but the first path none is empty (or the first is not). -/
theorem miss_any {ls : List Lf} {v : Value} {B : Nat} {w : World} (hB : B ≤ w.heap.size) (hx : LvsIn w B v ls) (hlen : ls.length ≤ 100000) (hl : ∀ x ∈ ls, x.path.length ≤ 10000) (hne : ∀ (h : 0 < ls.length), (ls[0]).path.length = 0 → ∀ k, (h : k + 1 < ls.length) → 0 < (ls[k + 1]).path.length) :
    Calls Try.prog 34 #[v] w fun e w' => e = .returned (.bool (missL ls)) ∧ Below w.heap.size w w' := by
  obtain ⟨A, c, rfl, _, hk⟩ := hx
  have HX := Lib.hid hk; have HL := Lib.hid hl; have HNE := Lib.hid hne
  clear hk hl hne
  go_enter Try.func34, Try.ntmps34
  by_cases h0 : ls.length = 0
  · have h0i : (ls.length : Int) = 0 := by omega
    go_wp2_with fail
    go_ret
    obtain rfl : ls = [] := List.eq_nil_of_length_eq_zero h0
    exact ⟨rfl, Below.refl _ _⟩
  · obtain ⟨b, off, rfl, hb, hcx⟩ := HX.out (by omega)
    have h0i : ¬ (ls.length : Int) = 0 := by omega
    have h0p : (0 : Int) < (ls.length : Int) := by omega
    have hbw0 : b < w.heap.size := by omega
    obtain ⟨v0, v1, v2, v3, v4, v5, c0, c1, c2, c3, c4, c5, hsp, _⟩ := hcx 0 (by omega)
    rw [Nat.zero_mul, Nat.add_zero] at c0 c1 c2 c3 c4 c5
    obtain ⟨A0, n0, rfl, _, _⟩ := id hsp
    by_cases hp0 : (ls[0]).path.length = 0
    · have hp0i : ¬ (0 : Int) < ((ls[0]).path.length : Int) := by omega
      have hp0j : ((ls[0]).path.length : Int) = 0 := by omega
      go_wp2_with fail
      go_loopw [3] (fun i wr => ∃ (k : Nat) (hk : k < ls.length), i = .int .i64 ((k : Int) + 1) ∧ Hid (missL ls = missK (ls[k]).path (ls.drop (k + 1))) ∧ Hid (Below w.heap.size w wr)) (fun i _ => ls.length + 1 - (intOf i).toNat)
      case atStart =>
        refine ⟨0, by omega, rfl, Lib.hid ?_, Lib.hid (Below.refl _ _)⟩
        obtain ⟨x, r, rfl⟩ : ∃ x r, ls = x :: r := by
          cases ls with
          | nil => simp at h0
          | cons x r => exact ⟨x, r, rfl⟩
        have : x.path.length = 0 := by simpa using hp0
        simp [missL, this]
      case round =>
        obtain ⟨k, hk0, rfl, HR, HB⟩ := hrel
        clear c0 c1 c2 c3 c4 c5 hsp
        by_cases hlt : k + 1 < ls.length
        · obtain ⟨v0, v1, v2, v3, v4, v5, c0, c1, c2, c3, c4, c5, hsp, _⟩ := hcx k (by omega)
          obtain ⟨u0, u1, u2, u3, u4, u5, d0, d1, d2, d3, d4, d5, hsq, _⟩ := hcx (k + 1) hlt
          have hbw : b < w.heap.size := by omega
          rw [← HB.out.cell (p := ⟨b, _, none⟩) hbw] at c0 d0
          have hs := HB.out.size
          have hlti : (k : Int) + 1 < (ls.length : Int) := by omega
          have hltk : (k : Int) < (ls.length : Int) := by omega
          have hwr : IntKind.i64.wrap (k : Int) = (k : Int) := by rw [IntKind.wrap_i64]; have := hlen; omega
          have h0k : (0 : Int) ≤ (k : Int) + 1 := by omega
          obtain ⟨pl, hpl⟩ : ∃ pl, (ls[k + 1]).path.length = pl + 1 := ⟨(ls[k + 1]).path.length - 1, by have := HNE.out (by omega) hp0 k hlt; omega⟩
          obtain ⟨Aq, nq, rfl, hnq, _⟩ := id hsq
          have htk := Strs_take hsq pl (by omega)
          have hN := missK_next hlt
          rw [show (ls[k + 1]).path.length - 1 = pl by omega] at hN
          have hbd : Below w.heap.size w wr.drew := HB.out.trans ((below_drewN wr 1).mono hs)
          have HC := Lib.hid (begins_any (ls[k]).path ((ls[k + 1]).path.take pl) v0 (.slice Aq pl nq) B wr.drew (hsp.keep fun _ h => hbd.cell (Nat.lt_of_lt_of_le h hB)) (htk.keep fun _ h => hbd.cell (Nat.lt_of_lt_of_le h hB)) (by rw [List.length_take]; have := HL.out _ (List.getElem_mem hlt); omega))
          have HBW := Lib.hid hbd
          have HN := Lib.hid (HR.out.trans hN)
          rw [hpl] at d0 hnq
          have hp1 : ((pl + 1 : Nat) : Int) - 1 = (pl : Int) := by omega
          have hwp : IntKind.i64.wrap (pl : Int) = (pl : Int) := by rw [IntKind.wrap_i64]; have := HL.out _ (List.getElem_mem hlt); omega
          have hp2 : (pl : Int) ≤ (nq : Int) := by omega
          clear hsp hsq htk hbd HR hN c1 c2 c3 c4 c5 d1 d2 d3 d4 d5
          by_cases hz : begs (ls[k]).path ((ls[k + 1]).path.take pl) = true
          · rw [hz] at HC HN
            have HN2 := Lib.hid (HN.out.trans (Bool.false_or _))
            clear HN hz
            go_wp2_with fail
            go_region_law (go_wp2_with fail; go_at_call 58; refine HC.out.mono ?_; rintro e w' ⟨rfl, n, rfl⟩)
            all_goals
              go_wp2_with fail
              go_roundw
              case rel => exact ⟨k + 1, hlt, by first | rfl | go_num, HN2, Lib.hid (HB.out.trans ((below_drewN wr _).mono hs))⟩
              case measure => simp [intOf]; omega
          · have hz2 : begs (ls[k]).path ((ls[k + 1]).path.take pl) = false := by simpa using hz
            rw [hz2] at HC HN
            have HN2 := Lib.hid (HN.out.trans (Bool.true_or _))
            clear HN hz hz2
            go_wp2_with fail
            go_region_law (go_wp2_with fail; go_at_call 58; refine HC.out.mono ?_; rintro e w' ⟨rfl, n, rfl⟩)
            all_goals
              go_wp2_with fail
              go_ret
              exact ⟨by rw [HN2.out]; rfl, HB.out.trans ((below_drewN wr _).mono hs)⟩
        · have hlti : ¬ (k : Int) + 1 < (ls.length : Int) := by omega
          have HN := Lib.hid (HR.out.trans (missK_end _ (by omega)))
          clear HR
          go_wp2_with fail
          go_ret
          exact ⟨by rw [HN.out]; rfl, HB.out⟩
    · have hp0i : (0 : Int) < ((ls[0]).path.length : Int) := by omega
      go_wp2_with fail
      go_ret
      refine ⟨?_, Below.refl _ _⟩
      obtain ⟨x, r, rfl⟩ : ∃ x r, ls = x :: r := by
        cases ls with
        | nil => simp at h0
        | cons x r => exact ⟨x, r, rfl⟩
      have : 0 < x.path.length := by simpa using hp0i
      simp [missL, this]
end Go.Proofs.Ytdgnengfcabgjaa
