/-
  No string is not a number.
  slices.BinarySearch in rising strings: how many are less.
-/
import Derived.Test.YtmnaaohhageihaaDoorB01
import Derived.Test.YtmnaaohhageihaaDoorProg
import Derived.WalkLawsBesides
import Derived.Lib.Hide
import Derived.StillTailTactics
import Derived.IntWalk
namespace Go.Proofs.YtmnaaohhageihaaDoor
open Go.RowKit
theorem isNaNs_any (x : ByteArray) (w : World) : Calls Tryd.prog 85 #[.string x] w fun e w' => e = .returned (.bool false) ∧ w = w' := by
  go_enter Tryd.func85, Tryd.ntmps85
  go_wp2
  go_ret
  exact ⟨rfl, rfl⟩
end Go.Proofs.YtmnaaohhageihaaDoor
namespace Go.Proofs.YtmnaaohhageihaaDoor
open Go.RowKit

/-- Each is less than the next. -/
def Rising (ks : List ByteArray) : Prop := ∀ (i : Nat) (h : i + 1 < ks.length), scmp ks[i] ks[i + 1] = -1
/-- How many stand ahead of s. -/
def placeOf (ks : List ByteArray) (s : ByteArray) : Nat := (ks.takeWhile fun k => decide (scmp k s = -1)).length
theorem placeOf_le (ks : List ByteArray) (s : ByteArray) : placeOf ks s ≤ ks.length := (List.takeWhile_prefix _).length_le
theorem rising_tail {k : ByteArray} {ks : List ByteArray} (h : Rising (k :: ks)) : Rising ks := fun i hi => by
  have := h (i + 1) (by simpa using hi)
  simpa using this
theorem placeOf_lt : ∀ {ks : List ByteArray} {s : ByteArray}, Rising ks → ∀ (t : Nat) (h : t < ks.length), (scmp ks[t] s = -1 ↔ t < placeOf ks s)
  | [], _, _, t, h => by simp at h
  | k :: ks, s, hr, t, h => by
    unfold placeOf
    by_cases hk : scmp k s = -1
    · rw [List.takeWhile_cons_of_pos (by simpa using hk)]
      cases t with
      | zero => simp [hk]
      | succ t =>
        have := placeOf_lt (rising_tail hr) t (by simpa using h) (s := s)
        simp only [List.getElem_cons_succ, List.length_cons]
        rw [this]; unfold placeOf; omega
    · rw [List.takeWhile_cons_of_neg (by simpa using hk)]
      simp only [List.length_nil, Nat.not_lt_zero, iff_false]
      -- all behind are greater still
      have key : ∀ (t : Nat) (h : t < (k :: ks).length), ¬ scmp (k :: ks)[t] s = -1 := by
        intro t
        induction t with
        | zero => intro _; simpa using hk
        | succ t ih =>
          intro h hc
          exact ih (by omega) (scmp_ordered.trans _ _ _ trivial trivial trivial (hr t (by simpa using h)) hc)
      exact key t h
theorem less_place {ks : List ByteArray} {s : ByteArray} (hr : Rising ks) (t : Nat) (h : t < ks.length) : Op.bytesLess ks[t].toList s.toList = decide (t < placeOf ks s) := by
  have := placeOf_lt (s := s) hr t h
  by_cases hs : scmp ks[t] s = -1
  · rw [scmp_lt hs]; simp [this.1 hs]
  · rw [scmp_nlt hs]
    have : ¬ t < placeOf ks s := fun h => hs (this.2 h)
    simp [this]

theorem less_any (x y : ByteArray) (w : World) : Calls Tryd.prog 72 #[.string x, .string y] w fun e w' => e = .returned (.bool (Op.bytesLess x.toList y.toList)) ∧ w = w' := by
  go_enter Tryd.func72, Tryd.ntmps72
  go_wp2_with (go_at_call 85; refine (isNaNs_any _ _).mono ?_; rintro e w' ⟨rfl, rfl⟩)
  go_ret
  exact ⟨rfl, rfl⟩
theorem isNaN2_any (x : ByteArray) (w : World) : Calls Tryd.prog 73 #[.string x] w fun e w' => e = .returned (.bool false) ∧ w = w' := by
  go_enter Tryd.func73, Tryd.ntmps73
  go_wp2
  go_ret
  exact ⟨rfl, rfl⟩

set_option maxHeartbeats 2000000 in
set_option maxRecDepth 100000 in
theorem search_any {ks : List ByteArray} {s : ByteArray} {v : Value} {w : World} {B : Nat} (hv : Strs w B v ks) (hr : Rising ks) (hn : ks.length ≤ 10000) :
    Calls Tryd.prog 58 #[v, .string s] w fun e w' => ∃ f, e = .returned (.tuple #[.int .i64 (placeOf ks s : Nat), .bool f]) ∧ w = w' := by
  obtain ⟨A, c, rfl, hc, hcells⟩ := hv
  have HC := Lib.hid hcells; have HR := Lib.hid hr
  have hp := placeOf_le ks s
  obtain ⟨p, hpe⟩ : ∃ p, p = placeOf ks s := ⟨_, rfl⟩
  have HP := Lib.hid hpe
  rw [← hpe] at hp ⊢
  clear hcells hr hpe
  go_enter Tryd.func58, Tryd.ntmps58
  go_wp2_with fail
  go_loop [7, 8] (fun a b => ∃ i j : Nat, i ≤ p ∧ p ≤ j ∧ j ≤ ks.length ∧ a = .int .i64 i ∧ b = .int .i64 j) (fun a b => (intOf b).toNat - (intOf a).toNat)
  case atStart => exact ⟨0, ks.length, Nat.zero_le _, hp, Nat.le_refl _, rfl, rfl⟩
  case round =>
    obtain ⟨i, j, h1, h2, h3, rfl, rfl⟩ := hrel
    by_cases hlt : i < j
    · have hw : IntKind.i64.wrap ((i : Int) + (j : Int)) = (i : Int) + (j : Int) := IntWalk.i64_in _ (by omega)
      have hlt2 : (i : Int) < (j : Int) := by omega
      obtain ⟨h, hh⟩ : ∃ h : Nat, h = (i + j) / 2 := ⟨_, rfl⟩
      have hhi : ((i : Int) + (j : Int)) / 2 = (h : Int) := by omega
      have hb1 : i ≤ h := by omega
      have hb2 : h < j := by omega
      have hlen : h < ks.length := by omega
      have hb3 : (h : Int) < (ks.length : Int) := by omega
      have hb4 : (0 : Int) ≤ (h : Int) := by omega
      obtain ⟨b, off, rfl, _, hcx⟩ := HC.out (by omega)
      have gx := hcx h hlen
      have hls := less_place (s := s) HR.out h hlen
      rw [← HP.out] at hls
      clear hcx hh
      by_cases hl : h < p
      · have hls' : Op.bytesLess (ks[h]'hlen).toList s.toList = true := by rw [hls]; simp [hl]
        clear hls
        go_wp2_with (go_at_call 72; refine (less_any _ _ _).mono ?_; rintro e w' ⟨rfl, rfl⟩)
        go_round
        case rel => exact ⟨h + 1, j, by omega, h2, h3, by go_num, rfl⟩
        case measure => simp [intOf]; omega
      · have hls' : Op.bytesLess (ks[h]'hlen).toList s.toList = false := by rw [hls]; simp [hl]
        clear hls
        go_wp2_with (go_at_call 72; refine (less_any _ _ _).mono ?_; rintro e w' ⟨rfl, rfl⟩)
        go_round
        case rel => exact ⟨i, h, h1, by omega, by omega, rfl, rfl⟩
        case measure => simp [intOf]; omega
    · obtain rfl : i = p := by omega
      obtain rfl : j = i := by omega
      clear hlt
      by_cases hend : j < ks.length
      · obtain ⟨b, off, rfl, _, hcx⟩ := HC.out (by omega)
        have gx := hcx j hend
        have hb3 : (j : Int) < (ks.length : Int) := by omega
        have hb4 : (0 : Int) ≤ (j : Int) := by omega
        clear hcx
        cases he : (ks[j].toList == s.toList) with
        | true =>
          go_wp2_with (go_at_call 73; refine (isNaN2_any _ _).mono ?_; rintro e w' ⟨rfl, rfl⟩)
          go_ret2
          first | exact ⟨_, rfl, rfl⟩ | exact ⟨rfl, rfl⟩ | exact ⟨by rfl, by rfl⟩ | (simp [Array.getD]; done)
        | false =>
          go_wp2_with (go_at_call 73; refine (isNaN2_any _ _).mono ?_; rintro e w' ⟨rfl, rfl⟩)
          go_ret2
          first | exact ⟨_, rfl, rfl⟩ | exact ⟨rfl, rfl⟩ | exact ⟨by rfl, by rfl⟩ | (simp [Array.getD]; done)
      · have hb3 : ¬ (j : Int) < (ks.length : Int) := by omega
        go_wp2_with fail
        go_ret2
        first | exact ⟨_, rfl, rfl⟩ | exact ⟨rfl, rfl⟩ | exact ⟨by rfl, by rfl⟩ | (simp [Array.getD]; done)
end Go.Proofs.YtmnaaohhageihaaDoor
