/-
  The document's own Rows.
-/
import Derived.Test.YtdgnengfcabgjaaB07
import Derived.Test.YtdgnengfcabgjaaB02
import Derived.StillTailTactics
import Derived.Deep.QuietTactic
import Derived.Deep.RegionHeld3
namespace Go.Proofs.Ytdgnengfcabgjaa
open Go.RowKit

theorem rr_drew {B : Nat} {w w' : World} (h : Below B w w') (n : Nat) : Below B w (w'.drewN n) := ⟨h.os, h.tape, h.output, h.size, h.block⟩
theorem rr_beq (a b : ByteArray) : (a.toList == b.toList) = decide (a = b) := by
  rw [Bool.eq_iff_iff, beq_iff_eq, decide_eq_true_eq, ByteArray.toList_eq, ByteArray.toList_eq]
  constructor
  · intro h
    cases a; cases b
    simp only at h
    congr 1
    exact Array.toList_inj.1 h
  · intro h; rw [h]
theorem Strs.row {w : World} {B c : Nat} {A : Option Addr} {l : List ByteArray} (h : Strs w B (.slice A l.length c) l) : 0 < l.length → ∃ b off, A = some ⟨b, off, none⟩ ∧ b < B ∧ ∀ (i : Nat) (h : i < l.length), w.cell? ⟨b, off + i, none⟩ = some (.string l[i]) := by
  obtain ⟨A', c', e, _, h2⟩ := h
  injection e with e1 _ _; subst e1
  exact h2
set_option maxHeartbeats 2000000 in
set_option maxRecDepth 100000 in
theorem rrows_any {a b : List ByteArray} {v u : Value} {w : World} {B : Nat} (hB : B ≤ w.heap.size) (ha : Strs w B v a) (hb : Strs w B u b) (hn : a.length ≤ 10000) (hn' : b.length ≤ 10000) :
    Calls Try.prog 31 #[v, u] w fun e w' => e = .returned (.bool (decide (a = b))) ∧ Below w.heap.size w w' := by
  obtain ⟨A, c, rfl, _⟩ := id ha
  obtain ⟨A', c', rfl, _⟩ := id hb
  have HA := Lib.hid ha.row; have HB := Lib.hid hb.row
  clear ha hb
  by_cases hl : a.length = b.length
  rotate_left
  · have E : Hid (decide (a = b) = false) := decide_eq_false fun h => hl (by rw [h])
    have g : ((a.length : Int) != (b.length : Int)) = true := by simp; omega
    clear hl
    go_enter Try.func31, Try.ntmps31
    go_wp2_with fail
    go_ret
    exact ⟨ret_bool E.out.symm, Below.refl _ _⟩
  have g : ((a.length : Int) != (b.length : Int)) = false := by simp; omega
  have HL := Lib.hid hl
  clear hl
  go_enter Try.func31, Try.ntmps31
  go_wp2_with fail
  go_loopw [5] (fun i wr => ∃ k : Nat, k ≤ a.length ∧ i = .int .i64 k ∧ (∀ (j : Nat) (h : j < a.length) (h' : j < b.length), j < k → a[j] = b[j]) ∧ Below w.heap.size w wr) (fun i _ => a.length - (intOf i).toNat)
  case atStart => exact ⟨0, Nat.zero_le _, rfl, fun j _ _ hj => absurd hj (by omega), Below.refl _ _⟩
  case round =>
    obtain ⟨k, hk, rfl, hall, hb⟩ := hrel
    have HALL := Lib.hid hall
    have HBL := Lib.hid hb
    clear hall hb
    by_cases hlt : k < a.length
    · have hlb : k < b.length := by have := HL.out; omega
      obtain ⟨q, o, rfl, hqb, hq⟩ := HA.out (by omega)
      obtain ⟨q', o', rfl, hqb', hq'⟩ := HB.out (by omega)
      have g1 := (HBL.out.cell (p := ⟨q, o + k, none⟩) (by show q < _; omega)).trans (hq k hlt)
      have g2 := (HBL.out.cell (p := ⟨q', o' + k, none⟩) (by show q' < _; omega)).trans (hq' k hlb)
      have hk0 : (0 : Int) ≤ (k : Int) := by omega
      have hk1 : (k : Int) < (a.length : Int) := by omega
      have hk2 : (k : Int) < (b.length : Int) := by omega
      clear hq hq'
      by_cases he : a[k] = b[k]
      · have HE := Lib.hid he
        have ge : (a[k].toList == b[k].toList) = true := by rw [rr_beq]; exact decide_eq_true he
        clear he
        go_wp2_with fail
        go_quiet (fail)
        go_wp2_with fail
        go_roundw
        case rel => exact ⟨k + 1, by omega, by go_num, fun j h h' hj => by
          rcases Nat.lt_or_ge j k with h1 | h1
          · exact HALL.out j h h' h1
          · obtain rfl : j = k := by omega
            exact HE.out, rr_drew HBL.out _⟩
        case measure => simp [intOf]; omega
      · have E : Hid (decide (a = b) = false) := decide_eq_false fun h => he (by subst h; rfl)
        have ge : (a[k].toList == b[k].toList) = false := by rw [rr_beq]; exact decide_eq_false he
        clear he
        go_wp2_with fail
        go_quiet (fail)
        go_wp2_with fail
        go_ret
        exact ⟨ret_bool E.out.symm, rr_drew HBL.out _⟩
    · have E : Hid (decide (a = b) = true) := decide_eq_true (List.ext_getElem HL.out fun i h1 h2 => HALL.out i h1 h2 (by omega))
      go_wp2_with fail
      go_ret
      exact ⟨ret_bool E.out.symm, HBL.out⟩
end Go.Proofs.Ytdgnengfcabgjaa
