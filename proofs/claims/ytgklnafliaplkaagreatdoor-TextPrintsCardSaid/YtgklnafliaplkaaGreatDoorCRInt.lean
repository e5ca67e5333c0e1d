/-
  The document's own value (of a digit) and integer.
-/
import Derived.Test.YtgklnafliaplkaaGreatDoorB01
import Derived.Test.YtgklnafliaplkaaGreatDoorB03
import Derived.Test.YtgklnafliaplkaaGreatDoorB30
import Derived.IntWalk
import Derived.Deep.Cut
import Derived.Deep.CutRange
import Derived.Deep.DeepCutAuto
namespace Go.Proofs.YtgklnafliaplkaaGreatDoor
open Go.RowKit

theorem ro_drop {s : ByteArray} {k : Nat} (h : k < s.size) : s.data.toList.drop k = s[k] :: s.data.toList.drop (k + 1) := by
  rw [List.drop_eq_getElem_cons (by simpa using h)]; rfl
theorem ro_end {s : ByteArray} {k : Nat} (h : s.size ≤ k) : s.data.toList.drop k = [] := List.drop_eq_nil_of_le (by simpa using h)
theorem ro_len (s : ByteArray) (k : Nat) : (s.data.toList.drop k).length = s.size - k := by rw [List.length_drop]; rfl
theorem ro_tail (l : List UInt8) (k : Nat) : (l.drop k).tail = l.drop (k + 1) := by rw [List.tail_drop]
theorem ro_pk {s : ByteArray} {k : Nat} (h : k < s.size) : pk (s.data.toList.drop k) = s[k] := by rw [ro_drop h]; rfl
theorem ro_pk0 {s : ByteArray} {k : Nat} (h : s.size ≤ k) : pk (s.data.toList.drop k) = 0 := by rw [ro_end h]; rfl
/-- A digit's value; -1: it is none. -/
def valV (c : UInt8) : Int := match hexV c with
  | some n => (n : Int)
  | none => -1
set_option maxHeartbeats 1000000 in
theorem rvalue_any (c : UInt8) (w : World) : Calls Tryz.prog 45 #[.int .u8 (c.toNat : Int)] w fun e w' => e = .returned (.int .i64 (valV c)) ∧ w = w' := by
  have hc8 : c.toNat < 256 := c.toNat_lt
  by_cases h1 : 48 ≤ c.toNat ∧ c.toNat ≤ 57
  · have E := Lib.hid (show valV c = (c.toNat : Int) - 48 by unfold valV hexV; rw [if_pos (by simpa [digB] using h1)]; simp only; omega)
    have g1 : (48 : Int) ≤ (c.toNat : Int) := by omega
    have g2 : (c.toNat : Int) ≤ 57 := by omega
    have hw : IntKind.u8.wrap ((c.toNat : Int) - 48) = (c.toNat : Int) - 48 := IntWalk.u8_in _ (by omega)
    have hw2 : IntKind.i64.wrap ((c.toNat : Int) - 48) = (c.toNat : Int) - 48 := by rw [IntKind.wrap_i64]; omega
    clear h1
    go_enter Tryz.func45, Tryz.ntmps45
    go_wp2_with fail
    go_ret
    exact ⟨ret_int E.out.symm, rfl⟩
  by_cases h2 : 97 ≤ c.toNat ∧ c.toNat ≤ 102
  · have E := Lib.hid (show valV c = (c.toNat : Int) - 97 + 10 by unfold valV hexV; rw [if_neg (by simpa [digB] using h1), if_pos h2]; simp only; omega)
    have g1 : (97 : Int) ≤ (c.toNat : Int) := by omega
    have g2 : (c.toNat : Int) ≤ 102 := by omega
    have g3 : ¬ (c.toNat : Int) ≤ 57 := by omega
    have g4 : (48 : Int) ≤ (c.toNat : Int) := by omega
    have hw : IntKind.u8.wrap ((c.toNat : Int) - 97) = (c.toNat : Int) - 97 := IntWalk.u8_in _ (by omega)
    have hw2 : IntKind.i64.wrap ((c.toNat : Int) - 97) = (c.toNat : Int) - 97 := by rw [IntKind.wrap_i64]; omega
    have hw3 : IntKind.i64.wrap ((c.toNat : Int) - 97 + 10) = (c.toNat : Int) - 97 + 10 := by rw [IntKind.wrap_i64]; omega
    clear h1 h2
    go_enter Tryz.func45, Tryz.ntmps45
    go_wp2_with fail
    go_ret
    exact ⟨ret_int E.out.symm, rfl⟩
  · have E := Lib.hid (show valV c = -1 by unfold valV hexV; rw [if_neg (by simpa [digB] using h1), if_neg h2])
    have H : Hid (¬ (48 ≤ c.toNat ∧ c.toNat ≤ 57) ∧ ¬ (97 ≤ c.toNat ∧ c.toNat ≤ 102)) := Lib.hid ⟨h1, h2⟩
    clear h1 h2
    go_enter Tryz.func45, Tryz.ntmps45
    by_cases a1 : (48 : Int) ≤ (c.toNat : Int)
    · have a2 : ¬ (c.toNat : Int) ≤ 57 := by have := H.out; omega
      by_cases b1 : (97 : Int) ≤ (c.toNat : Int)
      · have b2 : ¬ (c.toNat : Int) ≤ 102 := by have := H.out; omega
        go_wp2_with fail
        go_ret
        exact ⟨ret_int E.out.symm, rfl⟩
      · go_wp2_with fail
        go_ret
        exact ⟨ret_int E.out.symm, rfl⟩
    · have b1 : ¬ (97 : Int) ≤ (c.toNat : Int) := by omega
      go_wp2_with fail
      go_ret
      exact ⟨ret_int E.out.symm, rfl⟩
theorem ret_ib {k k' : Nat} {b b' : Bool} (h : k = k') (h2 : b = b') : Ending.returned (.tuple #[.int .i64 (k : Int), .bool b]) = Ending.returned (.tuple #[.int .i64 (k' : Int), .bool b']) := by rw [h, h2]
/-- Is an INT there, and what is left behind it, or where it is wrong. -/
def isI (l : List UInt8) : Bool := match digitsP l with | .ok _ _ => true | .bad _ _ => false
def restI (l : List UInt8) : List UInt8 := match digitsP l with | .ok _ r => r | .bad r _ => r
def moreI (l : List UInt8) : Tk Unit := if pk l = 48 ∨ digB (pk l) = false then .bad l 4 else .ok () (l.dropWhile digB)
theorem digits_more {l : List UInt8} (h : pk l ≠ 48) : digitsP l = moreI (if pk l = 45 then l.tail else l) := by unfold digitsP moreI; rw [if_neg h]
theorem dig19 {c : UInt8} : (c = 48 ∨ digB c = false) ↔ ¬ (49 ≤ c.toNat ∧ c.toNat ≤ 57) := by
  have h0 : c = 48 ↔ c.toNat = 48 := ⟨fun e => by rw [e]; rfl, fun e => UInt8.toNat_inj.1 e⟩
  rw [h0]
  simp only [digB, Bool.and_eq_false_iff, decide_eq_false_iff_not]
  omega
theorem ro_while {s : ByteArray} {k : Nat} (h : k < s.size) (hd : digB s[k] = true) : (s.data.toList.drop k).dropWhile digB = (s.data.toList.drop (k + 1)).dropWhile digB := by
  rw [ro_drop h, List.dropWhile_cons_of_pos hd]
theorem ro_stop {s : ByteArray} {k : Nat} (h : k < s.size) (hd : digB s[k] = false) : (s.data.toList.drop k).dropWhile digB = s.data.toList.drop k := by
  rw [ro_drop h, List.dropWhile_cons_of_neg (by rw [hd]; simp)]
set_option maxHeartbeats 2000000 in
set_option maxRecDepth 100000 in
theorem rinteger_any (s : ByteArray) (w : World) (hs : s.size ≤ 1000000) : Calls Tryz.prog 28 #[.string s, .int .i64 0] w fun e w' => e = .returned (.tuple #[.int .i64 ((s.size - (restI s.data.toList).length : Nat) : Int), .bool (isI s.data.toList)]) ∧ w = w' := by
  by_cases h0 : s.size = 0
  · obtain rfl : s = ⟨#[]⟩ := by
      cases s with
      | mk a =>
        have h' : a.size = 0 := h0
        rw [Array.eq_empty_of_size_eq_zero h']
    clear h0 hs
    go_enter Tryz.func28, Tryz.ntmps28
    go_wp2_with fail
    go_ret2
    exact ⟨rfl, rfl⟩
  have hp : (0 : Int) < (s.size : Int) := by omega
  have hp0 : 0 < s.size := by omega
  have hL0 : s.data.toList.drop 0 = s.data.toList := rfl
  have hpk0 := ro_pk hp0
  rw [hL0] at hpk0
  by_cases h48 : s[0] = 48
  · have e48 : ((s[0].toNat : Int) == 48) = true := by rw [h48]; rfl
    have hd : digitsP s.data.toList = .ok () s.data.toList.tail := by unfold digitsP; rw [if_pos (by rw [hpk0, h48])]
    have e1 : isI s.data.toList = true := by unfold isI; rw [hd]
    have e2 : s.size - (restI s.data.toList).length = 1 := by
      have : s.data.toList.length = s.size := rfl
      unfold restI; rw [hd]; simp only [List.length_tail]; omega
    rw [e1, e2]
    clear hd e1 e2 h48 hpk0 hL0 h0
    go_enter Tryz.func28, Tryz.ntmps28
    go_wp2_with fail
    go_ret2
    exact ⟨rfl, rfl⟩
  have n48 : ¬ s[0].toNat = 48 := fun e => h48 (UInt8.toNat_inj.1 e)
  have e48 : ((s[0].toNat : Int) == 48) = false := by simp; omega
  obtain ⟨a0, ha0⟩ : ∃ a0, a0 = if s[0] = 45 then 1 else 0 := ⟨_, rfl⟩
  have ha1 : a0 ≤ 1 := by rw [ha0]; split <;> omega
  have HM : Hid (digitsP s.data.toList = moreI (s.data.toList.drop a0)) := Lib.hid (by
    rw [digits_more (by rw [hpk0]; exact h48), hpk0, ha0]
    by_cases h : s[0] = 45
    · rw [if_pos h, if_pos h, List.drop_one]
    · rw [if_neg h, if_neg h]; rfl)
  have HA0 := Lib.hid ha0
  clear n48 h48 hpk0 hL0 h0 ha0
  go_enter Tryz.func28, Tryz.ntmps28
  go_upto_if 27 with fail
  go_cut [1] (fun s1 wx => s1 = .int .i64 (a0 : Nat) ∧ wx = w)
  case first =>
    by_cases h45 : s[0] = 45
    · have e45 : ((s[0].toNat : Int) == 45) = true := by rw [h45]; rfl
      have E : Hid (a0 = 1) := Lib.hid (by rw [HA0.out, if_pos h45])
      clear h45
      go_wp2_with fail
      go_meet
      exact ⟨by rw [E.out]; rfl, rfl⟩
    · have n45 : ¬ s[0].toNat = 45 := fun e => h45 (UInt8.toNat_inj.1 e)
      have e45 : ((s[0].toNat : Int) == 45) = false := by simp; omega
      have E : Hid (a0 = 0) := Lib.hid (by rw [HA0.out, if_neg h45])
      clear h45 n45
      go_wp2_with fail
      go_meet
      exact ⟨by rw [E.out]; rfl, rfl⟩
  case rest =>
    obtain ⟨rfl, rfl⟩ := hcut
    by_cases hx : a0 < s.size
    · have h1 : (a0 : Int) < (s.size : Int) := by omega
      have h2 : (0 : Int) ≤ (a0 : Int) := by omega
      have h3 : ¬ (s.size : Int) ≤ (a0 : Int) := by omega
      by_cases hd : 49 ≤ s[a0].toNat ∧ s[a0].toNat ≤ 57
      · have HD : Hid (digitsP s.data.toList = .ok () ((s.data.toList.drop a0).dropWhile digB)) := Lib.hid (by
          rw [HM.out]; unfold moreI; rw [if_neg (by rw [ro_pk hx, dig19]; simpa using hd)])
        have g1 : ¬ (s[a0].toNat : Int) < 49 := by omega
        have g2 : ¬ (57 : Int) < (s[a0].toNat : Int) := by omega
        clear hd
        go_wp2_with fail
        go_loopw [1] (fun i wr => ∃ k : Nat, k ≤ s.size ∧ i = .int .i64 k ∧ Hid ((s.data.toList.drop a0).dropWhile digB = (s.data.toList.drop k).dropWhile digB) ∧ wr = wc) (fun i _ => s.size - (intOf i).toNat)
        case atStart => exact ⟨a0, by omega, rfl, Lib.hid rfl, rfl⟩
        case round =>
          obtain ⟨k, hk, rfl, HK, rfl⟩ := hrel
          have hfin : (s.data.toList.drop k).dropWhile digB = s.data.toList.drop k → (isI s.data.toList = true ∧ s.size - (restI s.data.toList).length = k) := fun e => by
            unfold isI restI
            rw [HD.out, HK.out, e]
            exact ⟨rfl, by rw [ro_len]; omega⟩
          have HFIN := Lib.hid hfin
          clear hfin
          by_cases hlt : k < s.size
          · have h1 : (k : Int) < (s.size : Int) := by omega
            have h2 : (0 : Int) ≤ (k : Int) := by omega
            by_cases hd : 48 ≤ s[k].toNat ∧ s[k].toNat ≤ 57
            · have g1 : (48 : Int) ≤ (s[k].toNat : Int) := by omega
              have g2 : (s[k].toNat : Int) ≤ 57 := by omega
              have HN : Hid ((s.data.toList.drop a0).dropWhile digB = (s.data.toList.drop (k + 1)).dropWhile digB) := Lib.hid (HK.out.trans (ro_while hlt (by simpa [digB] using hd)))
              clear hd
              go_wp2_with fail
              go_roundw
              case rel => exact ⟨k + 1, by omega, by go_num, HN, by first | rfl | trivial⟩
              case measure => simp [intOf]; omega
            · have Q := Lib.hid (HFIN.out (ro_stop hlt (by
                cases hq : digB s[k] with
                | false => rfl
                | true => exact absurd (by simpa [digB] using hq) hd)))
              by_cases g1 : (48 : Int) ≤ (s[k].toNat : Int)
              · have g2 : ¬ (s[k].toNat : Int) ≤ 57 := by omega
                clear hd
                go_wp2_with fail
                go_ret2
                exact ⟨ret_ib Q.out.2.symm Q.out.1.symm, rfl⟩
              · clear hd
                go_wp2_with fail
                go_ret2
                exact ⟨ret_ib Q.out.2.symm Q.out.1.symm, rfl⟩
          · have Q := Lib.hid (HFIN.out (by rw [ro_end (by omega)]; rfl))
            have h1 : ¬ (k : Int) < (s.size : Int) := by omega
            go_wp2_with fail
            go_ret2
            exact ⟨ret_ib Q.out.2.symm Q.out.1.symm, rfl⟩
      · have HD : Hid (digitsP s.data.toList = .bad (s.data.toList.drop a0) 4) := Lib.hid (by
          rw [HM.out]; unfold moreI; rw [if_pos (by rw [ro_pk hx, dig19]; simpa using hd)])
        have Q : Hid (isI s.data.toList = false ∧ s.size - (restI s.data.toList).length = a0) := Lib.hid ⟨by unfold isI; rw [HD.out], by unfold restI; rw [HD.out]; simp only [ro_len]; omega⟩
        by_cases g1 : (s[a0].toNat : Int) < 49
        · clear hd
          go_wp2_with fail
          go_ret2
          exact ⟨ret_ib Q.out.2.symm Q.out.1.symm, rfl⟩
        · have g2 : (57 : Int) < (s[a0].toNat : Int) := by omega
          clear hd
          go_wp2_with fail
          go_ret2
          exact ⟨ret_ib Q.out.2.symm Q.out.1.symm, rfl⟩
    · have HD : Hid (digitsP s.data.toList = .bad (s.data.toList.drop a0) 4) := Lib.hid (by
        rw [HM.out]; unfold moreI; rw [if_pos (by rw [ro_pk0 (by omega)]; exact .inr (by decide))])
      have Q : Hid (isI s.data.toList = false ∧ s.size - (restI s.data.toList).length = a0) := Lib.hid ⟨by unfold isI; rw [HD.out], by unfold restI; rw [HD.out]; simp only [ro_len]; omega⟩
      have h3 : (s.size : Int) ≤ (a0 : Int) := by omega
      go_wp2_with fail
      go_ret2
      exact ⟨ret_ib Q.out.2.symm Q.out.1.symm, rfl⟩
end Go.Proofs.YtgklnafliaplkaaGreatDoor
