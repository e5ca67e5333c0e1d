/-
  
-/
import Derived.Test.YtdgnengfcabgjaaB26
namespace Go.Proofs.Ytdgnengfcabgjaa
open Go.RowKit

def numB (d : D) : Bool := decide (d.num = 0) || decide (d.kind = 4) || (decide (d.kind = 5) && decide (d.num = 1))
def strB (d : D) : Bool := decide (d.str.size = 0) || (decide (d.kind = 6) && decide (d.str.size ≤ 256))
def formB (d : D) : Bool :=
  if d.kind = 1 then keyedB d else if d.kind = 2 then keyedB d else if d.kind = 3 then decide (d.keys.length = 0)
  else if d.kind = 4 ∨ d.kind = 5 ∨ d.kind = 6 then decide (d.keys.length = 0) && decide (d.kids.length = 0) else false
def soundB (d : D) : Bool := numB d && (strB d && formB d)
theorem numB_mk (k n : Int) (s : ByteArray) (ks : List ByteArray) (l : List D) : numB (.mk k n s ks l) = (decide (n = 0) || decide (k = 4) || (decide (k = 5) && decide (n = 1))) := rfl
theorem strB_mk (k n : Int) (s : ByteArray) (ks : List ByteArray) (l : List D) : strB (.mk k n s ks l) = (decide (s.size = 0) || (decide (k = 6) && decide (s.size ≤ 256))) := rfl
theorem soundB_num {d : D} (h : numB d = false) : soundB d = false := by simp [soundB, h]
theorem soundB_str {d : D} (h1 : numB d = true) (h : strB d = false) : soundB d = false := by simp [soundB, h1, h]
theorem soundB_form {d : D} (h1 : numB d = true) (h2 : strB d = true) : soundB d = formB d := by simp [soundB, h1, h2]

set_option maxHeartbeats 4000000 in
set_option maxRecDepth 100000 in
theorem sound_any {d : D} {v0 v1 v2 v3 v4 : Value} {w : World} {B : Nat} (hf : d.Fit) (hB : B ≤ w.heap.size) (hd : DocIn w B d v0 v1 v2 v3 v4) :
    Calls Try.prog 73 #[.agg #[v0, v1, v2, v3, v4]] w fun e w' => e = .returned (.bool (soundB d)) ∧ Below w.heap.size w w' := by
  have HD := Lib.hid hd
  have hkl := hf.keys; have hdl := hf.kids; have hsl := hf.str
  have HF := Lib.hid hf; clear hf
  obtain ⟨kind, num, str, keys, kids⟩ := d
  simp only [DocIn] at hd
  obtain ⟨rfl, rfl, rfl, hs3, A4, c4, rfl, _, _⟩ := hd
  obtain ⟨A3, c3, rfl, _, _⟩ := hs3
  simp only [D.keys, D.kids, D.str] at hkl hdl hsl
  cases hn : numB (.mk kind num str keys kids) with
  | false =>
    have E := Lib.hid (soundB_num hn)
    simp only [numB_mk, Bool.or_eq_false_iff, Bool.and_eq_false_imp, decide_eq_false_iff_not, decide_eq_true_eq] at hn
    obtain ⟨⟨hn0, hk4⟩, hk5⟩ := hn
    have g0 : (num != 0) = true := by simp [hn0]
    have g4 : (kind != 4) = true := by simp [hk4]
    by_cases h5 : kind = 5
    · have g1 : (num != 1) = true := by simp [hk5 h5]
      subst h5
      clear hn0 hk4 hk5
      go_enter Try.func73, Try.ntmps73
      go_wp2_with fail
      go_ret
      exact ⟨ret_bool E.out.symm, (Below.refl _ _).alloc (Nat.le_refl _) _⟩
    · have g5 : (kind != 5) = true := by simp [h5]
      clear hn0 hk4 hk5 h5
      go_enter Try.func73, Try.ntmps73
      go_wp2_with fail
      go_ret
      exact ⟨ret_bool E.out.symm, (Below.refl _ _).alloc (Nat.le_refl _) _⟩
  | true =>
    cases hs : strB (.mk kind num str keys kids) with
    | false =>
      have E := Lib.hid (soundB_str hn hs)
      simp only [strB_mk, Bool.or_eq_false_iff, Bool.and_eq_false_imp, decide_eq_false_iff_not, decide_eq_true_eq] at hs
      simp only [numB_mk, Bool.or_eq_true, Bool.and_eq_true, decide_eq_true_eq] at hn
      obtain ⟨hs0, hk6⟩ := hs
      have gs := toList_some (s := str) (by omega)
      by_cases h6 : kind = 6
      · have hlong : 256 < str.size := by have := hk6 h6; omega
        have hn0 : num = 0 := by omega
        subst h6; subst hn0
        clear hn hs0 hk6
        go_enter Try.func73, Try.ntmps73
        go_wp2_with fail
        go_ret
        exact ⟨ret_bool E.out.symm, (Below.refl _ _).alloc (Nat.le_refl _) _⟩
      · have g6 : (kind != 6) = true := by simp [h6]
        clear hk6 hs0
        by_cases hn0 : num = 0
        · subst hn0
          clear hn h6
          go_enter Try.func73, Try.ntmps73
          go_wp2_with fail
          go_ret
          exact ⟨ret_bool E.out.symm, (Below.refl _ _).alloc (Nat.le_refl _) _⟩
        · have g0 : (num != 0) = true := by simp [hn0]
          by_cases h4 : kind = 4
          · subst h4
            clear hn h6 hn0
            go_enter Try.func73, Try.ntmps73
            go_wp2_with fail
            go_ret
            exact ⟨ret_bool E.out.symm, (Below.refl _ _).alloc (Nat.le_refl _) _⟩
          · obtain ⟨rfl, rfl⟩ : kind = 5 ∧ num = 1 := by omega
            clear hn h6 hn0 h4
            go_enter Try.func73, Try.ntmps73
            go_wp2_with fail
            go_ret
            exact ⟨ret_bool E.out.symm, (Below.refl _ _).alloc (Nat.le_refl _) _⟩
    | true =>
      have E := Lib.hid (soundB_form hn hs)
      simp only [strB_mk, Bool.or_eq_true, Bool.and_eq_true, decide_eq_true_eq] at hs
      simp only [numB_mk, Bool.or_eq_true, Bool.and_eq_true, decide_eq_true_eq] at hn
      by_cases h1 : kind = 1
      · subst h1
        have hn0 : num = 0 := by omega
        subst hn0
        have gs := toList_empty (s := str) (by omega)
        clear hn hs
        have E2 := Lib.hid (show formB (.mk 1 0 str keys kids) = keyedB (.mk 1 0 str keys kids) by simp [formB, D.kind])
        go_enter Try.func73, Try.ntmps73
        go_wp2_with fail
        refine (keyed_any (B := B) HF.out (by simp; omega) (HD.out.keep (Nat.le_refl _) fun p hp => World.cell?_alloc_lt w _ p (by omega))).mono ?_
        rintro e w1 ⟨rfl, hb1⟩
        go_wp2_with fail
        go_ret
        exact ⟨ret_bool (by rw [E.out, E2.out]), ((Below.refl _ _).alloc (Nat.le_refl _) _).trans (hb1.mono (by simp))⟩
      · by_cases h2 : kind = 2
        · subst h2
          have hn0 : num = 0 := by omega
          subst hn0
          have gs := toList_empty (s := str) (by omega)
          clear hn hs
          have E2 := Lib.hid (show formB (.mk 2 0 str keys kids) = keyedB (.mk 2 0 str keys kids) by simp [formB, D.kind])
          go_enter Try.func73, Try.ntmps73
          go_wp2_with fail
          refine (keyed_any (B := B) HF.out (by simp; omega) (HD.out.keep (Nat.le_refl _) fun p hp => World.cell?_alloc_lt w _ p (by omega))).mono ?_
          rintro e w1 ⟨rfl, hb1⟩
          go_wp2_with fail
          go_ret
          exact ⟨ret_bool (by rw [E.out, E2.out]), ((Below.refl _ _).alloc (Nat.le_refl _) _).trans (hb1.mono (by simp))⟩
        · by_cases h3 : kind = 3
          · subst h3
            have hn0 : num = 0 := by omega
            subst hn0
            have gs := toList_empty (s := str) (by omega)
            clear hn hs
            have E2 := Lib.hid (show formB (.mk 3 0 str keys kids) = decide (keys.length = 0) by simp [formB, D.kind, D.keys])
            go_enter Try.func73, Try.ntmps73
            go_wp2_with fail
            all_goals (go_ret; refine ⟨ret_bool ?_, (Below.refl _ _).alloc (Nat.le_refl _) _⟩; rw [E.out, E2.out, Bool.eq_iff_iff]; simp; try omega)
          · by_cases h4 : kind = 4
            · subst h4
              have gs := toList_empty (s := str) (by omega)
              clear hn hs
              by_cases hn0 : num = 0
              · subst hn0
                have E2 := Lib.hid (show formB (.mk 4 0 str keys kids) = (decide (keys.length = 0) && decide (kids.length = 0)) by simp [formB, D.kind, D.keys, D.kids])
                by_cases hk0 : keys.length = 0
                · have gk : ((keys.length : Int) == 0) = true := by simp [hk0]
                  have E3 := Lib.hid hk0; clear hk0
                  go_enter Try.func73, Try.ntmps73
                  go_wp2_with fail
                  all_goals (go_ret; refine ⟨ret_bool ?_, (Below.refl _ _).alloc (Nat.le_refl _) _⟩; rw [E.out, E2.out, E3.out, Bool.eq_iff_iff]; simp; try omega)
                · have gk : ((keys.length : Int) == 0) = false := by simp [hk0]
                  have E3 := Lib.hid hk0; clear hk0
                  go_enter Try.func73, Try.ntmps73
                  go_wp2_with fail
                  all_goals (go_ret; refine ⟨ret_bool ?_, (Below.refl _ _).alloc (Nat.le_refl _) _⟩; rw [E.out, E2.out]; have := E3.out; simp [this])
              · have g0 : (num != 0) = true := by simp [hn0]
                clear hn0
                have E2 := Lib.hid (show formB (.mk 4 num str keys kids) = (decide (keys.length = 0) && decide (kids.length = 0)) by simp [formB, D.kind, D.keys, D.kids])
                by_cases hk0 : keys.length = 0
                · have gk : ((keys.length : Int) == 0) = true := by simp [hk0]
                  have E3 := Lib.hid hk0; clear hk0
                  go_enter Try.func73, Try.ntmps73
                  go_wp2_with fail
                  all_goals (go_ret; refine ⟨ret_bool ?_, (Below.refl _ _).alloc (Nat.le_refl _) _⟩; rw [E.out, E2.out, E3.out, Bool.eq_iff_iff]; simp; try omega)
                · have gk : ((keys.length : Int) == 0) = false := by simp [hk0]
                  have E3 := Lib.hid hk0; clear hk0
                  go_enter Try.func73, Try.ntmps73
                  go_wp2_with fail
                  all_goals (go_ret; refine ⟨ret_bool ?_, (Below.refl _ _).alloc (Nat.le_refl _) _⟩; rw [E.out, E2.out]; have := E3.out; simp [this])
            · by_cases h5 : kind = 5
              · subst h5
                have gs := toList_empty (s := str) (by omega)
                clear hs
                by_cases hn0 : num = 0
                · subst hn0
                  clear hn
                  have E2 := Lib.hid (show formB (.mk 5 0 str keys kids) = (decide (keys.length = 0) && decide (kids.length = 0)) by simp [formB, D.kind, D.keys, D.kids])
                  by_cases hk0 : keys.length = 0
                  · have gk : ((keys.length : Int) == 0) = true := by simp [hk0]
                    have E3 := Lib.hid hk0; clear hk0
                    go_enter Try.func73, Try.ntmps73
                    go_wp2_with fail
                    all_goals (go_ret; refine ⟨ret_bool ?_, (Below.refl _ _).alloc (Nat.le_refl _) _⟩; rw [E.out, E2.out, E3.out, Bool.eq_iff_iff]; simp; try omega)
                  · have gk : ((keys.length : Int) == 0) = false := by simp [hk0]
                    have E3 := Lib.hid hk0; clear hk0
                    go_enter Try.func73, Try.ntmps73
                    go_wp2_with fail
                    all_goals (go_ret; refine ⟨ret_bool ?_, (Below.refl _ _).alloc (Nat.le_refl _) _⟩; rw [E.out, E2.out]; have := E3.out; simp [this])
                · obtain rfl : num = 1 := by omega
                  clear hn hn0
                  have E2 := Lib.hid (show formB (.mk 5 1 str keys kids) = (decide (keys.length = 0) && decide (kids.length = 0)) by simp [formB, D.kind, D.keys, D.kids])
                  by_cases hk0 : keys.length = 0
                  · have gk : ((keys.length : Int) == 0) = true := by simp [hk0]
                    have E3 := Lib.hid hk0; clear hk0
                    go_enter Try.func73, Try.ntmps73
                    go_wp2_with fail
                    all_goals (go_ret; refine ⟨ret_bool ?_, (Below.refl _ _).alloc (Nat.le_refl _) _⟩; rw [E.out, E2.out, E3.out, Bool.eq_iff_iff]; simp; try omega)
                  · have gk : ((keys.length : Int) == 0) = false := by simp [hk0]
                    have E3 := Lib.hid hk0; clear hk0
                    go_enter Try.func73, Try.ntmps73
                    go_wp2_with fail
                    all_goals (go_ret; refine ⟨ret_bool ?_, (Below.refl _ _).alloc (Nat.le_refl _) _⟩; rw [E.out, E2.out]; have := E3.out; simp [this])
              · by_cases h6 : kind = 6
                · subst h6
                  have hn0 : num = 0 := by omega
                  subst hn0
                  by_cases hs0 : str.size = 0
                  · have gs := toList_empty hs0
                    clear hn hs hs0
                    have E2 := Lib.hid (show formB (.mk 6 0 str keys kids) = (decide (keys.length = 0) && decide (kids.length = 0)) by simp [formB, D.kind, D.keys, D.kids])
                    by_cases hk0 : keys.length = 0
                    · have gk : ((keys.length : Int) == 0) = true := by simp [hk0]
                      have E3 := Lib.hid hk0; clear hk0
                      go_enter Try.func73, Try.ntmps73
                      go_wp2_with fail
                      all_goals (go_ret; refine ⟨ret_bool ?_, (Below.refl _ _).alloc (Nat.le_refl _) _⟩; rw [E.out, E2.out, E3.out, Bool.eq_iff_iff]; simp; try omega)
                    · have gk : ((keys.length : Int) == 0) = false := by simp [hk0]
                      have E3 := Lib.hid hk0; clear hk0
                      go_enter Try.func73, Try.ntmps73
                      go_wp2_with fail
                      all_goals (go_ret; refine ⟨ret_bool ?_, (Below.refl _ _).alloc (Nat.le_refl _) _⟩; rw [E.out, E2.out]; have := E3.out; simp [this])
                  · have gs := toList_some (s := str) (by omega)
                    have hshort : str.size ≤ 256 := by omega
                    clear hn hs hs0
                    have E2 := Lib.hid (show formB (.mk 6 0 str keys kids) = (decide (keys.length = 0) && decide (kids.length = 0)) by simp [formB, D.kind, D.keys, D.kids])
                    by_cases hk0 : keys.length = 0
                    · have gk : ((keys.length : Int) == 0) = true := by simp [hk0]
                      have E3 := Lib.hid hk0; clear hk0
                      go_enter Try.func73, Try.ntmps73
                      go_wp2_with fail
                      all_goals (go_ret; refine ⟨ret_bool ?_, (Below.refl _ _).alloc (Nat.le_refl _) _⟩; rw [E.out, E2.out, E3.out, Bool.eq_iff_iff]; simp; try omega)
                    · have gk : ((keys.length : Int) == 0) = false := by simp [hk0]
                      have E3 := Lib.hid hk0; clear hk0
                      go_enter Try.func73, Try.ntmps73
                      go_wp2_with fail
                      all_goals (go_ret; refine ⟨ret_bool ?_, (Below.refl _ _).alloc (Nat.le_refl _) _⟩; rw [E.out, E2.out]; have := E3.out; simp [this])
                · have g1 : (kind == 1) = false := by simp [h1]
                  have g2 : (kind == 2) = false := by simp [h2]
                  have g3 : (kind == 3) = false := by simp [h3]
                  have g4 : (kind == 4) = false := by simp [h4]
                  have g5 : (kind == 5) = false := by simp [h5]
                  have g6 : (kind == 6) = false := by simp [h6]
                  have hn0 : num = 0 := by omega
                  subst hn0
                  have gs := toList_empty (s := str) (by omega)
                  have E2 := Lib.hid (show formB (.mk kind 0 str keys kids) = false by simp [formB, D.kind, h1, h2, h3, h4, h5, h6])
                  clear hn hs h1 h2 h3 h4 h5 h6
                  go_enter Try.func73, Try.ntmps73
                  go_wp2_with fail
                  go_ret
                  exact ⟨ret_bool (by rw [E.out, E2.out]), (Below.refl _ _).alloc (Nat.le_refl _) _⟩
end Go.Proofs.Ytdgnengfcabgjaa
