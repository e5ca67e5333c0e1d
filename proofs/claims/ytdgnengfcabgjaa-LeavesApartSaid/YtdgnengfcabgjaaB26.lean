/-
  
-/
import Derived.Test.YtdgnengfcabgjaaB09
namespace Go.Proofs.Ytdgnengfcabgjaa
open Go.RowKit

def keyOfB (kind : Int) (s : ByteArray) : Bool := if kind = 1 then nameB s else if kind = 2 then decide (s.size ≤ 256) else false
set_option maxHeartbeats 400000 in
theorem keyOf_any (kind : Int) (s : ByteArray) (w : World) (hs : s.size ≤ 9223372036854775807) : Calls Try.prog 92 #[.int .i64 kind, .string s] w fun e w' => e = .returned (.bool (keyOfB kind s)) ∧ w = w' := by
  by_cases h1 : kind = 1
  · subst h1
    have E := Lib.hid (show keyOfB 1 s = nameB s by simp [keyOfB])
    go_enter Try.func92, Try.ntmps92
    go_wp2_with fail
    refine (name_any _ _).mono ?_
    rintro e w' ⟨rfl, rfl⟩
    go_wp2_with fail
    go_ret
    exact ⟨ret_bool E.out.symm, rfl⟩
  · by_cases h2 : kind = 2
    · subst h2
      have E := Lib.hid (show keyOfB 2 s = decide (s.size ≤ 256) by simp [keyOfB])
      go_enter Try.func92, Try.ntmps92
      go_wp2_with fail
      all_goals (go_ret; refine ⟨ret_bool ?_, rfl⟩; rw [E.out, Bool.eq_iff_iff]; simp; try omega)
    · have E := Lib.hid (show keyOfB kind s = false by simp [keyOfB, h1, h2])
      have g1 : (kind == 1) = false := by simp [h1]
      have g2 : (kind == 2) = false := by simp [h2]
      go_enter Try.func92, Try.ntmps92
      go_wp2_with fail
      go_ret
      exact ⟨ret_bool E.out.symm, rfl⟩

/-- Is the key at that place one, and more than that ahead of it? -/
def keyAt (d : D) (i : Nat) : Bool :=
  match d.keys[i]? with
  | none => true
  | some k => keyOfB d.kind k && (match i with
    | 0 => true
    | j + 1 => match d.keys[j]? with
      | none => true
      | some p => decide (scmp p k = -1))
def keyedB (d : D) : Bool := decide (d.keys.length = d.kids.length) && decide (∀ i, i < d.keys.length → keyAt d i = true)
theorem keyedB_true {d : D} (h : d.keys.length = d.kids.length) (h2 : ∀ i, i < d.keys.length → keyAt d i = true) : keyedB d = true := by
  simp only [keyedB, Bool.and_eq_true, decide_eq_true_eq]; exact ⟨h, h2⟩
theorem keyedB_bad {d : D} (i : Nat) (h : i < d.keys.length) (h2 : keyAt d i = false) : keyedB d = false := by
  simp only [keyedB]
  rw [show decide (∀ i, i < d.keys.length → keyAt d i = true) = false from by
    rw [decide_eq_false_iff_not]; intro hh; rw [hh i h] at h2; cases h2]
  simp
theorem keyAt_zero {d : D} (h : 0 < d.keys.length) : keyAt d 0 = keyOfB d.kind d.keys[0] := by
  simp [keyAt, List.getElem?_eq_getElem h]
theorem keyAt_succ {d : D} {j : Nat} (h : j + 1 < d.keys.length) : keyAt d (j + 1) = (keyOfB d.kind d.keys[j + 1] && decide (scmp d.keys[j] d.keys[j + 1] = -1)) := by
  simp [keyAt, List.getElem?_eq_getElem h, List.getElem?_eq_getElem (by omega : j < d.keys.length)]

theorem one_all {p : Nat → Prop} (h : p 0) : ∀ i, i < 1 → p i := fun i hi => by obtain rfl : i = 0 := by omega
                                                                                exact h
theorem more_all {p : Nat → Prop} {k : Nat} (h : ∀ i, i < k → p i) (hk : p k) : ∀ i, i < k + 1 → p i := fun i hi => by
  rcases Nat.lt_or_ge i k with h1 | h1
  · exact h i h1
  · obtain rfl : i = k := by omega
    exact hk
set_option maxHeartbeats 2000000 in
set_option maxRecDepth 100000 in
theorem keyed_any {d : D} {v0 v1 v2 v3 v4 : Value} {w : World} {B : Nat} (hf : d.Fit) (hB : B ≤ w.heap.size) (hd : DocIn w B d v0 v1 v2 v3 v4) :
    Calls Try.prog 85 #[.agg #[v0, v1, v2, v3, v4]] w fun e w' => e = .returned (.bool (keyedB d)) ∧ Below w.heap.size w w' := by
  have hK := hd.keys_
  obtain ⟨A3, c3, A4, c4, rfl, rfl, rfl, rfl, rfl⟩ := hd.forms
  obtain ⟨A, c, e, hc1, hc2⟩ := hK
  injection e with e1 _ e2; subst e1; subst e2
  have H3 := Lib.hid hc2; clear hc2 hd
  have hkl := hf.keys; have hdl := hf.kids
  have HF := Lib.hid hf; clear hf
  by_cases hlen : d.keys.length = d.kids.length
  · have HL := Lib.hid hlen
    have hlen2 : ((d.keys.length : Int) != (d.kids.length : Int)) = false := by simp [hlen]
    clear hlen
    go_enter Try.func85, Try.ntmps85
    go_wp2_with fail
    go_loopw [15] (fun i wr => ∃ k : Nat, k ≤ d.keys.length ∧ i = .int .i64 k ∧ (∀ i, i < k → keyAt d i = true) ∧
        (w.alloc (.cells #[.int .i64 d.kind, .int .i64 d.num, .string d.str, .slice A3 d.keys.length c3, .slice A4 d.kids.length c4] 25)) = wr) (fun i _ => d.keys.length - (intOf i).toNat)
    case atStart => exact ⟨0, Nat.zero_le _, rfl, fun i h => absurd h (by omega), rfl⟩
    case round =>
      obtain ⟨k, hk, rfl, hall, rfl⟩ := hrel
      have HA := Lib.hid hall; clear hall
      by_cases hlt : k < d.keys.length
      · obtain ⟨b, off, rfl, hab, hcells⟩ := H3.out (by omega)
        have gk := hcells k hlt
        have hkey := HF.out.key hlt
        by_cases hk0 : k = 0
        · subst hk0
          clear hcells
          rw [Nat.add_zero] at gk
          cases hko : keyOfB d.kind d.keys[0] with
          | true =>
            have EK := Lib.hid ((keyAt_zero hlt).trans hko)
            have hab2 : b < w.heap.size := by omega
            go_wp2_with fail
            refine (keyOf_any _ _ _ (Nat.le_trans hkey (by omega))).mono ?_
            rintro e w' ⟨rfl, rfl⟩
            go_wp2_with fail
            go_roundw
            case rel => exact ⟨1, by omega, by go_num, one_all EK.out, by first | exact rfl | trivial⟩
            case measure => simp [intOf]; omega
          | false =>
            have EK := Lib.hid (keyedB_bad 0 hlt ((keyAt_zero hlt).trans hko))
            have hab2 : b < w.heap.size := by omega
            go_wp2_with fail
            refine (keyOf_any _ _ _ (Nat.le_trans hkey (by omega))).mono ?_
            rintro e w' ⟨rfl, rfl⟩
            go_wp2_with fail
            go_ret
            exact ⟨ret_bool EK.out.symm, (Below.refl _ _).alloc (Nat.le_refl _) _⟩
        · obtain ⟨j, rfl⟩ : ∃ j, k = j + 1 := ⟨k - 1, by omega⟩
          have gj := hcells j (by omega)
          clear hcells hk0
          have hab2 : b < w.heap.size := by omega
          have gk2 : w.cell? ⟨b, off + j + 1, none⟩ = some (.string d.keys[j + 1]) := gk
          cases hko : keyOfB d.kind d.keys[j + 1] with
          | true =>
            by_cases hsc : scmp d.keys[j] d.keys[j + 1] = -1
            · have EK := Lib.hid (show keyAt d (j + 1) = true by rw [keyAt_succ hlt, hko, hsc]; rfl)
              have hlt3 := scmp_lt hsc
              clear hsc
              go_wp2_with fail
              refine (keyOf_any _ _ _ (Nat.le_trans hkey (by omega))).mono ?_
              rintro e w' ⟨rfl, rfl⟩
              go_wp2_with fail
              go_roundw
              case rel => exact ⟨j + 2, by omega, by go_num, more_all HA.out EK.out, by first | exact rfl | trivial⟩
              case measure => simp [intOf]; omega
            · have EK := Lib.hid (keyedB_bad (j + 1) hlt (show keyAt d (j + 1) = false by rw [keyAt_succ hlt, hko]; simp [hsc]))
              have hlt3 := scmp_nlt hsc
              clear hsc
              go_wp2_with fail
              refine (keyOf_any _ _ _ (Nat.le_trans hkey (by omega))).mono ?_
              rintro e w' ⟨rfl, rfl⟩
              go_wp2_with fail
              go_ret
              exact ⟨ret_bool EK.out.symm, (Below.refl _ _).alloc (Nat.le_refl _) _⟩
          | false =>
            have EK := Lib.hid (keyedB_bad (j + 1) hlt (show keyAt d (j + 1) = false by rw [keyAt_succ hlt, hko]; rfl))
            go_wp2_with fail
            refine (keyOf_any _ _ _ (Nat.le_trans hkey (by omega))).mono ?_
            rintro e w' ⟨rfl, rfl⟩
            go_wp2_with fail
            go_ret
            exact ⟨ret_bool EK.out.symm, (Below.refl _ _).alloc (Nat.le_refl _) _⟩
      · have EK := Lib.hid (keyedB_true HL.out (fun i hi => HA.out i (by omega)))
        go_wp2_with fail
        go_ret
        exact ⟨ret_bool EK.out.symm, (Below.refl _ _).alloc (Nat.le_refl _) _⟩
  · have EK := Lib.hid (show keyedB d = false by simp [keyedB, hlen])
    have hlen2 : ((d.keys.length : Int) != (d.kids.length : Int)) = true := by simp; omega
    clear hlen
    go_enter Try.func85, Try.ntmps85
    go_wp2_with fail
    go_ret
    exact ⟨ret_bool EK.out.symm, (Below.refl _ _).alloc (Nat.le_refl _) _⟩
end Go.Proofs.Ytdgnengfcabgjaa
