/-
  The document's own 'part': right, but for how great.
-/
import Derived.Test.YteecdmceleanjaaGreatDoorB44
import Derived.Deep.QuietTactic
import Derived.BigQuiet
namespace Go.Proofs.YteecdmceleanjaaGreatDoor
open Go.RowKit

theorem rbelow_dr {B : Nat} {a w : World} (h : Below B a w) (n : Nat) : Below B a (w.drewN n) := ⟨h.os, h.tape, h.output, h.size, h.block⟩
theorem flip_lt {a b : ByteArray} (h : scmp a b = -1) : Op.bytesLess b.toList a.toList = false ∧ (b.toList == a.toList) = false := by
  have h1 : scmp b a = - scmp a b := scmp_ordered.flip a b trivial trivial
  exact ⟨scmp_nlt (by omega), scmp_ne (by omega)⟩
theorem flip_ge {a b : ByteArray} (h : ¬ scmp a b = -1) : (Op.bytesLess b.toList a.toList = true) ∨ (Op.bytesLess b.toList a.toList = false ∧ (b.toList == a.toList) = true) := by
  have h1 : scmp b a = - scmp a b := scmp_ordered.flip a b trivial trivial
  rcases scmp_ordered.cases a b trivial trivial with h2 | h2 | h2
  · exact absurd h2 h
  · exact .inr ⟨scmp_nlt (by omega), scmp_eq (by omega)⟩
  · exact .inl (scmp_lt (by omega))
theorem partB_sound {d : D} (h : soundB d = false) : partB d = false := by rw [partB_eq, h]; rfl
theorem partB_kid {d : D} (k : Nat) (h : k < d.kids.length) (hk : partB d.kids[k] = false) : partB d = false := by
  cases hp : partB d with
  | false => rfl
  | true =>
    rw [partB_eq, Bool.and_eq_true] at hp
    rw [partsB_at hp.2 h] at hk; cases hk
theorem partB_all {d : D} (h : soundB d = true) (hk : ∀ (i : Nat) (h : i < d.kids.length), partB d.kids[i] = true) : partB d = true := by
  rw [partB_eq, h, partsB_all hk]; rfl
theorem sound_mk (k n : Int) (s : ByteArray) (ks : List ByteArray) (l : List D) : soundB (.mk k n s ks l) = (numB (.mk k n s ks l) && (strB (.mk k n s ks l) && formB (.mk k n s ks l))) := rfl
theorem form_keyed {k n : Int} {s : ByteArray} {ks : List ByteArray} {l : List D} (h : k = 1 ∨ k = 2) : formB (.mk k n s ks l) = keyedB (.mk k n s ks l) := by
  rcases h with rfl | rfl <;> simp [formB, D.kind]
theorem sound_keyed {k : Int} {s : ByteArray} {ks : List ByteArray} {l : List D} (h : k = 1 ∨ k = 2) (hs : s.size = 0) (hk : keyedB (.mk k 0 s ks l) = true) : soundB (.mk k 0 s ks l) = true := by
  rw [sound_mk, form_keyed h, hk]; simp [numB_mk, strB_mk, hs]
theorem part_key {k : Int} {s : ByteArray} {ks : List ByteArray} {l : List D} (h : k = 1 ∨ k = 2) (i : Nat) (hi : i < ks.length) (hk : keyAt (.mk k 0 s ks l) i = false) : partB (.mk k 0 s ks l) = false := by
  have h0 : keyedB (.mk k 0 s ks l) = false := keyedB_bad i hi hk
  exact partB_sound (by rw [sound_mk, form_keyed h, h0]; simp)
theorem key_ord {k : Int} {s : ByteArray} {ks : List ByteArray} {l : List D} {j : Nat} (h : j + 1 < ks.length) (hs : ¬ scmp ks[j] ks[j + 1] = -1) : keyAt (.mk k 0 s ks l) (j + 1) = false := by
  rw [keyAt_succ (d := .mk k 0 s ks l) h]; simp [D.keys, hs]
theorem key_not {k : Int} {s : ByteArray} {ks : List ByteArray} {l : List D} {j : Nat} (h : j < ks.length) (hs : keyOfB k ks[j] = false) : keyAt (.mk k 0 s ks l) j = false := by
  cases j with
  | zero => rw [keyAt_zero (d := .mk k 0 s ks l) h]; exact hs
  | succ j => rw [keyAt_succ (d := .mk k 0 s ks l) h]; simp [D.keys, D.kind, hs]
theorem key_yes0 {k : Int} {s : ByteArray} {ks : List ByteArray} {l : List D} (h : 0 < ks.length) (hs : keyOfB k ks[0] = true) : keyAt (.mk k 0 s ks l) 0 = true := by
  rw [keyAt_zero (d := .mk k 0 s ks l) h]; exact hs
theorem key_yes {k : Int} {s : ByteArray} {ks : List ByteArray} {l : List D} {j : Nat} (h : j + 1 < ks.length) (hs : keyOfB k ks[j + 1] = true) (ho : scmp ks[j] ks[j + 1] = -1) : keyAt (.mk k 0 s ks l) (j + 1) = true := by
  rw [keyAt_succ (d := .mk k 0 s ks l) h]; simp [D.keys, D.kind, hs, ho]
theorem key2 (s : ByteArray) : keyOfB 2 s = decide (s.size ≤ 256) := by simp [keyOfB]
theorem key1 (s : ByteArray) : keyOfB 1 s = nameB s := by simp [keyOfB]
theorem part_lens {k n : Int} {s : ByteArray} {ks : List ByteArray} {l : List D} (h : (k ≤ 2 ∧ ks.length ≠ l.length) ∨ (2 < k ∧ 0 < ks.length) ∨ (3 < k ∧ 0 < l.length)) (h1 : 1 ≤ k) (h6 : k ≤ 6) : partB (.mk k n s ks l) = false := by
  refine partB_sound ?_
  have : formB (.mk k n s ks l) = false := by
    cases hf : formB (.mk k n s ks l) with
    | false => rfl
    | true =>
      exfalso
      have hc : k = 1 ∨ k = 2 ∨ k = 3 ∨ k = 4 ∨ k = 5 ∨ k = 6 := by omega
      have hl : (k ≤ 2 → ks.length = l.length) ∧ (2 < k → ks.length = 0) ∧ (3 < k → l.length = 0) := by
        unfold formB at hf
        simp only [D.kind, D.keys, D.kids] at hf
        rcases hc with rfl | rfl | rfl | rfl | rfl | rfl
        · simp [keyedB, D.keys, D.kids] at hf; exact ⟨fun _ => of_decide_eq_true hf.1, fun h => by omega, fun h => by omega⟩
        · simp [keyedB, D.keys, D.kids] at hf; exact ⟨fun _ => of_decide_eq_true hf.1, fun h => by omega, fun h => by omega⟩
        · simp at hf; simp [hf]
        · simp at hf; simp [hf]
        · simp at hf; simp [hf]
        · simp at hf; simp [hf]
      omega
  rw [sound_mk, this]; simp
theorem numB_bad {k n : Int} {s : ByteArray} {ks : List ByteArray} {l : List D} (h : n ≠ 0 ∧ k ≠ 4 ∧ (k ≠ 5 ∨ n ≠ 1)) : partB (.mk k n s ks l) = false := by
  refine partB_sound (soundB_num ?_)
  rw [numB_mk]
  obtain ⟨h1, h2, h3⟩ := h
  rcases h3 with h3 | h3 <;> simp [h1, h2, h3]
theorem strB_bad {k n : Int} {s : ByteArray} {ks : List ByteArray} {l : List D} (h : 0 < s.size ∧ (k ≠ 6 ∨ 256 < s.size)) : partB (.mk k n s ks l) = false := by
  refine partB_sound ?_
  have : strB (.mk k n s ks l) = false := by
    rw [strB_mk]
    obtain ⟨h1, h2⟩ := h
    have h0 : ¬ s.size = 0 := by omega
    rcases h2 with h2 | h2
    · simp [h0, h2]
    · have h3 : ¬ s.size ≤ 256 := by omega
      simp [h0, h3]
  rw [sound_mk, this]; simp
theorem part_kind {k n : Int} {s : ByteArray} {ks : List ByteArray} {l : List D} (h : k < 1 ∨ 6 < k) : partB (.mk k n s ks l) = false := by
  refine partB_sound ?_
  have : formB (.mk k n s ks l) = false := by
    have h1 : ¬ k = 1 := by omega
    have h2 : ¬ k = 2 := by omega
    have h3 : ¬ k = 3 := by omega
    have h4 : ¬ k = 4 := by omega
    have h5 : ¬ k = 5 := by omega
    have h6 : ¬ k = 6 := by omega
    simp [formB, D.kind, h1, h2, h3, h4, h5, h6]
  rw [sound_mk, this]; simp

set_option maxHeartbeats 4000000 in
set_option maxRecDepth 100000 in
/-- What is not right at once. -/
theorem part_out (kind num : Int) (str : ByteArray) (keys : List ByteArray) (kids : List D) (A3 A4 : Option Addr) (c3 c4 : Nat) (w : World) (hkl : keys.length ≤ 10000) (_hdl : kids.length ≤ 10000) (hsl : str.size ≤ 10000)
    (h : (kind < 1 ∨ 6 < kind) ∨ (num ≠ 0 ∧ kind ≠ 4 ∧ (kind ≠ 5 ∨ num ≠ 1)) ∨ (0 < str.size ∧ (kind ≠ 6 ∨ 256 < str.size)) ∨ (kind ≤ 2 ∧ keys.length ≠ kids.length) ∨ (2 < kind ∧ 0 < keys.length) ∨ (3 < kind ∧ 0 < kids.length)) :
    Calls Tryz.prog 112 #[.agg #[.int .i64 kind, .int .i64 num, .string str, .slice A3 keys.length c3, .slice A4 kids.length c4]] w fun e w' => e = .returned (.bool false) ∧ Below w.heap.size w w' := by
  by_cases hk : kind < 1 ∨ 6 < kind
  · clear h
    rcases hk with hk | hk
    · go_enter Tryz.func112, Tryz.ntmps112
      go_wp2_with fail
      all_goals (go_ret; exact ⟨rfl, (Below.refl _ _).alloc (Nat.le_refl _) _⟩)
    · have h1 : ¬ kind < 1 := by omega
      go_enter Tryz.func112, Tryz.ntmps112
      go_wp2_with fail
      all_goals (go_ret; exact ⟨rfl, (Below.refl _ _).alloc (Nat.le_refl _) _⟩)
  have hn := h.resolve_left hk
  clear h
  have hc : kind = 1 ∨ kind = 2 ∨ kind = 3 ∨ kind = 4 ∨ kind = 5 ∨ kind = 6 := by omega
  clear hk
  have gs : (str.size = 0 ∧ str.toList.isEmpty = true) ∨ (0 < str.size ∧ str.toList.isEmpty = false) := by
    rcases Nat.eq_zero_or_pos str.size with g | g
    · exact .inl ⟨g, toList_empty g⟩
    · exact .inr ⟨g, toList_some g⟩
  have gn : num = 0 ∨ num ≠ 0 := by omega
  rcases hc with rfl | rfl | rfl | rfl | rfl | rfl
  all_goals rcases gs with ⟨gs, ht⟩ | ⟨gs, ht⟩
  all_goals rcases gn with rfl | gn
  all_goals first
    | (exfalso; omega)
    | (
      have hn' := Lib.hid hn
      clear hn
      try (have gn' : (num != 0) = true := by simp [gn])
      go_enter Tryz.func112, Tryz.ntmps112
      go_wp2_with fail
      all_goals first
        | (go_ret; exact ⟨rfl, (Below.refl _ _).alloc (Nat.le_refl _) _⟩)
        | (exfalso; have := hn'.out; omega)
        | (exfalso; have hh := hn'.out; simp_all; done)
        | (exfalso; have hh := hn'.out; simp_all; omega))
end Go.Proofs.YteecdmceleanjaaGreatDoor
