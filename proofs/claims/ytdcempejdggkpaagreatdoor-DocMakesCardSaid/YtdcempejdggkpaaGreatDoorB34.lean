/-
  The document's own find, in records.
-/
import Derived.Test.YtdcempejdggkpaaGreatDoorB06
import Derived.Test.YtdcempejdggkpaaGreatDoorB16
import Derived.Test.YtdcempejdggkpaaGreatDoorB33
import Derived.Lib.SlicesS
namespace Go.Proofs.YtdcempejdggkpaaGreatDoor
open Go.RowKit

theorem idx_hit {zs : List ByteArray} {x : ByteArray} {k : Nat} (hk : k < zs.length) (h : zs[k] = x) (hne : ∀ j (h : j < zs.length), j < k → zs[j] ≠ x) : Lib.idxOfS zs x = k := by
  have e := Lib.idxOfS_hit zs zs.length k x hk (Nat.le_refl _) (by rw [List.getD_eq_getElem?_getD, List.getElem?_eq_getElem hk]; exact h) (fun j hj => by
    rw [List.getD_eq_getElem?_getD, List.getElem?_eq_getElem (by omega)]; exact hne j (by omega) hj)
  rwa [List.take_length] at e
theorem idx_miss {zs : List ByteArray} {x : ByteArray} (hne : ∀ j (h : j < zs.length), zs[j] ≠ x) : Lib.idxOfS zs x = -1 := by
  have e := Lib.idxOfS_miss zs zs.length x (fun j hj => by
    rw [List.getD_eq_getElem?_getD, List.getElem?_eq_getElem hj]; exact hne j hj)
  rwa [List.take_length] at e
set_option maxHeartbeats 4000000 in
set_option maxRecDepth 100000 in
theorem rfind_rec {d : D} {v : Value} {s : ByteArray} {w : World} {B : Nat} (hk1 : d.kind = 1) (hlk : d.keys.length = d.kids.length) (hB : B ≤ w.heap.size) (hd : DocV w B d v) (hl : d.keys.length ≤ 10000) :
    Calls Tryz.prog 28 #[v, .string s] w fun e w' => e = .returned (.int .i64 (Lib.idxOfS d.keys s)) ∧ Below w.heap.size w w' := by
  obtain ⟨v0, v1, v2, v3, v4, rfl, hin⟩ := hd
  obtain ⟨A3, d3, A4, d4, rfl, rfl, rfl, rfl, rfl⟩ := hin.forms
  have HS := Lib.hid hin.keys_
  clear hin
  rw [hk1, ← hlk]
  clear hk1
  obtain ⟨n, hn⟩ : ∃ n, n = d.keys.length := ⟨_, rfl⟩
  have HN := Lib.hid hn
  rw [← hn] at hl ⊢
  clear hn hlk
  go_enter Tryz.func28, Tryz.ntmps28
  go_wp2_with fail
  obtain ⟨W2, hW2⟩ : ∃ W2, W2 = w.alloc (.cells #[.int .i64 1, .int .i64 d.num, .string d.str, .slice A3 n d3, .slice A4 n d4] 27) := ⟨_, rfl⟩
  have HBX : Hid (Box5 W2 w.heap.size (.int .i64 1) (.int .i64 d.num) (.string d.str) (.slice A3 n d3) (.slice A4 n d4)) := by rw [hW2]; exact Box5.new w _ _ _ _ _
  have HBL : Hid (Below w.heap.size w W2) := by rw [hW2]; exact (Below.refl _ _).alloc (Nat.le_refl _) _
  rw [← hW2]
  clear hW2
  obtain ⟨q0, q1, q2, q3, q4⟩ := HBX.out.cells
  go_loop [6] (fun i => ∃ k : Nat, k ≤ n ∧ i = .int .i64 k ∧ Hid (∀ (j : Nat) (h : j < d.keys.length), j < k → d.keys[j] ≠ s)) (fun i => n - (intOf i).toNat)
  case atStart => exact ⟨0, Nat.zero_le _, rfl, fun j _ hj => absurd hj (by omega)⟩
  case round =>
    obtain ⟨k, hk, rfl, HALL⟩ := hrel
    by_cases hlt : k < n
    · have hk0 : (0 : Int) ≤ (k : Int) := by omega
      have hk1 : (k : Int) < (n : Int) := by omega
      obtain ⟨A', c', e, _, hc⟩ := HS.out
      injection e with e1 e2 e3
      subst e1
      have hlk2 : k < d.keys.length := by have := HN.out; omega
      obtain ⟨b, off, rfl, hb, hc⟩ := hc (by omega)
      have s6 := (HBL.out.cell (p := ⟨b, off + k, none⟩) (by show b < _; omega)).trans (hc k hlk2)
      obtain ⟨y, hy⟩ : ∃ y, y = d.keys[k] := ⟨_, rfl⟩
      rw [← hy] at s6
      have HY := Lib.hid hy
      clear hc hy e2 e3
      by_cases he : y = s
      · have E : Hid (Lib.idxOfS d.keys s = k) := Lib.hid (idx_hit hlk2 (HY.out ▸ he) fun j h hj => HALL.out j h hj)
        have ge : (y.toList == s.toList) = true := (Lib.bytes_beq_iff _ _).2 he
        clear he
        go_wp2_with fail
        go_ret
        exact ⟨ret_int E.out.symm, HBL.out⟩
      · have HE : Hid (d.keys[k] ≠ s) := Lib.hid (HY.out ▸ he)
        have ge : (y.toList == s.toList) = false := (Lib.bytes_beq_false_iff _ _).2 he
        clear he
        go_wp2_with fail
        go_round
        case rel => exact ⟨k + 1, by omega, by go_num, fun j h hj => by
          rcases Nat.lt_or_ge j k with h1 | h1
          · exact HALL.out j h h1
          · obtain rfl : j = k := by omega
            exact HE.out⟩
        case measure => simp [intOf]; omega
    · have E : Hid (Lib.idxOfS d.keys s = -1) := Lib.hid (idx_miss fun i h => HALL.out i h (by have := HN.out; omega))
      have hk1 : ¬ (k : Int) < (n : Int) := by omega
      go_wp2_with fail
      go_ret
      exact ⟨ret_int E.out.symm, HBL.out⟩
end Go.Proofs.YtdcempejdggkpaaGreatDoor
