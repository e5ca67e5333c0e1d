/-
  Rows of names that rise: plain lemmas.
-/
import Derived.Test.YteecdmceleanjaaGreatDoorB01
import Derived.Test.YteecdmceleanjaaGreatDoorB02
namespace Go.Proofs.YteecdmceleanjaaGreatDoor
open Go.RowKit

theorem t_scmp_lt {x y : ByteArray} (h : scmp x y = -1) : Op.bytesLess x.toList y.toList = true := by
  rw [less_compare, ByteArray.toList_eq, ByteArray.toList_eq]; simpa [scmp] using h
theorem t_scmp_nlt {x y : ByteArray} (h : scmp x y ≠ -1) : Op.bytesLess x.toList y.toList = false := by
  rw [less_compare, ByteArray.toList_eq, ByteArray.toList_eq]; simpa [scmp] using h
theorem t_scmp_eq {x y : ByteArray} (h : scmp x y = 0) : (x.toList == y.toList) = true := by
  rw [ByteArray.toList_eq, ByteArray.toList_eq, beq_iff_eq]; exact (eq_compare _ _).1 h
theorem t_scmp_ne {x y : ByteArray} (h : scmp x y ≠ 0) : (x.toList == y.toList) = false := by
  rw [ByteArray.toList_eq, ByteArray.toList_eq, beq_eq_false_iff_ne]; exact fun hh => h ((eq_compare _ _).2 hh)
theorem t_flip_lt {a b : ByteArray} (h : scmp a b = -1) : Op.bytesLess b.toList a.toList = false ∧ (b.toList == a.toList) = false := by
  have h2 : scmp b a = 1 := by have := scmp_ordered.flip a b trivial trivial; omega
  exact ⟨t_scmp_nlt (by omega), t_scmp_ne (by omega)⟩
theorem t_flip_ge {a b : ByteArray} (h : ¬ scmp a b = -1) : (Op.bytesLess b.toList a.toList = true) ∨ (Op.bytesLess b.toList a.toList = false ∧ (b.toList == a.toList) = true) := by
  have hf := scmp_ordered.flip a b trivial trivial
  rcases scmp_ordered.cases a b trivial trivial with h1 | h1 | h1
  · exact absurd h1 h
  · exact .inr ⟨t_scmp_nlt (by omega), t_scmp_eq (by omega)⟩
  · exact .inl (t_scmp_lt (by omega))
/-- What is asked of the name at a place. -/
def rowAt (p : ByteArray → Bool) (l : List ByteArray) (i : Nat) : Bool := p (l.getD i ⟨#[]⟩) && (decide (i = 0) || decide (scmp (l.getD (i - 1) ⟨#[]⟩) (l.getD i ⟨#[]⟩) = -1))
def rowB (p : ByteArray → Bool) (l : List ByteArray) : Bool := decide (∀ i, i < l.length → rowAt p l i = true)
theorem rowB_true {p : ByteArray → Bool} {l : List ByteArray} (h : ∀ i, i < l.length → rowAt p l i = true) : rowB p l = true := decide_eq_true h
theorem rowB_bad {p : ByteArray → Bool} {l : List ByteArray} (i : Nat) (h : i < l.length) (h2 : rowAt p l i = false) : rowB p l = false :=
  decide_eq_false fun hh => by rw [hh i h] at h2; cases h2
theorem rowAt_zero {p : ByteArray → Bool} {l : List ByteArray} (h : 0 < l.length) : rowAt p l 0 = p l[0] := by
  simp [rowAt, List.getD_eq_getElem?_getD, h]
theorem rowAt_succ {p : ByteArray → Bool} {l : List ByteArray} {j : Nat} (h : j + 1 < l.length) : rowAt p l (j + 1) = (p l[j + 1] && decide (scmp l[j] l[j + 1] = -1)) := by
  simp [rowAt, List.getD_eq_getElem?_getD, h, show j < l.length from by omega]
theorem t_one_all {p : Nat → Prop} (h : p 0) : ∀ i, i < 1 → p i := fun i hi => by
  obtain rfl : i = 0 := by omega
  exact h
theorem t_more_all {p : Nat → Prop} {k : Nat} (h : ∀ i, i < k → p i) (hk : p k) : ∀ i, i < k + 1 → p i := fun i hi => by
  rcases Nat.lt_or_ge i k with h1 | h1
  · exact h i h1
  · obtain rfl : i = k := by omega
    exact hk
theorem bel_drewN {B : Nat} {w w' : World} (h : Below B w w') (n : Nat) : Below B w (w'.drewN n) := ⟨h.os, h.tape, h.output, h.size, h.block⟩
def fieldNames (l : List F) : List ByteArray := l.map F.name
theorem fieldNames_len (l : List F) : (fieldNames l).length = l.length := by simp [fieldNames]
theorem fieldNames_at (l : List F) {i : Nat} (h : i < l.length) : (fieldNames l)[i]'(by simpa [fieldNames] using h) = (l[i]).name := by simp [fieldNames]
def fieldedB (l : List F) : Bool := decide (l.length ≤ 32) && rowB nameB (fieldNames l)
def shortB (s : ByteArray) : Bool := decide (s.size ≤ 256)
def namedB (l : List ByteArray) : Bool := decide (0 < l.length) && (decide (l.length ≤ 32) && rowB shortB l)
def unrB (t : T) : Bool := decide (t.lo = 0) && decide (t.hi = 0)
def soundT (t : T) : Bool :=
  if t.kind = 1 then decide (t.names.length = 0) && (unrB t && (decide (t.of.length = 0) && fieldedB t.fields))
  else if t.kind = 2 ∨ t.kind = 3 then decide (t.fields.length = 0) && (decide (t.names.length = 0) && (decide (0 ≤ t.lo) && (decide (t.lo ≤ t.hi) && decide (t.of.length = 1))))
  else if t.kind = 4 then decide (t.fields.length = 0) && (decide (t.names.length = 0) && (decide (t.lo ≤ t.hi) && decide (t.of.length = 0)))
  else if t.kind = 5 then decide (t.fields.length = 0) && (decide (t.names.length = 0) && (unrB t && decide (t.of.length = 0)))
  else if t.kind = 6 then decide (t.fields.length = 0) && (decide (t.names.length = 0) && (decide (0 ≤ t.lo) && (decide (t.lo ≤ t.hi) && (decide (t.hi ≤ 256) && decide (t.of.length = 0)))))
  else if t.kind = 7 then decide (t.fields.length = 0) && (unrB t && (decide (t.of.length = 0) && namedB t.names))
  else false
set_option maxHeartbeats 1000000 in
theorem unr_any {t : T} {b o : Nat} {w : World} {B : Nat} (ht : TypeAt w B b o t) :
    Calls Tryz.prog 79 #[.pointer (some ⟨b, o, none⟩)] w fun e w' => e = .returned (.bool (unrB t)) ∧ w = w' := by
  obtain ⟨v0, v1, v2, v3, v4, v5, c0, c1, c2, c3, c4, c5, hin⟩ := ht
  obtain ⟨A3, d3, A4, d4, A5, d5, rfl, rfl, rfl, rfl, rfl, rfl⟩ := hin.forms
  clear hin c3 c4 c5
  go_enter Tryz.func79, Tryz.ntmps79
  go_wp2_with fail
  all_goals (go_ret; refine ⟨ret_bool ?_, rfl⟩; rw [Bool.eq_iff_iff]; simp [unrB, *])
set_option maxHeartbeats 2000000 in
set_option maxRecDepth 100000 in
theorem named_any {l : List ByteArray} {v : Value} {w : World} {B : Nat} (hs : Strs w B v l) (hn : l.length ≤ 10000) (hl : ∀ k ∈ l, k.size ≤ 10000) :
    Calls Tryz.prog 81 #[v] w fun e w' => e = .returned (.bool (namedB l)) ∧ w = w' := by
  obtain ⟨A, c, rfl, hlc, hcells⟩ := hs
  have HC := Lib.hid hcells; have HL := Lib.hid hl
  clear hcells hl
  rcases Nat.eq_zero_or_pos l.length with h0 | h0
  · have E := Lib.hid (show namedB l = false by simp [namedB, h0])
    have g0 : ((l.length : Int) == 0) = true := by simp [h0]
    clear h0
    go_enter Tryz.func81, Tryz.ntmps81
    go_wp2_with fail
    go_ret
    exact ⟨ret_bool E.out.symm, rfl⟩
  have g0 : ((l.length : Int) == 0) = false := by rw [beq_eq_false_iff_ne]; omega
  rcases Nat.lt_or_ge 32 l.length with h1 | h1
  · have E := Lib.hid (show namedB l = false by unfold namedB; rw [show decide (l.length ≤ 32) = false from decide_eq_false (by omega)]; simp)
    go_enter Tryz.func81, Tryz.ntmps81
    go_wp2_with fail
    go_ret
    exact ⟨ret_bool E.out.symm, rfl⟩
  go_enter Tryz.func81, Tryz.ntmps81
  go_wp2_with fail
  go_loop [15] (fun i => ∃ k : Nat, k ≤ l.length ∧ i = .int .i64 k ∧ (∀ i, i < k → rowAt shortB l i = true)) (fun i => l.length - (intOf i).toNat)
  case atStart => exact ⟨0, Nat.zero_le _, rfl, fun i h => absurd h (by omega)⟩
  case round =>
    obtain ⟨k, hk, rfl, hall⟩ := hrel
    have HA := Lib.hid hall; clear hall
    by_cases hlt : k < l.length
    · obtain ⟨b, off, rfl, hab, hcells⟩ := HC.out (by omega)
      have gk := hcells k hlt
      have hkey := HL.out l[k] (List.getElem_mem hlt)
      rcases Nat.lt_or_ge 256 (l[k]).size with hbig | hbig
      · have EK := Lib.hid (show namedB l = false by
          simp only [namedB, rowB_bad (p := shortB) k hlt (by simp [rowAt, hlt, shortB]; omega)]; simp)
        clear hcells
        go_wp2_with fail
        go_ret
        exact ⟨ret_bool EK.out.symm, rfl⟩
      rcases Nat.eq_zero_or_pos k with rfl | hk0
      · have EK := Lib.hid (show rowAt shortB l 0 = true by rw [rowAt_zero hlt]; simp [shortB]; omega)
        rw [Nat.add_zero] at gk
        clear hcells
        go_wp2_with fail
        go_round
        case rel => exact ⟨1, by omega, by go_num, t_one_all EK.out⟩
        case measure => simp [intOf]; omega
      · obtain ⟨j, rfl⟩ : ∃ j, k = j + 1 := ⟨k - 1, by omega⟩
        have gj := hcells j (by omega)
        have gk2 : w.cell? ⟨b, off + j + 1, none⟩ = some (.string l[j + 1]) := gk
        clear hcells hk0
        by_cases hsc : scmp l[j] l[j + 1] = -1
        · have EK := Lib.hid (show rowAt shortB l (j + 1) = true by rw [rowAt_succ hlt, hsc]; simp [shortB]; omega)
          have hlt3 := t_scmp_lt hsc
          clear hsc
          go_wp2_with fail
          go_round
          case rel => exact ⟨j + 2, by omega, by go_num, t_more_all HA.out EK.out⟩
          case measure => simp [intOf]; omega
        · have EK := Lib.hid (show namedB l = false by
            simp only [namedB, rowB_bad (p := shortB) (j + 1) hlt (by rw [rowAt_succ hlt]; simp [hsc])]; simp)
          have hlt3 := t_scmp_nlt hsc
          clear hsc
          go_wp2_with fail
          go_ret
          exact ⟨ret_bool EK.out.symm, rfl⟩
    · have EK := Lib.hid (show namedB l = true by
        simp only [namedB, rowB_true (p := shortB) fun i hi => HA.out i (by omega)]; simp; omega)
      go_wp2_with fail
      go_ret
      exact ⟨ret_bool EK.out.symm, rfl⟩

set_option maxHeartbeats 4000000 in
set_option maxRecDepth 100000 in
theorem fielded_any {l : List F} {v : Value} {w : World} {B : Nat} (hB : B ≤ w.heap.size) (hs : FieldsV w B v l) (hn : l.length ≤ 10000) (hl : T.FitsF l) :
    Calls Tryz.prog 80 #[v] w fun e w' => e = .returned (.bool (fieldedB l)) ∧ Below w.heap.size w w' := by
  obtain ⟨A, c, rfl, hlc, hcells⟩ := hs
  have HC := Lib.hid hcells; have HL := Lib.hid hl
  clear hcells hl
  rcases Nat.lt_or_ge 32 l.length with h1 | h1
  · have E := Lib.hid (show fieldedB l = false by unfold fieldedB; rw [show decide (l.length ≤ 32) = false from decide_eq_false (by omega)]; simp)
    go_enter Tryz.func80, Tryz.ntmps80
    go_wp2_with fail
    go_ret
    exact ⟨ret_bool E.out.symm, Below.refl _ _⟩
  go_enter Tryz.func80, Tryz.ntmps80
  go_wp2_with fail
  go_loopw [10] (fun i wr => ∃ k : Nat, k ≤ l.length ∧ i = .int .i64 k ∧ (∀ i, i < k → rowAt nameB (fieldNames l) i = true) ∧ Below w.heap.size w wr) (fun i _ => l.length - (intOf i).toNat)
  case atStart => exact ⟨0, Nat.zero_le _, rfl, fun i h => absurd h (by omega), Below.refl _ _⟩
  case round =>
    obtain ⟨k, hk, rfl, hall, hb⟩ := hrel
    have HA := Lib.hid hall; clear hall
    by_cases hlt : k < l.length
    · obtain ⟨b, off, rfl, hab, hfi⟩ := HC.out (by omega)
      have hat := FieldsIn.at_ hfi k hlt
      rw [Nat.zero_add] at hat
      obtain ⟨n0, o0, ht⟩ := hat
      have kp : ∀ p : Addr, p.block < B → wr.cell? p = w.cell? p := fun p hp => hb.cell (by omega)
      have n1 := (kp ⟨b, off + k * 8, none⟩ hab).trans n0
      have o1 := (kp ⟨b, off + k * 8 + 1, none⟩ hab).trans o0
      obtain ⟨v0, v1, v2, v3, v4, v5, c0, c1, c2, c3, c4, c5, hin⟩ := ht.keep (Nat.le_refl _) kp hab
      obtain ⟨A3, d3, A4, d4, A5, d5, rfl, rfl, rfl, rfl, rfl, rfl⟩ := hin.forms
      clear n0 o0 kp hfi ht hin
      have HB := Lib.hid hb
      clear hb
      have HB2 : Hid (Below w.heap.size w (wr.alloc (.cells #[.string l[k].name, .bool l[k].opt, .int .i64 l[k].type.kind, .int .i64 l[k].type.lo, .int .i64 l[k].type.hi, .slice A3 l[k].type.names.length d3, .slice A4 l[k].type.fields.length d4, .slice A5 l[k].type.of.length d5] 48))) := HB.out.alloc HB.out.size _
      obtain ⟨W2, hW2⟩ : ∃ W2, W2 = wr.alloc (.cells #[.string l[k].name, .bool l[k].opt, .int .i64 l[k].type.kind, .int .i64 l[k].type.lo, .int .i64 l[k].type.hi, .slice A3 l[k].type.names.length d3, .slice A4 l[k].type.fields.length d4, .slice A5 l[k].type.of.length d5] 48) := ⟨_, rfl⟩
      have m0 : W2.cell? ⟨wr.heap.size, 0, none⟩ = some (.string l[k].name) := by rw [hW2]; go_simp
      rw [← hW2] at HB2
      have HW2 := Lib.hid hW2
      cases hnm : nameB (l[k]).name with
      | false =>
        have HNM := Lib.hid (show ∀ W : World, Calls Tryz.prog 115 #[.string l[k].name] W fun e w' => e = .returned (.bool false) ∧ W = w' from fun W => hnm ▸ name_any _ W)
        have EK := Lib.hid (show fieldedB l = false by
          unfold fieldedB
          rw [rowB_bad (p := nameB) k (by rw [fieldNames_len]; exact hlt) (by simp [rowAt, fieldNames, hlt, hnm])]; simp)
        clear hnm hW2
        go_wp2_with fail
        rw [← HW2.out]
        go_quiet ((go_at_call 115; first | exact Calls.quiet_of_same (HNM.out _) | exact (HNM.out _).mono fun e w'' h => ⟨h.1, _, h.2.symm⟩))
        go_wp2_with fail
        go_ret
        exact ⟨ret_bool EK.out.symm, bel_drewN HB2.out _⟩
      | true =>
        have HNM := Lib.hid (show ∀ W : World, Calls Tryz.prog 115 #[.string l[k].name] W fun e w' => e = .returned (.bool true) ∧ W = w' from fun W => hnm ▸ name_any _ W)
        rcases Nat.eq_zero_or_pos k with rfl | hk0
        · have EK := Lib.hid (show rowAt nameB (fieldNames l) 0 = true by rw [rowAt_zero (by rw [fieldNames_len]; exact hlt), fieldNames_at l hlt]; exact hnm)
          have hd0 : decide ((0 : Int) < ((0 : Nat) : Int)) = false := by decide
          clear hnm hW2
          simp only [Nat.zero_mul, Nat.add_zero, Nat.add_assoc, Nat.reduceAdd] at n1 o1 c0 c1 c2 c3 c4 c5
          go_wp2_with fail
          rw [← HW2.out]
          go_quiet ((go_at_call 115; first | exact Calls.quiet_of_same (HNM.out _) | exact (HNM.out _).mono fun e w'' h => ⟨h.1, _, h.2.symm⟩))
          go_wp2_with fail
          go_roundw
          case rel => exact ⟨1, by omega, by go_num, t_one_all EK.out, bel_drewN HB2.out _⟩
          case measure => simp [intOf]; omega
        · obtain ⟨j, rfl⟩ : ∃ j, k = j + 1 := ⟨k - 1, by omega⟩
          obtain ⟨b', off', e', _, hfi'⟩ := HC.out (by omega)
          injection e' with e'; injection e' with e1 e2
          subst e1; subst e2
          have hat' := FieldsIn.at_ hfi' j (by omega)
          rw [Nat.zero_add] at hat'
          have gj : W2.cell? ⟨b, off + j * 8, none⟩ = some (.string (l[j]'(by omega)).name) := (HB2.out.cell (by show b < _; omega)).trans hat'.1
          have hj0 : (0 : Int) < (j : Int) + 1 := by omega
          have hj1 : (j : Int) + 1 < (l.length : Int) := by omega
          have hj2 : (0 : Int) ≤ (j : Int) + 1 := by omega
          have hj3 : (j : Int) < (l.length : Int) := by omega
          have hj4 : (0 : Int) ≤ (j : Int) := by omega
          have hjp : decide ((0 : Int) < (j : Int) + 1) = true := decide_eq_true (by omega)
          clear hfi' hat' hk0
          by_cases hsc : scmp (l[j]'(by omega)).name (l[j + 1]).name = -1
          · have EK := Lib.hid (show rowAt nameB (fieldNames l) (j + 1) = true by
              rw [rowAt_succ (by rw [fieldNames_len]; exact hlt), fieldNames_at l hlt, fieldNames_at l (by omega), hnm, hsc]; rfl)
            have hlt3 := t_scmp_lt hsc
            clear hnm hW2 hsc
            go_wp2_with fail
            rw [← HW2.out]
            go_quiet ((go_at_call 115; first | exact Calls.quiet_of_same (HNM.out _) | exact (HNM.out _).mono fun e w'' h => ⟨h.1, _, h.2.symm⟩))
            go_wp2_with fail
            go_roundw
            case rel => exact ⟨j + 2, by omega, by go_num, t_more_all HA.out EK.out, bel_drewN HB2.out _⟩
            case measure => simp [intOf]; omega
          · have EK := Lib.hid (show fieldedB l = false by
              unfold fieldedB
              rw [rowB_bad (p := nameB) (j + 1) (by rw [fieldNames_len]; exact hlt) (by rw [rowAt_succ (by rw [fieldNames_len]; exact hlt), fieldNames_at l hlt, fieldNames_at l (by omega)]; simp [hsc])]; simp)
            have hlt3 := t_scmp_nlt hsc
            clear hnm hW2 hsc
            go_wp2_with fail
            rw [← HW2.out]
            go_quiet ((go_at_call 115; first | exact Calls.quiet_of_same (HNM.out _) | exact (HNM.out _).mono fun e w'' h => ⟨h.1, _, h.2.symm⟩))
            go_wp2_with fail
            go_ret
            exact ⟨ret_bool EK.out.symm, bel_drewN HB2.out _⟩
    · have EK := Lib.hid (show fieldedB l = true by
        unfold fieldedB
        rw [rowB_true (p := nameB) fun i hi => HA.out i (by rw [fieldNames_len] at hi; omega)]; simp; omega)
      go_wp2_with fail
      go_ret
      exact ⟨ret_bool EK.out.symm, hb⟩
end Go.Proofs.YteecdmceleanjaaGreatDoor
