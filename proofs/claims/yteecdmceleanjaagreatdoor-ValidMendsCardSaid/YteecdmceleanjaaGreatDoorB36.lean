/-
  The document's own 'part' of types: records.
-/
import Derived.Test.YteecdmceleanjaaGreatDoorB32
namespace Go.Proofs.YteecdmceleanjaaGreatDoor
open Go.RowKit

theorem allL_bad {l : List T} {k : Nat} (hk : k < l.length) (h : allT l[k] = false) : allL l = false := by
  rw [← Bool.not_eq_true]
  intro hh
  have : ∀ (l : List T) (k : Nat) (hk : k < l.length), allL l = true → allT l[k] = true := by
    intro l
    induction l with
    | nil => intro k hk; simp at hk
    | cons x r ih =>
      intro k hk hh
      simp only [allL, Bool.and_eq_true] at hh
      cases k with
      | zero => exact hh.1
      | succ k => exact ih k (by simpa using hk) hh.2
  rw [this l k hk hh] at h; cases h
theorem allL_good : ∀ {l : List T}, (∀ (k : Nat) (hk : k < l.length), allT l[k] = true) → allL l = true
  | [], _ => rfl
  | x :: r, h => by
    simp only [allL, Bool.and_eq_true]
    exact ⟨h 0 (by simp), allL_good fun k hk => h (k + 1) (by simpa using hk)⟩
set_option maxHeartbeats 8000000 in
set_option maxRecDepth 100000 in
theorem rpart_rec0 (m : Nat) {l : List F} {lo hi : Int} {r : Bool} {A3 A4 A5 : Option Addr} {d3 d4 d5 : Nat} {w : World} {B : Nat}
    (IH : Hid (∀ (t : T) (v : Value) (w : World) (B : Nat), t.depth ≤ m → t.Fit → B ≤ w.heap.size → TypeV w B t v →
      Calls Tryz.prog 109 #[v] w fun e w' => e = .returned (.bool (allT t)) ∧ Below w.heap.size w w'))
    (E0 : Hid (r = (decide (lo = 0) && (decide (hi = 0) && (fieldedB l && allL (l.map F.type))))))
    (HD : Hid (∀ (k : Nat) (h : k < l.length), (l[k]).type.depth ≤ m)) (HFT : Hid (∀ (k : Nat) (h : k < l.length), (l[k]).type.Fit)) (hB : B ≤ w.heap.size) (hol : l.length ≤ 10000) (HV : Hid (FieldsV w B (.slice A4 l.length d4) l)) :
    Calls Tryz.prog 109 #[.agg #[.int .i64 1, .int .i64 lo, .int .i64 hi, .slice A3 0 d3, .slice A4 l.length d4, .slice A5 0 d5]] w fun e w' => e = .returned (.bool r) ∧ Below w.heap.size w w' := by
  by_cases hu : lo = 0 ∧ hi = 0 ∧ l.length ≤ 32
  rotate_left
  · have E : Hid (r = false) := by
      show r = false
      rw [E0.out, ← Bool.not_eq_true]
      simp only [fieldedB, Bool.and_eq_true, decide_eq_true_eq]
      omega
    have HU := Lib.hid hu
    clear hu E0
    by_cases g0 : (32 : Int) < (l.length : Int)
    · go_enter Tryz.func109, Tryz.ntmps109
      go_wp2_with fail
      go_ret
      exact ⟨ret_bool E.out.symm, (Below.refl _ _).alloc (Nat.le_refl _) _⟩
    by_cases g1 : lo = 0
    · subst g1
      have g2 : (hi != 0) = true := by
        have := HU.out
        simp; omega
      go_enter Tryz.func109, Tryz.ntmps109
      go_wp2_with fail
      go_ret
      exact ⟨ret_bool E.out.symm, (Below.refl _ _).alloc (Nat.le_refl _) _⟩
    · have g2 : (lo != 0) = true := by simp [g1]
      go_enter Tryz.func109, Tryz.ntmps109
      go_wp2_with fail
      go_ret
      exact ⟨ret_bool E.out.symm, (Below.refl _ _).alloc (Nat.le_refl _) _⟩
  obtain ⟨rfl, rfl, h1⟩ := hu
  have E : Hid (r = (rowB nameB (fieldNames l) && allL (l.map F.type))) := by
    show r = _
    rw [E0.out, fieldedB, decide_eq_true h1]; rfl
  clear E0
  have g2 : (l.length : Int) ≤ 32 := by omega
  go_enter Tryz.func109, Tryz.ntmps109
  go_wp2_with fail
  obtain ⟨W2, hW2⟩ : ∃ W2, W2 = w.alloc (.cells #[.int .i64 1, .int .i64 0, .int .i64 0, .slice A3 0 d3, .slice A4 l.length d4, .slice A5 0 d5] 26) := ⟨_, rfl⟩
  have HBX : Hid (Box6 W2 w.heap.size (.int .i64 1) (.int .i64 0) (.int .i64 0) (.slice A3 0 d3) (.slice A4 l.length d4) (.slice A5 0 d5)) := by rw [hW2]; exact Box6.new w _ _ _ _ _ _
  have HBL : Hid (Below w.heap.size w W2) := by rw [hW2]; exact (Below.refl _ _).alloc (Nat.le_refl _) _
  have hzw := HBL.out.size
  rw [← hW2]
  clear hW2
  go_loopw [3, 4] (fun i _ wr => ∃ k : Nat, k ≤ l.length ∧ i = .int .i64 k ∧ (∀ i, i < k → rowAt nameB (fieldNames l) i = true) ∧ (∀ (j : Nat) (h : j < l.length), j < k → allT (l[j]).type = true) ∧ Below W2.heap.size W2 wr) (fun i _ _ => l.length - (intOf i).toNat)
  case atStart => exact ⟨0, Nat.zero_le _, rfl, fun i h => absurd h (by omega), fun j _ h => absurd h (by omega), Below.refl _ _⟩
  case round =>
    obtain ⟨k, hk, rfl, hall, hall2, hb⟩ := hrel
    have HA := Lib.hid hall; have HA2 := Lib.hid hall2; have HB := Lib.hid hb; clear hall hall2 hb
    obtain ⟨q0, q1, q2, q3, q4, q5⟩ := (HBX.out.same (HB.out.block _ HBX.out.lt)).cells
    have HBF : Hid (Below w.heap.size w wr) := HBL.out.trans (HB.out.mono hzw)
    have hzr := HB.out.size
    have hbl := HBX.out.lt
    by_cases hlt : k < l.length
    · have hk0 : (0 : Int) ≤ (k : Int) := by omega
      have hk1 : (k : Int) < (l.length : Int) := by omega
      obtain ⟨b, off, rfl, hbb, s6, s7, X3, b3, X4, b4, X5, b5, s0, s1, s2, s3, s4, s5, hi⟩ := HV.out.kid HBF.out hB hlt
      have HI := Lib.hid hi
      clear hi
      cases hnm : nameB (l[k]).name with
      | false =>
        have EK : Hid (r = false) := by
          show r = false
          rw [E.out, rowB_bad (p := nameB) k (by rw [fieldNames_len]; exact hlt) (by simp [rowAt, fieldNames, hlt, hnm])]; rfl
        go_wp2_with fail
        refine (t_rname_any _ _).mono ?_
        rintro e w' ⟨rfl, rfl⟩
        rw [hnm]
        go_wp2_with fail
        go_quiet (fail)
        go_wp2_with fail
        go_ret
        exact ⟨ret_bool EK.out.symm, bel_drewN HBF.out _⟩
      | true =>
        rcases Nat.eq_zero_or_pos k with rfl | hkp
        · have EK := Lib.hid (show rowAt nameB (fieldNames l) 0 = true by rw [rowAt_zero (by rw [fieldNames_len]; exact hlt), fieldNames_at l hlt]; exact hnm)
          simp only [Nat.zero_mul, Nat.add_zero, Nat.add_assoc, Nat.reduceAdd] at s0 s1 s2 s3 s4 s5 s6 s7
          go_wp2_with fail
          refine (t_rname_any _ _).mono ?_
          rintro e w' ⟨rfl, rfl⟩
          rw [hnm]
          have hbl2 : w.heap.size < wr.heap.size := by omega
          go_wp2_with fail
          refine wp_region_quiet (C := fun w' => Below wr.heap.size wr w') (by kernel_rfl) (by kernel_rfl) ((Below.refl _ _).drew) ?_
          dsimp only
          repeat (first
              | go_big_quiet_skip
              | (go_big_quiet_want; go_big_quiet_op; go_big_quiet_on)
              | (go_big_quiet_want; refine ⟨(.slice (some ⟨b, off, none⟩) l.length d4), fun wq hq => ?_, ?_⟩
                 · (have c4 := (hq.cell (p := ⟨w.heap.size, 4, none⟩) hbl2).trans q4; go_simp; done)
                 (simp only [Act.put, List.setIfInBounds_toArray, List.set_cons_zero, List.set_cons_succ])
                 go_big_quiet_on)
              | (go_big_quiet_want; refine ⟨(.agg #[.int .i64 (l[0]).type.kind, .int .i64 (l[0]).type.lo, .int .i64 (l[0]).type.hi, .slice X3 (l[0]).type.names.length b3, .slice X4 (l[0]).type.fields.length b4, .slice X5 (l[0]).type.of.length b5]), fun wq hq => ?_, ?_⟩
                 · (have c0 := (hq.cell (p := ⟨b, _, none⟩) hbb).trans s0; have c1 := (hq.cell (p := ⟨b, _, none⟩) hbb).trans s1; have c2 := (hq.cell (p := ⟨b, _, none⟩) hbb).trans s2; have c3 := (hq.cell (p := ⟨b, _, none⟩) hbb).trans s3; have c4 := (hq.cell (p := ⟨b, _, none⟩) hbb).trans s4; have c5 := (hq.cell (p := ⟨b, _, none⟩) hbb).trans s5; go_simp; done)
                 (simp only [Act.put, List.setIfInBounds_toArray, List.set_cons_zero, List.set_cons_succ])
                 go_big_quiet_on)
              | (go_big_quiet_want; go_big_quiet_op; apply Exists.intro; refine ⟨fun _ _ => rfl, ?_⟩; go_big_quiet_on)
              | (go_big_quiet_want; go_big_quiet_op; apply Exists.intro; refine ⟨fun wq hq => ?_, ?_⟩
                 · (go_at_call 109; exact (IH.out (l[0]).type _ _ B (HD.out _ hlt) (HFT.out _ hlt) (by have := hq.size; omega) ⟨_, _, _, _, _, _, rfl, HI.out.keep (Nat.le_refl _) fun p hp => hq.cell (by omega)⟩).mono fun e w'' h => ⟨h.1, hq.trans (h.2.mono hq.size)⟩)
                 go_big_quiet_on))
          refine wpQuiet_nil ?_
          intro wq hq
          have HQ := Lib.hid (HB.out.trans (hq.mono hzr))
          have HQF : Hid (Below w.heap.size w wq) := HBL.out.trans (HQ.out.mono hzw)
          clear hq
          cases hpt : allT (l[0]).type with
          | false =>
            have EK2 : Hid (r = false) := by
              show r = false
              rw [E.out, allL_bad (k := 0) (by rw [List.length_map]; exact hlt) (by rw [List.getElem_map]; exact hpt), Bool.and_false]
            go_wp2_with fail
            go_ret
            exact ⟨ret_bool EK2.out.symm, HQF.out⟩
          | true =>
            have HPT := Lib.hid hpt
            clear hpt
            go_wp2_with fail
            go_roundw
            case rel => exact ⟨1, by omega, by go_num, t_one_all EK.out, fun i h hi => by
              rcases Nat.lt_or_ge i 0 with h1 | h1
              · exact HA2.out i h h1
              · obtain rfl : i = 0 := by omega
                exact HPT.out, HQ.out⟩
            case measure => simp [intOf]; omega

        · obtain ⟨j, rfl⟩ : ∃ j, k = j + 1 := ⟨k - 1, by omega⟩
          have hjl : j < l.length := by omega
          obtain ⟨b', off', ea, _, gj, _⟩ := HV.out.kid HBF.out hB hjl
          injection ea with ea; injection ea with e1 e2
          subst e1; subst e2
          have hbl2 : w.heap.size < wr.heap.size := by omega
          have hj0 : (0 : Int) < (j : Int) + 1 := by omega
          have hj1 : (j : Int) + 1 < (l.length : Int) := by omega
          have hj2 : (0 : Int) ≤ (j : Int) + 1 := by omega
          have hj3 : (j : Int) < (l.length : Int) := by omega
          have hj4 : (0 : Int) ≤ (j : Int) := by omega
          have hjp : decide ((0 : Int) < (j : Int) + 1) = true := decide_eq_true (by omega)
          have s6x : wr.cell? ⟨b, off + (j * 8 + 8), none⟩ = some (.string (l[j + 1]).name) := by rw [← s6]; congr 2; omega
          by_cases hsc : scmp (l[j]'hjl).name (l[j + 1]).name = -1
          · have EK := Lib.hid (show rowAt nameB (fieldNames l) (j + 1) = true by
              rw [rowAt_succ (by rw [fieldNames_len]; exact hlt), fieldNames_at l hlt, fieldNames_at l hjl, hnm, hsc]; rfl)
            obtain ⟨hlt3, hlt4⟩ := t_flip_lt hsc
            clear hsc
            go_wp2_with fail
            refine (t_rname_any _ _).mono ?_
            rintro e w' ⟨rfl, rfl⟩
            rw [hnm]
            go_wp2_with fail
            refine wp_region_quiet (C := fun w' => Below wr.heap.size wr w') (by kernel_rfl) (by kernel_rfl) ((Below.refl _ _).drew) ?_
            dsimp only
            repeat (first
                | go_big_quiet_skip
                | (go_big_quiet_want; go_big_quiet_op; go_big_quiet_on)
                | (go_big_quiet_want; refine ⟨(.slice (some ⟨b, off, none⟩) l.length d4), fun wq hq => ?_, ?_⟩
                   · (have c4 := (hq.cell (p := ⟨w.heap.size, 4, none⟩) hbl2).trans q4; go_simp; done)
                   (simp only [Act.put, List.setIfInBounds_toArray, List.set_cons_zero, List.set_cons_succ])
                   go_big_quiet_on)
                | (go_big_quiet_want; refine ⟨(.string (l[j + 1]).name), fun wq hq => ?_, ?_⟩
                   · (have c6 := (hq.cell (p := ⟨b, _, none⟩) hbb).trans s6; have c7 := (hq.cell (p := ⟨b, _, none⟩) hbb).trans s6x; go_simp; done)
                   (simp only [Act.put, List.setIfInBounds_toArray, List.set_cons_zero, List.set_cons_succ])
                   go_big_quiet_on)
                | (go_big_quiet_want; refine ⟨(.string (l[j]'hjl).name), fun wq hq => ?_, ?_⟩
                   · (have c6 := (hq.cell (p := ⟨b, _, none⟩) hbb).trans gj; go_simp; done)
                   (simp only [Act.put, List.setIfInBounds_toArray, List.set_cons_zero, List.set_cons_succ])
                   go_big_quiet_on)
                | (go_big_quiet_want; refine ⟨(.agg #[.int .i64 (l[j + 1]).type.kind, .int .i64 (l[j + 1]).type.lo, .int .i64 (l[j + 1]).type.hi, .slice X3 (l[j + 1]).type.names.length b3, .slice X4 (l[j + 1]).type.fields.length b4, .slice X5 (l[j + 1]).type.of.length b5]), fun wq hq => ?_, ?_⟩
                   · (have c0 := (hq.cell (p := ⟨b, _, none⟩) hbb).trans s0; have c1 := (hq.cell (p := ⟨b, _, none⟩) hbb).trans s1; have c2 := (hq.cell (p := ⟨b, _, none⟩) hbb).trans s2; have c3 := (hq.cell (p := ⟨b, _, none⟩) hbb).trans s3; have c4 := (hq.cell (p := ⟨b, _, none⟩) hbb).trans s4; have c5 := (hq.cell (p := ⟨b, _, none⟩) hbb).trans s5; go_simp; done)
                   (simp only [Act.put, List.setIfInBounds_toArray, List.set_cons_zero, List.set_cons_succ])
                   go_big_quiet_on)
                | (go_big_quiet_want; go_big_quiet_op; apply Exists.intro; refine ⟨fun _ _ => rfl, ?_⟩; go_big_quiet_on)
                | (go_big_quiet_want; go_big_quiet_op; apply Exists.intro; refine ⟨fun wq hq => ?_, ?_⟩
                   · (go_at_call 109; exact (IH.out (l[j + 1]).type _ _ B (HD.out _ hlt) (HFT.out _ hlt) (by have := hq.size; omega) ⟨_, _, _, _, _, _, rfl, HI.out.keep (Nat.le_refl _) fun p hp => hq.cell (by omega)⟩).mono fun e w'' h => ⟨h.1, hq.trans (h.2.mono hq.size)⟩)
                   go_big_quiet_on))
            refine wpQuiet_nil ?_
            intro wq hq
            have HQ := Lib.hid (HB.out.trans (hq.mono hzr))
            have HQF : Hid (Below w.heap.size w wq) := HBL.out.trans (HQ.out.mono hzw)
            clear hq
            cases hpt : allT (l[j + 1]).type with
            | false =>
              have EK2 : Hid (r = false) := by
                show r = false
                rw [E.out, allL_bad (k := j + 1) (by rw [List.length_map]; exact hlt) (by rw [List.getElem_map]; exact hpt), Bool.and_false]
              go_wp2_with fail
              go_ret
              exact ⟨ret_bool EK2.out.symm, HQF.out⟩
            | true =>
              have HPT := Lib.hid hpt
              clear hpt
              go_wp2_with fail
              go_roundw
              case rel => exact ⟨j + 2, by omega, by go_num, t_more_all HA.out EK.out, fun i h hi => by
                rcases Nat.lt_or_ge i (j + 1) with h1 | h1
                · exact HA2.out i h h1
                · obtain rfl : i = j + 1 := by omega
                  exact HPT.out, HQ.out⟩
              case measure => simp [intOf]; omega

          · have EK : Hid (r = false) := by
              show r = false
              rw [E.out, rowB_bad (p := nameB) (j + 1) (by rw [fieldNames_len]; exact hlt) (by rw [rowAt_succ (by rw [fieldNames_len]; exact hlt), fieldNames_at l hlt, fieldNames_at l hjl]; simp [hsc])]; rfl
            have hlt3 : (Op.bytesLess (l[j + 1]).name.toList (l[j]'hjl).name.toList || ((l[j + 1]).name.toList == (l[j]'hjl).name.toList)) = true := by
              rcases t_flip_ge hsc with h | h
              · rw [h]; rfl
              · rw [h.2, Bool.or_true]
            clear hsc
            go_wp2_with fail
            refine (t_rname_any _ _).mono ?_
            rintro e w' ⟨rfl, rfl⟩
            rw [hnm]
            go_wp2_with fail
            go_quiet (fail)
            go_wp2_with fail
            go_ret
            exact ⟨ret_bool EK.out.symm, bel_drewN HBF.out _⟩
    · have EK : Hid (r = true) := by
        show r = true
        rw [E.out, rowB_true (p := nameB) fun i hi => HA.out i (by rw [fieldNames_len] at hi; omega), allL_good fun k hk => by rw [List.getElem_map]; exact HA2.out k (by simpa using hk) (by simp at hk; omega)]; rfl
      go_wp2_with fail
      go_ret
      exact ⟨ret_bool EK.out.symm, HBF.out⟩
theorem rpart_rec (m : Nat) {t : T} {A3 A4 A5 : Option Addr} {d3 d4 d5 : Nat} {w : World} {B : Nat}
    (IH : Hid (∀ (t : T) (v : Value) (w : World) (B : Nat), t.depth ≤ m → t.Fit → B ≤ w.heap.size → TypeV w B t v →
      Calls Tryz.prog 109 #[v] w fun e w' => e = .returned (.bool (allT t)) ∧ Below w.heap.size w w'))
    (hm : t.depth ≤ m + 1) (h : ¬ NoShape t) (hk : t.kind = 1) (hB : B ≤ w.heap.size) (hf : t.Fit) (hs : FieldsV w B (.slice A4 t.fields.length d4) t.fields) :
    Calls Tryz.prog 109 #[.agg #[.int .i64 t.kind, .int .i64 t.lo, .int .i64 t.hi, .slice A3 t.names.length d3, .slice A4 t.fields.length d4, .slice A5 t.of.length d5]] w fun e w' => e = .returned (.bool (allT t)) ∧ Below w.heap.size w w' := by
  have hz : t.names.length = 0 ∧ t.of.length = 0 := by
    unfold NoShape at h
    omega
  obtain ⟨z1, z2⟩ := hz
  have ef := List.eq_nil_of_length_eq_zero z2
  have E0 : Hid (allT t = (decide (t.lo = 0) && (decide (t.hi = 0) && (fieldedB t.fields && allL (t.fields.map F.type))))) := by
    show _ = _; rw [allT_eq, T.kids, ef, soundT1 hk, decide_eq_true z1, decide_eq_true z2]; simp [unrB, Bool.and_assoc]
  rw [hk, z1, z2]
  exact rpart_rec0 m IH E0 (fun k h => by have := T.field_depth h; omega) (fun k h => (hf.parts.2.2.2.2.1.at_ h).type) hB hf.parts.2.1 hs
end Go.Proofs.YteecdmceleanjaaGreatDoor
