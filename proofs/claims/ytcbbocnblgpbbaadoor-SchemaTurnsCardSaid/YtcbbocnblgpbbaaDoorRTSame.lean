/-
  The document's own Same of types: as the program's.
-/
import Derived.Test.YtcbbocnblgpbbaaDoorRTPlain
import Derived.Test.YtcbbocnblgpbbaaDoorTSameW
namespace Go.Proofs.YtcbbocnblgpbbaaDoor
open Go.RowKit

theorem sameFs_cut {a b : List F} {k : Nat} (hk : k < a.length) (hk' : k < b.length) (h : sameF a[k] b[k] = false) : sameFs a b = false := by
  rw [← Bool.not_eq_true, sameFs_iff]
  intro e; subst e
  rw [(sameF_iff _ _).2 rfl] at h; cases h
theorem sameTs_cut {a b : List T} {k : Nat} (hk : k < a.length) (hk' : k < b.length) (h : sameT a[k] b[k] = false) : sameTs a b = false := by
  rw [← Bool.not_eq_true, sameTs_iff]
  intro e; subst e
  rw [sameT_self] at h; cases h
theorem sameFs_all {a b : List F} (hl : a.length = b.length) (h : ∀ (j : Nat) (h : j < a.length) (h' : j < b.length), sameF a[j] b[j] = true) : sameFs a b = true :=
  (sameFs_iff _ _).2 (List.ext_getElem hl fun i h1 h2 => (sameF_iff _ _).1 (h i h1 h2))
theorem sameTs_all {a b : List T} (hl : a.length = b.length) (h : ∀ (j : Nat) (h : j < a.length) (h' : j < b.length), sameT a[j] b[j] = true) : sameTs a b = true :=
  (sameTs_iff _ _).2 (List.ext_getElem hl fun i h1 h2 => (sameT_iff _ _).1 (h i h1 h2))
set_option maxHeartbeats 16000000 in
set_option maxRecDepth 100000 in
theorem rtsame_any (m : Nat) : ∀ (a b : T) (v u : Value) (w : World) (B : Nat), a.depth ≤ m → a.Fit → b.Fit → B ≤ w.heap.size → TypeV w B a v → TypeV w B b u →
    Calls Tryd.prog 21 #[v, u] w fun e w' => e = .returned (.bool (sameT a b)) ∧ Below w.heap.size w w' := by
  induction m with
  | zero => intro t; intro _ _ _ _ _ h; have := t.depth_pos; omega
  | succ m ih =>
    intro a b v u w B hm hfa hfb hB ha hb
    obtain ⟨v0, v1, v2, v3, v4, v5, rfl, hia⟩ := ha
    obtain ⟨u0, u1, u2, u3, u4, u5, rfl, hib⟩ := hb
    have IH := Lib.hid ih
    obtain ⟨A3, d3, A4, d4, A5, d5, rfl, rfl, rfl, rfl, rfl, rfl⟩ := hia.forms
    obtain ⟨B3, g3, B4, g4, B5, g5, rfl, rfl, rfl, rfl, rfl, rfl⟩ := hib.forms
    have HNA := Lib.hid hia.names_; have HNB := Lib.hid hib.names_
    have HVA := Lib.hid hia.fields_; have HVB := Lib.hid hib.fields_
    have HOA := Lib.hid hia.of_; have HOB := Lib.hid hib.of_
    have HFA := Lib.hid hfa; have HFB := Lib.hid hfb
    obtain ⟨na, fa, oa, _, _, _⟩ := hfa.parts
    obtain ⟨nb, fb, ob, _, _, _⟩ := hfb.parts
    clear ih hia hib hfa hfb
    have E0 := Lib.hid (sameT_eq a b)
    by_cases hh : a.kind = b.kind ∧ a.lo = b.lo ∧ a.hi = b.hi ∧ a.fields.length = b.fields.length ∧ a.of.length = b.of.length
    rotate_left
    · have E : Hid (sameT a b = false) := by
        show sameT a b = false
        rw [← Bool.not_eq_true, sameT_iff]
        intro e; subst e; exact hh ⟨rfl, rfl, rfl, rfl, rfl⟩
      have HH := Lib.hid hh
      clear hh E0
      go_enter Tryd.func21, Tryd.ntmps21
      go_wp2_with fail
      all_goals first
        | (go_ret; exact ⟨ret_bool E.out.symm, ((Below.refl _ _).alloc (Nat.le_refl _) _).alloc (by simp) _⟩)
        | (exfalso; have := HH.out; simp_all; omega)
        | (exfalso; have := HH.out; simp_all; done)
    obtain ⟨e1, e2, e3, e4, e5⟩ := hh
    have g1 : (a.kind != b.kind) = false := by simp [e1]
    have g2 : (a.lo != b.lo) = false := by simp [e2]
    have g3' : (a.hi != b.hi) = false := by simp [e3]
    have g4' : ((a.fields.length : Int) != (b.fields.length : Int)) = false := by simp [e4]
    have g5' : ((a.of.length : Int) != (b.of.length : Int)) = false := by simp [e5]
    have E : Hid (sameT a b = (decide (a.names = b.names) && (sameFs a.fields b.fields && sameTs a.of b.of))) := by
      show _ = _
      rw [E0.out, decide_eq_true e1, decide_eq_true e2, decide_eq_true e3]; simp
    have HL1 := Lib.hid e4; have HL2 := Lib.hid e5
    clear e1 e2 e3 e4 e5 E0
    go_enter Tryd.func21, Tryd.ntmps21
    go_wp2_with fail
    obtain ⟨W2, hW2⟩ : ∃ W2, W2 = (w.alloc (.cells #[.int .i64 a.kind, .int .i64 a.lo, .int .i64 a.hi, .slice A3 a.names.length d3, .slice A4 a.fields.length d4, .slice A5 a.of.length d5] 26)).alloc (.cells #[.int .i64 b.kind, .int .i64 b.lo, .int .i64 b.hi, .slice B3 b.names.length g3, .slice B4 b.fields.length g4, .slice B5 b.of.length g5] 26) := ⟨_, rfl⟩
    have HBX : Hid (Box6 W2 w.heap.size (.int .i64 a.kind) (.int .i64 a.lo) (.int .i64 a.hi) (.slice A3 a.names.length d3) (.slice A4 a.fields.length d4) (.slice A5 a.of.length d5)) := by rw [hW2]; exact (Box6.new w _ _ _ _ _ _).alloc _
    have HBY : Hid (Box6 W2 (w.heap.size + 1) (.int .i64 b.kind) (.int .i64 b.lo) (.int .i64 b.hi) (.slice B3 b.names.length g3) (.slice B4 b.fields.length g4) (.slice B5 b.of.length g5)) := by rw [hW2]; exact Box6.new' (by simp) _ _ _ _ _ _
    have HBL : Hid (Below w.heap.size w W2) := by rw [hW2]; exact ((Below.refl _ _).alloc (Nat.le_refl _) _).alloc (by simp) _
    have hzw := HBL.out.size
    rw [← hW2]
    clear hW2
    refine (rrows_any (B := B) (by omega) (HNA.out.keep fun p hp => HBL.out.cell (by omega)) (HNB.out.keep fun p hp => HBL.out.cell (by omega)) na nb).mono ?_
    rintro e w3 ⟨rfl, hb3⟩
    have HB3 := Lib.hid (HBL.out.trans (hb3.mono hzw))
    have HX3 := Lib.hid (HBX.out.same (hb3.block _ HBX.out.lt))
    have HY3 := Lib.hid (HBY.out.same (hb3.block _ HBY.out.lt))
    clear hb3 g1 g2 g3' g4' g5'
    cases hnn : decide (a.names = b.names) with
    | false =>
      have E2 : Hid (sameT a b = false) := by show _ = _; rw [E.out, hnn]; rfl
      go_wp2_with fail
      go_ret
      exact ⟨ret_bool E2.out.symm, HB3.out⟩
    | true =>
    have E2 : Hid (sameT a b = (sameFs a.fields b.fields && sameTs a.of b.of)) := by show _ = _; rw [E.out, hnn]; rfl
    clear E hnn HBX HBY HBL
    go_wp2_with fail
    go_loopw [5] (fun i wr => ∃ k : Nat, k ≤ a.fields.length ∧ i = .int .i64 k ∧ (∀ (j : Nat) (h : j < a.fields.length) (h' : j < b.fields.length), j < k → sameF a.fields[j] b.fields[j] = true) ∧ Below w.heap.size w wr ∧ Box6 wr w.heap.size (.int .i64 a.kind) (.int .i64 a.lo) (.int .i64 a.hi) (.slice A3 a.names.length d3) (.slice A4 a.fields.length d4) (.slice A5 a.of.length d5) ∧ Box6 wr (w.heap.size + 1) (.int .i64 b.kind) (.int .i64 b.lo) (.int .i64 b.hi) (.slice B3 b.names.length g3) (.slice B4 b.fields.length g4) (.slice B5 b.of.length g5)) (fun i _ => a.fields.length - (intOf i).toNat)
    case atStart => exact ⟨0, Nat.zero_le _, rfl, fun j _ _ hj => absurd hj (by omega), HB3.out, HX3.out, HY3.out⟩
    case round =>
      obtain ⟨k, hk, rfl, hall, hb, hx, hy⟩ := hrel
      have HALL := Lib.hid hall; have HB := Lib.hid hb; have HX := Lib.hid hx; have HY := Lib.hid hy
      obtain ⟨q0, q1, q2, q3, q4, q5⟩ := hx.cells
      obtain ⟨r0, r1, r2, r3, r4, r5⟩ := hy.cells
      have hxl := hx.lt; have hyl := hy.lt; have hzr := hb.size
      clear hall hb hx hy
      by_cases hlt : k < a.fields.length
      · have hlb : k < b.fields.length := by have := HL1.out; omega
        have hk0 : (0 : Int) ≤ (k : Int) := by omega
        have hk1 : (k : Int) < (a.fields.length : Int) := by omega
        have hk2 : (k : Int) < (b.fields.length : Int) := by omega
        obtain ⟨ab, ao, rfl, hab, s6, s7, X3, b3, X4, b4, X5, b5, s0, s1, s2, s3, s4, s5, hi⟩ := HVA.out.kid HB.out hB hlt
        obtain ⟨bb, bo, rfl, hbb, t6, t7, Y3, y3, Y4, y4, Y5, y5, t0, t1, t2, t3, t4, t5, hi'⟩ := HVB.out.kid HB.out hB hlb
        have HIA := Lib.hid hi; have HIB := Lib.hid hi'
        clear hi hi'
        by_cases hn : (a.fields[k]'hlt).name = (b.fields[k]'hlb).name
        rotate_left
        · have EK : Hid (sameT a b = false) := by show _ = _; rw [E2.out, sameFs_cut hlt hlb (by rw [sameF_eq, decide_eq_false hn]; rfl)]; rfl
          have gn : ((a.fields[k]'hlt).name.toList == (b.fields[k]'hlb).name.toList) = false := by rw [beq_iff]; exact decide_eq_false hn
          have gn2 : ((a.fields[k]'hlt).name.toList != (b.fields[k]'hlb).name.toList) = true := by simp [bne, gn]
          clear hn
          go_wp2_with fail
          go_quiet (fail)
          go_wp2_with fail
          go_ret
          exact ⟨ret_bool EK.out.symm, bel_drewN HB.out _⟩
        have gn : ((a.fields[k]'hlt).name.toList == (b.fields[k]'hlb).name.toList) = true := by rw [beq_iff]; exact decide_eq_true hn
        have gn2 : ((a.fields[k]'hlt).name.toList != (b.fields[k]'hlb).name.toList) = false := by simp [bne, gn]
        by_cases ho : (a.fields[k]'hlt).opt = (b.fields[k]'hlb).opt
        rotate_left
        · have EK : Hid (sameT a b = false) := by show _ = _; rw [E2.out, sameFs_cut hlt hlb (by rw [sameF_eq, decide_eq_false ho]; simp)]; rfl
          have go' : ((a.fields[k]'hlt).opt != (b.fields[k]'hlb).opt) = true := by simp [ho]
          have go2 : ((a.fields[k]'hlt).opt == (b.fields[k]'hlb).opt) = false := by simp [ho]
          clear hn ho
          go_wp2_with fail
          go_quiet (fail)
          go_wp2_with fail
          go_ret
          exact ⟨ret_bool EK.out.symm, bel_drewN HB.out _⟩
        have go' : ((a.fields[k]'hlt).opt != (b.fields[k]'hlb).opt) = false := by simp [ho]
        have go2 : ((a.fields[k]'hlt).opt == (b.fields[k]'hlb).opt) = true := by simp [ho]
        have HN := Lib.hid hn; have HO := Lib.hid ho
        clear hn ho
        go_wp2_with fail
        refine wp_region_quiet (C := fun w' => Below wr.heap.size wr w') (by kernel_rfl) (by kernel_rfl) ((Below.refl _ _).drew) ?_
        dsimp only
        repeat (first
            | go_big_quiet_skip
            | (go_big_quiet_want; go_big_quiet_op; go_big_quiet_on)
            | (go_big_quiet_want; refine ⟨(.slice (some ⟨ab, ao, none⟩) a.fields.length d4), fun wq hq => ?_, ?_⟩
               · (have c4 := (hq.cell (p := ⟨w.heap.size, 4, none⟩) hxl).trans q4; go_simp; done)
               (simp only [Act.put, List.setIfInBounds_toArray, List.set_cons_zero, List.set_cons_succ])
               go_big_quiet_on)
            | (go_big_quiet_want; refine ⟨(.slice (some ⟨bb, bo, none⟩) b.fields.length g4), fun wq hq => ?_, ?_⟩
               · (have c4 := (hq.cell (p := ⟨w.heap.size + 1, 4, none⟩) hyl).trans r4; go_simp; done)
               (simp only [Act.put, List.setIfInBounds_toArray, List.set_cons_zero, List.set_cons_succ])
               go_big_quiet_on)
            | (go_big_quiet_want; refine ⟨(.string (a.fields[k]'hlt).name), fun wq hq => ?_, ?_⟩
               · (have c4 := (hq.cell (p := ⟨ab, _, none⟩) hab).trans s6; go_simp; done)
               (simp only [Act.put, List.setIfInBounds_toArray, List.set_cons_zero, List.set_cons_succ])
               go_big_quiet_on)
            | (go_big_quiet_want; refine ⟨(.string (b.fields[k]'hlb).name), fun wq hq => ?_, ?_⟩
               · (have c4 := (hq.cell (p := ⟨bb, _, none⟩) hbb).trans t6; go_simp; done)
               (simp only [Act.put, List.setIfInBounds_toArray, List.set_cons_zero, List.set_cons_succ])
               go_big_quiet_on)
            | (go_big_quiet_want; refine ⟨(.bool (a.fields[k]'hlt).opt), fun wq hq => ?_, ?_⟩
               · (have c4 := (hq.cell (p := ⟨ab, _, none⟩) hab).trans s7; go_simp; done)
               (simp only [Act.put, List.setIfInBounds_toArray, List.set_cons_zero, List.set_cons_succ])
               go_big_quiet_on)
            | (go_big_quiet_want; refine ⟨(.bool (b.fields[k]'hlb).opt), fun wq hq => ?_, ?_⟩
               · (have c4 := (hq.cell (p := ⟨bb, _, none⟩) hbb).trans t7; go_simp; done)
               (simp only [Act.put, List.setIfInBounds_toArray, List.set_cons_zero, List.set_cons_succ])
               go_big_quiet_on)
            | (go_big_quiet_want; refine ⟨(.agg #[.int .i64 ((a.fields[k]'hlt).type).kind, .int .i64 ((a.fields[k]'hlt).type).lo, .int .i64 ((a.fields[k]'hlt).type).hi, .slice X3 ((a.fields[k]'hlt).type).names.length b3, .slice X4 ((a.fields[k]'hlt).type).fields.length b4, .slice X5 ((a.fields[k]'hlt).type).of.length b5]), fun wq hq => ?_, ?_⟩
               · (have c0 := (hq.cell (p := ⟨ab, _, none⟩) hab).trans s0; have c1 := (hq.cell (p := ⟨ab, _, none⟩) hab).trans s1; have c2 := (hq.cell (p := ⟨ab, _, none⟩) hab).trans s2; have c3 := (hq.cell (p := ⟨ab, _, none⟩) hab).trans s3; have c4 := (hq.cell (p := ⟨ab, _, none⟩) hab).trans s4; have c5 := (hq.cell (p := ⟨ab, _, none⟩) hab).trans s5; go_simp; done)
               (simp only [Act.put, List.setIfInBounds_toArray, List.set_cons_zero, List.set_cons_succ])
               go_big_quiet_on)
            | (go_big_quiet_want; refine ⟨(.agg #[.int .i64 ((b.fields[k]'hlb).type).kind, .int .i64 ((b.fields[k]'hlb).type).lo, .int .i64 ((b.fields[k]'hlb).type).hi, .slice Y3 ((b.fields[k]'hlb).type).names.length y3, .slice Y4 ((b.fields[k]'hlb).type).fields.length y4, .slice Y5 ((b.fields[k]'hlb).type).of.length y5]), fun wq hq => ?_, ?_⟩
               · (have c0 := (hq.cell (p := ⟨bb, _, none⟩) hbb).trans t0; have c1 := (hq.cell (p := ⟨bb, _, none⟩) hbb).trans t1; have c2 := (hq.cell (p := ⟨bb, _, none⟩) hbb).trans t2; have c3 := (hq.cell (p := ⟨bb, _, none⟩) hbb).trans t3; have c4 := (hq.cell (p := ⟨bb, _, none⟩) hbb).trans t4; have c5 := (hq.cell (p := ⟨bb, _, none⟩) hbb).trans t5; go_simp; done)
               (simp only [Act.put, List.setIfInBounds_toArray, List.set_cons_zero, List.set_cons_succ])
               go_big_quiet_on)
            | (go_big_quiet_want; go_big_quiet_op; apply Exists.intro; refine ⟨fun _ _ => rfl, ?_⟩; go_big_quiet_on)
            | (go_big_quiet_want; go_big_quiet_op; apply Exists.intro; refine ⟨fun wq hq => ?_, ?_⟩
               · (go_at_call 21; exact (IH.out (a.fields[k]'hlt).type (b.fields[k]'hlb).type _ _ _ B (by have := T.field_depth hlt; omega) (HFA.out.parts.2.2.2.2.1.at_ hlt).type (HFB.out.parts.2.2.2.2.1.at_ hlb).type (by have := hq.size; omega) ⟨_, _, _, _, _, _, rfl, HIA.out.keep (Nat.le_refl _) fun p hp => hq.cell (by omega)⟩ ⟨_, _, _, _, _, _, rfl, HIB.out.keep (Nat.le_refl _) fun p hp => hq.cell (by omega)⟩).mono fun e w'' h => ⟨h.1, hq.trans (h.2.mono hq.size)⟩)
               go_big_quiet_on))
        refine wpQuiet_nil ?_
        intro wq hq
        have HQ := Lib.hid (HB.out.trans (hq.mono hzr))
        have HXQ := Lib.hid (HX.out.same (hq.block _ HX.out.lt))
        have HYQ := Lib.hid (HY.out.same (hq.block _ HY.out.lt))
        clear hq
        cases hst : sameT (a.fields[k]'hlt).type (b.fields[k]'hlb).type with
        | false =>
          have EK : Hid (sameT a b = false) := by show _ = _; rw [E2.out, sameFs_cut hlt hlb (by rw [sameF_eq, hst]; simp)]; rfl
          go_wp2_with fail
          go_ret
          exact ⟨ret_bool EK.out.symm, HQ.out⟩
        | true =>
          have EK : Hid (sameF (a.fields[k]'hlt) (b.fields[k]'hlb) = true) := by show _ = _; rw [sameF_eq, hst, decide_eq_true HN.out, decide_eq_true HO.out]; rfl
          clear hst
          go_wp2_with fail
          go_roundw
          case rel => exact ⟨k + 1, by omega, by go_num, fun j h h' hj => by
            rcases Nat.lt_or_ge j k with h1 | h1
            · exact HALL.out j h h' h1
            · obtain rfl : j = k := by omega
              exact EK.out, HQ.out, HXQ.out, HYQ.out⟩
          case measure => simp [intOf]; omega
      · have E3 : Hid (sameT a b = sameTs a.of b.of) := by
          show _ = _
          rw [E2.out, sameFs_all HL1.out fun j h h' => HALL.out j h h' (by omega)]; rfl
        clear HALL E2
        go_wp2_with fail
        clear q0 q1 q2 q3 q4 q5 r0 r1 r2 r3 r4 r5 hxl hyl
        go_loopw [6] (fun i wr => ∃ k : Nat, k ≤ a.of.length ∧ i = .int .i64 k ∧ (∀ (j : Nat) (h : j < a.of.length) (h' : j < b.of.length), j < k → sameT a.of[j] b.of[j] = true) ∧ Below w.heap.size w wr ∧ Box6 wr w.heap.size (.int .i64 a.kind) (.int .i64 a.lo) (.int .i64 a.hi) (.slice A3 a.names.length d3) (.slice A4 a.fields.length d4) (.slice A5 a.of.length d5) ∧ Box6 wr (w.heap.size + 1) (.int .i64 b.kind) (.int .i64 b.lo) (.int .i64 b.hi) (.slice B3 b.names.length g3) (.slice B4 b.fields.length g4) (.slice B5 b.of.length g5)) (fun i _ => a.of.length - (intOf i).toNat)
        case atStart => exact ⟨0, Nat.zero_le _, rfl, fun j _ _ hj => absurd hj (by omega), HB.out, HX.out, HY.out⟩
        case round =>
          clear hlt hk
          obtain ⟨k, hk, rfl, hall, hb, hx, hy⟩ := hrel
          have HALL := Lib.hid hall; have HB := Lib.hid hb; have HX := Lib.hid hx; have HY := Lib.hid hy
          obtain ⟨q0, q1, q2, q3, q4, q5⟩ := hx.cells
          obtain ⟨r0, r1, r2, r3, r4, r5⟩ := hy.cells
          have hxl := hx.lt; have hyl := hy.lt; have hzr := hb.size
          clear hall hb hx hy
          by_cases hlt : k < a.of.length
          · have hlb : k < b.of.length := by have := HL2.out; omega
            have hk0 : (0 : Int) ≤ (k : Int) := by omega
            have hk1 : (k : Int) < (a.of.length : Int) := by omega
            have hk2 : (k : Int) < (b.of.length : Int) := by omega
            obtain ⟨ab, ao, rfl, hab, X3, b3, X4, b4, X5, b5, s0, s1, s2, s3, s4, s5, hi⟩ := HOA.out.kid HB.out hB hlt
            obtain ⟨bb, bo, rfl, hbb, Y3, y3, Y4, y4, Y5, y5, t0, t1, t2, t3, t4, t5, hi'⟩ := HOB.out.kid HB.out hB hlb
            have HIA := Lib.hid hi; have HIB := Lib.hid hi'
            clear hi hi'
            go_wp2_with fail
            refine wp_region_quiet (C := fun w' => Below wr.heap.size wr w') (by kernel_rfl) (by kernel_rfl) ((Below.refl _ _).drew) ?_
            dsimp only
            repeat (first
                | go_big_quiet_skip
                | (go_big_quiet_want; go_big_quiet_op; go_big_quiet_on)
                | (go_big_quiet_want; refine ⟨(.slice (some ⟨ab, ao, none⟩) a.of.length d5), fun wq hq => ?_, ?_⟩
                   · (have c4 := (hq.cell (p := ⟨w.heap.size, 5, none⟩) hxl).trans q5; go_simp; done)
                   (simp only [Act.put, List.setIfInBounds_toArray, List.set_cons_zero, List.set_cons_succ])
                   go_big_quiet_on)
                | (go_big_quiet_want; refine ⟨(.slice (some ⟨bb, bo, none⟩) b.of.length g5), fun wq hq => ?_, ?_⟩
                   · (have c4 := (hq.cell (p := ⟨w.heap.size + 1, 5, none⟩) hyl).trans r5; go_simp; done)
                   (simp only [Act.put, List.setIfInBounds_toArray, List.set_cons_zero, List.set_cons_succ])
                   go_big_quiet_on)
                | (go_big_quiet_want; refine ⟨(.agg #[.int .i64 ((a.of[k]'hlt)).kind, .int .i64 ((a.of[k]'hlt)).lo, .int .i64 ((a.of[k]'hlt)).hi, .slice X3 ((a.of[k]'hlt)).names.length b3, .slice X4 ((a.of[k]'hlt)).fields.length b4, .slice X5 ((a.of[k]'hlt)).of.length b5]), fun wq hq => ?_, ?_⟩
                   · (have c0 := (hq.cell (p := ⟨ab, _, none⟩) hab).trans s0; have c1 := (hq.cell (p := ⟨ab, _, none⟩) hab).trans s1; have c2 := (hq.cell (p := ⟨ab, _, none⟩) hab).trans s2; have c3 := (hq.cell (p := ⟨ab, _, none⟩) hab).trans s3; have c4 := (hq.cell (p := ⟨ab, _, none⟩) hab).trans s4; have c5 := (hq.cell (p := ⟨ab, _, none⟩) hab).trans s5; go_simp; done)
                   (simp only [Act.put, List.setIfInBounds_toArray, List.set_cons_zero, List.set_cons_succ])
                   go_big_quiet_on)
                | (go_big_quiet_want; refine ⟨(.agg #[.int .i64 ((b.of[k]'hlb)).kind, .int .i64 ((b.of[k]'hlb)).lo, .int .i64 ((b.of[k]'hlb)).hi, .slice Y3 ((b.of[k]'hlb)).names.length y3, .slice Y4 ((b.of[k]'hlb)).fields.length y4, .slice Y5 ((b.of[k]'hlb)).of.length y5]), fun wq hq => ?_, ?_⟩
                   · (have c0 := (hq.cell (p := ⟨bb, _, none⟩) hbb).trans t0; have c1 := (hq.cell (p := ⟨bb, _, none⟩) hbb).trans t1; have c2 := (hq.cell (p := ⟨bb, _, none⟩) hbb).trans t2; have c3 := (hq.cell (p := ⟨bb, _, none⟩) hbb).trans t3; have c4 := (hq.cell (p := ⟨bb, _, none⟩) hbb).trans t4; have c5 := (hq.cell (p := ⟨bb, _, none⟩) hbb).trans t5; go_simp; done)
                   (simp only [Act.put, List.setIfInBounds_toArray, List.set_cons_zero, List.set_cons_succ])
                   go_big_quiet_on)
                | (go_big_quiet_want; go_big_quiet_op; apply Exists.intro; refine ⟨fun _ _ => rfl, ?_⟩; go_big_quiet_on)
                | (go_big_quiet_want; go_big_quiet_op; apply Exists.intro; refine ⟨fun wq hq => ?_, ?_⟩
                   · (go_at_call 21; exact (IH.out (a.of[k]'hlt) (b.of[k]'hlb) _ _ _ B (by have := T.of_depth hlt; omega) (HFA.out.parts.2.2.2.2.2.at_ hlt) (HFB.out.parts.2.2.2.2.2.at_ hlb) (by have := hq.size; omega) ⟨_, _, _, _, _, _, rfl, HIA.out.keep (Nat.le_refl _) fun p hp => hq.cell (by omega)⟩ ⟨_, _, _, _, _, _, rfl, HIB.out.keep (Nat.le_refl _) fun p hp => hq.cell (by omega)⟩).mono fun e w'' h => ⟨h.1, hq.trans (h.2.mono hq.size)⟩)
                   go_big_quiet_on))
            refine wpQuiet_nil ?_
            intro wq hq
            have HQ := Lib.hid (HB.out.trans (hq.mono hzr))
            have HXQ := Lib.hid (HX.out.same (hq.block _ HX.out.lt))
            have HYQ := Lib.hid (HY.out.same (hq.block _ HY.out.lt))
            clear hq
            cases hst : sameT (a.of[k]'hlt) (b.of[k]'hlb) with
            | false =>
              have EK : Hid (sameT a b = false) := by show _ = _; rw [E3.out, sameTs_cut hlt hlb hst]
              go_wp2_with fail
              go_ret
              exact ⟨ret_bool EK.out.symm, HQ.out⟩
            | true =>
              have EK := Lib.hid hst
              clear hst
              go_wp2_with fail
              go_roundw
              case rel => exact ⟨k + 1, by omega, by go_num, fun j h h' hj => by
                rcases Nat.lt_or_ge j k with h1 | h1
                · exact HALL.out j h h' h1
                · obtain rfl : j = k := by omega
                  exact EK.out, HQ.out, HXQ.out, HYQ.out⟩
              case measure => simp [intOf]; omega
          · have E4 : Hid (sameT a b = true) := by
              show _ = _
              rw [E3.out, sameTs_all HL2.out fun j h h' => HALL.out j h h' (by omega)]
            go_wp2_with fail
            go_ret
            exact ⟨ret_bool E4.out.symm, HB.out⟩
end Go.Proofs.YtcbbocnblgpbbaaDoor
