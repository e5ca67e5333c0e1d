/-
  The document's own At of types: as the program's, but not copied.
-/
import Derived.Test.YtcbbocnblgpbbaaDoorRTPlain
import Derived.Test.YtcbbocnblgpbbaaDoorTBack0
namespace Go.Proofs.YtcbbocnblgpbbaaDoor
open Go.RowKit

/-- What the document's own At tells: what it tells lies where the type lay. -/
def RAtRes (B : Nat) (w : World) (r : Option T) (e : Ending) (w' : World) : Prop :=
  ∃ (y3 y4 y5 : Value), e = .returned (.tuple #[.agg #[.int .i64 (r.getD T.zero).kind, .int .i64 (r.getD T.zero).lo, .int .i64 (r.getD T.zero).hi, y3, y4, y5], .bool r.isSome]) ∧
    TypeIn w' B (r.getD T.zero) (.int .i64 (r.getD T.zero).kind) (.int .i64 (r.getD T.zero).lo) (.int .i64 (r.getD T.zero).hi) y3 y4 y5 ∧ Below w.heap.size w w'
def dictStep (t : T) (s : ByteArray) : Prop := (t.kind = 2 ∨ (t.kind = 3 ∧ s = zeroStr)) ∧ 0 < t.of.length
theorem inside_yes {t : T} {s : ByteArray} {k : Nat} (hk : fieldOf t s = k) : ∃ h : k < t.fields.length, inside t s = some (t.fields[k]).type := by
  have h1 : t.kind = 1 := by
    by_cases h : t.kind = 1
    · exact h
    · unfold fieldOf at hk; rw [if_neg h] at hk; omega
  have hlt : k < t.fields.length := by
    unfold fieldOf at hk
    rw [if_pos h1] at hk
    rcases fieldIdx_cases (calledB s) t.fields with ⟨h, _⟩ | ⟨i, hi, h, _⟩
    · omega
    · omega
  refine ⟨hlt, ?_⟩
  unfold inside
  rw [if_pos h1, if_pos (by omega), hk]
  simp [hlt]
theorem inside_of {t : T} {s : ByteArray} (h : dictStep t s) : inside t s = some (t.of[0]'h.2) := by
  obtain ⟨h1, h2⟩ := h
  unfold inside
  rw [if_neg (by omega), if_pos ⟨by omega, h2, by rcases h1 with h | h; exact .inl h; exact .inr h.2⟩]
  simp [h2]
theorem inside_no {t : T} {s : ByteArray} (hk : fieldOf t s < 0) (h : ¬ dictStep t s) : inside t s = none := by
  unfold inside
  split
  · rw [if_neg (by omega)]
  · rw [if_neg]
    intro hh
    apply h
    obtain ⟨a1, a2, a3⟩ := hh
    refine ⟨?_, a2⟩
    rcases a1 with a1 | a1
    · exact .inl a1
    · rcases a3 with a3 | a3
      · exact .inl a3
      · exact .inr ⟨a1, a3⟩
theorem field_cases (t : T) (s : ByteArray) : fieldOf t s = -1 ∨ ∃ k : Nat, fieldOf t s = k := by
  unfold fieldOf
  split
  · rcases fieldIdx_cases (calledB s) t.fields with ⟨h, _⟩ | ⟨i, hi, h, _⟩
    · exact .inl h
    · exact .inr ⟨i, h⟩
  · exact .inl rfl
set_option maxHeartbeats 8000000 in
set_option maxRecDepth 100000 in
theorem rtat_any {t : T} {v pv : Value} {ps : List ByteArray} {w : World} {B : Nat} (hf : t.Fit) (hps : ps.length ≤ 10000) (hB : B ≤ w.heap.size) (ht : TypeV w B t v) (hp : Strs w B pv ps) :
    Calls Tryd.prog 12 #[v, pv] w (RAtRes B w (goAt t ps)) := by
  obtain ⟨v0, v1, v2, v3, v4, v5, rfl, hin⟩ := ht
  have HIN := Lib.hid hin
  obtain ⟨A3, d3, A4, d4, A5, d5, rfl, rfl, rfl, rfl, rfl, rfl⟩ := hin.forms
  have HF := Lib.hid hf
  obtain ⟨PA, pc, rfl, hpc, hpk⟩ := hp
  have HPK := Lib.hid hpk
  clear hin hf hpk
  go_enter Tryd.func12, Tryd.ntmps12
  go_wp2_with fail
  go_loopw [6, 7] (fun i _ wr => ∃ (j : Nat) (tj : T) (y3 y4 y5 : Value), j ≤ ps.length ∧ i = .int .i64 j ∧ goAt t (ps.take j) = some tj ∧ Box6 wr w.heap.size (.int .i64 tj.kind) (.int .i64 tj.lo) (.int .i64 tj.hi) y3 y4 y5 ∧ TypeIn wr B tj (.int .i64 tj.kind) (.int .i64 tj.lo) (.int .i64 tj.hi) y3 y4 y5 ∧ Box6 wr (w.heap.size + 1) (.int .i64 0) (.int .i64 0) (.int .i64 0) (.slice none 0 0) (.slice none 0 0) (.slice none 0 0) ∧ Below w.heap.size w wr) (fun i _ _ => ps.length - (intOf i).toNat)
  case atStart => exact ⟨0, t, _, _, _, Nat.zero_le _, rfl, rfl, (Box6.new w _ _ _ _ _ _).alloc _, HIN.out.keep (Nat.le_refl _) (fun p hp => (World.cell?_alloc_lt (w.alloc _) _ p (by simp; omega)).trans (World.cell?_alloc_lt w _ p (by omega))), Box6.new' (by simp) _ _ _ _ _ _, ((Below.refl _ _).alloc (Nat.le_refl _) _).alloc (by simp) _⟩
  case round =>
    obtain ⟨j, tj, y3, y4, y5, hj, rfl, hgo, hbx, hti, hrx, hb⟩ := hrel
    have HGO := Lib.hid hgo; have HBX := Lib.hid hbx; have HTI := Lib.hid hti; have HB := Lib.hid hb; have HRX := Lib.hid hrx
    have hrz := hrx.lt
    clear hrx
    obtain ⟨B3, e3, B4, e4, B5, e5, -, -, -, rfl, rfl, rfl⟩ := hti.forms
    have hsm := goAt_small hgo
    have HFJ := Lib.hid (hsm.2.2 HF.out)
    have hbz := hbx.lt
    have hzr := hb.size
    obtain ⟨q0, q1, q2, q3, q4, q5⟩ := hbx.cells
    clear hgo hti hsm
    by_cases hlt : j < ps.length
    · obtain ⟨bp, off, rfl, hbp, hcells⟩ := HPK.out (by omega)
      have gp := (hb.cell (p := ⟨bp, off + j, none⟩) (by show bp < _; omega)).trans (hcells j hlt)
      have hgt : goAt t (ps.take (j + 1)) = inside tj ps[j] := by
        rw [List.take_succ_eq_append_getElem hlt, goAt_append, HGO.out]
        show (inside tj ps[j]).bind _ = _
        cases inside tj ps[j] <;> rfl
      have HGT := Lib.hid hgt
      have hj0 : (0 : Int) ≤ (j : Int) := by omega
      have hj1 : (j : Int) < (ps.length : Int) := by omega
      clear hcells hb hgt hbx
      go_wp2_with fail
      refine wp_region_quiet (C := fun w' => Below wr.heap.size wr w') (by kernel_rfl) (by kernel_rfl) ((Below.refl _ _).drew) ?_
      dsimp only
      go_big_quiet_want
      refine quiet_load6 (b := w.heap.size) _ rfl rfl (fun wq hq => HBX.out.same (hq.block _ hbz)) ?_
      simp only [Act.put, List.setIfInBounds_toArray, List.set_cons_zero, List.set_cons_succ]
      go_big_quiet_on
      repeat (first
        | go_big_quiet_skip
        | (go_big_quiet_want; go_big_quiet_op; go_big_quiet_on)
        | (go_big_quiet_want; go_big_quiet_op; apply Exists.intro; refine ⟨fun _ _ => rfl, ?_⟩; go_big_quiet_on))
      go_big_quiet_want
      refine ⟨(.string ps[j]), fun wq hq => ?_, ?_⟩
      · have c1 := (hq.cell (p := ⟨bp, _, none⟩) (by show bp < _; omega)).trans gp
        go_simp
      simp only [Act.put, List.setIfInBounds_toArray, List.set_cons_zero, List.set_cons_succ]
      go_big_quiet_on
      go_big_quiet_want
      go_big_quiet_op
      apply Exists.intro
      refine ⟨fun wq hq => ?_, ?_⟩
      · go_at_call 25
        exact (rfield_any (t := tj) (s := ps[j]) (B := B) HFJ.out (by have := hq.size; omega) ⟨_, _, _, _, _, _, rfl, HTI.out.keep (Nat.le_refl _) fun p hp => hq.cell (by omega)⟩).mono fun e w'' h => ⟨h.1, hq.trans (h.2.mono hq.size)⟩
      go_big_quiet_on
      repeat (first
        | go_big_quiet_skip
        | (go_big_quiet_want; go_big_quiet_op; go_big_quiet_on)
        | (go_big_quiet_want; go_big_quiet_op; apply Exists.intro; refine ⟨fun _ _ => rfl, ?_⟩; go_big_quiet_on))
      refine wpQuiet_nil ?_
      intro w1 hq
      have hz1 := hq.size
      have HB1 : Hid (Below w.heap.size w w1) := HB.out.trans (hq.mono hzr)
      have HRX1 := Lib.hid (HRX.out.same (hq.block _ hrz))
      have HBX1 := Lib.hid (HBX.out.same (hq.block _ hbz))
      have HTI1 : Hid (TypeIn w1 B tj (.int .i64 tj.kind) (.int .i64 tj.lo) (.int .i64 tj.hi) (.slice B3 tj.names.length e3) (.slice B4 tj.fields.length e4) (.slice B5 tj.of.length e5)) := HTI.out.keep (Nat.le_refl _) fun p hp => hq.cell (by omega)
      have gp1 := (hq.cell (p := ⟨bp, off + j, none⟩) (by show bp < _; omega)).trans gp
      clear hq HBX HTI HRX HB gp q0 q1 q2 q3 q4 q5
      obtain ⟨q0, q1, q2, q3, q4, q5⟩ := HBX1.out.cells
      have q6 := HBX1.out.frozen
      rcases field_cases tj ps[j] with hfi | ⟨k, hfi⟩
      · rw [hfi]
        have hol := HFJ.out.parts.2.2.1
        by_cases hds : dictStep tj ps[j]
        · have hd2 : 0 < tj.of.length := hds.2
          have HN : Hid (goAt t (ps.take (j + 1)) = some (tj.of[0]'hd2)) := by show _ = _; rw [HGT.out, inside_of hds]
          have hd1 := hds.1
          clear hds
          have hd3 : (0 : Int) < (tj.of.length : Int) := by omega
          obtain ⟨fb, fo, rfl, hfb, X3, b3, X4, b4, X5, b5, s0, s1, s2, s3, s4, s5, hi⟩ := HTI1.out.of_.kid (Below.refl _ _) (by omega) hd2
          have HI := Lib.hid hi
          rw [Nat.zero_mul, Nat.add_zero] at s0 s1 s2 s3 s4 s5
          clear hi
          rcases hd1 with hd1 | ⟨hd1, hz⟩
          · have e2 : (tj.kind == 2) = true := by simp [hd1]
            clear hd1
            clear gp1
            go_wp2_with fail
            clear s0 s1 s2 s3 s4 s5 q0 q1 q2 q3 q4 q5 q6
            go_roundw
            case rel => exact ⟨j + 1, tj.of[0], _, _, _, by omega, by go_num, HN.out, fill6_box HBX1.out _ _ _ _ _ _, HI.out.keep (Nat.le_refl _) (fun p hp => World.cell?_of_block (fill6_far w1 w.heap.size _ _ _ _ _ _ p.block (by omega))), HRX1.out.same (fill6_far w1 w.heap.size _ _ _ _ _ _ _ (by omega)), fill6_below HB1.out (Nat.le_refl _) _ _ _ _ _ _⟩
            case measure => simp [intOf]; omega
          · have e2 : (tj.kind == 2) = false := by simp [hd1]
            have e3' : (tj.kind == 3) = true := by simp [hd1]
            have hz1 : (ps[j].toList == [48]) = true := by rw [hz, zero_list]; rfl
            clear hd1 hz
            go_wp2_with fail
            clear s0 s1 s2 s3 s4 s5 q0 q1 q2 q3 q4 q5 q6 gp1
            go_roundw
            case rel => exact ⟨j + 1, tj.of[0], _, _, _, by omega, by go_num, HN.out, fill6_box HBX1.out _ _ _ _ _ _, HI.out.keep (Nat.le_refl _) (fun p hp => World.cell?_of_block (fill6_far w1 w.heap.size _ _ _ _ _ _ p.block (by omega))), HRX1.out.same (fill6_far w1 w.heap.size _ _ _ _ _ _ _ (by omega)), fill6_below HB1.out (Nat.le_refl _) _ _ _ _ _ _⟩
            case measure => simp [intOf]; omega
        · have HN : Hid (goAt t ps = none) := by
            show goAt t ps = none
            rw [← List.take_append_drop (j + 1) ps, goAt_append, HGT.out, inside_no (by omega) hds]; rfl
          have HDS := Lib.hid hds
          clear hds
          by_cases h2 : tj.kind = 2
          · have e2 : (tj.kind == 2) = true := by simp [h2]
            have hd3 : ¬ (0 : Int) < (tj.of.length : Int) := fun h => HDS.out ⟨.inl h2, by omega⟩
            clear h2
            obtain ⟨r0, r1, r2, r3, r4, r5⟩ := HRX1.out.cells
            have r6 := HRX1.out.frozen
            go_wp2_with fail
            clear r0 r1 r2 r3 r4 r5 r6
            refine ret_cell6_2 (u := .bool false) rfl rfl rfl (fill6_box HRX1.out (.int .i64 0) (.int .i64 0) (.int .i64 0) (.slice none 0 0) (.slice none 0 0) (.slice none 0 0)).load rfl ?_
            rw [HN.out]
            exact ⟨_, _, _, rfl, TypeIn.mk_ (d := T.zero) strs_none fields_none types_none, fill6_below HB1.out (by omega) _ _ _ _ _ _⟩
          have e2 : (tj.kind == 2) = false := by simp [h2]
          by_cases h3 : tj.kind = 3
          · have e3' : (tj.kind == 3) = true := by simp [h3]
            by_cases hz : ps[j] = zeroStr
            · have hz1 : (ps[j].toList == [48]) = true := by rw [hz, zero_list]; rfl
              have hd3 : ¬ (0 : Int) < (tj.of.length : Int) := fun h => HDS.out ⟨.inr ⟨h3, hz⟩, by omega⟩
              clear h2 h3 hz
              obtain ⟨r0, r1, r2, r3, r4, r5⟩ := HRX1.out.cells
              have r6 := HRX1.out.frozen
              go_wp2_with fail
              clear r0 r1 r2 r3 r4 r5 r6
              refine ret_cell6_2 (u := .bool false) rfl rfl rfl (fill6_box HRX1.out (.int .i64 0) (.int .i64 0) (.int .i64 0) (.slice none 0 0) (.slice none 0 0) (.slice none 0 0)).load rfl ?_
              rw [HN.out]
              exact ⟨_, _, _, rfl, TypeIn.mk_ (d := T.zero) strs_none fields_none types_none, fill6_below HB1.out (by omega) _ _ _ _ _ _⟩
            · have hz1 : (ps[j].toList == [48]) = false := by rw [← zero_list, beq_iff]; exact decide_eq_false hz
              clear h2 h3 hz
              obtain ⟨r0, r1, r2, r3, r4, r5⟩ := HRX1.out.cells
              have r6 := HRX1.out.frozen
              go_wp2_with fail
              clear r0 r1 r2 r3 r4 r5 r6
              refine ret_cell6_2 (u := .bool false) rfl rfl rfl (fill6_box HRX1.out (.int .i64 0) (.int .i64 0) (.int .i64 0) (.slice none 0 0) (.slice none 0 0) (.slice none 0 0)).load rfl ?_
              rw [HN.out]
              exact ⟨_, _, _, rfl, TypeIn.mk_ (d := T.zero) strs_none fields_none types_none, fill6_below HB1.out (by omega) _ _ _ _ _ _⟩
          · have e3' : (tj.kind == 3) = false := by simp [h3]
            clear h2 h3
            obtain ⟨r0, r1, r2, r3, r4, r5⟩ := HRX1.out.cells
            have r6 := HRX1.out.frozen
            go_wp2_with fail
            clear r0 r1 r2 r3 r4 r5 r6
            refine ret_cell6_2 (u := .bool false) rfl rfl rfl (fill6_box HRX1.out (.int .i64 0) (.int .i64 0) (.int .i64 0) (.slice none 0 0) (.slice none 0 0) (.slice none 0 0)).load rfl ?_
            rw [HN.out]
            exact ⟨_, _, _, rfl, TypeIn.mk_ (d := T.zero) strs_none fields_none types_none, fill6_below HB1.out (by omega) _ _ _ _ _ _⟩
      · rw [hfi]
        obtain ⟨hk, hin⟩ := inside_yes hfi
        have HN : Hid (goAt t (ps.take (j + 1)) = some (tj.fields[k]).type) := by show _ = _; rw [HGT.out, hin]
        have hk0 : (0 : Int) ≤ (k : Int) := by omega
        have hk1 : (k : Int) < (tj.fields.length : Int) := by omega
        have hkl := HFJ.out.parts.2.1
        obtain ⟨fb, fo, rfl, hfb, s6, s7, X3, b3, X4, b4, X5, b5, s0, s1, s2, s3, s4, s5, hi⟩ := HTI1.out.fields_.kid (Below.refl _ _) (by omega) hk
        have HI := Lib.hid hi
        clear hi s6 s7 hin gp1
        go_wp2_with fail
        clear s0 s1 s2 s3 s4 s5 q0 q1 q2 q3 q4 q5 q6
        go_roundw
        case rel => exact ⟨j + 1, (tj.fields[k]).type, _, _, _, by omega, by go_num, HN.out, fill6_box HBX1.out _ _ _ _ _ _, HI.out.keep (Nat.le_refl _) (fun p hp => World.cell?_of_block (fill6_far w1 w.heap.size _ _ _ _ _ _ p.block (by omega))), HRX1.out.same (fill6_far w1 w.heap.size _ _ _ _ _ _ _ (by omega)), fill6_below HB1.out (Nat.le_refl _) _ _ _ _ _ _⟩
        case measure => simp [intOf]; omega
    · have HN : Hid (goAt t ps = some tj) := by have := HGO.out; rw [List.take_of_length_le (by omega)] at this; exact this
      obtain ⟨r0, r1, r2, r3, r4, r5⟩ := HRX.out.cells
      have r6 := HRX.out.frozen
      clear hb hbx
      go_wp2_with fail
      clear r0 r1 r2 r3 r4 r5 r6
      refine ret_cell6_2 (u := .bool true) rfl rfl rfl (fill6_box HRX.out (.int .i64 tj.kind) (.int .i64 tj.lo) (.int .i64 tj.hi) (.slice B3 tj.names.length e3) (.slice B4 tj.fields.length e4) (.slice B5 tj.of.length e5)).load rfl ?_
      rw [HN.out]
      exact ⟨_, _, _, rfl, HTI.out.keep (Nat.le_refl _) fun p hp => World.cell?_of_block (fill6_far wr (w.heap.size + 1) _ _ _ _ _ _ p.block (by omega)), fill6_below HB.out (by omega) _ _ _ _ _ _⟩
end Go.Proofs.YtcbbocnblgpbbaaDoor
