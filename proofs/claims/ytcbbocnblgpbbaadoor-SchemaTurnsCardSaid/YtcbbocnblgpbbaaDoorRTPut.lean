/-
  The document's own Put and Drop of types.
-/
import Derived.Test.YtcbbocnblgpbbaaDoorRTPut0
import Derived.Test.YtcbbocnblgpbbaaDoorTCop0
namespace Go.Proofs.YtcbbocnblgpbbaaDoor
open Go.RowKit

/-- What the great statement of Drop yields. -/
def RDropPhi (B pt : Nat) (A4 : Option Addr) (n c4 k : Nat) (cs : List Value) : Nat → Value → (Nat → Nat × Nat) → World → Prop
  | 0, v, _, w => w.ownsRow B 38 8 v 0 [] ∧ CapOk v 0
  | 1, v, _, _ => v = .pointer (some ⟨pt, 4, none⟩)
  | 2, v, _, _ => v = .slice A4 n c4
  | 3, v, _, _ => v = .int .i64 (k : Nat)
  | 4, v, _, _ => v = cut8 A4 0 k c4
  | 5, v, _, w => w.ownsRow B 38 8 v k (cs.take (k * 8)) ∧ CapOk v k
  | 6, v, _, _ => v = .pointer (some ⟨pt, 4, none⟩)
  | 7, v, _, _ => v = .slice A4 n c4
  | 8, v, _, _ => v = .int .i64 (k : Nat)
  | 9, v, _, _ => v = .int .i64 ((k + 1 : Nat) : Int)
  | 10, v, _, _ => v = cut8 A4 (k + 1) n c4
  | 11, v, _, w => w.ownsRow B 38 8 v (k + (n - (k + 1))) (cs.take (k * 8) ++ cs.drop ((k + 1) * 8)) ∧ CapOk v (k + (n - (k + 1)))
  | 12, v, _, w => ∃ A c, v = .agg #[.int .i64 1, .int .i64 0, .int .i64 0, .slice none 0 0, .slice A (k + (n - (k + 1))) c, .slice none 0 0] ∧ w.ownsRow B 38 8 (.slice A (k + (n - (k + 1))) c) (k + (n - (k + 1))) (cs.take (k * 8) ++ cs.drop ((k + 1) * 8))
  | _, _, _, _ => True
theorem rdropphi_keep {B pt : Nat} {A4 : Option Addr} {n c4 k : Nat} {cs : List Value} : ∀ i v It w w', RDropPhi B pt A4 n c4 k cs i v It w → KeepF B (cs.take (k * 8) ++ cs.drop ((k + 1) * 8)) w w' → RDropPhi B pt A4 n c4 k cs i v It w' := by
  intro i v It w w' h hb
  match i, h with
  | 0, h => exact ⟨hb.2.1 v 0 [] List.nil_prefix h.1, h.2⟩
  | 1, h => exact h
  | 2, h => exact h
  | 3, h => exact h
  | 4, h => exact h
  | 5, h => exact ⟨hb.2.1 v k _ (List.prefix_append _ _) h.1, h.2⟩
  | 6, h => exact h
  | 7, h => exact h
  | 8, h => exact h
  | 9, h => exact h
  | 10, h => exact h
  | 11, h => exact ⟨hb.2.1 v _ _ (List.prefix_refl _) h.1, h.2⟩
  | 12, ⟨A, c, e, h⟩ => exact ⟨A, c, e, hb.2.1 _ _ _ (List.prefix_refl _) h⟩
  | _ + 13, _ => exact trivial
theorem rdropphi_loc {B pt : Nat} {A4 : Option Addr} {n c4 k : Nat} {cs : List Value} : ∀ i j v It g w, RDropPhi B pt A4 n c4 k cs i v It w → RDropPhi B pt A4 n c4 k cs i v (setG It j g) w := by
  intro i j v It g w h
  match i, h with
  | 0, h => exact h
  | 1, h => exact h
  | 2, h => exact h
  | 3, h => exact h
  | 4, h => exact h
  | 5, h => exact h
  | 6, h => exact h
  | 7, h => exact h
  | 8, h => exact h
  | 9, h => exact h
  | 10, h => exact h
  | 11, h => exact h
  | 12, h => exact h
  | _ + 13, _ => exact trivial
set_option maxHeartbeats 8000000 in
set_option maxRecDepth 100000 in
theorem rtdrop_any {t : T} {s : ByteArray} {v : Value} {w : World} {B : Nat} (hs : t.size ≤ 4000) (hd : t.depth ≤ 900) (hf : t.Fit) (hB : B ≤ w.heap.size) (ht : TypeV w B t v) :
    Calls Tryd.prog 29 #[v, .string s] w (RTRes B w (dropV t s)) := by
  obtain ⟨t0, t1, t2, t3, t4, t5, rfl, hin⟩ := ht
  have HIN := Lib.hid hin
  obtain ⟨A3, d3, A4, d4, A5, d5, rfl, rfl, rfl, rfl, rfl, rfl⟩ := hin.forms
  obtain ⟨cs, hrow, hraw⟩ := hin.raw
  have HROW := Lib.hid hrow; have HRAW := Lib.hid hraw
  have hnc : t.fields.length ≤ d4 := by obtain ⟨_, _, e, h, _⟩ := hrow; injection e with _ _ e3; omega
  have HF := Lib.hid hf
  clear hin hf hrow hraw
  obtain ⟨W2, hW2⟩ : ∃ W2, W2 = ((w.alloc (.cells #[.int .i64 t.kind, .int .i64 t.lo, .int .i64 t.hi, .slice A3 t.names.length d3, .slice A4 t.fields.length d4, .slice A5 t.of.length d5] 26)).alloc
    (.cells #[.int .i64 0, .int .i64 0, .int .i64 0, .slice none 0 0, .slice none 0 0, .slice none 0 0] 26)) := ⟨_, rfl⟩
  have hbt : Box6 W2 w.heap.size (.int .i64 t.kind) (.int .i64 t.lo) (.int .i64 t.hi) (.slice A3 t.names.length d3) (.slice A4 t.fields.length d4) (.slice A5 t.of.length d5) := by rw [hW2]; exact (Box6.new w _ _ _ _ _ _).alloc _
  have hbr : Box6 W2 (w.heap.size + 1) (.int .i64 0) (.int .i64 0) (.int .i64 0) (.slice none 0 0) (.slice none 0 0) (.slice none 0 0) := by rw [hW2]; exact Box6.new' (by simp) _ _ _ _ _ _
  have hbl : Below w.heap.size w W2 := by rw [hW2]; exact ((Below.refl _ _).alloc (Nat.le_refl _) _).alloc (by simp) _
  have hz2 : W2.heap.size = w.heap.size + 2 := by rw [hW2]; simp
  have HBT := Lib.hid hbt; have HBR := Lib.hid hbr; have HBL := Lib.hid hbl; have HW2 := Lib.hid hW2
  have kin : Hid (∀ W, Below w.heap.size w W → TypeIn W B t (.int .i64 t.kind) (.int .i64 t.lo) (.int .i64 t.hi) (.slice A3 t.names.length d3) (.slice A4 t.fields.length d4) (.slice A5 t.of.length d5)) := fun W h => HIN.out.keep (Nat.le_refl _) fun p hp => h.cell (by omega)
  clear hbt hbr hbl hW2
  cases hrt : rightT t with
  | false =>
    have E := Lib.hid (show dropV t s = (T.zero, 1) by unfold dropV; rw [if_neg (by simp [recordB, hrt])])
    have HRT := Lib.hid hrt; clear hrt
    go_enter Tryd.func29, Tryd.ntmps29
    go_wp2_with fail
    rw [← HW2.out]
    refine (rtright_any (B := B) (by omega) (by omega) HF.out (by omega) ⟨_, _, _, _, _, _, rfl, kin.out _ HBL.out⟩).mono ?_
    rintro e w3 ⟨rfl, hb3⟩
    rw [HRT.out]
    have hbt3 := HBT.out.same (hb3.block _ HBT.out.lt)
    have hbr3 := HBR.out.same (hb3.block _ HBR.out.lt)
    have HBR3 := Lib.hid hbr3
    have HBL3 : Hid (Below w.heap.size w w3) := HBL.out.trans (hb3.mono (by omega))
    obtain ⟨t0, t1, t2, t3, t4, t5⟩ := hbt3.cells
    obtain ⟨r0, r1, r2, r3, r4, r5⟩ := hbr3.cells
    have r6 := hbr3.frozen
    clear hb3 hbr3 hbt3
    go_wp2_with fail
    clear r0 r1 r2 r3 r4 r5 r6 t0 t1 t2 t3 t4 t5
    refine ret_cell6_2 (u := .int .i64 1) rfl rfl rfl (fill6_box HBR3.out (.int .i64 0) (.int .i64 0) (.int .i64 0) (.slice none 0 0) (.slice none 0 0) (.slice none 0 0)).load rfl ?_
    rw [E.out]
    exact ⟨_, _, _, rfl, zero_typeS, fill6_below HBL3.out (by omega) _ _ _ _ _ _⟩
  | true =>
    have HRT := Lib.hid hrt
    by_cases hk1 : t.kind = 1
    rotate_left
    · have E := Lib.hid (show dropV t s = (T.zero, 1) by unfold dropV; rw [if_neg (by simp [recordB, hk1])])
      have hk2 : (t.kind != 1) = true := by simp [hk1]
      clear hrt hk1
      go_enter Tryd.func29, Tryd.ntmps29
      go_wp2_with fail
      rw [← HW2.out]
      refine (rtright_any (B := B) (by omega) (by omega) HF.out (by omega) ⟨_, _, _, _, _, _, rfl, kin.out _ HBL.out⟩).mono ?_
      rintro e w3 ⟨rfl, hb3⟩
      rw [HRT.out]
      have hbt3 := HBT.out.same (hb3.block _ HBT.out.lt)
      have hbr3 := HBR.out.same (hb3.block _ HBR.out.lt)
      have HBR3 := Lib.hid hbr3
      have HBL3 : Hid (Below w.heap.size w w3) := HBL.out.trans (hb3.mono (by omega))
      obtain ⟨t0, t1, t2, t3, t4, t5⟩ := hbt3.cells
      obtain ⟨r0, r1, r2, r3, r4, r5⟩ := hbr3.cells
      have r6 := hbr3.frozen
      clear hb3 hbr3 hbt3
      go_wp2_with fail
      clear r0 r1 r2 r3 r4 r5 r6 t0 t1 t2 t3 t4 t5
      refine ret_cell6_2 (u := .int .i64 1) rfl rfl rfl (fill6_box HBR3.out (.int .i64 0) (.int .i64 0) (.int .i64 0) (.slice none 0 0) (.slice none 0 0) (.slice none 0 0)).load rfl ?_
      rw [E.out]
      exact ⟨_, _, _, rfl, zero_typeS, fill6_below HBL3.out (by omega) _ _ _ _ _ _⟩
    have hrec : recordB t = true := by simp [recordB, hk1, hrt]
    have hk2 : (t.kind != 1) = false := by simp [hk1]
    rcases fieldIdx_cases (calledB s) t.fields with ⟨hno, _⟩ | ⟨i, hi, hix, _, _⟩
    · have hfo : fieldOf t s = -1 := by unfold fieldOf; split <;> first | exact hno | rfl
      have E := Lib.hid (show dropV t s = (T.zero, 9) by unfold dropV; rw [if_pos hrec, if_pos (by omega)])
      have HFO := Lib.hid hfo
      clear hrec hno hfo hrt hk1
      go_enter Tryd.func29, Tryd.ntmps29
      go_wp2_with fail
      rw [← HW2.out]
      refine (rtright_any (B := B) (by omega) (by omega) HF.out (by omega) ⟨_, _, _, _, _, _, rfl, kin.out _ HBL.out⟩).mono ?_
      rintro e w3 ⟨rfl, hb3⟩
      rw [HRT.out]
      have hbt3 := HBT.out.same (hb3.block _ HBT.out.lt)
      have HBR3 := Lib.hid (HBR.out.same (hb3.block _ HBR.out.lt))
      have HBL3 : Hid (Below w.heap.size w w3) := HBL.out.trans (hb3.mono (by omega))
      obtain ⟨t0, t1, t2, t3, t4, t5⟩ := hbt3.cells
      have hz3 := HBL3.out.size
      clear hb3 hbt3
      go_wp2_with fail
      refine (rfield_any (B := B) HF.out (by omega) ⟨_, _, _, _, _, _, rfl, kin.out _ HBL3.out⟩).mono ?_
      rintro e w4 ⟨rfl, hb4⟩
      rw [HFO.out]
      have hbr4 := HBR3.out.same (hb4.block _ HBR3.out.lt)
      have HBR4 := Lib.hid hbr4
      have HBL4 : Hid (Below w.heap.size w w4) := HBL3.out.trans (hb4.mono hz3)
      obtain ⟨r0, r1, r2, r3, r4, r5⟩ := hbr4.cells
      have r6 := hbr4.frozen
      clear hb4 hbr4 t0 t1 t2 t3 t4 t5
      go_wp2_with fail
      clear r0 r1 r2 r3 r4 r5 r6
      refine ret_cell6_2 (u := .int .i64 9) rfl rfl rfl (fill6_box HBR4.out (.int .i64 0) (.int .i64 0) (.int .i64 0) (.slice none 0 0) (.slice none 0 0) (.slice none 0 0)).load rfl ?_
      rw [E.out]
      exact ⟨_, _, _, rfl, zero_typeS, fill6_below HBL4.out (by omega) _ _ _ _ _ _⟩
    · have hfo : fieldOf t s = i := by unfold fieldOf; rw [if_pos hk1, hix]
      have E := Lib.hid (show dropV t s = (.mk 1 0 0 [] (t.fields.take i ++ t.fields.drop (i + 1)) [], 0) by unfold dropV; rw [if_pos hrec, if_neg (by omega), hfo, ← dropT_plain hrec]; rfl)
      have HFO := Lib.hid hfo
      have hi0 : (0 : Int) ≤ (i : Int) := by omega
      have hn := HF.out.parts.2.1
      have hw1 : IntKind.i64.wrap ((i : Int) + 1) = (i : Int) + 1 := IntWalk.i64_in _ (by omega)
      clear hrec hfo hk1 hix hrt
      go_enter Tryd.func29, Tryd.ntmps29
      go_wp2_with fail
      rw [← HW2.out]
      refine (rtright_any (B := B) (by omega) (by omega) HF.out (by omega) ⟨_, _, _, _, _, _, rfl, kin.out _ HBL.out⟩).mono ?_
      rintro e w3 ⟨rfl, hb3⟩
      rw [HRT.out]
      have hbt3 := HBT.out.same (hb3.block _ HBT.out.lt)
      have HBT3 := Lib.hid hbt3
      have HBR3 := Lib.hid (HBR.out.same (hb3.block _ HBR.out.lt))
      have HBL3 : Hid (Below w.heap.size w w3) := HBL.out.trans (hb3.mono (by omega))
      obtain ⟨t0, t1, t2, t3, t4, t5⟩ := hbt3.cells
      have hz3 := HBL3.out.size
      clear hb3 hbt3
      go_wp2_with fail
      refine (rfield_any (B := B) HF.out (by omega) ⟨_, _, _, _, _, _, rfl, kin.out _ HBL3.out⟩).mono ?_
      rintro e w4 ⟨rfl, hb4⟩
      rw [HFO.out]
      have HBR4 := Lib.hid (HBR3.out.same (hb4.block _ HBR3.out.lt))
      have HBT4 := Lib.hid (HBT3.out.same (hb4.block _ HBT3.out.lt))
      have HBL4 : Hid (Below w.heap.size w w4) := HBL3.out.trans (hb4.mono hz3)
      have hz4 := HBL4.out.size
      have hr4 := HBR4.out.lt
      have ht4 := HBT4.out.lt
      clear hb4 t0 t1 t2 t3 t4 t5
      go_upto_region 7 with fail
      obtain ⟨i0, hi0', hz0, hz01, hz02⟩ := info_parts infoF
      have I0 := Lib.hid hi0'; have I1 := Lib.hid hz0; have I2 := Lib.hid hz01; have I3 := Lib.hid hz02
      clear hi0' hz0 hz01 hz02
      have WQ : Hid (∀ wq : World, KeepF w4.heap.size (cs.take (i * 8) ++ cs.drop ((i + 1) * 8)) w4.drew wq → Below w4.heap.size w4 wq) := fun wq h => ((KeepF.of_below (Nat.le_refl _) (Below.refl _ _).drew).trans _ _ _ h).1
      have WC : Hid (∀ wq : World, KeepF w4.heap.size (cs.take (i * 8) ++ cs.drop ((i + 1) * 8)) w4.drew wq → ∀ p : Addr, p.block < B → wq.cell? p = w.cell? p) := fun wq h p hp => ((WQ.out wq h).cell (by omega)).trans (HBL4.out.cell (by omega))
      have hlen : cs.length = t.fields.length * 8 := HROW.out.choose_spec.choose_spec.2.2.1
      have hcut : (cs.drop ((i + 1) * 8)).take ((t.fields.length - (i + 1)) * 8) = cs.drop ((i + 1) * 8) := List.take_of_length_le (by simp; omega)
      have R1 : Hid (RowV w 8 (cut8 A4 0 i d4) i (cs.take (i * 8))) := by
        have := rowV_cut (l := 0) (h := i) HROW.out (by omega) (by omega)
        simp only [Nat.zero_mul, List.drop_zero, Nat.sub_zero] at this
        exact this
      have R2 : Hid (RowV w 8 (cut8 A4 (i + 1) t.fields.length d4) (t.fields.length - (i + 1)) (cs.drop ((i + 1) * 8))) := by
        have := rowV_cut (l := i + 1) (h := t.fields.length) HROW.out (by omega) (by omega)
        rw [hcut] at this
        exact this
      have HOB : Hid (∀ l h, 0 < t.fields.length → ∀ p : Addr, (cut8 A4 l h d4).ownBlock = some p.block → p.block < B) := by
        intro l h h0 p hp
        obtain ⟨A', c', e, _, hk⟩ := HIN.out.fields_
        injection e with e1 e2 e3
        subst e1
        obtain ⟨b, off, rfl, hb, _⟩ := hk h0
        unfold cut8 at hp
        split at hp
        · simp only [Value.ownBlock, Option.some.injEq] at hp; omega
        · simp only [Value.ownBlock, Option.map_some, Addr.add_mid, Option.some.injEq] at hp; omega
      have HCUT := Lib.hid hcut
      have HLEN := Lib.hid hlen
      clear hcut hlen
      refine wp_region_grow4_calm (KeepF w4.heap.size (cs.take (i * 8) ++ cs.drop ((i + 1) * 8))) (fun _ => KeepF w4.heap.size (cs.take (i * 8) ++ cs.drop ((i + 1) * 8))) (fun _ _ _ h => h) (fun _ _ => KeepF.refl _ _ _) (KeepF.refl _ _) KeepF.trans 13 37 [false, false, false, false, false, false, false, false, false, false, false, false, false]
        (RDropPhi w4.heap.size w.heap.size A4 t.fields.length d4 i cs) (by kernel_rfl) (by kernel_rfl) (by simp) (fun _ _ h => h.1.size) (fun i' k' v' It' g' w' _ _ h => rdropphi_loc i' k' v' It' g' w' h) (fun i' j' v' It' w' w'' _ _ h hk => rdropphi_keep i' v' It' w' w'' h hk) ?_ ?_
      · simp only [List.take_succ_cons, List.take_zero]
        refine ⟨?_, ?_, ?_, ?_, ?_, ?_, ?_, ?_, ?_, ?_, ?_, ?_, ?_, trivial⟩
        · intro vs It wq hq hdep K' hK
          simp only [depFacts, putAll, Act.put, List.setIfInBounds_toArray, List.set_cons_zero, List.set_cons_succ, Nat.zero_add, Nat.reduceAdd] at hdep hK ⊢
          have hb := (Below.refl wq.heap.size wq).alloc (Nat.le_refl _) (.cells #[] 38)
          go_simp
          exact hK _ _ (KeepF.of_below (WQ.out wq hq).size hb) ⟨⟨rfl, .inr ⟨_, 0, #[], rfl, (WQ.out wq hq).size, heap_alloc_new wq _, Nat.le_refl _, by unfold maxLen; omega, rfl, rfl⟩⟩, ⟨_, _, rfl, fun _ => rfl⟩⟩
        · intro vs It wq hq hdep K' hK
          simp only [depFacts, putAll, Act.put, List.setIfInBounds_toArray, List.set_cons_zero, List.set_cons_succ, Nat.zero_add, Nat.reduceAdd] at hdep hK ⊢
          go_simp
          exact hK _ _ (KeepF.refl _ _ _) rfl
        · intro vs It wq hq hdep K' hK
          simp only [depFacts, putAll, Act.put, List.setIfInBounds_toArray, List.set_cons_zero, List.set_cons_succ, Nat.zero_add, Nat.reduceAdd] at hdep hK ⊢
          have f1 : vs 1 = .pointer (some ⟨w.heap.size, 4, none⟩) := hdep.1 rfl
          rw [f1] at hK ⊢
          obtain ⟨x0, x1, x2, x3, x4, x5⟩ := (HBT4.out.same ((WQ.out wq hq).block _ ht4)).cells
          go_simp
          exact hK _ _ (KeepF.refl _ _ _) rfl
        · intro vs It wq hq hdep K' hK
          simp only [depFacts, putAll, Act.put, List.setIfInBounds_toArray, List.set_cons_zero, List.set_cons_succ, Nat.zero_add, Nat.reduceAdd] at hdep hK ⊢
          go_simp
          exact hK _ _ (KeepF.refl _ _ _) rfl
        · intro vs It wq hq hdep K' hK
          simp only [depFacts, putAll, Act.put, List.setIfInBounds_toArray, List.set_cons_zero, List.set_cons_succ, Nat.zero_add, Nat.reduceAdd] at hdep hK ⊢
          have f1 : vs 2 = .slice A4 t.fields.length d4 := hdep.1 rfl
          have f2 : vs 3 = .int .i64 (i : Nat) := hdep.2.1 rfl
          exact op_cut_h (.tmp 26) (.tmp 27) rfl f1 f2 (by omega) (hK _ _ (KeepF.refl _ _ _) rfl)
        · intro vs It wq hq hdep K' hK
          simp only [depFacts, putAll, Act.put, List.setIfInBounds_toArray, List.set_cons_zero, List.set_cons_succ, Nat.zero_add, Nat.reduceAdd] at hdep hK ⊢
          have f1 : wq.ownsRow w4.heap.size 38 8 (vs 0) 0 [] ∧ CapOk (vs 0) 0 := hdep.1 rfl
          have f2 : vs 4 = cut8 A4 0 i d4 := hdep.2.1 rfl
          obtain ⟨v', w', hr, ho, hco, hk⟩ := append_keepF (P := Tryd.prog) (w := wq) (B := w4.heap.size) (L := (cs.take (i * 8) ++ cs.drop ((i + 1) * 8))) (m := 0) (n := i) (M := []) (N := (cs.take (i * 8))) (v := vs 0) (u := vs 4) (t := 23) (ty := 23) i0 _ elem8 I0.out I1.out I2.out I3.out rfl (WQ.out wq hq).size f1.1 f1.2 (by rw [f2]; exact R1.out.keep fun h0 p hp => WC.out wq hq p (HOB.out 0 i (by omega) p hp)) (by simp) (by omega)
          rw [Nat.zero_add] at ho hco
          rw [List.nil_append] at ho
          exact op_appendF (.tmp 24) (.tmp 28) 23 rfl rfl rfl hr (hK _ _ hk ⟨ho, hco⟩)
        · intro vs It wq hq hdep K' hK
          simp only [depFacts, putAll, Act.put, List.setIfInBounds_toArray, List.set_cons_zero, List.set_cons_succ, Nat.zero_add, Nat.reduceAdd] at hdep hK ⊢
          go_simp
          exact hK _ _ (KeepF.refl _ _ _) rfl
        · intro vs It wq hq hdep K' hK
          simp only [depFacts, putAll, Act.put, List.setIfInBounds_toArray, List.set_cons_zero, List.set_cons_succ, Nat.zero_add, Nat.reduceAdd] at hdep hK ⊢
          have f1 : vs 6 = .pointer (some ⟨w.heap.size, 4, none⟩) := hdep.1 rfl
          rw [f1] at hK ⊢
          obtain ⟨x0, x1, x2, x3, x4, x5⟩ := (HBT4.out.same ((WQ.out wq hq).block _ ht4)).cells
          go_simp
          exact hK _ _ (KeepF.refl _ _ _) rfl
        · intro vs It wq hq hdep K' hK
          simp only [depFacts, putAll, Act.put, List.setIfInBounds_toArray, List.set_cons_zero, List.set_cons_succ, Nat.zero_add, Nat.reduceAdd] at hdep hK ⊢
          go_simp
          exact hK _ _ (KeepF.refl _ _ _) rfl
        · intro vs It wq hq hdep K' hK
          simp only [depFacts, putAll, Act.put, List.setIfInBounds_toArray, List.set_cons_zero, List.set_cons_succ, Nat.zero_add, Nat.reduceAdd] at hdep hK ⊢
          have f1 : vs 8 = .int .i64 (i : Nat) := hdep.1 rfl
          rw [f1] at hK ⊢
          go_simp
          exact hK _ _ (KeepF.refl _ _ _) (by first | rfl | (show Value.int _ _ = Value.int _ _; congr 1))
        · intro vs It wq hq hdep K' hK
          simp only [depFacts, putAll, Act.put, List.setIfInBounds_toArray, List.set_cons_zero, List.set_cons_succ, Nat.zero_add, Nat.reduceAdd] at hdep hK ⊢
          have f1 : vs 7 = .slice A4 t.fields.length d4 := hdep.1 rfl
          have f2 : vs 9 = .int .i64 ((i + 1 : Nat) : Int) := hdep.2.1 rfl
          exact op_cut_l (.tmp 31) (.tmp 33) rfl f1 f2 (by omega) (hK _ _ (KeepF.refl _ _ _) rfl)
        · intro vs It wq hq hdep K' hK
          simp only [depFacts, putAll, Act.put, List.setIfInBounds_toArray, List.set_cons_zero, List.set_cons_succ, Nat.zero_add, Nat.reduceAdd] at hdep hK ⊢
          have f1 : wq.ownsRow w4.heap.size 38 8 (vs 5) i (cs.take (i * 8)) ∧ CapOk (vs 5) i := hdep.1 rfl
          have f2 : vs 10 = cut8 A4 (i + 1) t.fields.length d4 := hdep.2.1 rfl
          obtain ⟨v', w', hr, ho, hco, hk⟩ := append_keepF (P := Tryd.prog) (w := wq) (B := w4.heap.size) (L := (cs.take (i * 8) ++ cs.drop ((i + 1) * 8))) (m := i) (n := (t.fields.length - (i + 1))) (M := (cs.take (i * 8))) (N := (cs.drop ((i + 1) * 8))) (v := vs 5) (u := vs 10) (t := 23) (ty := 23) i0 _ elem8 I0.out I1.out I2.out I3.out rfl (WQ.out wq hq).size f1.1 f1.2 (by rw [f2]; exact R2.out.keep fun h0 p hp => WC.out wq hq p (HOB.out (i + 1) t.fields.length (by omega) p hp)) (by simp) (by omega)
          exact op_appendF (.tmp 29) (.tmp 34) 23 rfl rfl rfl hr (hK _ _ hk ⟨ho, hco⟩)
        · intro vs It wq hq hdep K' hK
          simp only [depFacts, putAll, Act.put, List.setIfInBounds_toArray, List.set_cons_zero, List.set_cons_succ, Nat.zero_add, Nat.reduceAdd] at hdep hK ⊢
          have f1 : wq.ownsRow w4.heap.size 38 8 (vs 11) (i + (t.fields.length - (i + 1))) (cs.take (i * 8) ++ cs.drop ((i + 1) * 8)) ∧ CapOk (vs 11) (i + (t.fields.length - (i + 1))) := hdep.1 rfl
          obtain ⟨f1, A, c, e, _⟩ := f1
          rw [e] at hK f1 ⊢
          go_simp
          exact hK _ _ (KeepF.refl _ _ _) ⟨A, c, rfl, f1⟩
      · intro vs It wq hq _ hall
        simp only [putAll, Act.put, List.setIfInBounds_toArray, List.set_cons_zero, List.set_cons_succ, List.take_succ_cons, List.take_zero, List.drop_succ_cons, List.drop_zero, allFacts, Nat.zero_add, Nat.reduceAdd] at hall ⊢
        obtain ⟨_, _, _, _, _, _, _, _, _, _, _, _, e12, _⟩ := hall
        obtain ⟨A, c, e12, ho⟩ : ∃ A c, vs 12 = .agg #[.int .i64 1, .int .i64 0, .int .i64 0, .slice none 0 0, .slice A (i + (t.fields.length - (i + 1))) c, .slice none 0 0] ∧ wq.ownsRow w4.heap.size 38 8 (.slice A (i + (t.fields.length - (i + 1))) c) (i + (t.fields.length - (i + 1))) (cs.take (i * 8) ++ cs.drop ((i + 1) * 8)) := e12
        rw [e12]
        have HO := Lib.hid ho
        have HQ := Lib.hid (WQ.out wq hq)
        have HC := Lib.hid (WC.out wq hq)
        have hzq := (WQ.out wq hq).size
        have HBRq := Lib.hid (HBR4.out.same ((WQ.out wq hq).block _ hr4))
        clear e12 ho hq WQ WC
        obtain ⟨r0, r1, r2, r3, r4, r5⟩ := HBRq.out.cells
        have r6 := HBRq.out.frozen
        have hrq := HBRq.out.lt
        go_wp2_with fail
        refine NoPanic.normal ?_
        clear r0 r1 r2 r3 r4 r5 r6
        go_wp2_with fail
        refine ret_cell6_2 (u := .int .i64 0) rfl rfl rfl (fill6_box HBRq.out (.int .i64 1) (.int .i64 0) (.int .i64 0) (.slice none 0 0) (.slice A (i + (t.fields.length - (i + 1))) c) (.slice none 0 0)).load rfl ?_
        rw [E.out]
        have hfl : (t.fields.take i ++ t.fields.drop (i + 1)).length = i + (t.fields.length - (i + 1)) := by simp; omega
        obtain ⟨wz, hwz⟩ : ∃ wz, wz = fill6 wq (w.heap.size + 1) (.int .i64 1) (.int .i64 0) (.int .i64 0) (.slice none 0 0) (.slice A (i + (t.fields.length - (i + 1))) c) (.slice none 0 0) := ⟨_, rfl⟩
        have hzz : wz.heap.size = wq.heap.size := by rw [hwz]; exact fill6_size _ _ _ _ _ _ _ _
        have hfar : ∀ k, k ≠ w.heap.size + 1 → wz.heap[k]? = wq.heap[k]? := fun k hk => by rw [hwz]; exact fill6_far _ _ _ _ _ _ _ _ k hk
        have hbz : Below w.heap.size w wz := by rw [hwz]; exact fill6_below (HBL4.out.trans (HQ.out.mono hz4)) (by omega) _ _ _ _ _ _
        have hoz : wz.ownsRow w4.heap.size 38 8 (.slice A (i + (t.fields.length - (i + 1))) c) (i + (t.fields.length - (i + 1))) (cs.take (i * 8) ++ cs.drop ((i + 1) * 8)) := by
          refine ownsRow_same HO.out fun k hk => hfar k ?_
          rcases HO.out.2 with ⟨e, _⟩ | ⟨g, cap, cur, e, hg, _⟩
          · rw [e] at hk; cases hk
          · rw [e] at hk; simp only [Value.ownBlock, Option.some.injEq] at hk; omega
        have hcz : ∀ p : Addr, p.block < B → wz.cell? p = w.cell? p := fun p hp => (World.cell?_of_block (hfar p.block (by omega))).trans (HC.out p hp)
        have hof := own_fields (W0 := w.heap.size) (l := t.fields.take i ++ t.fields.drop (i + 1)) (RawFs.append (HRAW.out.take i) (HRAW.out.drop (i + 1))) hcz (by rw [hfl]; exact hoz) (by omega)
        obtain ⟨A', c', e', hof1, hof2⟩ := hof
        rw [hfl] at e'
        injection e' with e1 _ e3
        subst e1 e3
        change RTRes B w _ _ (fill6 wq (w.heap.size + 1) (.int .i64 1) (.int .i64 0) (.int .i64 0) (.slice none 0 0) (.slice A (i + (t.fields.length - (i + 1))) c) (.slice none 0 0))
        rw [← hwz]
        refine ⟨_, _, _, rfl, TypeS.mk_ (t := .mk 1 0 0 [] (t.fields.take i ++ t.fields.drop (i + 1)) []) nilS ⟨_, _, by rw [← hfl]; rfl, hof1, hof2⟩ nilT, hbz⟩

theorem putAt_before {l : List F} {s : ByteArray} {j : Nat} (hj : j < l.length) (h : j < putAt l s) : afterB s l[j] = false := by
  unfold putAt at h
  rcases fieldIdx_cases (afterB s) l with ⟨_, h1⟩ | ⟨i, hi, h1, _, h3⟩
  · exact h1 j hj
  · rw [if_neg (by omega), h1] at h
    exact h3 j (by omega)
theorem putAt_at {l : List F} {s : ByteArray} (h : putAt l s < l.length) : afterB s (l[putAt l s]) = true := by
  rcases fieldIdx_cases (afterB s) l with ⟨h1, _⟩ | ⟨i, hi, h1, h2, _⟩
  · have : putAt l s = l.length := by unfold putAt; rw [if_pos h1]
    omega
  · have e : putAt l s = i := by unfold putAt; rw [if_neg (by omega), h1]; omega
    simp only [e]
    exact h2
theorem less_of {f : F} {s : ByteArray} (hc : calledB s f = false) : Op.bytesLess f.name.toList s.toList = !afterB s f := by
  have h : (f.name.toList == s.toList) = false := by
    rw [beq_iff]
    simpa [calledB] using hc
  unfold afterB
  rw [h]
  cases Op.bytesLess f.name.toList s.toList <;> rfl
/-- What the great statement of Put yields. -/
def RPutPhi (B pt : Nat) (A4 : Option Addr) (n c4 k : Nat) (cs : List Value) (fc : Array Value) : Nat → Value → (Nat → Nat × Nat) → World → Prop
  | 0, v, _, w => w.ownsRow B 38 8 v 0 [] ∧ CapOk v 0
  | 1, v, _, _ => v = .pointer (some ⟨pt, 4, none⟩)
  | 2, v, _, _ => v = .slice A4 n c4
  | 3, v, _, _ => v = .int .i64 (k : Nat)
  | 4, v, _, _ => v = cut8 A4 0 k c4
  | 5, v, _, w => w.ownsRow B 38 8 v k (cs.take (k * 8)) ∧ CapOk v k
  | 6, v, _, _ => v = .agg fc
  | 7, v, _, w => ∃ g, v = .slice (some ⟨g, 0, none⟩) 1 1 ∧ w.heap[g]? = some (.cells fc 38 (0, 0))
  | 8, v, _, w => w.ownsRow B 38 8 v (k + 1) (cs.take (k * 8) ++ fc.toList) ∧ CapOk v (k + 1)
  | 9, v, _, _ => v = .pointer (some ⟨pt, 4, none⟩)
  | 10, v, _, _ => v = .slice A4 n c4
  | 11, v, _, _ => v = .int .i64 (k : Nat)
  | 12, v, _, _ => v = cut8 A4 k n c4
  | 13, v, _, w => w.ownsRow B 38 8 v (k + 1 + (n - k)) (cs.take (k * 8) ++ fc.toList ++ cs.drop (k * 8)) ∧ CapOk v (k + 1 + (n - k))
  | 14, v, _, w => ∃ A c, v = .agg #[.int .i64 1, .int .i64 0, .int .i64 0, .slice none 0 0, .slice A (k + 1 + (n - k)) c, .slice none 0 0] ∧ w.ownsRow B 38 8 (.slice A (k + 1 + (n - k)) c) (k + 1 + (n - k)) (cs.take (k * 8) ++ fc.toList ++ cs.drop (k * 8))
  | 15, v, _, w => ∃ g, v = .pointer (some ⟨g, 0, none⟩) ∧ B ≤ g ∧ w.heap[g]? = some (.cells #[.int .i64 0, .int .i64 0, .int .i64 0, .slice none 0 0, .slice none 0 0, .slice none 0 0] 26 (0, 0))
  | _, _, _, _ => True
theorem rputphi_keep {B pt : Nat} {A4 : Option Addr} {n c4 k : Nat} {cs : List Value} {fc : Array Value} (hfc : fc.size ≤ 8) : ∀ i v It w w', RPutPhi B pt A4 n c4 k cs fc i v It w → KeepF B (cs.take (k * 8) ++ fc.toList ++ cs.drop (k * 8)) w w' → RPutPhi B pt A4 n c4 k cs fc i v It w' := by
  intro i v It w w' h hb
  match i, h with
  | 0, h => exact ⟨hb.2.1 v 0 [] List.nil_prefix h.1, h.2⟩
  | 1, h => exact h
  | 2, h => exact h
  | 3, h => exact h
  | 4, h => exact h
  | 5, h => exact ⟨hb.2.1 v k _ (by rw [List.append_assoc]; exact List.prefix_append _ _) h.1, h.2⟩
  | 6, h => exact h
  | 7, ⟨g, e, h⟩ => exact ⟨g, e, hb.2.2 _ _ _ (.inr hfc) h⟩
  | 8, h => exact ⟨hb.2.1 v _ _ (List.prefix_append _ _) h.1, h.2⟩
  | 9, h => exact h
  | 10, h => exact h
  | 11, h => exact h
  | 12, h => exact h
  | 13, h => exact ⟨hb.2.1 v _ _ (List.prefix_refl _) h.1, h.2⟩
  | 14, ⟨A, c, e, h⟩ => exact ⟨A, c, e, hb.2.1 _ _ _ (List.prefix_refl _) h⟩
  | 15, ⟨g, e, hg, h⟩ => exact ⟨g, e, hg, hb.2.2 _ _ _ (.inl (by decide)) h⟩
  | _ + 16, _ => exact trivial
theorem rputphi_loc {B pt : Nat} {A4 : Option Addr} {n c4 k : Nat} {cs : List Value} {fc : Array Value} : ∀ i j v It g w, RPutPhi B pt A4 n c4 k cs fc i v It w → RPutPhi B pt A4 n c4 k cs fc i v (setG It j g) w := by
  intro i j v It g w h
  match i, h with
  | 0, h => exact h
  | 1, h => exact h
  | 2, h => exact h
  | 3, h => exact h
  | 4, h => exact h
  | 5, h => exact h
  | 6, h => exact h
  | 7, h => exact h
  | 8, h => exact h
  | 9, h => exact h
  | 10, h => exact h
  | 11, h => exact h
  | 12, h => exact h
  | 13, h => exact h
  | 14, h => exact h
  | 15, h => exact h
  | _ + 16, _ => exact trivial
theorem rowV_one {w : World} {g : Nat} {cs : Array Value} (h : w.heap[g]? = some (.cells cs 38 (0, 0))) (h8 : cs.size = 8) (h1 : ∀ u ∈ cs.toList, u.oneCell' = true) : RowV w 8 (.slice (some ⟨g, 0, none⟩) 1 1) 1 cs.toList := by
  refine ⟨_, 1, rfl, Nat.le_refl _, by simpa using h8, h1, fun e => (by cases e), fun a e j u hj => ?_⟩
  injection e with e
  subst e
  rw [Addr.add_mid, Nat.zero_add, cell_block h]
  simpa using hj
set_option maxHeartbeats 16000000 in
set_option maxRecDepth 100000 in
theorem rtput_any {t : T} {f : F} {v u : Value} {w : World} {B : Nat} (hs : t.size ≤ 4000) (hd : t.depth ≤ 900) (hf : t.Fit) (hs2 : f.type.size ≤ 4000) (hd2 : f.type.depth ≤ 800) (hf2 : f.type.Fit) (hpf : nameB f.name = true → (putT t f).Fit) (hB : B ≤ w.heap.size) (ht : TypeV w B t v) (hu : FieldV w B f u) :
    Calls Tryd.prog 27 #[v, u] w (RTRes B w (putV t f)) := by
  obtain ⟨t0, t1, t2, t3, t4, t5, rfl, hin⟩ := ht
  obtain ⟨u0, u1, u2, u3, u4, u5, rfl, hfi⟩ := hu
  have HIN := Lib.hid hin; have HFI := Lib.hid hfi
  obtain ⟨A3, d3, A4, d4, A5, d5, rfl, rfl, rfl, rfl, rfl, rfl⟩ := hin.forms
  obtain ⟨B3, e3, B4, e4, B5, e5, rfl, rfl, rfl, rfl, rfl, rfl⟩ := hfi.forms
  obtain ⟨cs, hrow, hraw⟩ := hin.raw
  have HROW := Lib.hid hrow; have HRAW := Lib.hid hraw
  have hnc : t.fields.length ≤ d4 := by obtain ⟨_, _, e, h, _⟩ := hrow; injection e with _ _ e3; omega
  have HFV := Lib.hid hin.fields_
  have HF := Lib.hid hf; have HF2 := Lib.hid hf2; have HPF := Lib.hid hpf
  clear hin hfi hf hf2 hpf hrow hraw
  obtain ⟨W2, hW2⟩ : ∃ W2, W2 = (((w.alloc (.cells #[.int .i64 t.kind, .int .i64 t.lo, .int .i64 t.hi, .slice A3 t.names.length d3, .slice A4 t.fields.length d4, .slice A5 t.of.length d5] 26)).alloc (.cells #[Value.string f.name, .bool f.opt, .int .i64 f.type.kind, .int .i64 f.type.lo, .int .i64 f.type.hi, .slice B3 f.type.names.length e3, .slice B4 f.type.fields.length e4, .slice B5 f.type.of.length e5] 38)).alloc
    (.cells #[.int .i64 0, .int .i64 0, .int .i64 0, .slice none 0 0, .slice none 0 0, .slice none 0 0] 26)) := ⟨_, rfl⟩
  have hst : PutSt w W2 t f A3 d3 A4 d4 A5 d5 (.int .i64 f.type.kind) (.int .i64 f.type.lo) (.int .i64 f.type.hi) (.slice B3 f.type.names.length e3) (.slice B4 f.type.fields.length e4) (.slice B5 f.type.of.length e5) := by
    rw [hW2]
    exact ⟨((Box6.new w _ _ _ _ _ _).alloc _).alloc _, (Below.heap_alloc _ _ _ (by simp)).trans (heap_at _ (by simp)), Box6.new' (by simp) _ _ _ _ _ _, (((Below.refl _ _).alloc (Nat.le_refl _) _).alloc (by simp) _).alloc (by simp; omega) _⟩
  have ST2 := Lib.hid hst
  have hz2 : W2.heap.size = w.heap.size + 3 := by rw [hW2]; simp
  have HW2 := Lib.hid hW2
  have kin : Hid (∀ W, Below w.heap.size w W → TypeIn W B t (.int .i64 t.kind) (.int .i64 t.lo) (.int .i64 t.hi) (.slice A3 t.names.length d3) (.slice A4 t.fields.length d4) (.slice A5 t.of.length d5)) := fun W h => HIN.out.keep (Nat.le_refl _) fun p hp => h.cell (by omega)
  have kfi : Hid (∀ W, Below w.heap.size w W → TypeIn W B f.type (.int .i64 f.type.kind) (.int .i64 f.type.lo) (.int .i64 f.type.hi) (.slice B3 f.type.names.length e3) (.slice B4 f.type.fields.length e4) (.slice B5 f.type.of.length e5)) := fun W h => HFI.out.keep (Nat.le_refl _) fun p hp => h.cell (by omega)
  clear hst hW2
  generalize hx1 : rightT t = x1
  generalize hx2 : rightT f.type = x2
  generalize hx3 : nameB f.name = x3
  have X1 := Lib.hid hx1; have X2 := Lib.hid hx2; have X3 := Lib.hid hx3
  clear hx1 hx2 hx3
  go_enter Tryd.func27, Tryd.ntmps27
  go_wp2_with fail
  rw [← HW2.out]
  refine (rtright_any (B := B) (by omega) (by omega) HF.out (by omega) ⟨_, _, _, _, _, _, rfl, kin.out _ ST2.out.bl⟩).mono ?_
  rintro e w3 ⟨rfl, hb3⟩
  rw [X1.out]
  have ST3 := Lib.hid (ST2.out.next hb3)
  have hz3 : w.heap.size + 3 ≤ w3.heap.size := by have := hb3.size; omega
  obtain ⟨f0, f1, f2, f3, f4, f5, f6, f7⟩ := ST3.out.bf.cells
  have lf : w.heap.size + 1 < w3.heap.size := by omega
  clear hb3 ST2 hz2
  go_wp2_with fail
  clear f0 f1 f2 f3 f4 f5 f6 f7 lf
  refine (rtright_any (B := B) (by omega) (by omega) HF2.out (by omega) ⟨_, _, _, _, _, _, rfl, kfi.out _ ST3.out.bl⟩).mono ?_
  rintro e w4 ⟨rfl, hb4⟩
  rw [X2.out]
  have ST4 := Lib.hid (ST3.out.next hb4)
  have hz4 : w.heap.size + 3 ≤ w4.heap.size := by have := hb4.size; omega
  obtain ⟨f0, f1, f2, f3, f4, f5, f6, f7⟩ := ST4.out.bf.cells
  have lf : w.heap.size + 1 < w4.heap.size := by omega
  clear hb4 ST3 hz3
  go_wp2_with fail
  clear f0 f1 f2 f3 f4 f5 f6 f7 lf
  refine (rname_any f.name w4).mono ?_
  rintro e w5 ⟨rfl, rfl⟩
  rw [X3.out]
  obtain ⟨t0, t1, t2, t3, t4, t5⟩ := ST4.out.bt.cells
  obtain ⟨r0, r1, r2, r3, r4, r5⟩ := ST4.out.br.cells
  have r6 := ST4.out.br.frozen
  have lr : w.heap.size + 2 < w4.heap.size := by omega
  have lt : w.heap.size < w4.heap.size := by omega
  rcases Bool.eq_false_or_eq_true x1 with rfl | rfl
  rotate_left
  · have E := Lib.hid (putV_arg (t := t) (f := f) (by simp [recordB, X1.out]))
    go_wp2_with fail
    clear r0 r1 r2 r3 r4 r5 r6 t0 t1 t2 t3 t4 t5
    refine ret_cell6_2 (u := .int .i64 1) rfl rfl rfl (fill6_box ST4.out.br (.int .i64 0) (.int .i64 0) (.int .i64 0) (.slice none 0 0) (.slice none 0 0) (.slice none 0 0)).load rfl ?_
    rw [E.out]
    exact ⟨_, _, _, rfl, zero_typeS, fill6_below ST4.out.bl (by omega) _ _ _ _ _ _⟩
  rcases Bool.eq_false_or_eq_true x2 with rfl | rfl
  rotate_left
  · have E := Lib.hid (putV_arg (t := t) (f := f) (by simp [X2.out]))
    go_wp2_with fail
    clear r0 r1 r2 r3 r4 r5 r6 t0 t1 t2 t3 t4 t5
    refine ret_cell6_2 (u := .int .i64 1) rfl rfl rfl (fill6_box ST4.out.br (.int .i64 0) (.int .i64 0) (.int .i64 0) (.slice none 0 0) (.slice none 0 0) (.slice none 0 0)).load rfl ?_
    rw [E.out]
    exact ⟨_, _, _, rfl, zero_typeS, fill6_below ST4.out.bl (by omega) _ _ _ _ _ _⟩
  rcases Bool.eq_false_or_eq_true x3 with rfl | rfl
  rotate_left
  · have E := Lib.hid (putV_arg (t := t) (f := f) (by simp [X3.out]))
    go_wp2_with fail
    clear r0 r1 r2 r3 r4 r5 r6 t0 t1 t2 t3 t4 t5
    refine ret_cell6_2 (u := .int .i64 1) rfl rfl rfl (fill6_box ST4.out.br (.int .i64 0) (.int .i64 0) (.int .i64 0) (.slice none 0 0) (.slice none 0 0) (.slice none 0 0)).load rfl ?_
    rw [E.out]
    exact ⟨_, _, _, rfl, zero_typeS, fill6_below ST4.out.bl (by omega) _ _ _ _ _ _⟩
  by_cases hk1 : t.kind = 1
  rotate_left
  · have E := Lib.hid (putV_arg (t := t) (f := f) (by simp [recordB, hk1]))
    have hk2 : (t.kind != 1) = true := by simp [hk1]
    clear hk1
    go_wp2_with fail
    clear r0 r1 r2 r3 r4 r5 r6 t0 t1 t2 t3 t4 t5
    refine ret_cell6_2 (u := .int .i64 1) rfl rfl rfl (fill6_box ST4.out.br (.int .i64 0) (.int .i64 0) (.int .i64 0) (.slice none 0 0) (.slice none 0 0) (.slice none 0 0)).load rfl ?_
    rw [E.out]
    exact ⟨_, _, _, rfl, zero_typeS, fill6_below ST4.out.bl (by omega) _ _ _ _ _ _⟩
  have hrec : recordB t = true := by simp [recordB, hk1, X1.out]
  have hkn : (t.kind != 1) = false := by simp [hk1]
  have hn := HF.out.parts.2.1
  have HK1 := Lib.hid hk1
  clear r0 r1 r2 r3 r4 r5 r6 hk1
  obtain ⟨f0, f1, f2, f3, f4, f5, f6, f7⟩ := ST4.out.bf.cells
  have lf : w.heap.size + 1 < w4.heap.size := by omega
  go_wp2_with fail
  refine (rfield_any (B := B) HF.out (by omega) ⟨_, _, _, _, _, _, rfl, kin.out _ ST4.out.bl⟩).mono ?_
  rintro e w5 ⟨rfl, hb5⟩
  have ST5 := Lib.hid (ST4.out.next hb5)
  have hz5 : w.heap.size + 3 ≤ w5.heap.size := by have := hb5.size; omega
  clear hb5 ST4 hz4 t0 t1 t2 t3 t4 t5 f0 f1 f2 f3 f4 f5 f6 f7 lf lr lt
  rcases fieldIdx_cases (calledB f.name) t.fields with ⟨hno, habs⟩ | ⟨i, hi, hix, _, _⟩
  rotate_left
  · have hfo : fieldOf t f.name = i := by unfold fieldOf; rw [if_pos HK1.out, hix]
    have E := Lib.hid (show putV t f = (T.zero, 5) by unfold putV; rw [if_pos ⟨hrec, X3.out, X2.out⟩, if_pos (by omega)])
    rw [hfo]
    have hi0 : (0 : Int) ≤ (i : Int) := by omega
    clear hfo hix
    obtain ⟨r0, r1, r2, r3, r4, r5⟩ := ST5.out.br.cells
    have r6 := ST5.out.br.frozen
    have lr : w.heap.size + 2 < w5.heap.size := by omega
    go_wp2_with fail
    clear r0 r1 r2 r3 r4 r5 r6
    refine ret_cell6_2 (u := .int .i64 5) rfl rfl rfl (fill6_box ST5.out.br (.int .i64 0) (.int .i64 0) (.int .i64 0) (.slice none 0 0) (.slice none 0 0) (.slice none 0 0)).load rfl ?_
    rw [E.out]
    exact ⟨_, _, _, rfl, zero_typeS, fill6_below ST5.out.bl (by omega) _ _ _ _ _ _⟩
  have hfo : fieldOf t f.name = -1 := by unfold fieldOf; split <;> first | exact hno | rfl
  have E := Lib.hid (show putV t f = if rightT (putT t f) = true then (putT t f, 0) else (T.zero, 2) by unfold putV; rw [if_pos ⟨hrec, X3.out, X2.out⟩, if_neg (by omega)])
  have HREC := Lib.hid hrec
  have HABS := Lib.hid habs
  rw [hfo]
  have hpl := putAt_le t.fields f.name
  clear hfo hno habs hrec
  go_wp2_with fail
  go_loopw [9] (fun i wr => ∃ k : Nat, k ≤ putAt t.fields f.name ∧ i = .int .i64 k ∧ Below w5.heap.size w5 wr) (fun i _ => t.fields.length - (intOf i).toNat)
  case atStart => exact ⟨0, Nat.zero_le _, rfl, Below.refl _ _⟩
  case round =>
    obtain ⟨k, hk, rfl, hbr⟩ := hrel
    have STR := Lib.hid (ST5.out.next hbr)
    have HBR := Lib.hid hbr
    have hzr := hbr.size
    have hk0 : (0 : Int) ≤ (k : Int) := by omega
    obtain ⟨t0, t1, t2, t3, t4, t5⟩ := STR.out.bt.cells
    obtain ⟨f0, f1, f2, f3, f4, f5, f6, f7⟩ := STR.out.bf.cells
    have lt : w.heap.size < wr.heap.size := by omega
    have lf : w.heap.size + 1 < wr.heap.size := by omega
    clear hbr
    rcases Nat.lt_or_ge k (putAt t.fields f.name) with hlt | hge
    · have hlt2 : k < t.fields.length := by omega
      have hk1 : (k : Int) < (t.fields.length : Int) := by omega
      have hls : Op.bytesLess (t.fields[k]).name.toList f.name.toList = true := by rw [less_of (HABS.out k hlt2), putAt_before hlt2 hlt]; rfl
      obtain ⟨b, off, rfl, hbb, s6, _⟩ := HFV.out.kid STR.out.bl hB hlt2
      go_wp2_with fail
      go_quiet (fail)
      go_wp2_with fail
      clear t0 t1 t2 t3 t4 t5 f0 f1 f2 f3 f4 f5 f6 f7 s6
      go_roundw
      case rel => exact ⟨k + 1, by omega, by go_num, bel_drewN HBR.out _⟩
      case measure => simp [intOf]; omega
    have hke : k = putAt t.fields f.name := by omega
    subst hke
    have HPT : Hid (putT t f = .mk 1 0 0 [] (t.fields.take (putAt t.fields f.name) ++ f :: t.fields.drop (putAt t.fields f.name)) []) := putT_plain HREC.out f
    have hn2 : t.fields.length ≤ 4000 := by
      have h1 := T.size_eq t; have h2 := T.len_le_sizes (t.fields.map F.type)
      simp only [List.length_map] at h2
      omega
    by_cases hlt2 : putAt t.fields f.name < t.fields.length
    · have hk1 : ((putAt t.fields f.name : Nat) : Int) < (t.fields.length : Int) := by omega
      have hls : Op.bytesLess (t.fields[putAt t.fields f.name]).name.toList f.name.toList = false := by rw [less_of (HABS.out _ hlt2), putAt_at hlt2]; rfl
      obtain ⟨b, off, hA4, hbb, s6, _⟩ := HFV.out.kid STR.out.bl hB hlt2
      generalize hls2 : (t.fields[putAt t.fields f.name]).name = nm at s6 hls
      clear hls2
      rw [hA4] at t4
      clear hA4
      generalize hkk : putAt t.fields f.name = kk at *
      clear hkk
      go_wp2_with fail
      go_quiet (fail)
      go_wp2_with fail
      go_upto_region 11 with fail
      clear t0 t1 t2 t3 t4 t5 f0 f1 f2 f3 f4 f5 f6 f7 s6 hls
      obtain ⟨w6, hw6⟩ : ∃ w6, w6 = wr.drewN nq := ⟨_, rfl⟩
      have hb6 : Below wr.heap.size wr w6 := by rw [hw6]; exact bel_drewN (Below.refl _ _) _
      have ST6 := Lib.hid (STR.out.next hb6)
      have hz6 : w.heap.size + 3 ≤ w6.heap.size := by have := hb6.size; omega
      rw [← hw6]
      have HBT6 := Lib.hid ST6.out.bt; have HBF6 := Lib.hid ST6.out.bf
      have ht6 := HBT6.out.lt; have hf6 := HBF6.out.lt
      have HBL6 := Lib.hid ST6.out.bl
      clear hw6 hb6
      obtain ⟨i0, hi0', hz0, hz01, hz02⟩ := info_parts infoF
      have I0 := Lib.hid hi0'; have I1 := Lib.hid hz0; have I2 := Lib.hid hz01; have I3 := Lib.hid hz02
      clear hi0' hz0 hz01 hz02
      have WQ : Hid (∀ wq : World, KeepF w6.heap.size (cs.take (kk * 8) ++ #[Value.string f.name, .bool f.opt, .int .i64 f.type.kind, .int .i64 f.type.lo, .int .i64 f.type.hi, .slice B3 f.type.names.length e3, .slice B4 f.type.fields.length e4, .slice B5 f.type.of.length e5].toList ++ cs.drop (kk * 8)) w6.drew wq → Below w6.heap.size w6 wq) := fun wq h => ((KeepF.of_below (Nat.le_refl _) (Below.refl _ _).drew).trans _ _ _ h).1
      have WC : Hid (∀ wq : World, KeepF w6.heap.size (cs.take (kk * 8) ++ #[Value.string f.name, .bool f.opt, .int .i64 f.type.kind, .int .i64 f.type.lo, .int .i64 f.type.hi, .slice B3 f.type.names.length e3, .slice B4 f.type.fields.length e4, .slice B5 f.type.of.length e5].toList ++ cs.drop (kk * 8)) w6.drew wq → ∀ p : Addr, p.block < B → wq.cell? p = w.cell? p) := fun wq h p hp => ((WQ.out wq h).cell (by omega)).trans (HBL6.out.cell (by omega))
      have hlen : cs.length = t.fields.length * 8 := HROW.out.choose_spec.choose_spec.2.2.1
      have hcut : (cs.drop (kk * 8)).take ((t.fields.length - kk) * 8) = cs.drop (kk * 8) := List.take_of_length_le (by simp; omega)
      have R1 : Hid (RowV w 8 (cut8 A4 0 kk d4) kk (cs.take (kk * 8))) := by
        have := rowV_cut (l := 0) (h := kk) HROW.out (by omega) (by omega)
        simp only [Nat.zero_mul, List.drop_zero, Nat.sub_zero] at this
        exact this
      have R2 : Hid (RowV w 8 (cut8 A4 kk t.fields.length d4) (t.fields.length - kk) (cs.drop (kk * 8))) := by
        have := rowV_cut (l := kk) (h := t.fields.length) HROW.out (by omega) (by omega)
        rw [hcut] at this
        exact this
      have HOB : Hid (∀ l h, 0 < t.fields.length → ∀ p : Addr, (cut8 A4 l h d4).ownBlock = some p.block → p.block < B) := by
        intro l h h0 p hp
        obtain ⟨A', c', e, _, hk⟩ := HFV.out
        injection e with e1 e2 e3
        subst e1
        obtain ⟨b, off, rfl, hb, _⟩ := hk h0
        unfold cut8 at hp
        split at hp
        · simp only [Value.ownBlock, Option.some.injEq] at hp; omega
        · simp only [Value.ownBlock, Option.map_some, Addr.add_mid, Option.some.injEq] at hp; omega
      clear hcut hlen
      refine wp_region_grow4_calm (KeepF w6.heap.size (cs.take (kk * 8) ++ #[Value.string f.name, .bool f.opt, .int .i64 f.type.kind, .int .i64 f.type.lo, .int .i64 f.type.hi, .slice B3 f.type.names.length e3, .slice B4 f.type.fields.length e4, .slice B5 f.type.of.length e5].toList ++ cs.drop (kk * 8))) (fun _ => KeepF w6.heap.size (cs.take (kk * 8) ++ #[Value.string f.name, .bool f.opt, .int .i64 f.type.kind, .int .i64 f.type.lo, .int .i64 f.type.hi, .slice B3 f.type.names.length e3, .slice B4 f.type.fields.length e4, .slice B5 f.type.of.length e5].toList ++ cs.drop (kk * 8))) (fun _ _ _ h => h) (fun _ _ => KeepF.refl _ _ _) (KeepF.refl _ _) KeepF.trans 16 81 [false, false, false, false, false, false, false, false, false, false, false, false, false, false, false, false]
        (RPutPhi w6.heap.size w.heap.size A4 t.fields.length d4 kk cs #[Value.string f.name, .bool f.opt, .int .i64 f.type.kind, .int .i64 f.type.lo, .int .i64 f.type.hi, .slice B3 f.type.names.length e3, .slice B4 f.type.fields.length e4, .slice B5 f.type.of.length e5]) (by kernel_rfl) (by kernel_rfl) (by simp) (fun _ _ h => h.1.size) (fun i' k' v' It' g' w' _ _ h => rputphi_loc i' k' v' It' g' w' h) (fun i' j' v' It' w' w'' _ _ h hk => rputphi_keep (fc := #[Value.string f.name, .bool f.opt, .int .i64 f.type.kind, .int .i64 f.type.lo, .int .i64 f.type.hi, .slice B3 f.type.names.length e3, .slice B4 f.type.fields.length e4, .slice B5 f.type.of.length e5]) (Nat.le_refl 8) i' v' It' w' w'' h hk) ?_ ?_
      · simp only [List.take_succ_cons, List.take_zero]
        refine ⟨?_, ?_, ?_, ?_, ?_, ?_, ?_, ?_, ?_, ?_, ?_, ?_, ?_, ?_, ?_, ?_, trivial⟩
        · intro vs It wq hq hdep K' hK
          simp only [depFacts, putAll, Act.put, List.setIfInBounds_toArray, List.set_cons_zero, List.set_cons_succ, Nat.zero_add, Nat.reduceAdd] at hdep hK ⊢
          have hb := (Below.refl wq.heap.size wq).alloc (Nat.le_refl _) (.cells #[] 38)
          go_simp
          exact hK _ _ (KeepF.of_below (WQ.out wq hq).size hb) ⟨⟨rfl, .inr ⟨_, 0, #[], rfl, (WQ.out wq hq).size, heap_alloc_new wq _, Nat.le_refl _, by unfold maxLen; omega, rfl, rfl⟩⟩, ⟨_, _, rfl, fun _ => rfl⟩⟩
        · intro vs It wq hq hdep K' hK
          simp only [depFacts, putAll, Act.put, List.setIfInBounds_toArray, List.set_cons_zero, List.set_cons_succ, Nat.zero_add, Nat.reduceAdd] at hdep hK ⊢
          go_simp
          exact hK _ _ (KeepF.refl _ _ _) rfl
        · intro vs It wq hq hdep K' hK
          simp only [depFacts, putAll, Act.put, List.setIfInBounds_toArray, List.set_cons_zero, List.set_cons_succ, Nat.zero_add, Nat.reduceAdd] at hdep hK ⊢
          have f1 : vs 1 = .pointer (some ⟨w.heap.size, 4, none⟩) := hdep.1 rfl
          rw [f1] at hK ⊢
          obtain ⟨x0, x1, x2, x3, x4, x5⟩ := (HBT6.out.same ((WQ.out wq hq).block _ ht6)).cells
          go_simp
          exact hK _ _ (KeepF.refl _ _ _) rfl
        · intro vs It wq hq hdep K' hK
          simp only [depFacts, putAll, Act.put, List.setIfInBounds_toArray, List.set_cons_zero, List.set_cons_succ, Nat.zero_add, Nat.reduceAdd] at hdep hK ⊢
          go_simp
          exact hK _ _ (KeepF.refl _ _ _) rfl
        · intro vs It wq hq hdep K' hK
          simp only [depFacts, putAll, Act.put, List.setIfInBounds_toArray, List.set_cons_zero, List.set_cons_succ, Nat.zero_add, Nat.reduceAdd] at hdep hK ⊢
          have f1 : vs 2 = .slice A4 t.fields.length d4 := hdep.1 rfl
          have f2 : vs 3 = .int .i64 (kk : Nat) := hdep.2.1 rfl
          exact op_cut_h (.tmp 62) (.tmp 63) rfl f1 f2 (by omega) (hK _ _ (KeepF.refl _ _ _) rfl)
        · intro vs It wq hq hdep K' hK
          simp only [depFacts, putAll, Act.put, List.setIfInBounds_toArray, List.set_cons_zero, List.set_cons_succ, Nat.zero_add, Nat.reduceAdd] at hdep hK ⊢
          have f1 : wq.ownsRow w6.heap.size 38 8 (vs 0) 0 [] ∧ CapOk (vs 0) 0 := hdep.1 rfl
          have f2 : vs 4 = cut8 A4 0 kk d4 := hdep.2.1 rfl
          obtain ⟨v', w', hr, ho, hco, hk⟩ := append_keepF (P := Tryd.prog) (w := wq) (B := w6.heap.size) (L := (cs.take (kk * 8) ++ #[Value.string f.name, .bool f.opt, .int .i64 f.type.kind, .int .i64 f.type.lo, .int .i64 f.type.hi, .slice B3 f.type.names.length e3, .slice B4 f.type.fields.length e4, .slice B5 f.type.of.length e5].toList ++ cs.drop (kk * 8))) (m := 0) (n := kk) (M := []) (N := (cs.take (kk * 8))) (v := vs 0) (u := vs 4) (t := 23) (ty := 23) i0 _ elem8 I0.out I1.out I2.out I3.out rfl (WQ.out wq hq).size f1.1 f1.2 (by rw [f2]; exact R1.out.keep fun h0 p hp => WC.out wq hq p (HOB.out 0 kk (by omega) p hp)) (by rw [List.append_assoc, List.nil_append]; exact List.prefix_append _ _) (by omega)
          rw [Nat.zero_add] at ho hco
          rw [List.nil_append] at ho
          exact op_appendF (.tmp 60) (.tmp 64) 23 rfl rfl rfl hr (hK _ _ hk ⟨ho, hco⟩)
        · intro vs It wq hq hdep K' hK
          simp only [depFacts, putAll, Act.put, List.setIfInBounds_toArray, List.set_cons_zero, List.set_cons_succ, Nat.zero_add, Nat.reduceAdd] at hdep hK ⊢
          obtain ⟨x0, x1, x2, x3, x4, x5, x6, x7⟩ := (HBF6.out.same ((WQ.out wq hq).block _ hf6)).cells
          go_simp
          exact hK _ _ (KeepF.refl _ _ _) rfl
        · intro vs It wq hq hdep K' hK
          simp only [depFacts, putAll, Act.put, List.setIfInBounds_toArray, List.set_cons_zero, List.set_cons_succ, Nat.zero_add, Nat.reduceAdd] at hdep hK ⊢
          have f1 : vs 6 = .agg #[Value.string f.name, .bool f.opt, .int .i64 f.type.kind, .int .i64 f.type.lo, .int .i64 f.type.hi, .slice B3 f.type.names.length e3, .slice B4 f.type.fields.length e4, .slice B5 f.type.of.length e5] := hdep.1 rfl
          rw [f1] at hK ⊢
          go_simp
          exact hK _ _ (KeepF.of_below (WQ.out wq hq).size ((Below.refl _ _).alloc (Nat.le_refl _) _)) ⟨_, rfl, heap_alloc_new wq _⟩
        · intro vs It wq hq hdep K' hK
          simp only [depFacts, putAll, Act.put, List.setIfInBounds_toArray, List.set_cons_zero, List.set_cons_succ, Nat.zero_add, Nat.reduceAdd] at hdep hK ⊢
          have f1 : wq.ownsRow w6.heap.size 38 8 (vs 5) kk (cs.take (kk * 8)) ∧ CapOk (vs 5) kk := hdep.1 rfl
          obtain ⟨g, f2, hg⟩ : ∃ g, vs 7 = .slice (some ⟨g, 0, none⟩) 1 1 ∧ wq.heap[g]? = some (.cells #[Value.string f.name, .bool f.opt, .int .i64 f.type.kind, .int .i64 f.type.lo, .int .i64 f.type.hi, .slice B3 f.type.names.length e3, .slice B4 f.type.fields.length e4, .slice B5 f.type.of.length e5] 38 (0, 0)) := hdep.2.1 rfl
          obtain ⟨v', w', hr, ho, hco, hk⟩ := append_keepF (P := Tryd.prog) (w := wq) (B := w6.heap.size) (L := (cs.take (kk * 8) ++ #[Value.string f.name, .bool f.opt, .int .i64 f.type.kind, .int .i64 f.type.lo, .int .i64 f.type.hi, .slice B3 f.type.names.length e3, .slice B4 f.type.fields.length e4, .slice B5 f.type.of.length e5].toList ++ cs.drop (kk * 8))) (m := kk) (n := 1) (M := (cs.take (kk * 8))) (N := #[Value.string f.name, .bool f.opt, .int .i64 f.type.kind, .int .i64 f.type.lo, .int .i64 f.type.hi, .slice B3 f.type.names.length e3, .slice B4 f.type.fields.length e4, .slice B5 f.type.of.length e5].toList) (v := vs 5) (u := vs 7) (t := 23) (ty := 23) i0 _ elem8 I0.out I1.out I2.out I3.out rfl (WQ.out wq hq).size f1.1 f1.2 (by rw [f2]; exact rowV_one hg rfl (by simp [Value.oneCell'])) (List.prefix_append _ _) (by omega)
          exact op_appendF (.tmp 65) (.tmp 67) 23 rfl rfl rfl hr (hK _ _ hk ⟨ho, hco⟩)
        · intro vs It wq hq hdep K' hK
          simp only [depFacts, putAll, Act.put, List.setIfInBounds_toArray, List.set_cons_zero, List.set_cons_succ, Nat.zero_add, Nat.reduceAdd] at hdep hK ⊢
          go_simp
          exact hK _ _ (KeepF.refl _ _ _) rfl
        · intro vs It wq hq hdep K' hK
          simp only [depFacts, putAll, Act.put, List.setIfInBounds_toArray, List.set_cons_zero, List.set_cons_succ, Nat.zero_add, Nat.reduceAdd] at hdep hK ⊢
          have f1 : vs 9 = .pointer (some ⟨w.heap.size, 4, none⟩) := hdep.1 rfl
          rw [f1] at hK ⊢
          obtain ⟨x0, x1, x2, x3, x4, x5⟩ := (HBT6.out.same ((WQ.out wq hq).block _ ht6)).cells
          go_simp
          exact hK _ _ (KeepF.refl _ _ _) rfl
        · intro vs It wq hq hdep K' hK
          simp only [depFacts, putAll, Act.put, List.setIfInBounds_toArray, List.set_cons_zero, List.set_cons_succ, Nat.zero_add, Nat.reduceAdd] at hdep hK ⊢
          go_simp
          exact hK _ _ (KeepF.refl _ _ _) rfl
        · intro vs It wq hq hdep K' hK
          simp only [depFacts, putAll, Act.put, List.setIfInBounds_toArray, List.set_cons_zero, List.set_cons_succ, Nat.zero_add, Nat.reduceAdd] at hdep hK ⊢
          have f1 : vs 10 = .slice A4 t.fields.length d4 := hdep.1 rfl
          have f2 : vs 11 = .int .i64 ((kk : Nat) : Int) := hdep.2.1 rfl
          exact op_cut_l (.tmp 70) (.tmp 71) rfl f1 f2 (by omega) (hK _ _ (KeepF.refl _ _ _) rfl)
        · intro vs It wq hq hdep K' hK
          simp only [depFacts, putAll, Act.put, List.setIfInBounds_toArray, List.set_cons_zero, List.set_cons_succ, Nat.zero_add, Nat.reduceAdd] at hdep hK ⊢
          have f1 : wq.ownsRow w6.heap.size 38 8 (vs 8) (kk + 1) (cs.take (kk * 8) ++ #[Value.string f.name, .bool f.opt, .int .i64 f.type.kind, .int .i64 f.type.lo, .int .i64 f.type.hi, .slice B3 f.type.names.length e3, .slice B4 f.type.fields.length e4, .slice B5 f.type.of.length e5].toList) ∧ CapOk (vs 8) (kk + 1) := hdep.1 rfl
          have f2 : vs 12 = cut8 A4 kk t.fields.length d4 := hdep.2.1 rfl
          obtain ⟨v', w', hr, ho, hco, hk⟩ := append_keepF (P := Tryd.prog) (w := wq) (B := w6.heap.size) (L := (cs.take (kk * 8) ++ #[Value.string f.name, .bool f.opt, .int .i64 f.type.kind, .int .i64 f.type.lo, .int .i64 f.type.hi, .slice B3 f.type.names.length e3, .slice B4 f.type.fields.length e4, .slice B5 f.type.of.length e5].toList ++ cs.drop (kk * 8))) (m := (kk + 1)) (n := (t.fields.length - kk)) (M := (cs.take (kk * 8) ++ #[Value.string f.name, .bool f.opt, .int .i64 f.type.kind, .int .i64 f.type.lo, .int .i64 f.type.hi, .slice B3 f.type.names.length e3, .slice B4 f.type.fields.length e4, .slice B5 f.type.of.length e5].toList)) (N := (cs.drop (kk * 8))) (v := vs 8) (u := vs 12) (t := 23) (ty := 23) i0 _ elem8 I0.out I1.out I2.out I3.out rfl (WQ.out wq hq).size f1.1 f1.2 (by rw [f2]; exact R2.out.keep fun h0 p hp => WC.out wq hq p (HOB.out kk t.fields.length (by omega) p hp)) (by exact List.prefix_refl _) (by omega)
          exact op_appendF (.tmp 68) (.tmp 72) 23 rfl rfl rfl hr (hK _ _ hk ⟨ho, hco⟩)
        · intro vs It wq hq hdep K' hK
          simp only [depFacts, putAll, Act.put, List.setIfInBounds_toArray, List.set_cons_zero, List.set_cons_succ, Nat.zero_add, Nat.reduceAdd] at hdep hK ⊢
          have f1 : wq.ownsRow w6.heap.size 38 8 (vs 13) (kk + 1 + (t.fields.length - kk)) (cs.take (kk * 8) ++ #[Value.string f.name, .bool f.opt, .int .i64 f.type.kind, .int .i64 f.type.lo, .int .i64 f.type.hi, .slice B3 f.type.names.length e3, .slice B4 f.type.fields.length e4, .slice B5 f.type.of.length e5].toList ++ cs.drop (kk * 8)) ∧ CapOk (vs 13) (kk + 1 + (t.fields.length - kk)) := hdep.1 rfl
          obtain ⟨f1, A, c, e, _⟩ := f1
          rw [e] at hK f1 ⊢
          go_simp
          exact hK _ _ (KeepF.refl _ _ _) ⟨A, c, rfl, f1⟩
        · intro vs It wq hq hdep K' hK
          simp only [depFacts, putAll, Act.put, List.setIfInBounds_toArray, List.set_cons_zero, List.set_cons_succ, Nat.zero_add, Nat.reduceAdd] at hdep hK ⊢
          have hb := (Below.refl wq.heap.size wq).alloc (Nat.le_refl _) (.cells #[.int .i64 0, .int .i64 0, .int .i64 0, .slice none 0 0, .slice none 0 0, .slice none 0 0] 26)
          go_simp
          exact hK _ _ (KeepF.of_below (WQ.out wq hq).size hb) ⟨_, rfl, (WQ.out wq hq).size, heap_alloc_new wq _⟩
      · intro vs It wq hq _ hall
        simp only [putAll, Act.put, List.setIfInBounds_toArray, List.set_cons_zero, List.set_cons_succ, List.take_succ_cons, List.take_zero, List.drop_succ_cons, List.drop_zero, allFacts, Nat.zero_add, Nat.reduceAdd] at hall ⊢
        obtain ⟨_, _, _, _, _, _, _, _, _, _, _, _, _, _, e14, e15, _⟩ := hall
        obtain ⟨A, c, e14, ho⟩ : ∃ A c, vs 14 = .agg #[.int .i64 1, .int .i64 0, .int .i64 0, .slice none 0 0, .slice A (kk + 1 + (t.fields.length - kk)) c, .slice none 0 0] ∧ wq.ownsRow w6.heap.size 38 8 (.slice A (kk + 1 + (t.fields.length - kk)) c) (kk + 1 + (t.fields.length - kk)) (cs.take (kk * 8) ++ #[Value.string f.name, .bool f.opt, .int .i64 f.type.kind, .int .i64 f.type.lo, .int .i64 f.type.hi, .slice B3 f.type.names.length e3, .slice B4 f.type.fields.length e4, .slice B5 f.type.of.length e5].toList ++ cs.drop (kk * 8)) := e14
        obtain ⟨g, e15, hgB, hgh⟩ : ∃ g, vs 15 = .pointer (some ⟨g, 0, none⟩) ∧ w6.heap.size ≤ g ∧ wq.heap[g]? = some (.cells #[.int .i64 0, .int .i64 0, .int .i64 0, .slice none 0 0, .slice none 0 0, .slice none 0 0] 26 (0, 0)) := e15
        rw [e14, e15]
        have HO := Lib.hid ho
        have HQ := Lib.hid (WQ.out wq hq)
        have HC := Lib.hid (WC.out wq hq)
        have hzq := (WQ.out wq hq).size
        have hbx : Box6 wq g (.int .i64 0) (.int .i64 0) (.int .i64 0) (.slice none 0 0) (.slice none 0 0) (.slice none 0 0) := hgh
        have HBX := Lib.hid hbx
        have hgl := hbx.lt
        clear e14 e15 ho hq WQ WC hgh R1 R2 HOB I0 I1 I2 I3
        obtain ⟨k0, k1, k2, k3, k4, k5⟩ := hbx.cells
        have k6 := hbx.frozen
        clear hbx
        go_wp2_with fail
        refine NoPanic.normal ?_
        clear k0 k1 k2 k3 k4 k5 k6
        obtain ⟨w7, hw7⟩ : ∃ w7, w7 = fill6 wq g (.int .i64 1) (.int .i64 0) (.int .i64 0) (.slice none 0 0) (.slice A (kk + 1 + (t.fields.length - kk)) c) (.slice none 0 0) := ⟨_, rfl⟩
        have hbx7 : Box6 w7 g (.int .i64 1) (.int .i64 0) (.int .i64 0) (.slice none 0 0) (.slice A (kk + 1 + (t.fields.length - kk)) c) (.slice none 0 0) := by rw [hw7]; exact fill6_box HBX.out _ _ _ _ _ _
        have hfar : ∀ k, k ≠ g → w7.heap[k]? = wq.heap[k]? := fun k hk => by rw [hw7]; exact fill6_far _ _ _ _ _ _ _ _ k hk
        have hz7 : w7.heap.size = wq.heap.size := by rw [hw7]; exact fill6_size _ _ _ _ _ _ _ _
        have hb7 : Below w.heap.size w w7 := by rw [hw7]; exact fill6_below (HBL6.out.trans (HQ.out.mono (by omega))) (by omega) _ _ _ _ _ _
        have ho7 : w7.ownsRow w6.heap.size 38 8 (.slice A (kk + 1 + (t.fields.length - kk)) c) (kk + 1 + (t.fields.length - kk)) (cs.take (kk * 8) ++ #[Value.string f.name, .bool f.opt, .int .i64 f.type.kind, .int .i64 f.type.lo, .int .i64 f.type.hi, .slice B3 f.type.names.length e3, .slice B4 f.type.fields.length e4, .slice B5 f.type.of.length e5].toList ++ cs.drop (kk * 8)) := by
          refine ownsRow_same HO.out fun k hk => hfar k ?_
          rcases HO.out.2 with ⟨e, _⟩ | ⟨g', cap, cur, e, hg, hh, _⟩
          · rw [e] at hk; cases hk
          · rw [e] at hk
            simp only [Value.ownBlock, Option.some.injEq] at hk
            intro e2
            subst hk
            subst e2
            have hb := HBX.out
            unfold Box6 at hb
            rw [hh] at hb
            simp at hb
        have hc7 : ∀ p : Addr, p.block < B → w7.cell? p = w.cell? p := fun p hp => (World.cell?_of_block (hfar p.block (by omega))).trans (HC.out p hp)
        have hfl : (t.fields.take kk ++ f :: t.fields.drop kk).length = kk + 1 + (t.fields.length - kk) := by simp; omega
        have hraw7 : RawFs w (fun k => k < B) (t.fields.take kk ++ f :: t.fields.drop kk) (cs.take (kk * 8) ++ #[Value.string f.name, .bool f.opt, .int .i64 f.type.kind, .int .i64 f.type.lo, .int .i64 f.type.hi, .slice B3 f.type.names.length e3, .slice B4 f.type.fields.length e4, .slice B5 f.type.of.length e5].toList ++ cs.drop (kk * 8)) := by
          rw [List.append_assoc]
          exact RawFs.append (HRAW.out.take kk) ⟨_, _, _, _, _, _, _, rfl, HFI.out.toS, HRAW.out.drop kk⟩
        obtain ⟨A', c', e', hof1, hof2⟩ := own_fields (W0 := w6.heap.size) hraw7 hc7 (by rw [hfl]; exact ho7) (Nat.le_refl _)
        rw [hfl] at e'
        injection e' with e1 _ e3
        subst e1 e3
        have hts : TypeS w7 (fun k => k < B ∨ (w6.heap.size ≤ k ∧ k < w7.heap.size)) (.mk 1 0 0 [] (t.fields.take kk ++ f :: t.fields.drop kk) []) (.int .i64 1) (.int .i64 0) (.int .i64 0) (.slice none 0 0) (.slice A (kk + 1 + (t.fields.length - kk)) c) (.slice none 0 0) :=
          TypeS.mk_ (t := .mk 1 0 0 [] (t.fields.take kk ++ f :: t.fields.drop kk) []) nilS ⟨_, _, by rw [← hfl]; rfl, hof1, hof2⟩ nilT
        have htv : TypeV w7 w7.heap.size (putT t f) (.agg #[.int .i64 1, .int .i64 0, .int .i64 0, .slice none 0 0, .slice A (kk + 1 + (t.fields.length - kk)) c, .slice none 0 0]) := by
          rw [HPT.out]
          exact ⟨_, _, _, _, _, _, rfl, hts.toIn fun k hk => by omega⟩
        have HTS := Lib.hid hts; have HTV := Lib.hid htv; have HBX7 := Lib.hid hbx7; have HB7 := Lib.hid hb7
        have HBR7 : Hid (Box6 w7 (w.heap.size + 2) (.int .i64 0) (.int .i64 0) (.int .i64 0) (.slice none 0 0) (.slice none 0 0) (.slice none 0 0)) := (ST6.out.br.same (HQ.out.block _ (by omega))).same (hfar _ (by omega))
        have hps := putT_size t f; have hpd := putT_depth t f
        unfold fill6 at hw7
        rw [← hw7]
        clear hw7 hbx7 hfar hb7 ho7 hc7 hraw7 hof1 hof2 hts htv HO HQ HC HBX
        obtain ⟨k0, k1, k2, k3, k4, k5⟩ := HBX7.out.cells
        have hg7 : g < w7.heap.size := by omega
        go_wp2_with fail
        clear k0 k1 k2 k3 k4 k5
        refine (rtright_any (B := w7.heap.size) (t := putT t f) (by omega) (by omega) (HPF.out X3.out) (Nat.le_refl _) HTV.out).mono ?_
        rintro e w8 ⟨rfl, hb8⟩
        have hz8 := hb8.size
        have HBR8 := Lib.hid (HBR7.out.same (hb8.block _ (by omega)))
        have HBX8 := Lib.hid (HBX7.out.same (hb8.block _ hg7))
        have HB8 : Hid (Below w.heap.size w w8) := HB7.out.trans (hb8.mono (by omega))
        have HTS8 : Hid (TypeS w8 (fun k => k < B ∨ (w6.heap.size ≤ k ∧ k < w7.heap.size)) (.mk 1 0 0 [] (t.fields.take kk ++ f :: t.fields.drop kk) []) (.int .i64 1) (.int .i64 0) (.int .i64 0) (.slice none 0 0) (.slice A (kk + 1 + (t.fields.length - kk)) c) (.slice none 0 0)) := HTS.out.keep (fun _ h => h) fun p hp => hb8.cell (by omega)
        clear hb8 HTS HTV HBX7 HB7 HBR7
        obtain ⟨r0, r1, r2, r3, r4, r5⟩ := HBR8.out.cells
        have r6 := HBR8.out.frozen
        obtain ⟨k0, k1, k2, k3, k4, k5⟩ := HBX8.out.cells
        have hr8 := HBR8.out.lt
        have hg8 : g < w8.heap.size := by omega
        have hne : ¬ w.heap.size + 2 = g := by omega
        have hne2 : ¬ g = w.heap.size + 2 := by omega
        have EE := E.out
        cases hrp : rightT (putT t f) with
        | false =>
          rw [hrp] at EE
          have E2 : Hid (putV t f = (T.zero, 2)) := by show _ = _; rw [EE]; rfl
          clear EE hrp
          go_wp2_with fail
          clear r0 r1 r2 r3 r4 r5 r6 k0 k1 k2 k3 k4 k5
          refine ret_cell6_2 (u := .int .i64 2) rfl rfl rfl (fill6_box HBR8.out (.int .i64 0) (.int .i64 0) (.int .i64 0) (.slice none 0 0) (.slice none 0 0) (.slice none 0 0)).load rfl ?_
          rw [E2.out]
          exact ⟨_, _, _, rfl, zero_typeS, fill6_below HB8.out (by omega) _ _ _ _ _ _⟩
        | true =>
          rw [hrp] at EE
          have E2 : Hid (putV t f = (.mk 1 0 0 [] (t.fields.take kk ++ f :: t.fields.drop kk) [], 0)) := by show _ = _; rw [EE, ← HPT.out]; rfl
          clear EE hrp
          go_wp2_with fail
          clear r0 r1 r2 r3 r4 r5 r6 k0 k1 k2 k3 k4 k5
          refine ret_cell6_2 (u := .int .i64 0) rfl rfl rfl (fill6_box HBR8.out (.int .i64 1) (.int .i64 0) (.int .i64 0) (.slice none 0 0) (.slice A (kk + 1 + (t.fields.length - kk)) c) (.slice none 0 0)).load rfl ?_
          rw [E2.out]
          refine ⟨_, _, _, rfl, HTS8.out.keep (fun k hk => ?_) (fun p hp => World.cell?_of_block (fill6_far w8 (w.heap.size + 2) _ _ _ _ _ _ p.block (by omega))), fill6_below HB8.out (by omega) _ _ _ _ _ _⟩
          have hzz : (fill6 w8 (w.heap.size + 2) (.int .i64 1) (.int .i64 0) (.int .i64 0) (.slice none 0 0) (.slice A (kk + 1 + (t.fields.length - kk)) c) (.slice none 0 0)).heap.size = w8.heap.size := fill6_size _ _ _ _ _ _ _ _
          change k < B ∨ (w.heap.size ≤ k ∧ k < (fill6 w8 (w.heap.size + 2) (.int .i64 1) (.int .i64 0) (.int .i64 0) (.slice none 0 0) (.slice A (kk + 1 + (t.fields.length - kk)) c) (.slice none 0 0)).heap.size)
          rw [hzz]
          omega
    · have hk1 : ¬ ((putAt t.fields f.name : Nat) : Int) < (t.fields.length : Int) := by omega
      generalize hkk : putAt t.fields f.name = kk at *
      clear hkk
      go_wp2_with fail
      go_quiet (fail)
      go_wp2_with fail
      go_upto_region 11 with fail
      clear t0 t1 t2 t3 t4 t5 f0 f1 f2 f3 f4 f5 f6 f7
      obtain ⟨w6, hw6⟩ : ∃ w6, w6 = wr.drewN nq := ⟨_, rfl⟩
      have hb6 : Below wr.heap.size wr w6 := by rw [hw6]; exact bel_drewN (Below.refl _ _) _
      have ST6 := Lib.hid (STR.out.next hb6)
      have hz6 : w.heap.size + 3 ≤ w6.heap.size := by have := hb6.size; omega
      rw [← hw6]
      have HBT6 := Lib.hid ST6.out.bt; have HBF6 := Lib.hid ST6.out.bf
      have ht6 := HBT6.out.lt; have hf6 := HBF6.out.lt
      have HBL6 := Lib.hid ST6.out.bl
      clear hw6 hb6
      obtain ⟨i0, hi0', hz0, hz01, hz02⟩ := info_parts infoF
      have I0 := Lib.hid hi0'; have I1 := Lib.hid hz0; have I2 := Lib.hid hz01; have I3 := Lib.hid hz02
      clear hi0' hz0 hz01 hz02
      have WQ : Hid (∀ wq : World, KeepF w6.heap.size (cs.take (kk * 8) ++ #[Value.string f.name, .bool f.opt, .int .i64 f.type.kind, .int .i64 f.type.lo, .int .i64 f.type.hi, .slice B3 f.type.names.length e3, .slice B4 f.type.fields.length e4, .slice B5 f.type.of.length e5].toList ++ cs.drop (kk * 8)) w6.drew wq → Below w6.heap.size w6 wq) := fun wq h => ((KeepF.of_below (Nat.le_refl _) (Below.refl _ _).drew).trans _ _ _ h).1
      have WC : Hid (∀ wq : World, KeepF w6.heap.size (cs.take (kk * 8) ++ #[Value.string f.name, .bool f.opt, .int .i64 f.type.kind, .int .i64 f.type.lo, .int .i64 f.type.hi, .slice B3 f.type.names.length e3, .slice B4 f.type.fields.length e4, .slice B5 f.type.of.length e5].toList ++ cs.drop (kk * 8)) w6.drew wq → ∀ p : Addr, p.block < B → wq.cell? p = w.cell? p) := fun wq h p hp => ((WQ.out wq h).cell (by omega)).trans (HBL6.out.cell (by omega))
      have hlen : cs.length = t.fields.length * 8 := HROW.out.choose_spec.choose_spec.2.2.1
      have hcut : (cs.drop (kk * 8)).take ((t.fields.length - kk) * 8) = cs.drop (kk * 8) := List.take_of_length_le (by simp; omega)
      have R1 : Hid (RowV w 8 (cut8 A4 0 kk d4) kk (cs.take (kk * 8))) := by
        have := rowV_cut (l := 0) (h := kk) HROW.out (by omega) (by omega)
        simp only [Nat.zero_mul, List.drop_zero, Nat.sub_zero] at this
        exact this
      have R2 : Hid (RowV w 8 (cut8 A4 kk t.fields.length d4) (t.fields.length - kk) (cs.drop (kk * 8))) := by
        have := rowV_cut (l := kk) (h := t.fields.length) HROW.out (by omega) (by omega)
        rw [hcut] at this
        exact this
      have HOB : Hid (∀ l h, 0 < t.fields.length → ∀ p : Addr, (cut8 A4 l h d4).ownBlock = some p.block → p.block < B) := by
        intro l h h0 p hp
        obtain ⟨A', c', e, _, hk⟩ := HFV.out
        injection e with e1 e2 e3
        subst e1
        obtain ⟨b, off, rfl, hb, _⟩ := hk h0
        unfold cut8 at hp
        split at hp
        · simp only [Value.ownBlock, Option.some.injEq] at hp; omega
        · simp only [Value.ownBlock, Option.map_some, Addr.add_mid, Option.some.injEq] at hp; omega
      clear hcut hlen
      refine wp_region_grow4_calm (KeepF w6.heap.size (cs.take (kk * 8) ++ #[Value.string f.name, .bool f.opt, .int .i64 f.type.kind, .int .i64 f.type.lo, .int .i64 f.type.hi, .slice B3 f.type.names.length e3, .slice B4 f.type.fields.length e4, .slice B5 f.type.of.length e5].toList ++ cs.drop (kk * 8))) (fun _ => KeepF w6.heap.size (cs.take (kk * 8) ++ #[Value.string f.name, .bool f.opt, .int .i64 f.type.kind, .int .i64 f.type.lo, .int .i64 f.type.hi, .slice B3 f.type.names.length e3, .slice B4 f.type.fields.length e4, .slice B5 f.type.of.length e5].toList ++ cs.drop (kk * 8))) (fun _ _ _ h => h) (fun _ _ => KeepF.refl _ _ _) (KeepF.refl _ _) KeepF.trans 16 81 [false, false, false, false, false, false, false, false, false, false, false, false, false, false, false, false]
        (RPutPhi w6.heap.size w.heap.size A4 t.fields.length d4 kk cs #[Value.string f.name, .bool f.opt, .int .i64 f.type.kind, .int .i64 f.type.lo, .int .i64 f.type.hi, .slice B3 f.type.names.length e3, .slice B4 f.type.fields.length e4, .slice B5 f.type.of.length e5]) (by kernel_rfl) (by kernel_rfl) (by simp) (fun _ _ h => h.1.size) (fun i' k' v' It' g' w' _ _ h => rputphi_loc i' k' v' It' g' w' h) (fun i' j' v' It' w' w'' _ _ h hk => rputphi_keep (fc := #[Value.string f.name, .bool f.opt, .int .i64 f.type.kind, .int .i64 f.type.lo, .int .i64 f.type.hi, .slice B3 f.type.names.length e3, .slice B4 f.type.fields.length e4, .slice B5 f.type.of.length e5]) (Nat.le_refl 8) i' v' It' w' w'' h hk) ?_ ?_
      · simp only [List.take_succ_cons, List.take_zero]
        refine ⟨?_, ?_, ?_, ?_, ?_, ?_, ?_, ?_, ?_, ?_, ?_, ?_, ?_, ?_, ?_, ?_, trivial⟩
        · intro vs It wq hq hdep K' hK
          simp only [depFacts, putAll, Act.put, List.setIfInBounds_toArray, List.set_cons_zero, List.set_cons_succ, Nat.zero_add, Nat.reduceAdd] at hdep hK ⊢
          have hb := (Below.refl wq.heap.size wq).alloc (Nat.le_refl _) (.cells #[] 38)
          go_simp
          exact hK _ _ (KeepF.of_below (WQ.out wq hq).size hb) ⟨⟨rfl, .inr ⟨_, 0, #[], rfl, (WQ.out wq hq).size, heap_alloc_new wq _, Nat.le_refl _, by unfold maxLen; omega, rfl, rfl⟩⟩, ⟨_, _, rfl, fun _ => rfl⟩⟩
        · intro vs It wq hq hdep K' hK
          simp only [depFacts, putAll, Act.put, List.setIfInBounds_toArray, List.set_cons_zero, List.set_cons_succ, Nat.zero_add, Nat.reduceAdd] at hdep hK ⊢
          go_simp
          exact hK _ _ (KeepF.refl _ _ _) rfl
        · intro vs It wq hq hdep K' hK
          simp only [depFacts, putAll, Act.put, List.setIfInBounds_toArray, List.set_cons_zero, List.set_cons_succ, Nat.zero_add, Nat.reduceAdd] at hdep hK ⊢
          have f1 : vs 1 = .pointer (some ⟨w.heap.size, 4, none⟩) := hdep.1 rfl
          rw [f1] at hK ⊢
          obtain ⟨x0, x1, x2, x3, x4, x5⟩ := (HBT6.out.same ((WQ.out wq hq).block _ ht6)).cells
          go_simp
          exact hK _ _ (KeepF.refl _ _ _) rfl
        · intro vs It wq hq hdep K' hK
          simp only [depFacts, putAll, Act.put, List.setIfInBounds_toArray, List.set_cons_zero, List.set_cons_succ, Nat.zero_add, Nat.reduceAdd] at hdep hK ⊢
          go_simp
          exact hK _ _ (KeepF.refl _ _ _) rfl
        · intro vs It wq hq hdep K' hK
          simp only [depFacts, putAll, Act.put, List.setIfInBounds_toArray, List.set_cons_zero, List.set_cons_succ, Nat.zero_add, Nat.reduceAdd] at hdep hK ⊢
          have f1 : vs 2 = .slice A4 t.fields.length d4 := hdep.1 rfl
          have f2 : vs 3 = .int .i64 (kk : Nat) := hdep.2.1 rfl
          exact op_cut_h (.tmp 62) (.tmp 63) rfl f1 f2 (by omega) (hK _ _ (KeepF.refl _ _ _) rfl)
        · intro vs It wq hq hdep K' hK
          simp only [depFacts, putAll, Act.put, List.setIfInBounds_toArray, List.set_cons_zero, List.set_cons_succ, Nat.zero_add, Nat.reduceAdd] at hdep hK ⊢
          have f1 : wq.ownsRow w6.heap.size 38 8 (vs 0) 0 [] ∧ CapOk (vs 0) 0 := hdep.1 rfl
          have f2 : vs 4 = cut8 A4 0 kk d4 := hdep.2.1 rfl
          obtain ⟨v', w', hr, ho, hco, hk⟩ := append_keepF (P := Tryd.prog) (w := wq) (B := w6.heap.size) (L := (cs.take (kk * 8) ++ #[Value.string f.name, .bool f.opt, .int .i64 f.type.kind, .int .i64 f.type.lo, .int .i64 f.type.hi, .slice B3 f.type.names.length e3, .slice B4 f.type.fields.length e4, .slice B5 f.type.of.length e5].toList ++ cs.drop (kk * 8))) (m := 0) (n := kk) (M := []) (N := (cs.take (kk * 8))) (v := vs 0) (u := vs 4) (t := 23) (ty := 23) i0 _ elem8 I0.out I1.out I2.out I3.out rfl (WQ.out wq hq).size f1.1 f1.2 (by rw [f2]; exact R1.out.keep fun h0 p hp => WC.out wq hq p (HOB.out 0 kk (by omega) p hp)) (by rw [List.append_assoc, List.nil_append]; exact List.prefix_append _ _) (by omega)
          rw [Nat.zero_add] at ho hco
          rw [List.nil_append] at ho
          exact op_appendF (.tmp 60) (.tmp 64) 23 rfl rfl rfl hr (hK _ _ hk ⟨ho, hco⟩)
        · intro vs It wq hq hdep K' hK
          simp only [depFacts, putAll, Act.put, List.setIfInBounds_toArray, List.set_cons_zero, List.set_cons_succ, Nat.zero_add, Nat.reduceAdd] at hdep hK ⊢
          obtain ⟨x0, x1, x2, x3, x4, x5, x6, x7⟩ := (HBF6.out.same ((WQ.out wq hq).block _ hf6)).cells
          go_simp
          exact hK _ _ (KeepF.refl _ _ _) rfl
        · intro vs It wq hq hdep K' hK
          simp only [depFacts, putAll, Act.put, List.setIfInBounds_toArray, List.set_cons_zero, List.set_cons_succ, Nat.zero_add, Nat.reduceAdd] at hdep hK ⊢
          have f1 : vs 6 = .agg #[Value.string f.name, .bool f.opt, .int .i64 f.type.kind, .int .i64 f.type.lo, .int .i64 f.type.hi, .slice B3 f.type.names.length e3, .slice B4 f.type.fields.length e4, .slice B5 f.type.of.length e5] := hdep.1 rfl
          rw [f1] at hK ⊢
          go_simp
          exact hK _ _ (KeepF.of_below (WQ.out wq hq).size ((Below.refl _ _).alloc (Nat.le_refl _) _)) ⟨_, rfl, heap_alloc_new wq _⟩
        · intro vs It wq hq hdep K' hK
          simp only [depFacts, putAll, Act.put, List.setIfInBounds_toArray, List.set_cons_zero, List.set_cons_succ, Nat.zero_add, Nat.reduceAdd] at hdep hK ⊢
          have f1 : wq.ownsRow w6.heap.size 38 8 (vs 5) kk (cs.take (kk * 8)) ∧ CapOk (vs 5) kk := hdep.1 rfl
          obtain ⟨g, f2, hg⟩ : ∃ g, vs 7 = .slice (some ⟨g, 0, none⟩) 1 1 ∧ wq.heap[g]? = some (.cells #[Value.string f.name, .bool f.opt, .int .i64 f.type.kind, .int .i64 f.type.lo, .int .i64 f.type.hi, .slice B3 f.type.names.length e3, .slice B4 f.type.fields.length e4, .slice B5 f.type.of.length e5] 38 (0, 0)) := hdep.2.1 rfl
          obtain ⟨v', w', hr, ho, hco, hk⟩ := append_keepF (P := Tryd.prog) (w := wq) (B := w6.heap.size) (L := (cs.take (kk * 8) ++ #[Value.string f.name, .bool f.opt, .int .i64 f.type.kind, .int .i64 f.type.lo, .int .i64 f.type.hi, .slice B3 f.type.names.length e3, .slice B4 f.type.fields.length e4, .slice B5 f.type.of.length e5].toList ++ cs.drop (kk * 8))) (m := kk) (n := 1) (M := (cs.take (kk * 8))) (N := #[Value.string f.name, .bool f.opt, .int .i64 f.type.kind, .int .i64 f.type.lo, .int .i64 f.type.hi, .slice B3 f.type.names.length e3, .slice B4 f.type.fields.length e4, .slice B5 f.type.of.length e5].toList) (v := vs 5) (u := vs 7) (t := 23) (ty := 23) i0 _ elem8 I0.out I1.out I2.out I3.out rfl (WQ.out wq hq).size f1.1 f1.2 (by rw [f2]; exact rowV_one hg rfl (by simp [Value.oneCell'])) (List.prefix_append _ _) (by omega)
          exact op_appendF (.tmp 65) (.tmp 67) 23 rfl rfl rfl hr (hK _ _ hk ⟨ho, hco⟩)
        · intro vs It wq hq hdep K' hK
          simp only [depFacts, putAll, Act.put, List.setIfInBounds_toArray, List.set_cons_zero, List.set_cons_succ, Nat.zero_add, Nat.reduceAdd] at hdep hK ⊢
          go_simp
          exact hK _ _ (KeepF.refl _ _ _) rfl
        · intro vs It wq hq hdep K' hK
          simp only [depFacts, putAll, Act.put, List.setIfInBounds_toArray, List.set_cons_zero, List.set_cons_succ, Nat.zero_add, Nat.reduceAdd] at hdep hK ⊢
          have f1 : vs 9 = .pointer (some ⟨w.heap.size, 4, none⟩) := hdep.1 rfl
          rw [f1] at hK ⊢
          obtain ⟨x0, x1, x2, x3, x4, x5⟩ := (HBT6.out.same ((WQ.out wq hq).block _ ht6)).cells
          go_simp
          exact hK _ _ (KeepF.refl _ _ _) rfl
        · intro vs It wq hq hdep K' hK
          simp only [depFacts, putAll, Act.put, List.setIfInBounds_toArray, List.set_cons_zero, List.set_cons_succ, Nat.zero_add, Nat.reduceAdd] at hdep hK ⊢
          go_simp
          exact hK _ _ (KeepF.refl _ _ _) rfl
        · intro vs It wq hq hdep K' hK
          simp only [depFacts, putAll, Act.put, List.setIfInBounds_toArray, List.set_cons_zero, List.set_cons_succ, Nat.zero_add, Nat.reduceAdd] at hdep hK ⊢
          have f1 : vs 10 = .slice A4 t.fields.length d4 := hdep.1 rfl
          have f2 : vs 11 = .int .i64 ((kk : Nat) : Int) := hdep.2.1 rfl
          exact op_cut_l (.tmp 70) (.tmp 71) rfl f1 f2 (by omega) (hK _ _ (KeepF.refl _ _ _) rfl)
        · intro vs It wq hq hdep K' hK
          simp only [depFacts, putAll, Act.put, List.setIfInBounds_toArray, List.set_cons_zero, List.set_cons_succ, Nat.zero_add, Nat.reduceAdd] at hdep hK ⊢
          have f1 : wq.ownsRow w6.heap.size 38 8 (vs 8) (kk + 1) (cs.take (kk * 8) ++ #[Value.string f.name, .bool f.opt, .int .i64 f.type.kind, .int .i64 f.type.lo, .int .i64 f.type.hi, .slice B3 f.type.names.length e3, .slice B4 f.type.fields.length e4, .slice B5 f.type.of.length e5].toList) ∧ CapOk (vs 8) (kk + 1) := hdep.1 rfl
          have f2 : vs 12 = cut8 A4 kk t.fields.length d4 := hdep.2.1 rfl
          obtain ⟨v', w', hr, ho, hco, hk⟩ := append_keepF (P := Tryd.prog) (w := wq) (B := w6.heap.size) (L := (cs.take (kk * 8) ++ #[Value.string f.name, .bool f.opt, .int .i64 f.type.kind, .int .i64 f.type.lo, .int .i64 f.type.hi, .slice B3 f.type.names.length e3, .slice B4 f.type.fields.length e4, .slice B5 f.type.of.length e5].toList ++ cs.drop (kk * 8))) (m := (kk + 1)) (n := (t.fields.length - kk)) (M := (cs.take (kk * 8) ++ #[Value.string f.name, .bool f.opt, .int .i64 f.type.kind, .int .i64 f.type.lo, .int .i64 f.type.hi, .slice B3 f.type.names.length e3, .slice B4 f.type.fields.length e4, .slice B5 f.type.of.length e5].toList)) (N := (cs.drop (kk * 8))) (v := vs 8) (u := vs 12) (t := 23) (ty := 23) i0 _ elem8 I0.out I1.out I2.out I3.out rfl (WQ.out wq hq).size f1.1 f1.2 (by rw [f2]; exact R2.out.keep fun h0 p hp => WC.out wq hq p (HOB.out kk t.fields.length (by omega) p hp)) (by exact List.prefix_refl _) (by omega)
          exact op_appendF (.tmp 68) (.tmp 72) 23 rfl rfl rfl hr (hK _ _ hk ⟨ho, hco⟩)
        · intro vs It wq hq hdep K' hK
          simp only [depFacts, putAll, Act.put, List.setIfInBounds_toArray, List.set_cons_zero, List.set_cons_succ, Nat.zero_add, Nat.reduceAdd] at hdep hK ⊢
          have f1 : wq.ownsRow w6.heap.size 38 8 (vs 13) (kk + 1 + (t.fields.length - kk)) (cs.take (kk * 8) ++ #[Value.string f.name, .bool f.opt, .int .i64 f.type.kind, .int .i64 f.type.lo, .int .i64 f.type.hi, .slice B3 f.type.names.length e3, .slice B4 f.type.fields.length e4, .slice B5 f.type.of.length e5].toList ++ cs.drop (kk * 8)) ∧ CapOk (vs 13) (kk + 1 + (t.fields.length - kk)) := hdep.1 rfl
          obtain ⟨f1, A, c, e, _⟩ := f1
          rw [e] at hK f1 ⊢
          go_simp
          exact hK _ _ (KeepF.refl _ _ _) ⟨A, c, rfl, f1⟩
        · intro vs It wq hq hdep K' hK
          simp only [depFacts, putAll, Act.put, List.setIfInBounds_toArray, List.set_cons_zero, List.set_cons_succ, Nat.zero_add, Nat.reduceAdd] at hdep hK ⊢
          have hb := (Below.refl wq.heap.size wq).alloc (Nat.le_refl _) (.cells #[.int .i64 0, .int .i64 0, .int .i64 0, .slice none 0 0, .slice none 0 0, .slice none 0 0] 26)
          go_simp
          exact hK _ _ (KeepF.of_below (WQ.out wq hq).size hb) ⟨_, rfl, (WQ.out wq hq).size, heap_alloc_new wq _⟩
      · intro vs It wq hq _ hall
        simp only [putAll, Act.put, List.setIfInBounds_toArray, List.set_cons_zero, List.set_cons_succ, List.take_succ_cons, List.take_zero, List.drop_succ_cons, List.drop_zero, allFacts, Nat.zero_add, Nat.reduceAdd] at hall ⊢
        obtain ⟨_, _, _, _, _, _, _, _, _, _, _, _, _, _, e14, e15, _⟩ := hall
        obtain ⟨A, c, e14, ho⟩ : ∃ A c, vs 14 = .agg #[.int .i64 1, .int .i64 0, .int .i64 0, .slice none 0 0, .slice A (kk + 1 + (t.fields.length - kk)) c, .slice none 0 0] ∧ wq.ownsRow w6.heap.size 38 8 (.slice A (kk + 1 + (t.fields.length - kk)) c) (kk + 1 + (t.fields.length - kk)) (cs.take (kk * 8) ++ #[Value.string f.name, .bool f.opt, .int .i64 f.type.kind, .int .i64 f.type.lo, .int .i64 f.type.hi, .slice B3 f.type.names.length e3, .slice B4 f.type.fields.length e4, .slice B5 f.type.of.length e5].toList ++ cs.drop (kk * 8)) := e14
        obtain ⟨g, e15, hgB, hgh⟩ : ∃ g, vs 15 = .pointer (some ⟨g, 0, none⟩) ∧ w6.heap.size ≤ g ∧ wq.heap[g]? = some (.cells #[.int .i64 0, .int .i64 0, .int .i64 0, .slice none 0 0, .slice none 0 0, .slice none 0 0] 26 (0, 0)) := e15
        rw [e14, e15]
        have HO := Lib.hid ho
        have HQ := Lib.hid (WQ.out wq hq)
        have HC := Lib.hid (WC.out wq hq)
        have hzq := (WQ.out wq hq).size
        have hbx : Box6 wq g (.int .i64 0) (.int .i64 0) (.int .i64 0) (.slice none 0 0) (.slice none 0 0) (.slice none 0 0) := hgh
        have HBX := Lib.hid hbx
        have hgl := hbx.lt
        clear e14 e15 ho hq WQ WC hgh R1 R2 HOB I0 I1 I2 I3
        obtain ⟨k0, k1, k2, k3, k4, k5⟩ := hbx.cells
        have k6 := hbx.frozen
        clear hbx
        go_wp2_with fail
        refine NoPanic.normal ?_
        clear k0 k1 k2 k3 k4 k5 k6
        obtain ⟨w7, hw7⟩ : ∃ w7, w7 = fill6 wq g (.int .i64 1) (.int .i64 0) (.int .i64 0) (.slice none 0 0) (.slice A (kk + 1 + (t.fields.length - kk)) c) (.slice none 0 0) := ⟨_, rfl⟩
        have hbx7 : Box6 w7 g (.int .i64 1) (.int .i64 0) (.int .i64 0) (.slice none 0 0) (.slice A (kk + 1 + (t.fields.length - kk)) c) (.slice none 0 0) := by rw [hw7]; exact fill6_box HBX.out _ _ _ _ _ _
        have hfar : ∀ k, k ≠ g → w7.heap[k]? = wq.heap[k]? := fun k hk => by rw [hw7]; exact fill6_far _ _ _ _ _ _ _ _ k hk
        have hz7 : w7.heap.size = wq.heap.size := by rw [hw7]; exact fill6_size _ _ _ _ _ _ _ _
        have hb7 : Below w.heap.size w w7 := by rw [hw7]; exact fill6_below (HBL6.out.trans (HQ.out.mono (by omega))) (by omega) _ _ _ _ _ _
        have ho7 : w7.ownsRow w6.heap.size 38 8 (.slice A (kk + 1 + (t.fields.length - kk)) c) (kk + 1 + (t.fields.length - kk)) (cs.take (kk * 8) ++ #[Value.string f.name, .bool f.opt, .int .i64 f.type.kind, .int .i64 f.type.lo, .int .i64 f.type.hi, .slice B3 f.type.names.length e3, .slice B4 f.type.fields.length e4, .slice B5 f.type.of.length e5].toList ++ cs.drop (kk * 8)) := by
          refine ownsRow_same HO.out fun k hk => hfar k ?_
          rcases HO.out.2 with ⟨e, _⟩ | ⟨g', cap, cur, e, hg, hh, _⟩
          · rw [e] at hk; cases hk
          · rw [e] at hk
            simp only [Value.ownBlock, Option.some.injEq] at hk
            intro e2
            subst hk
            subst e2
            have hb := HBX.out
            unfold Box6 at hb
            rw [hh] at hb
            simp at hb
        have hc7 : ∀ p : Addr, p.block < B → w7.cell? p = w.cell? p := fun p hp => (World.cell?_of_block (hfar p.block (by omega))).trans (HC.out p hp)
        have hfl : (t.fields.take kk ++ f :: t.fields.drop kk).length = kk + 1 + (t.fields.length - kk) := by simp; omega
        have hraw7 : RawFs w (fun k => k < B) (t.fields.take kk ++ f :: t.fields.drop kk) (cs.take (kk * 8) ++ #[Value.string f.name, .bool f.opt, .int .i64 f.type.kind, .int .i64 f.type.lo, .int .i64 f.type.hi, .slice B3 f.type.names.length e3, .slice B4 f.type.fields.length e4, .slice B5 f.type.of.length e5].toList ++ cs.drop (kk * 8)) := by
          rw [List.append_assoc]
          exact RawFs.append (HRAW.out.take kk) ⟨_, _, _, _, _, _, _, rfl, HFI.out.toS, HRAW.out.drop kk⟩
        obtain ⟨A', c', e', hof1, hof2⟩ := own_fields (W0 := w6.heap.size) hraw7 hc7 (by rw [hfl]; exact ho7) (Nat.le_refl _)
        rw [hfl] at e'
        injection e' with e1 _ e3
        subst e1 e3
        have hts : TypeS w7 (fun k => k < B ∨ (w6.heap.size ≤ k ∧ k < w7.heap.size)) (.mk 1 0 0 [] (t.fields.take kk ++ f :: t.fields.drop kk) []) (.int .i64 1) (.int .i64 0) (.int .i64 0) (.slice none 0 0) (.slice A (kk + 1 + (t.fields.length - kk)) c) (.slice none 0 0) :=
          TypeS.mk_ (t := .mk 1 0 0 [] (t.fields.take kk ++ f :: t.fields.drop kk) []) nilS ⟨_, _, by rw [← hfl]; rfl, hof1, hof2⟩ nilT
        have htv : TypeV w7 w7.heap.size (putT t f) (.agg #[.int .i64 1, .int .i64 0, .int .i64 0, .slice none 0 0, .slice A (kk + 1 + (t.fields.length - kk)) c, .slice none 0 0]) := by
          rw [HPT.out]
          exact ⟨_, _, _, _, _, _, rfl, hts.toIn fun k hk => by omega⟩
        have HTS := Lib.hid hts; have HTV := Lib.hid htv; have HBX7 := Lib.hid hbx7; have HB7 := Lib.hid hb7
        have HBR7 : Hid (Box6 w7 (w.heap.size + 2) (.int .i64 0) (.int .i64 0) (.int .i64 0) (.slice none 0 0) (.slice none 0 0) (.slice none 0 0)) := (ST6.out.br.same (HQ.out.block _ (by omega))).same (hfar _ (by omega))
        have hps := putT_size t f; have hpd := putT_depth t f
        unfold fill6 at hw7
        rw [← hw7]
        clear hw7 hbx7 hfar hb7 ho7 hc7 hraw7 hof1 hof2 hts htv HO HQ HC HBX
        obtain ⟨k0, k1, k2, k3, k4, k5⟩ := HBX7.out.cells
        have hg7 : g < w7.heap.size := by omega
        go_wp2_with fail
        clear k0 k1 k2 k3 k4 k5
        refine (rtright_any (B := w7.heap.size) (t := putT t f) (by omega) (by omega) (HPF.out X3.out) (Nat.le_refl _) HTV.out).mono ?_
        rintro e w8 ⟨rfl, hb8⟩
        have hz8 := hb8.size
        have HBR8 := Lib.hid (HBR7.out.same (hb8.block _ (by omega)))
        have HBX8 := Lib.hid (HBX7.out.same (hb8.block _ hg7))
        have HB8 : Hid (Below w.heap.size w w8) := HB7.out.trans (hb8.mono (by omega))
        have HTS8 : Hid (TypeS w8 (fun k => k < B ∨ (w6.heap.size ≤ k ∧ k < w7.heap.size)) (.mk 1 0 0 [] (t.fields.take kk ++ f :: t.fields.drop kk) []) (.int .i64 1) (.int .i64 0) (.int .i64 0) (.slice none 0 0) (.slice A (kk + 1 + (t.fields.length - kk)) c) (.slice none 0 0)) := HTS.out.keep (fun _ h => h) fun p hp => hb8.cell (by omega)
        clear hb8 HTS HTV HBX7 HB7 HBR7
        obtain ⟨r0, r1, r2, r3, r4, r5⟩ := HBR8.out.cells
        have r6 := HBR8.out.frozen
        obtain ⟨k0, k1, k2, k3, k4, k5⟩ := HBX8.out.cells
        have hr8 := HBR8.out.lt
        have hg8 : g < w8.heap.size := by omega
        have hne : ¬ w.heap.size + 2 = g := by omega
        have hne2 : ¬ g = w.heap.size + 2 := by omega
        have EE := E.out
        cases hrp : rightT (putT t f) with
        | false =>
          rw [hrp] at EE
          have E2 : Hid (putV t f = (T.zero, 2)) := by show _ = _; rw [EE]; rfl
          clear EE hrp
          go_wp2_with fail
          clear r0 r1 r2 r3 r4 r5 r6 k0 k1 k2 k3 k4 k5
          refine ret_cell6_2 (u := .int .i64 2) rfl rfl rfl (fill6_box HBR8.out (.int .i64 0) (.int .i64 0) (.int .i64 0) (.slice none 0 0) (.slice none 0 0) (.slice none 0 0)).load rfl ?_
          rw [E2.out]
          exact ⟨_, _, _, rfl, zero_typeS, fill6_below HB8.out (by omega) _ _ _ _ _ _⟩
        | true =>
          rw [hrp] at EE
          have E2 : Hid (putV t f = (.mk 1 0 0 [] (t.fields.take kk ++ f :: t.fields.drop kk) [], 0)) := by show _ = _; rw [EE, ← HPT.out]; rfl
          clear EE hrp
          go_wp2_with fail
          clear r0 r1 r2 r3 r4 r5 r6 k0 k1 k2 k3 k4 k5
          refine ret_cell6_2 (u := .int .i64 0) rfl rfl rfl (fill6_box HBR8.out (.int .i64 1) (.int .i64 0) (.int .i64 0) (.slice none 0 0) (.slice A (kk + 1 + (t.fields.length - kk)) c) (.slice none 0 0)).load rfl ?_
          rw [E2.out]
          refine ⟨_, _, _, rfl, HTS8.out.keep (fun k hk => ?_) (fun p hp => World.cell?_of_block (fill6_far w8 (w.heap.size + 2) _ _ _ _ _ _ p.block (by omega))), fill6_below HB8.out (by omega) _ _ _ _ _ _⟩
          have hzz : (fill6 w8 (w.heap.size + 2) (.int .i64 1) (.int .i64 0) (.int .i64 0) (.slice none 0 0) (.slice A (kk + 1 + (t.fields.length - kk)) c) (.slice none 0 0)).heap.size = w8.heap.size := fill6_size _ _ _ _ _ _ _ _
          change k < B ∨ (w.heap.size ≤ k ∧ k < (fill6 w8 (w.heap.size + 2) (.int .i64 1) (.int .i64 0) (.int .i64 0) (.slice none 0 0) (.slice A (kk + 1 + (t.fields.length - kk)) c) (.slice none 0 0)).heap.size)
          rw [hzz]
          omega
end Go.Proofs.YtcbbocnblgpbbaaDoor
