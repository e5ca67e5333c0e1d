/-
  schema.Drop.
-/
import Derived.Test.YtnjmknofojjlmaaDoorTPut
namespace Go.Proofs.YtnjmknofojjlmaaDoor
open Go.RowKit

def dropT (t : T) (i : Nat) : T := .mk t.kind t.lo t.hi t.names (t.fields.take i ++ t.fields.drop (i + 1)) t.of
theorem dropT_fields (t : T) (i : Nat) : (dropT t i).fields = t.fields.take i ++ t.fields.drop (i + 1) := rfl
def t_dropV (t : T) (s : ByteArray) : T × Int :=
  if recordB t = true then (if fieldOf t s < 0 then (T.zero, 9) else (dropT t (fieldOf t s).toNat, 0)) else (T.zero, 1)
theorem copied_drop {w0 : Nat} {w : World} {t : T} {x3 x4 x5 : Value} (h : Copied w0 w t x3 x4 x5) : ∃ cs, w.ownsRow w0 40 8 x4 t.fields.length cs ∧ (∀ u ∈ cs, u.oneCell' = true) ∧
    ∀ (i : Nat) (w2 : World) (x4' : Value), w.heap.size ≤ w2.heap.size →
      (∀ k, w0 ≤ k → k < w.heap.size → x4.ownBlock ≠ some k → w2.heap[k]? = w.heap[k]?) →
      w2.ownsRow w0 40 8 x4' (t.fields.length - 1) (cs.take (i * 8) ++ cs.drop ((i + 1) * 8)) →
      x4'.ownBlock = x4.ownBlock → i < t.fields.length → Copied w0 w2 (dropT t i) x3 x4' x5 := by
  obtain ⟨cs, ds, h1, o3, o4, o5, r4, r5, n34, n35, n45⟩ := h
  refine ⟨cs, o4, r4.one, fun i w2 x4' hz hk1 hown hat hi => ?_⟩
  have l3 := o3.lt; have l4 := o4.lt; have l5 := o5.lt
  have hS : ∀ k, Apart w0 w x3 x4 x5 k → Apart w0 w2 x3 x4' x5 k := fun k hk => ⟨hk.1, by have := hk.2.1; omega, hk.2.2.1, by rw [hat]; exact hk.2.2.2.1, hk.2.2.2.2⟩
  have hP : ∀ p : Addr, Apart w0 w x3 x4 x5 p.block → w2.cell? p = w.cell? p := fun p hp => World.cell?_of_block (hk1 p.block hp.1 hp.2.1 hp.2.2.2.1)
  refine ⟨cs.take (i * 8) ++ cs.drop ((i + 1) * 8), ds, by omega, t_ownsRow_same o3 fun k hk => hk1 k (l3 k hk).1 (l3 k hk).2 (n34 k hk), ?_, t_ownsRow_same o5 fun k hk => hk1 k (l5 k hk).1 (l5 k hk).2 (fun e => n45 k e hk), ?_, r5.keep hS hP, by rw [hat]; exact n34, n35, by rw [hat]; exact n45⟩
  · have hlen : (dropT t i).fields.length = t.fields.length - 1 := by rw [dropT_fields]; simp [List.length_take, List.length_drop]; omega
    rw [hlen]; exact hown
  · rw [dropT_fields]
    exact RawFs.append ((r4.take i).keep hS hP) ((r4.drop (i + 1)).keep hS hP)
set_option maxHeartbeats 8000000 in
set_option maxRecDepth 100000 in
theorem tdrop_any {t : T} {s : ByteArray} {v : Value} {w : World} {B : Nat} (hs : t.size ≤ 4000) (hd : t.depth ≤ 900) (hf : t.Fit) (hB : B ≤ w.heap.size) (ht : TypeV w B t v) :
    Calls Tryd.prog 14 #[v, .string s] w (TRes w.heap.size w (t_dropV t s)) := by
  obtain ⟨t0, t1, t2, t3, t4, t5, rfl, hin⟩ := ht
  have HIN := Lib.hid hin
  obtain ⟨A3, d3, A4, d4, A5, d5, rfl, rfl, rfl, rfl, rfl, rfl⟩ := hin.forms
  have HF := Lib.hid hf
  clear hin hf
  obtain ⟨W2, hW2⟩ : ∃ W2, W2 = ((w.alloc (.cells #[.int .i64 t.kind, .int .i64 t.lo, .int .i64 t.hi, .slice A3 t.names.length d3, .slice A4 t.fields.length d4, .slice A5 t.of.length d5] 26)).alloc
    (.cells #[.int .i64 0, .int .i64 0, .int .i64 0, .slice none 0 0, .slice none 0 0, .slice none 0 0] 26)) := ⟨_, rfl⟩
  have hbt : Box6 W2 w.heap.size (.int .i64 t.kind) (.int .i64 t.lo) (.int .i64 t.hi) (.slice A3 t.names.length d3) (.slice A4 t.fields.length d4) (.slice A5 t.of.length d5) := by rw [hW2]; exact (Box6.new w _ _ _ _ _ _).alloc _
  have hbr : Box6 W2 (w.heap.size + 1) (.int .i64 0) (.int .i64 0) (.int .i64 0) (.slice none 0 0) (.slice none 0 0) (.slice none 0 0) := by rw [hW2]; exact Box6.new' (by simp) _ _ _ _ _ _
  have hbl : Below w.heap.size w W2 := by rw [hW2]; exact ((Below.refl _ _).alloc (Nat.le_refl _) _).alloc (by simp) _
  have hz2 : W2.heap.size = w.heap.size + 2 := by rw [hW2]; simp
  have HBT := Lib.hid hbt; have HBR := Lib.hid hbr; have HBL := Lib.hid hbl; have HW2 := Lib.hid hW2
  have kin : Hid (∀ W, Below w.heap.size w W → TypeIn W B t (.int .i64 t.kind) (.int .i64 t.lo) (.int .i64 t.hi) (.slice A3 t.names.length d3) (.slice A4 t.fields.length d4) (.slice A5 t.of.length d5)) := fun W h => HIN.out.keep (Nat.le_refl _) fun p hp => h.cell (by omega)
  clear hbt hbr hbl hW2
  cases hrec : recordB t with
  | false =>
    have E := Lib.hid (show t_dropV t s = (T.zero, 1) by unfold t_dropV; rw [if_neg (by rw [hrec]; simp)])
    have HREC := Lib.hid hrec; clear hrec
    go_enter Tryd.func14, Tryd.ntmps14
    go_wp2_with fail
    rw [← HW2.out]
    refine (record_any (B := B) (by omega) (by omega) HF.out (by omega) ⟨_, _, _, _, _, _, rfl, kin.out _ HBL.out⟩).mono ?_
    rintro e w3 ⟨rfl, hb3⟩
    rw [HREC.out]
    have hbr3 := HBR.out.same (hb3.block _ HBR.out.lt)
    have HBR3 := Lib.hid hbr3
    have HBL3 : Hid (Below w.heap.size w w3) := HBL.out.trans (hb3.mono (by omega))
    obtain ⟨r0, r1, r2, r3, r4, r5⟩ := hbr3.cells
    have r6 := hbr3.frozen
    clear hb3 hbr3
    go_wp2_with fail
    clear r0 r1 r2 r3 r4 r5 r6
    refine ret_cell6_2 (u := .int .i64 1) rfl rfl rfl (fill6_box HBR3.out _ _ _ _ _ _).load rfl ?_
    rw [E.out]
    have := HBL3.out.size
    exact ⟨_, _, _, rfl, T.zero_own _ (by show w.heap.size ≤ (fill6 w3 (w.heap.size + 1) _ _ _ _ _ _).heap.size; rw [fill6_size]; omega), fill6_below HBL3.out (by omega) _ _ _ _ _ _⟩
  | true =>
    have HREC := Lib.hid hrec
    rcases fieldIdx_cases (calledB s) t.fields with ⟨hno, _⟩ | ⟨i, hi, hix, _, _⟩
    · have hfo : fieldOf t s = -1 := by unfold fieldOf; split <;> first | exact hno | rfl
      have E := Lib.hid (show t_dropV t s = (T.zero, 9) by unfold t_dropV; rw [if_pos hrec, if_pos (by omega)])
      have HFO := Lib.hid hfo
      clear hrec hno hfo
      go_enter Tryd.func14, Tryd.ntmps14
      go_wp2_with fail
      rw [← HW2.out]
      refine (record_any (B := B) (by omega) (by omega) HF.out (by omega) ⟨_, _, _, _, _, _, rfl, kin.out _ HBL.out⟩).mono ?_
      rintro e w3 ⟨rfl, hb3⟩
      rw [HREC.out]
      have hbt3 := HBT.out.same (hb3.block _ HBT.out.lt)
      have HBR3 := Lib.hid (HBR.out.same (hb3.block _ HBR.out.lt))
      have HBL3 : Hid (Below w.heap.size w w3) := HBL.out.trans (hb3.mono (by omega))
      obtain ⟨t0, t1, t2, t3, t4, t5⟩ := hbt3.cells
      have hz3 := HBL3.out.size
      clear hb3 hbt3
      go_wp2_with fail
      refine (tfield_any (B := B) HF.out (by omega) ⟨_, _, _, _, _, _, rfl, kin.out _ HBL3.out⟩).mono ?_
      rintro e w4 ⟨rfl, hb4⟩
      rw [HFO.out]
      have hbr4 := HBR3.out.same (hb4.block _ HBR3.out.lt)
      have HBR4 := Lib.hid hbr4
      have HBL4 : Hid (Below w.heap.size w w4) := HBL3.out.trans (hb4.mono hz3)
      obtain ⟨r0, r1, r2, r3, r4, r5⟩ := hbr4.cells
      have r6 := hbr4.frozen
      clear hb4 hbr4 t0 t1 t2 t3 t4 t5
      go_wp2_with fail
      clear r0 r1 r2 r3 r4 r5 r6
      refine ret_cell6_2 (u := .int .i64 9) rfl rfl rfl (fill6_box HBR4.out _ _ _ _ _ _).load rfl ?_
      rw [E.out]
      have := HBL4.out.size
      exact ⟨_, _, _, rfl, T.zero_own _ (by show w.heap.size ≤ (fill6 w4 (w.heap.size + 1) _ _ _ _ _ _).heap.size; rw [fill6_size]; omega), fill6_below HBL4.out (by omega) _ _ _ _ _ _⟩
    · have hk1 : t.kind = 1 := by unfold recordB at hrec; simp only [Bool.and_eq_true, decide_eq_true_eq] at hrec; exact hrec.1
      have hfo : fieldOf t s = i := by unfold fieldOf; rw [if_pos hk1, hix]
      have E := Lib.hid (show t_dropV t s = (dropT t i, 0) by unfold t_dropV; rw [if_pos hrec, if_neg (by omega), hfo]; rfl)
      have HFO := Lib.hid hfo
      have hi0 : (0 : Int) ≤ (i : Int) := by omega
      have hw1 : IntKind.i64.wrap ((i : Int) + 1) = (i : Int) + 1 := IntWalk.i64_in _ (by have := HF.out.parts.2.1; omega)
      clear hrec hfo hk1 hix
      go_enter Tryd.func14, Tryd.ntmps14
      go_wp2_with fail
      rw [← HW2.out]
      refine (record_any (B := B) (by omega) (by omega) HF.out (by omega) ⟨_, _, _, _, _, _, rfl, kin.out _ HBL.out⟩).mono ?_
      rintro e w3 ⟨rfl, hb3⟩
      rw [HREC.out]
      have hbt3 := HBT.out.same (hb3.block _ HBT.out.lt)
      have HBT3 := Lib.hid hbt3
      have HBR3 := Lib.hid (HBR.out.same (hb3.block _ HBR.out.lt))
      have HBL3 : Hid (Below w.heap.size w w3) := HBL.out.trans (hb3.mono (by omega))
      obtain ⟨t0, t1, t2, t3, t4, t5⟩ := hbt3.cells
      have hz3 := HBL3.out.size
      clear hb3 hbt3
      go_wp2_with fail
      refine (tfield_any (B := B) HF.out (by omega) ⟨_, _, _, _, _, _, rfl, kin.out _ HBL3.out⟩).mono ?_
      rintro e w4 ⟨rfl, hb4⟩
      rw [HFO.out]
      have HBR4 := Lib.hid (HBR3.out.same (hb4.block _ HBR3.out.lt))
      have HBL4 : Hid (Below w.heap.size w w4) := HBL3.out.trans (hb4.mono hz3)
      have hbt4 := HBT3.out.same (hb4.block _ HBT3.out.lt)
      have hz4 := HBL4.out.size
      have hr4 := HBR4.out.lt
      clear hb4 t0 t1 t2 t3 t4 t5
      obtain ⟨t0, t1, t2, t3, t4, t5⟩ := hbt4.cells
      clear hbt4
      go_wp2_with fail
      refine (tcopy_any (B := B) HF.out (by omega) (by omega) ⟨_, _, _, _, _, _, rfl, kin.out _ HBL4.out⟩).mono ?_
      rintro e w5 ⟨x3, x4, x5, rfl, hcp, hb5⟩
      obtain ⟨X3, a3, X4, a4, X5, a5, rfl, rfl, rfl⟩ := hcp.forms
      have HBR5 := Lib.hid (HBR4.out.same (hb5.block _ HBR4.out.lt))
      have HBL5 : Hid (Below w.heap.size w w5) := HBL4.out.trans (hb5.mono hz4)
      obtain ⟨cs, hown, hone, hmake⟩ := copied_drop hcp
      obtain ⟨g, cap, eg, hgl, hgh⟩ := hown.form (by omega)
      injection eg with eg _ eg3
      subst eg; subst eg3
      have HO := Lib.hid hown; have HON := Lib.hid hone; have HMK := Lib.hid hmake
      have hz5 := hb5.size
      clear hcp hb5 hown hone hmake t0 t1 t2 t3 t4 t5
      go_upto_region 7 with fail
      obtain ⟨W6, hW6⟩ : ∃ W6, W6 = w5.alloc (.cells #[.int .i64 t.kind, .int .i64 t.lo, .int .i64 t.hi, .slice X3 t.names.length a3, .slice (some ⟨g, 0, none⟩) t.fields.length a4, .slice X5 t.of.length a5] 26) := ⟨_, rfl⟩
      have hbw : Box6 W6 w5.heap.size (.int .i64 t.kind) (.int .i64 t.lo) (.int .i64 t.hi) (.slice X3 t.names.length a3) (.slice (some ⟨g, 0, none⟩) t.fields.length a4) (.slice X5 t.of.length a5) := by rw [hW6]; exact Box6.new w5 _ _ _ _ _ _
      have hb6 : Below w5.heap.size w5 W6 := by rw [hW6]; exact (Below.refl _ _).alloc (Nat.le_refl _) _
      have hz6 : W6.heap.size = w5.heap.size + 1 := by rw [hW6]; simp
      have HBW := Lib.hid hbw; have HB6 := Lib.hid hb6
      have HO6 : Hid (W6.ownsRow w4.heap.size 40 8 (.slice (some ⟨g, 0, none⟩) t.fields.length a4) t.fields.length cs) := t_ownsRow_same HO.out fun k hk => hb6.block k (HO.out.lt k hk).2
      rw [← hW6]
      obtain ⟨p0, p1, p2, p3, p4, p5⟩ := hbw.cells
      clear hW6 hbw hb6
      go_wp2_with fail
      refine (deleteF_any HO6.out HON.out hi HF.out.parts.2.1).mono ?_
      rintro e w7 ⟨rfl, hown7, hgr⟩
      have hz7 := hgr.size
      have HGR := Lib.hid hgr; have HO7 := Lib.hid hown7
      have old7 : Hid (∀ k, k < W6.heap.size → k ≠ g → w7.heap[k]? = W6.heap[k]?) := fun k h1 h2 => hgr.block k h1 (fun e => by injection e with e; exact h2 e)
      have hbw7 := HBW.out.same (old7.out w5.heap.size (by omega) (by omega))
      have HBW7 := Lib.hid hbw7
      have hbr7 := (HBR5.out.same (HB6.out.block _ HBR5.out.lt)).same (old7.out _ (by omega) (by omega))
      have HBR7 := Lib.hid hbr7
      clear hgr hown7 p0 p1 p2 p3 p4 p5
      obtain ⟨p0, p1, p2, p3, p4, p5⟩ := hbw7.cells
      have p6 := hbw7.frozen
      obtain ⟨r0, r1, r2, r3, r4, r5⟩ := hbr7.cells
      have r6 := hbr7.frozen
      clear hbw7 hbr7
      have hne : ¬ w.heap.size + 1 = w5.heap.size := by omega
      have hne2 : ¬ w5.heap.size = w.heap.size + 1 := by omega
      go_wp2_with fail
      clear p0 p1 p2 p3 p4 p5 p6 r0 r1 r2 r3 r4 r5 r6
      have hfar : ∀ k, k ≠ w5.heap.size → (w7.setCell ⟨w5.heap.size, 4, none⟩ (.slice (some ⟨g, 0, none⟩) (t.fields.length - 1) a4)).heap[k]? = w7.heap[k]? := fun k hk => Below.heap_setCell _ _ _ k hk
      have hbr8 := HBR7.out.same (hfar (w.heap.size + 1) hne)
      refine ret_cell6_2 (u := .int .i64 0) rfl rfl rfl (fill6_box hbr8 _ _ _ _ _ _).load rfl ?_
      rw [E.out]
      have hcn : Copied w4.heap.size (w7.setCell ⟨w5.heap.size, 4, none⟩ (.slice (some ⟨g, 0, none⟩) (t.fields.length - 1) a4)) (dropT t i) (.slice X3 t.names.length a3) (.slice (some ⟨g, 0, none⟩) (t.fields.length - 1) a4) (.slice X5 t.of.length a5) :=
        HMK.out i _ _ (by rw [size_setCell]; omega) (fun k h1 h2 h3 => (hfar k (by omega)).trans ((old7.out k (by omega) (fun e => h3 (by rw [e]; rfl))).trans (HB6.out.block k h2))) (t_ownsRow_same HO7.out fun k hk => hfar k (by simp only [Value.ownBlock, Option.some.injEq] at hk; omega)) rfl hi
      have hb8 : Below w.heap.size w (w7.setCell ⟨w5.heap.size, 4, none⟩ (.slice (some ⟨g, 0, none⟩) (t.fields.length - 1) a4)) := by
        have h7 : Below w.heap.size w w7 := ⟨HGR.out.os.trans (HB6.out.os.trans HBL5.out.os), HGR.out.tape.trans (HB6.out.tape.trans HBL5.out.tape), HGR.out.output.trans (HB6.out.output.trans HBL5.out.output), by omega, fun k hk => (old7.out k (by omega) (by omega)).trans ((HB6.out.block k (by omega)).trans (HBL5.out.block k hk))⟩
        exact h7.setCell (by show w.heap.size ≤ w5.heap.size; omega) _
      refine ⟨_, _, _, rfl, (hcn.later ?_ fun k hk _ => fill6_far _ (w.heap.size + 1) _ _ _ _ _ _ k (by omega)).mono (by omega), fill6_below hb8 (by omega) _ _ _ _ _ _⟩
      exact Nat.le_of_eq (fill6_size _ (w.heap.size + 1) _ _ _ _ _ _).symm
end Go.Proofs.YtnjmknofojjlmaaDoor
