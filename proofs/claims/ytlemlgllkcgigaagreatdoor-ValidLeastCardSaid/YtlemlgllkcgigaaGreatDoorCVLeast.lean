/-
  ValidLeast: the walk.
-/
import Derived.Test.YtlemlgllkcgigaaGreatDoorD38
namespace Go.Proofs.YtlemlgllkcgigaaGreatDoor
open Go.RowKit

set_option maxHeartbeats 8000000 in
set_option maxRecDepth 100000 in
theorem vleast_law {t : T} {d : D} {v0 v1 v2 v3 v4 v5 u0 u1 u2 u3 u4 : Value} {w : World} (htab : Tab w) (ht : TypeIn w w.heap.size t v0 v1 v2 v3 v4 v5) (hd : DocIn w w.heap.size d u0 u1 u2 u3 u4) :
    Calls Tryz.prog 5 #[.agg #[v0, v1, v2, v3, v4, v5], .agg #[u0, u1, u2, u3, u4]] w fun e w' => e = .returned (.bool true) ∧ Below w.heap.size w w' := by
  have ST0 := Lib.hid (LawSt.start ht hd htab)
  clear ht hd htab
  go_enter Tryz.func5, Tryz.ntmps5
  go_wp2_with fail
  generalize (w.alloc (.cells #[v0, v1, v2, v3, v4, v5] 26)).alloc (.cells #[u0, u1, u2, u3, u4] 29) = w0 at *
  refine (vsmall_any _ ST0.out.tab.1 ST0.out.tab.2).mono ?_
  rintro e w1 ⟨rfl, hb1⟩
  have ST1 := Lib.hid (ST0.out.next hb1)
  clear hb1 ST0
  obtain ⟨x0, x1, x2, x3, x4, x5⟩ := ST1.out.td.bt.cells
  obtain ⟨y0, y1, y2, y3, y4⟩ := ST1.out.td.bd.cells
  have sz1 := ST1.out.td.sz
  go_wp2_with fail
  refine (vfew_any ST1.out.td.le ST1.out.td.tv ST1.out.td.dv).mono ?_
  rintro e w2 ⟨rfl, hb2⟩
  have ST2 := Lib.hid (ST1.out.next hb2)
  clear hb2 x0 x1 x2 x3 x4 x5 y0 y1 y2 y3 y4 sz1
  cases hfew : fewV2 t d
  · go_wp2_with fail
    go_ret
    exact ⟨rfl, ST2.out.td.bl⟩
  have HF := Lib.hid (small5_of hfew)
  have hs1 : t.size ≤ 10000 := by have := HF.out.ts; omega
  have hs2 : t.depth ≤ 900 := by have := HF.out.td; omega
  clear hfew ST1
  obtain ⟨x0, x1, x2, x3, x4, x5⟩ := ST2.out.td.bt.cells
  have sz2 := ST2.out.td.sz
  go_wp2_with fail
  refine (tright_any hs1 hs2 HF.out.tf ST2.out.td.le ST2.out.td.tv).mono ?_
  rintro e w3 ⟨rfl, hb3⟩
  have ST3 := Lib.hid (ST2.out.next hb3)
  clear hb3 x0 x1 x2 x3 x4 x5 sz2 ST2
  cases hr : rightT t
  · go_wp2_with fail
    go_ret
    exact ⟨rfl, ST3.out.td.bl⟩
  have HR := Lib.hid hr
  clear hr
  obtain ⟨x0, x1, x2, x3, x4, x5⟩ := ST3.out.td.bt.cells
  have sz3 := ST3.out.td.sz
  go_wp2_with fail
  refine (narrow_any t.depth t _ _ w.heap.size (Nat.le_refl _) HF.out.tf ST3.out.td.le ST3.out.td.tv).mono ?_
  rintro e w4 ⟨rfl, hb4⟩
  have ST4 := Lib.hid (ST3.out.next hb4)
  clear hb4 x0 x1 x2 x3 x4 x5 sz3 ST3
  cases hn : narrowB t
  · go_wp2_with fail
    go_ret
    exact ⟨rfl, ST4.out.td.bl⟩
  have HN := Lib.hid hn
  clear hn
  go_upto_region 5 with fail
  have HLF := Lib.hid (least_fit t.depth t (Nat.le_refl _) (rightT_small HR.out).2.2 HF.out.tf)
  have hS5 : ∀ X : World, Below w4.heap.size w4 X → X.cell? ⟨w.heap.size, 0, none⟩ = some v0 ∧ X.cell? ⟨w.heap.size, 1, none⟩ = some v1 ∧ X.cell? ⟨w.heap.size, 2, none⟩ = some v2 ∧ X.cell? ⟨w.heap.size, 3, none⟩ = some v3 ∧ X.cell? ⟨w.heap.size, 4, none⟩ = some v4 ∧ X.cell? ⟨w.heap.size, 5, none⟩ = some v5 := fun X h => (ST4.out.next h).td.bt.cells
  have HS5 := Lib.hid hS5
  have hre : Below w4.heap.size w4 w4.drew := (Below.refl _ _).drew
  go_cut [32] (fun s wx => s = .bool false ∧ Below w4.heap.size w4 wx)
  case first =>
    clear hS5
    go_region_held3 (fun w' => w'.cell? ⟨w.heap.size, 0, none⟩ = some v0 ∧ w'.cell? ⟨w.heap.size, 1, none⟩ = some v1 ∧ w'.cell? ⟨w.heap.size, 2, none⟩ = some v2 ∧ w'.cell? ⟨w.heap.size, 3, none⟩ = some v3 ∧ w'.cell? ⟨w.heap.size, 4, none⟩ = some v4 ∧ w'.cell? ⟨w.heap.size, 5, none⟩ = some v5)
      (first | with_reducible exact HS5.out _ hre | with_reducible exact HS5.out _ h5 | with_reducible exact HS5.out _ h6)
      ((first
        | (go_at_call 26
           refine (least_v hs1 hs2 HF.out.tf (ST4.out.next hre).td.le (ST4.out.next hre).td.tv).mono ?_
           rw [leastV_right HR.out]
           rintro e w5 ⟨z0, z1, z2, z3, z4, G, rfl, hG, hGn, hb5⟩
           have h5 : Below w4.heap.size w4 w5 := hre.trans (hb5.mono (by show w4.heap.size ≤ w4.heap.size; omega))
           have HG5 := Lib.hid hG.doc
           clear hG hGn hb5)
        | (go_at_call 16
           refine (is_any (B := w5.heap.size) hs1 hs2 HF.out.tf HLF.out (Nat.le_refl _) (ST4.out.next h5).tab.2 (ST4.out.next h5).tab.1 ((ST4.out.next h5).td.tv.keep (ST4.out.next h5).td.le fun _ _ => rfl) ⟨_, _, _, _, _, rfl, HG5.out⟩).mono ?_
           rw [least_is HR.out HN.out]
           rintro e w6 ⟨rfl, hb6⟩
           have h6 : Below w4.heap.size w4 w6 := h5.trans (hb6.mono h5.size)
           clear hb6)))
    all_goals (go_wp2_with fail)
    all_goals go_meet
    all_goals exact ⟨rfl, h6⟩
  case rest =>
    obtain ⟨h32, hbc⟩ := hcut
    rw [h32]
    clear h32
    generalize wc = w6 at *
    have ST6 := Lib.hid (ST4.out.next hbc)
    clear hbc hS5 HS5 hre ST4 HLF
    obtain ⟨x0, x1, x2, x3, x4, x5⟩ := ST6.out.td.bt.cells
    obtain ⟨y0, y1, y2, y3, y4⟩ := ST6.out.td.bd.cells
    have sz6 := ST6.out.td.sz
    go_wp2_with fail
    refine (mendV_any hs1 hs2 HF.out.tf HF.out.df ST6.out.td.le ST6.out.td.tv ST6.out.td.dv).mono ?_
    rintro e w7 ⟨z0, z1, z2, z3, z4, G, rfl, hG, hGn, hb7⟩
    have HMF := Lib.hid (mendV_fit (t := t) (d := d) HF.out.tf HF.out.df)
    obtain ⟨m, hm⟩ : ∃ m, m = (mendV t d).1 := ⟨_, rfl⟩
    obtain ⟨n, hnn⟩ : ∃ n, n = (mendV t d).2 := ⟨_, rfl⟩
    rw [← hm] at hG HMF
    rw [← hnn]
    have HM := Lib.hid hm; have HNN := Lib.hid hnn
    obtain ⟨A5, c5, A6, c6, rfl, rfl, rfl, rfl, rfl⟩ := hG.doc.forms
    have HG7 := Lib.hid hG.doc
    have ST7 := Lib.hid (ST6.out.next hb7)
    have szw7 := ST7.out.td.sz
    have hz7 := hb7.size
    clear hG hGn hb7 hm hnn x0 x1 x2 x3 x4 x5 y0 y1 y2 y3 y4 sz6 ST6
    go_upto_region 8 with fail
    obtain ⟨w8, hw8⟩ : ∃ w8, w8 = w7.alloc (.cells #[.int .i64 m.kind, .int .i64 m.num, .string m.str, .slice A5 m.keys.length c5, .slice A6 m.kids.length c6] 29) := ⟨_, rfl⟩
    have HB8 : Hid (Below w7.heap.size w7 w8) := by rw [hw8]; exact (Below.refl _ _).alloc (Nat.le_refl _) _
    have HX8 : Hid (Box5 w8 w7.heap.size (.int .i64 m.kind) (.int .i64 m.num) (.string m.str) (.slice A5 m.keys.length c5) (.slice A6 m.kids.length c6)) := by rw [hw8]; exact Box5.new w7 _ _ _ _ _
    have hz8 : w7.heap.size + 1 ≤ w8.heap.size := by rw [hw8]; simp
    rw [← hw8]
    clear hw8
    have ST8 := Lib.hid (ST7.out.next HB8.out)
    have HD8 : Hid (DocIn w8 w7.heap.size m (.int .i64 m.kind) (.int .i64 m.num) (.string m.str) (.slice A5 m.keys.length c5) (.slice A6 m.kids.length c6)) := Lib.hid (HG7.out.keep (Nat.le_refl _) fun q hq => HB8.out.cell (p := q) hq)
    clear ST7 HG7
    obtain ⟨y0, y1, y2, y3, y4⟩ := ST8.out.td.bd.cells
    have sz8 := ST8.out.td.sz
    go_wp2_with fail
    refine (right_v HF.out.df ST8.out.td.le ST8.out.td.dv).mono ?_
    rintro e w9 ⟨rfl, hb9⟩
    have ST9 := Lib.hid (ST8.out.next hb9)
    have HX9 := Lib.hid (HX8.out.same (hb9.block _ (by omega)))
    have HD9 := Lib.hid (HD8.out.keep (w' := w9) (Nat.le_refl _) fun q hq => hb9.cell (p := q) (by omega))
    have hz9 := hb9.size
    clear hb9 y0 y1 y2 y3 y4 sz8 ST8 HX8 HD8
    cases hrd : rightB d
    · go_wp2_with fail
      go_ret
      exact ⟨rfl, ST9.out.td.bl⟩
    have HRD := Lib.hid hrd
    clear hrd
    obtain ⟨k0, k1, k2, k3, k4⟩ := HX9.out.cells
    go_wp2_with fail
    refine (right_v (B := w7.heap.size) HMF.out (by omega) ⟨_, _, _, _, _, rfl, HD9.out⟩).mono ?_
    rintro e w10 ⟨rfl, hb10⟩
    have ST10 := Lib.hid (ST9.out.next hb10)
    have HX10 := Lib.hid (HX9.out.same (hb10.block _ (by omega)))
    have HD10 := Lib.hid (HD9.out.keep (w' := w10) (Nat.le_refl _) fun q hq => hb10.cell (p := q) (by omega))
    have hz10 := hb10.size
    clear hb10 k0 k1 k2 k3 k4 ST9 HX9 HD9
    cases hrm : rightB m
    · go_wp2_with fail
      go_ret
      exact ⟨rfl, ST10.out.td.bl⟩
    have hbo : bothB t d = true := by unfold bothB; rw [HR.out, HRD.out]; rfl
    have hme : mendV t d = t.mend d := by unfold mendV; rw [if_pos hbo]
    have hmm : m = (t.mend d).1 := by rw [HM.out, hme]
    have hnm : n = (t.mend d).2 := by rw [HNN.out, hme]
    have HL : Hid (MendLaw t d m n) := Lib.hid (by rw [hmm, hnm]; exact mend_law HR.out HN.out HRD.out (by rw [← hmm]; exact hrm))
    clear hrm hbo hme hmm hnm HM HNN
    obtain ⟨x0, x1, x2, x3, x4, x5⟩ := ST10.out.td.bt.cells
    obtain ⟨k0, k1, k2, k3, k4⟩ := HX10.out.cells
    go_wp2_with fail
    refine (mendV_any (B := w7.heap.size) hs1 hs2 HF.out.tf HMF.out (by omega) (ST10.out.td.tv.keep (by have := ST10.out.td.hB; have := ST10.out.td.sz; omega) fun _ _ => rfl) ⟨_, _, _, _, _, rfl, HD10.out⟩).mono ?_
    rw [HL.out.again]
    rintro e w11 ⟨q0, q1, q2, q3, q4, G, rfl, hG, hGn, hb11⟩
    obtain ⟨A7, c7, A8, c8, rfl, rfl, rfl, rfl, rfl⟩ := hG.doc.forms
    have HG11 := Lib.hid hG.doc
    have ST11 := Lib.hid (ST10.out.next hb11)
    have HX11 := Lib.hid (HX10.out.same (hb11.block _ (by omega)))
    have HD11 := Lib.hid (HD10.out.keep (w' := w11) (Nat.le_refl _) fun q hq => hb11.cell (p := q) (by omega))
    have hz11 := hb11.size
    clear hG hGn hb11 x0 x1 x2 x3 x4 x5 k0 k1 k2 k3 k4 ST10 HX10 HD10
    go_upto_region 11 with fail
    obtain ⟨wr, hwr⟩ : ∃ wr, wr = w11.alloc (.cells #[.int .i64 m.kind, .int .i64 m.num, .string m.str, .slice A7 m.keys.length c7, .slice A8 m.kids.length c8] 29) := ⟨_, rfl⟩
    have HBR : Hid (Below w11.heap.size w11 wr) := by rw [hwr]; exact (Below.refl _ _).alloc (Nat.le_refl _) _
    have HXA : Hid (Box5 wr w11.heap.size (.int .i64 m.kind) (.int .i64 m.num) (.string m.str) (.slice A7 m.keys.length c7) (.slice A8 m.kids.length c8)) := by rw [hwr]; exact Box5.new w11 _ _ _ _ _
    have hzr : w11.heap.size + 1 ≤ wr.heap.size := by rw [hwr]; simp
    rw [← hwr]
    clear hwr
    have STR := Lib.hid (ST11.out.next HBR.out)
    have HXM := Lib.hid (HX11.out.same (HBR.out.block _ (by omega)))
    have HDM : Hid (DocIn wr wr.heap.size m (.int .i64 m.kind) (.int .i64 m.num) (.string m.str) (.slice A5 m.keys.length c5) (.slice A6 m.kids.length c6)) := Lib.hid (HD11.out.keep (w' := wr) (by omega) fun q hq => HBR.out.cell (p := q) (by omega))
    have HDA : Hid (DocIn wr wr.heap.size m (.int .i64 m.kind) (.int .i64 m.num) (.string m.str) (.slice A7 m.keys.length c7) (.slice A8 m.kids.length c8)) := Lib.hid (HG11.out.keep (w' := wr) (by omega) fun q hq => HBR.out.cell (p := q) hq)
    clear ST11 HX11 HD11 HG11
    have hS : ∀ X : World, Below wr.heap.size wr X → X.cell? ⟨w.heap.size, 0, none⟩ = some v0 ∧ X.cell? ⟨w.heap.size, 1, none⟩ = some v1 ∧ X.cell? ⟨w.heap.size, 2, none⟩ = some v2 ∧ X.cell? ⟨w.heap.size, 3, none⟩ = some v3 ∧ X.cell? ⟨w.heap.size, 4, none⟩ = some v4 ∧ X.cell? ⟨w.heap.size, 5, none⟩ = some v5 ∧ X.cell? ⟨w.heap.size + 1, 0, none⟩ = some u0 ∧ X.cell? ⟨w.heap.size + 1, 1, none⟩ = some u1 ∧ X.cell? ⟨w.heap.size + 1, 2, none⟩ = some u2 ∧ X.cell? ⟨w.heap.size + 1, 3, none⟩ = some u3 ∧ X.cell? ⟨w.heap.size + 1, 4, none⟩ = some u4 ∧ X.cell? ⟨w7.heap.size, 0, none⟩ = some (.int .i64 m.kind) ∧ X.cell? ⟨w7.heap.size, 1, none⟩ = some (.int .i64 m.num) ∧ X.cell? ⟨w7.heap.size, 2, none⟩ = some (.string m.str) ∧ X.cell? ⟨w7.heap.size, 3, none⟩ = some (.slice A5 m.keys.length c5) ∧ X.cell? ⟨w7.heap.size, 4, none⟩ = some (.slice A6 m.kids.length c6) ∧ X.cell? ⟨w11.heap.size, 0, none⟩ = some (.int .i64 m.kind) ∧ X.cell? ⟨w11.heap.size, 1, none⟩ = some (.int .i64 m.num) ∧ X.cell? ⟨w11.heap.size, 2, none⟩ = some (.string m.str) ∧ X.cell? ⟨w11.heap.size, 3, none⟩ = some (.slice A7 m.keys.length c7) ∧ X.cell? ⟨w11.heap.size, 4, none⟩ = some (.slice A8 m.kids.length c8) := fun X h => by
      obtain ⟨x0, x1, x2, x3, x4, x5⟩ := (STR.out.next h).td.bt.cells
      obtain ⟨y0, y1, y2, y3, y4⟩ := (STR.out.next h).td.bd.cells
      obtain ⟨k0, k1, k2, k3, k4⟩ := (HXM.out.same (h.block _ (by omega))).cells
      obtain ⟨l0, l1, l2, l3, l4⟩ := (HXA.out.same (h.block _ (by omega))).cells
      exact ⟨x0, x1, x2, x3, x4, x5, y0, y1, y2, y3, y4, k0, k1, k2, k3, k4, l0, l1, l2, l3, l4⟩
    have HS := Lib.hid hS
    have HIM : Hid (∀ X, Below wr.heap.size wr X → Calls Tryz.prog 16 #[.agg #[v0, v1, v2, v3, v4, v5], .agg #[.int .i64 m.kind, .int .i64 m.num, .string m.str, .slice A5 m.keys.length c5, .slice A6 m.kids.length c6]] X fun e w' => e = .returned (.bool true) ∧ Below wr.heap.size wr w') := Lib.hid (fun X hX => (is_any (B := wr.heap.size) hs1 hs2 HF.out.tf HMF.out hX.size (STR.out.next hX).tab.2 (STR.out.next hX).tab.1 ((STR.out.next hX).td.tv.keep (by have := STR.out.td.hB; have := STR.out.td.sz; omega) fun _ _ => rfl) ⟨_, _, _, _, _, rfl, HDM.out.keep (Nat.le_refl _) fun q hq => hX.cell hq⟩).mono fun e w' h => ⟨by rw [h.1, HL.out.is], hX.trans (h.2.mono hX.size)⟩)
    have HID : Hid (∀ X, Below wr.heap.size wr X → Calls Tryz.prog 16 #[.agg #[v0, v1, v2, v3, v4, v5], .agg #[u0, u1, u2, u3, u4]] X fun e w' => e = .returned (.bool (decide (n = 0))) ∧ Below wr.heap.size wr w') := Lib.hid (fun X hX => (is_any hs1 hs2 HF.out.tf HF.out.df (STR.out.next hX).td.le (STR.out.next hX).tab.2 (STR.out.next hX).tab.1 (STR.out.next hX).td.tv (STR.out.next hX).td.dv).mono fun e w' h => ⟨by rw [h.1, HL.out.isd], hX.trans (h.2.mono hX.size)⟩)
    have HSM : Hid (n = 0 → ∀ X, Below wr.heap.size wr X → Calls Tryz.prog 28 #[.agg #[.int .i64 m.kind, .int .i64 m.num, .string m.str, .slice A5 m.keys.length c5, .slice A6 m.kids.length c6], .agg #[u0, u1, u2, u3, u4]] X fun e w' => e = .returned (.bool true) ∧ Below wr.heap.size wr w') := Lib.hid (fun hn0 X hX => (same_v (B := wr.heap.size) HMF.out HF.out.df hX.size ⟨_, _, _, _, _, rfl, HDM.out.keep (Nat.le_refl _) fun q hq => hX.cell hq⟩ ((STR.out.next hX).td.dv.keep (by have := STR.out.td.hB; have := STR.out.td.sz; omega) fun _ _ => rfl)).mono fun e w' h => ⟨by rw [h.1, HL.out.same hn0, dsame_refl], hX.trans (h.2.mono hX.size)⟩)
    have HSA : Hid (∀ X, Below wr.heap.size wr X → Calls Tryz.prog 28 #[.agg #[.int .i64 m.kind, .int .i64 m.num, .string m.str, .slice A7 m.keys.length c7, .slice A8 m.kids.length c8], .agg #[.int .i64 m.kind, .int .i64 m.num, .string m.str, .slice A5 m.keys.length c5, .slice A6 m.kids.length c6]] X fun e w' => e = .returned (.bool true) ∧ Below wr.heap.size wr w') := Lib.hid (fun X hX => (same_v (B := wr.heap.size) HMF.out HMF.out hX.size ⟨_, _, _, _, _, rfl, HDA.out.keep (Nat.le_refl _) fun q hq => hX.cell hq⟩ ⟨_, _, _, _, _, rfl, HDM.out.keep (Nat.le_refl _) fun q hq => hX.cell hq⟩).mono fun e w' h => ⟨by rw [h.1, dsame_refl], hX.trans (h.2.mono hX.size)⟩)
    have HW0 : Hid (Below w.heap.size w wr) := Lib.hid STR.out.td.bl
    clear hS
    have hrefl2 : Below wr.heap.size wr wr := Below.refl _ _
    by_cases hn0 : n = 0
    · have HSM0 := Lib.hid (HSM.out hn0)
      subst hn0
      obtain ⟨x0, x1, x2, x3, x4, x5, y0, y1, y2, y3, y4, k0, k1, k2, k3, k4, l0, l1, l2, l3, l4⟩ := HS.out _ hrefl2
      go_wp2_with fail
      clear x0 x1 x2 x3 x4 x5 y0 y1 y2 y3 y4 k0 k1 k2 k3 k4 l0 l1 l2 l3 l4
      with_reducible refine (HIM.out _ hrefl2).mono ?_
      rintro e w12 ⟨rfl, h12⟩
      obtain ⟨x0, x1, x2, x3, x4, x5, y0, y1, y2, y3, y4, k0, k1, k2, k3, k4, l0, l1, l2, l3, l4⟩ := HS.out _ h12
      go_wp2_with fail
      clear x0 x1 x2 x3 x4 x5 y0 y1 y2 y3 y4 k0 k1 k2 k3 k4 l0 l1 l2 l3 l4
      with_reducible refine (HID.out _ h12).mono ?_
      rintro e w13 ⟨rfl, h13⟩
      obtain ⟨x0, x1, x2, x3, x4, x5, y0, y1, y2, y3, y4, k0, k1, k2, k3, k4, l0, l1, l2, l3, l4⟩ := HS.out _ h13
      go_wp2_with fail
      clear x0 x1 x2 x3 x4 x5 y0 y1 y2 y3 y4 k0 k1 k2 k3 k4 l0 l1 l2 l3 l4
      with_reducible refine (HSM0.out _ h13).mono ?_
      rintro e w14 ⟨rfl, h14⟩
      obtain ⟨x0, x1, x2, x3, x4, x5, y0, y1, y2, y3, y4, k0, k1, k2, k3, k4, l0, l1, l2, l3, l4⟩ := HS.out _ h14
      go_wp2_with fail
      clear x0 x1 x2 x3 x4 x5 y0 y1 y2 y3 y4 k0 k1 k2 k3 k4 l0 l1 l2 l3 l4
      with_reducible refine (HSA.out _ h14).mono ?_
      rintro e w15 ⟨rfl, h15⟩
      go_wp2_with fail
      go_ret
      exact ⟨rfl, HW0.out.trans (h15.mono HW0.out.size)⟩
    · have g0 : ((n : Int) == 0) = false := by simp; omega
      have g1 : (0 : Int) < (n : Int) := by omega
      have g2 : decide ((0 : Int) < (n : Int)) = true := by simp; omega
      have HID0 : Hid (∀ X, Below wr.heap.size wr X → Calls Tryz.prog 16 #[.agg #[v0, v1, v2, v3, v4, v5], .agg #[u0, u1, u2, u3, u4]] X fun e w' => e = .returned (.bool false) ∧ Below wr.heap.size wr w') := Lib.hid (fun X hX => (HID.out X hX).mono fun e w' h => ⟨by rw [h.1, decide_eq_false hn0], h.2⟩)
      clear hn0
      obtain ⟨x0, x1, x2, x3, x4, x5, y0, y1, y2, y3, y4, k0, k1, k2, k3, k4, l0, l1, l2, l3, l4⟩ := HS.out _ hrefl2
      go_wp2_with fail
      clear x0 x1 x2 x3 x4 x5 y0 y1 y2 y3 y4 k0 k1 k2 k3 k4 l0 l1 l2 l3 l4
      with_reducible refine (HIM.out _ hrefl2).mono ?_
      rintro e w12 ⟨rfl, h12⟩
      obtain ⟨x0, x1, x2, x3, x4, x5, y0, y1, y2, y3, y4, k0, k1, k2, k3, k4, l0, l1, l2, l3, l4⟩ := HS.out _ h12
      go_wp2_with fail
      clear x0 x1 x2 x3 x4 x5 y0 y1 y2 y3 y4 k0 k1 k2 k3 k4 l0 l1 l2 l3 l4
      with_reducible refine (HID0.out _ h12).mono ?_
      rintro e w13 ⟨rfl, h13⟩
      obtain ⟨x0, x1, x2, x3, x4, x5, y0, y1, y2, y3, y4, k0, k1, k2, k3, k4, l0, l1, l2, l3, l4⟩ := HS.out _ h13
      go_wp2_with fail
      clear x0 x1 x2 x3 x4 x5 y0 y1 y2 y3 y4 k0 k1 k2 k3 k4 l0 l1 l2 l3 l4
      with_reducible refine (HSA.out _ h13).mono ?_
      rintro e w15 ⟨rfl, h15⟩
      go_wp2_with fail
      go_ret
      exact ⟨rfl, HW0.out.trans (h15.mono HW0.out.size)⟩
end Go.Proofs.YtlemlgllkcgigaaGreatDoor
