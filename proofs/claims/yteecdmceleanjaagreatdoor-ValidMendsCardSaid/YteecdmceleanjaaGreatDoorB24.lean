/-
  valid.mend, Mend.
  valid.Mend.
  The law's small type of layer 5, and what is told of it: plain lemmas, and some.
-/
import Derived.Test.YteecdmceleanjaaGreatDoorB23
namespace Go.Proofs.YteecdmceleanjaaGreatDoor
open Go.RowKit

/-- A made document, stored in the result's variable. -/
theorem MadeDoc2.stored {w w2 w8 : World} {r : Nat} {x : D} {n : Value} {A7 A8 : Option Addr} {c7 c8 : Nat} {G : List Nat} (hG : OwnIn w8 w2.heap.size x (.int .i64 x.kind) (.int .i64 x.num) (.string x.str) (.slice A7 x.keys.length c7) (.slice A8 x.kids.length c8) G) (hn : G.Nodup) (hb : Below w.heap.size w w2) (hb8 : Below w2.heap.size w2 w8) (hr : w.heap.size ≤ r) (hr2 : r < w2.heap.size) :
    MadeDoc2 w.heap.size w x n (.returned (.tuple #[.agg #[.int .i64 x.kind, .int .i64 x.num, .string x.str, .slice A7 x.keys.length c7, .slice A8 x.kids.length c8], n])) (((((w8.setCell ⟨r, 0, none⟩ (.int .i64 x.kind)).setCell ⟨r, 1, none⟩ (.int .i64 x.num)).setCell ⟨r, 2, none⟩ (.string x.str)).setCell ⟨r, 3, none⟩ (.slice A7 x.keys.length c7)).setCell ⟨r, 4, none⟩ (.slice A8 x.kids.length c8)) := by
  have hb9 : Below w.heap.size w w8 := hb.trans (hb8.mono hb.size)
  have hs := hb.size
  refine ⟨_, _, _, _, _, G, rfl, hG.same (by omega) fun k hk => ?_, hn, ((((hb9.setCell (by exact hr) _).setCell (by exact hr) _).setCell (by exact hr) _).setCell (by exact hr) _).setCell (by exact hr) _⟩
  have hne : k ≠ r := by have := (hG.lt k hk).1; omega
  rw [Below.heap_setCell _ _ _ k hne, Below.heap_setCell _ _ _ k hne, Below.heap_setCell _ _ _ k hne, Below.heap_setCell _ _ _ k hne, Below.heap_setCell _ _ _ k hne]
set_option maxHeartbeats 16000000 in
set_option maxRecDepth 100000 in
theorem mend_any : ∀ m, MendTo m := by
  intro m
  induction m with
  | zero => intro t d tv uv w B hm; have := T.depth_pos t; omega
  | succ m ih =>
    intro t d tv uv w B hm hr hf hfd hpd hds hB ht hd
    obtain ⟨v0, v1, v2, v3, v4, v5, rfl, hti⟩ := ht
    obtain ⟨u0, u1, u2, u3, u4, rfl, hdi⟩ := hd
    have hok := leastOk_of (show soundT t = true by have h := (rightT_small hr).2.2; rw [allT_eq, Bool.and_eq_true] at h; exact h.1)
    have ST := Lib.hid ((TD.start hB hti hdi).next (w' := ((w.alloc (.cells #[v0, v1, v2, v3, v4, v5] 26)).alloc (.cells #[u0, u1, u2, u3, u4] 29)).alloc (.cells #[.int .i64 0, .int .i64 0, .string ⟨#[]⟩, .slice none 0 0, .slice none 0 0] 29)) ((Below.refl _ _).alloc (by simp) _))
    have HR : Hid (Box5 (((w.alloc (.cells #[v0, v1, v2, v3, v4, v5] 26)).alloc (.cells #[u0, u1, u2, u3, u4] 29)).alloc (.cells #[.int .i64 0, .int .i64 0, .string ⟨#[]⟩, .slice none 0 0, .slice none 0 0] 29)) (w.heap.size + 1 + 1) (.int .i64 0) (.int .i64 0) (.string ⟨#[]⟩) (.slice none 0 0) (.slice none 0 0)) := Box5.new' (by simp) _ _ _ _ _
    have hz : (((w.alloc (.cells #[v0, v1, v2, v3, v4, v5] 26)).alloc (.cells #[u0, u1, u2, u3, u4] 29)).alloc (.cells #[.int .i64 0, .int .i64 0, .string ⟨#[]⟩, .slice none 0 0, .slice none 0 0] 29)).heap.size = w.heap.size + 3 := by simp
    obtain ⟨A3, c3, A4, c4, A5, c5, rfl, rfl, rfl, rfl, rfl, rfl⟩ := hti.forms
    obtain ⟨B3, d3, B4, d4, rfl, rfl, rfl, rfl, rfl⟩ := hdi.forms
    have HF := Lib.hid hf; have HFD := Lib.hid hfd; have HRT := Lib.hid hr; have HPD := Lib.hid hpd; have HIH := Lib.hid ih; have HM := Lib.hid hm; have HOK := Lib.hid hok; have HDS := Lib.hid hds
    clear hti hdi hf hfd hr hpd ih hm hok hds
    go_enter Tryz.func51, Tryz.ntmps51
    go_wp2_with fail
    generalize (((w.alloc (.cells #[.int .i64 t.kind, .int .i64 t.lo, .int .i64 t.hi, .slice A3 t.names.length c3, .slice A4 t.fields.length c4, .slice A5 t.of.length c5] 26)).alloc (.cells #[.int .i64 d.kind, .int .i64 d.num, .string d.str, .slice B3 d.keys.length d3, .slice B4 d.kids.length d4] 29)).alloc (.cells #[.int .i64 0, .int .i64 0, .string ⟨#[]⟩, .slice none 0 0, .slice none 0 0] 29)) = w1 at *
    refine (fits_any HF.out HFD.out ST.out.le ST.out.tv ST.out.dv).mono ?_
    rintro e w2 ⟨rfl, hb2⟩
    have hz2 := hb2.size
    have ST2 := Lib.hid (ST.out.next (hb2.mono (by omega)))
    obtain ⟨x0, x1, x2, x3, x4, x5⟩ := ST2.out.bt.cells
    obtain ⟨y0, y1, y2, y3, y4⟩ := ST2.out.bd.cells
    have HR2 := Lib.hid (HR.out.same (hb2.block _ (by omega)))
    have hrl : w.heap.size + 1 + 1 < w2.heap.size := by omega
    have HBW := Lib.hid ST2.out.bl
    -- the result's variable, behind a call
    have RES : Hid (∀ w8, Below w2.heap.size w2 w8 → Box5 w8 (w.heap.size + 1 + 1) (.int .i64 0) (.int .i64 0) (.string ⟨#[]⟩) (.slice none 0 0) (.slice none 0 0)) := Lib.hid (fun w8 h => HR2.out.same (h.block _ hrl))
    clear hb2 hz2
    by_cases h0 : fitsV t d = 0
    case neg =>
      have EM : Hid (t.mend d = (t.least, 1)) := Lib.hid (by rw [mend_eq, if_neg h0])
      obtain ⟨n8, hn8, hne8⟩ : ∃ n8 : Int, fitsV t d = n8 ∧ n8 ≠ 0 := ⟨_, rfl, h0⟩
      have hnb : (n8 != 0) = true := by simp [hne8]
      have hca := least_v (B := B) (w := w2) (by have := (rightT_small HRT.out).1; omega) (by have := (rightT_small HRT.out).2.1; omega) HF.out ST2.out.le ST2.out.tv
      rw [leastV_right HRT.out] at hca
      have HCA := Lib.hid hca
      rw [hn8]
      clear hn8 hne8 h0 hca
      go_wp2_with fail
      go_at_call 26
      refine HCA.out.mono ?_
      rintro e w8 ⟨z0, z1, z2, z3, z4, G, rfl, hG, hGn, hb8⟩
      obtain ⟨x, hx⟩ : ∃ x, t.least = x := ⟨_, rfl⟩
      rw [hx] at hG EM
      obtain ⟨A7, c7, A8, c8, rfl, rfl, rfl, rfl, rfl⟩ := hG.doc.forms
      have HG := Lib.hid hG; have HB8 := Lib.hid hb8
      have HRB := Lib.hid (RES.out w8 hb8)
      clear hG hb8 hx x0 x1 x2 x3 x4 x5 y0 y1 y2 y3 y4
      obtain ⟨r0, r1, r2, r3, r4⟩ := HRB.out.cells
      have r5 := HRB.out.frozen
      go_wp2_with fail
      have hfin := ((((HRB.out.set0 (.int .i64 x.kind)).set1 (.int .i64 x.num)).set2 (.string x.str)).set3 (.slice A7 x.keys.length c7)).set4 (.slice A8 x.kids.length c8)
      clear r0 r1 r2 r3 r4 r5
      refine ret_cell5_2 rfl rfl rfl hfin.load rfl ?_
      rw [EM.out]
      exact MadeDoc2.stored HG.out hGn HBW.out HB8.out (by omega) hrl
    have HZ := Lib.hid h0
    rw [h0]
    clear h0
    by_cases hk1 : t.kind = 1
    · have hdk : d.kind = 1 := (faults_rec (p := []) hk1 (by rw [HZ.out]; decide)).2.1
      obtain ⟨x, nx, hmx⟩ : ∃ x nx, t.mend d = (x, nx) := ⟨_, _, rfl⟩
      have hca := mend_fields (w := w2) (B := B) HIH.out hk1 HM.out HRT.out HF.out HFD.out hdk HPD.out HDS.out ST2.out.le ST2.out.tv ST2.out.dv
      have hme := hmx
      rw [mend_eq, if_pos HZ.out, if_pos hk1] at hme
      injection hme with hme1 hme2
      rw [hme1, hme2] at hca
      have HCA := Lib.hid hca; have EM := Lib.hid hmx
      have g1 : (t.kind == 1) = true := by simp [hk1]
      clear hca hmx hme1 hme2 hk1 hdk
      go_wp2_with fail
      go_at_call 83
      refine HCA.out.mono ?_
      rintro e w8 ⟨z0, z1, z2, z3, z4, G, rfl, hG, hGn, hb8⟩
      obtain ⟨A7, c7, A8, c8, rfl, rfl, rfl, rfl, rfl⟩ := hG.doc.forms
      have HG := Lib.hid hG; have HB8 := Lib.hid hb8
      have HRB := Lib.hid (RES.out w8 hb8)
      clear hG hb8 x0 x1 x2 x3 x4 x5 y0 y1 y2 y3 y4
      obtain ⟨r0, r1, r2, r3, r4⟩ := HRB.out.cells
      have r5 := HRB.out.frozen
      go_wp2_with fail
      have hfin := ((((HRB.out.set0 (.int .i64 x.kind)).set1 (.int .i64 x.num)).set2 (.string x.str)).set3 (.slice A7 x.keys.length c7)).set4 (.slice A8 x.kids.length c8)
      clear r0 r1 r2 r3 r4 r5
      refine ret_cell5_2 rfl rfl rfl hfin.load rfl ?_
      rw [EM.out]
      exact MadeDoc2.stored HG.out hGn HBW.out HB8.out (by omega) hrl
    by_cases h23 : t.kind = 2 ∨ t.kind = 3
    · obtain ⟨q, hof⟩ := HOK.out.of1 h23
      obtain ⟨x, nx, hmx⟩ : ∃ x nx, t.mend d = (x, nx) := ⟨_, _, rfl⟩
      have hca := mend_kids (w := w2) (B := B) HIH.out h23 hof HM.out HRT.out HF.out HFD.out HZ.out HPD.out HDS.out ST2.out.le ST2.out.tv ST2.out.dv
      have hme := hmx
      rw [mend_eq, if_pos HZ.out, if_neg hk1, if_pos h23, hof] at hme
      injection hme with hme1 hme2
      simp only [mendO] at hme1 hme2
      rw [hme1, hme2] at hca
      have HCA := Lib.hid hca; have EM := Lib.hid hmx
      have g1 : (t.kind == 1) = false := by simp [hk1]
      clear hca hmx hme1 hme2 hof hk1
      rcases h23 with h2 | h3
      focus
        have g2 : (t.kind == 2) = true := by simp [h2]
        clear h2
        go_wp2_with fail
        go_at_call 84
      rotate_left
      focus
        have g2 : (t.kind == 2) = false := by simp [h3]
        have g3 : (t.kind == 3) = true := by simp [h3]
        clear h3
        go_wp2_with fail
        go_at_call 84
      all_goals (
        refine HCA.out.mono ?_
        rintro e w8 ⟨z0, z1, z2, z3, z4, G, rfl, hG, hGn, hb8⟩
        obtain ⟨A7, c7, A8, c8, rfl, rfl, rfl, rfl, rfl⟩ := hG.doc.forms
        have HG := Lib.hid hG; have HB8 := Lib.hid hb8
        have HRB := Lib.hid (RES.out w8 hb8)
        clear hG hb8 x0 x1 x2 x3 x4 x5 y0 y1 y2 y3 y4
        obtain ⟨r0, r1, r2, r3, r4⟩ := HRB.out.cells
        have r5 := HRB.out.frozen
        go_wp2_with fail
        have hfin := ((((HRB.out.set0 (.int .i64 x.kind)).set1 (.int .i64 x.num)).set2 (.string x.str)).set3 (.slice A7 x.keys.length c7)).set4 (.slice A8 x.kids.length c8)
        clear r0 r1 r2 r3 r4 r5
        refine ret_cell5_2 rfl rfl rfl hfin.load rfl ?_
        rw [EM.out]
        exact MadeDoc2.stored HG.out hGn HBW.out HB8.out (by omega) hrl)
    · have EM : Hid (t.mend d = (d, 0)) := Lib.hid (by rw [mend_eq, if_pos HZ.out, if_neg hk1, if_neg h23])
      have HCA := Lib.hid (copy_v (w := w2) (B := B) HFD.out ST2.out.le ST2.out.dv)
      have g1 : (t.kind == 1) = false := by simp [hk1]
      have g2 : (t.kind == 2) = false := by simp; omega
      have g3 : (t.kind == 3) = false := by simp; omega
      clear hk1 h23
      go_wp2_with fail
      go_at_call 50
      refine HCA.out.mono ?_
      rintro e w8 ⟨z0, z1, z2, z3, z4, G, rfl, hG, hGn, hb8⟩
      obtain ⟨A7, c7, A8, c8, rfl, rfl, rfl, rfl, rfl⟩ := hG.doc.forms
      have HG := Lib.hid hG; have HB8 := Lib.hid hb8
      have HRB := Lib.hid (RES.out w8 hb8)
      clear hG hb8 x0 x1 x2 x3 x4 x5 y0 y1 y2 y3 y4
      obtain ⟨r0, r1, r2, r3, r4⟩ := HRB.out.cells
      have r5 := HRB.out.frozen
      go_wp2_with fail
      have hfin := ((((HRB.out.set0 (.int .i64 d.kind)).set1 (.int .i64 d.num)).set2 (.string d.str)).set3 (.slice A7 d.keys.length c7)).set4 (.slice A8 d.kids.length c8)
      clear r0 r1 r2 r3 r4 r5
      refine ret_cell5_2 rfl rfl rfl hfin.load rfl ?_
      rw [EM.out]
      exact MadeDoc2.stored HG.out hGn HBW.out HB8.out (by omega) hrl
end Go.Proofs.YteecdmceleanjaaGreatDoor
namespace Go.Proofs.YteecdmceleanjaaGreatDoor
open Go.RowKit

def mendV (t : T) (d : D) : D × Nat := if bothB t d = true then t.mend d else (d, 0)
set_option maxHeartbeats 16000000 in
set_option maxRecDepth 100000 in
theorem mendV_any {t : T} {d : D} {tv uv : Value} {w : World} {B : Nat} (hs : t.size ≤ 10000) (hdp : t.depth ≤ 900) (hf : t.Fit) (hfd : d.Fit) (hB : B ≤ w.heap.size) (ht : TypeV w B t tv) (hd : DocV w B d uv) :
    Calls Tryz.prog 23 #[tv, uv] w (MadeDoc2 w.heap.size w (mendV t d).1 (.int .i64 (mendV t d).2)) := by
  obtain ⟨v0, v1, v2, v3, v4, v5, rfl, hti⟩ := ht
  obtain ⟨u0, u1, u2, u3, u4, rfl, hdi⟩ := hd
  have ST := Lib.hid ((TD.start hB hti hdi).next (w' := ((w.alloc (.cells #[v0, v1, v2, v3, v4, v5] 26)).alloc (.cells #[u0, u1, u2, u3, u4] 29)).alloc (.cells #[.int .i64 0, .int .i64 0, .string ⟨#[]⟩, .slice none 0 0, .slice none 0 0] 29)) ((Below.refl _ _).alloc (by simp) _))
  have HR : Hid (Box5 (((w.alloc (.cells #[v0, v1, v2, v3, v4, v5] 26)).alloc (.cells #[u0, u1, u2, u3, u4] 29)).alloc (.cells #[.int .i64 0, .int .i64 0, .string ⟨#[]⟩, .slice none 0 0, .slice none 0 0] 29)) (w.heap.size + 1 + 1) (.int .i64 0) (.int .i64 0) (.string ⟨#[]⟩) (.slice none 0 0) (.slice none 0 0)) := Box5.new' (by simp) _ _ _ _ _
  have hz : (((w.alloc (.cells #[v0, v1, v2, v3, v4, v5] 26)).alloc (.cells #[u0, u1, u2, u3, u4] 29)).alloc (.cells #[.int .i64 0, .int .i64 0, .string ⟨#[]⟩, .slice none 0 0, .slice none 0 0] 29)).heap.size = w.heap.size + 3 := by simp
  have HF := Lib.hid hf; have HFD := Lib.hid hfd
  clear hti hdi hf hfd
  go_enter Tryz.func23, Tryz.ntmps23
  go_wp2_with fail
  generalize (((w.alloc (.cells #[v0, v1, v2, v3, v4, v5] 26)).alloc (.cells #[u0, u1, u2, u3, u4] 29)).alloc (.cells #[.int .i64 0, .int .i64 0, .string ⟨#[]⟩, .slice none 0 0, .slice none 0 0] 29)) = w1 at *
  refine (both_any hs hdp HF.out HFD.out ST.out.le ST.out.tv ST.out.dv).mono ?_
  rintro e w2 ⟨rfl, hb2⟩
  have hz2 := hb2.size
  have ST2 := Lib.hid (ST.out.next (hb2.mono (by omega)))
  obtain ⟨x0, x1, x2, x3, x4, x5⟩ := ST2.out.bt.cells
  obtain ⟨y0, y1, y2, y3, y4⟩ := ST2.out.bd.cells
  have HR2 := Lib.hid (HR.out.same (hb2.block _ (by omega)))
  have hrl : w.heap.size + 1 + 1 < w2.heap.size := by omega
  have HBW := Lib.hid ST2.out.bl
  have RES : Hid (∀ w8, Below w2.heap.size w2 w8 → Box5 w8 (w.heap.size + 1 + 1) (.int .i64 0) (.int .i64 0) (.string ⟨#[]⟩) (.slice none 0 0) (.slice none 0 0)) := Lib.hid (fun w8 h => HR2.out.same (h.block _ hrl))
  clear hb2 hz2
  by_cases hr : bothB t d = true
  · have hp := bothB_parts hr
    have hrt : rightT t = true := by simp only [bothB, Bool.and_eq_true] at hr; exact hr.1
    obtain ⟨x, nx, hmx⟩ : ∃ x nx, t.mend d = (x, nx) := ⟨_, _, rfl⟩
    have EM : Hid (mendV t d = (x, nx)) := Lib.hid (by unfold mendV; rw [if_pos hr, hmx])
    have hca := mend_any t.depth t d _ _ w2 B (Nat.le_refl _) hrt HF.out HFD.out hp.2.2.2.2.2 hp.2.2.2.2.1 ST2.out.le ST2.out.tv ST2.out.dv
    rw [hmx] at hca
    have HCA := Lib.hid hca
    rw [hr]
    clear hr hp hrt hca hmx
    go_wp2_with fail
    go_at_call 51
    refine HCA.out.mono ?_
    rintro e w8 ⟨z0, z1, z2, z3, z4, G, rfl, hG, hGn, hb8⟩
    obtain ⟨A7, c7, A8, c8, rfl, rfl, rfl, rfl, rfl⟩ := hG.doc.forms
    have HG := Lib.hid hG; have HB8 := Lib.hid hb8
    have HRB := Lib.hid (RES.out w8 hb8)
    clear hG hb8 x0 x1 x2 x3 x4 x5 y0 y1 y2 y3 y4
    obtain ⟨r0, r1, r2, r3, r4⟩ := HRB.out.cells
    have r5 := HRB.out.frozen
    go_wp2_with fail
    have hfin := ((((HRB.out.set0 (.int .i64 x.kind)).set1 (.int .i64 x.num)).set2 (.string x.str)).set3 (.slice A7 x.keys.length c7)).set4 (.slice A8 x.kids.length c8)
    clear r0 r1 r2 r3 r4 r5
    refine ret_cell5_2 rfl rfl rfl hfin.load rfl ?_
    rw [EM.out]
    exact MadeDoc2.stored HG.out hGn HBW.out HB8.out (by omega) hrl
  · have hr' : bothB t d = false := by simpa using hr
    have hca := copy_v (w := w2) (B := B) HFD.out ST2.out.le ST2.out.dv
    obtain ⟨x, hx⟩ : ∃ x, d = x := ⟨_, rfl⟩
    have EM : Hid (mendV t d = (x, 0)) := Lib.hid (by unfold mendV; rw [if_neg hr, hx])
    rw [hx] at hca
    have HCA := Lib.hid hca
    rw [hr']
    clear hr hr' hca hx
    go_wp2_with fail
    go_at_call 50
    refine HCA.out.mono ?_
    rintro e w8 ⟨z0, z1, z2, z3, z4, G, rfl, hG, hGn, hb8⟩
    obtain ⟨A7, c7, A8, c8, rfl, rfl, rfl, rfl, rfl⟩ := hG.doc.forms
    have HG := Lib.hid hG; have HB8 := Lib.hid hb8
    have HRB := Lib.hid (RES.out w8 hb8)
    clear hG hb8 x0 x1 x2 x3 x4 x5 y0 y1 y2 y3 y4
    obtain ⟨r0, r1, r2, r3, r4⟩ := HRB.out.cells
    have r5 := HRB.out.frozen
    go_wp2_with fail
    have hfin := ((((HRB.out.set0 (.int .i64 x.kind)).set1 (.int .i64 x.num)).set2 (.string x.str)).set3 (.slice A7 x.keys.length c7)).set4 (.slice A8 x.kids.length c8)
    clear r0 r1 r2 r3 r4 r5
    refine ret_cell5_2 rfl rfl rfl hfin.load rfl ?_
    rw [EM.out]
    exact MadeDoc2.stored HG.out hGn HBW.out HB8.out (by omega) hrl
end Go.Proofs.YteecdmceleanjaaGreatDoor
namespace Go.Proofs.YteecdmceleanjaaGreatDoor
open Go.RowKit

def sn : ByteArray := ⟨#[110]⟩
def so : ByteArray := ⟨#[111]⟩
def tInt : T := .mk 4 3 9 [] [] []
def tBool : T := .mk 5 0 0 [] [] []
def tSome : T := .mk 1 0 0 [] [.mk sn false tInt, .mk so true tBool] []
/-- Two fields of the small type. -/
def SomeIn (w : World) (b off : Nat) : Prop :=
  w.cell? ⟨b, off, none⟩ = some (.string sn) ∧ w.cell? ⟨b, off + 1, none⟩ = some (.bool false) ∧ w.cell? ⟨b, off + 2, none⟩ = some (.int .i64 4) ∧ w.cell? ⟨b, off + 3, none⟩ = some (.int .i64 3) ∧ w.cell? ⟨b, off + 4, none⟩ = some (.int .i64 9) ∧ w.cell? ⟨b, off + 5, none⟩ = some (.slice none 0 0) ∧ w.cell? ⟨b, off + 6, none⟩ = some (.slice none 0 0) ∧ w.cell? ⟨b, off + 7, none⟩ = some (.slice none 0 0) ∧
  w.cell? ⟨b, off + 8, none⟩ = some (.string so) ∧ w.cell? ⟨b, off + 9, none⟩ = some (.bool true) ∧ w.cell? ⟨b, off + 10, none⟩ = some (.int .i64 5) ∧ w.cell? ⟨b, off + 11, none⟩ = some (.int .i64 0) ∧ w.cell? ⟨b, off + 12, none⟩ = some (.int .i64 0) ∧ w.cell? ⟨b, off + 13, none⟩ = some (.slice none 0 0) ∧ w.cell? ⟨b, off + 14, none⟩ = some (.slice none 0 0) ∧ w.cell? ⟨b, off + 15, none⟩ = some (.slice none 0 0)
theorem SomeIn.keep {w w' : World} {b off : Nat} (h : ∀ p : Addr, p.block = b → w'.cell? p = w.cell? p) (hs : SomeIn w b off) : SomeIn w' b off := by
  obtain ⟨h0, h1, h2, h3, h4, h5, h6, h7, h8, h9, h10, h11, h12, h13, h14, h15⟩ := hs
  exact ⟨(h _ rfl).trans h0, (h _ rfl).trans h1, (h _ rfl).trans h2, (h _ rfl).trans h3, (h _ rfl).trans h4, (h _ rfl).trans h5, (h _ rfl).trans h6, (h _ rfl).trans h7, (h _ rfl).trans h8, (h _ rfl).trans h9, (h _ rfl).trans h10, (h _ rfl).trans h11, (h _ rfl).trans h12, (h _ rfl).trans h13, (h _ rfl).trans h14, (h _ rfl).trans h15⟩
theorem strs_none {w : World} {B : Nat} : Strs w B (.slice none 0 0) [] := ⟨none, 0, rfl, by simp, fun h => absurd h (by simp)⟩
theorem fields_none {w : World} {B : Nat} : FieldsV w B (.slice none 0 0) [] := ⟨none, 0, rfl, by simp, fun h => absurd h (by simp)⟩
theorem types_none {w : World} {B : Nat} : TypesV w B (.slice none 0 0) [] := ⟨none, 0, rfl, by simp, fun h => absurd h (by simp)⟩
theorem t_leaf_in {w : World} {B : Nat} (k lo hi : Int) : TypeIn w B (.mk k lo hi [] [] []) (.int .i64 k) (.int .i64 lo) (.int .i64 hi) (.slice none 0 0) (.slice none 0 0) (.slice none 0 0) :=
  TypeIn.mk_ (d := .mk k lo hi [] [] []) strs_none fields_none types_none
theorem SomeIn.fields {w : World} {b off cc B : Nat} (h : SomeIn w b off) (hb : b < B) (hcc : 2 ≤ cc) : FieldsV w B (.slice (some ⟨b, off, none⟩) 2 cc) tSome.fields := by
  obtain ⟨h0, h1, h2, h3, h4, h5, h6, h7, h8, h9, h10, h11, h12, h13, h14, h15⟩ := h
  refine ⟨_, cc, rfl, hcc, fun _ => ⟨b, off, rfl, hb, ?_⟩⟩
  simp only [tSome, T.fields, FieldsIn, FieldIn, Nat.zero_mul, Nat.add_zero, Nat.add_assoc, Nat.reduceAdd, Nat.reduceMul]
  exact ⟨⟨h0, h1, _, _, _, _, _, _, h2, h3, h4, h5, h6, h7, t_leaf_in 4 3 9⟩, ⟨h8, h9, _, _, _, _, _, _, h10, h11, h12, h13, h14, h15, t_leaf_in 5 0 0⟩, trivial⟩
theorem SomeIn.type {w : World} {b off cc B : Nat} (h : SomeIn w b off) (hb : b < B) (hcc : 2 ≤ cc) : TypeV w B tSome (.agg #[.int .i64 1, .int .i64 0, .int .i64 0, .slice none 0 0, .slice (some ⟨b, off, none⟩) 2 cc, .slice none 0 0]) :=
  ⟨_, _, _, _, _, _, rfl, TypeIn.mk_ (d := tSome) strs_none (h.fields hb hcc) types_none⟩
theorem tSome_fit : tSome.Fit := by
  simp [tSome, tInt, tBool, T.Fit, T.FitsF, T.FitF, T.Fits, sn, so]
  decide
set_option maxHeartbeats 2000000 in
theorem some_any (w : World) : Calls Tryz.prog 34 #[] w fun e w' => ∃ b off cc, e = .returned (.agg #[.int .i64 1, .int .i64 0, .int .i64 0, .slice none 0 0, .slice (some ⟨b, off, none⟩) 2 cc, .slice none 0 0]) ∧ 2 ≤ cc ∧ b < w'.heap.size ∧ SomeIn w' b off ∧ Below w.heap.size w w' := by
  go_enter Tryz.func34, Tryz.ntmps34
  go_wp2_with fail
  have hn := heap_alloc_new (w.alloc (.cells #[.int .i64 1, .int .i64 0, .int .i64 0, .slice none 0 0, .slice (some ⟨w.heap.size + 1, 0, none⟩) 2 2, .slice none 0 0] 26)) (.cells #[.string sn, .bool false, .int .i64 4, .int .i64 3, .int .i64 9, .slice none 0 0, .slice none 0 0, .slice none 0 0, .string so, .bool true, .int .i64 5, .int .i64 0, .int .i64 0, .slice none 0 0, .slice none 0 0, .slice none 0 0] 48)
  rw [World.size_alloc] at hn
  refine ret_cell6 rfl rfl ((Box6.new w (.int .i64 1) (.int .i64 0) (.int .i64 0) (.slice none 0 0) (.slice (some ⟨w.heap.size + 1, 0, none⟩) 2 2) (.slice none 0 0)).alloc _).load rfl ⟨_, _, _, rfl, Nat.le_refl _, by simp, ?_, ((Below.refl _ _).alloc (Nat.le_refl _) _).alloc (by simp) _⟩
  refine ⟨?_, ?_, ?_, ?_, ?_, ?_, ?_, ?_, ?_, ?_, ?_, ?_, ?_, ?_, ?_, ?_⟩ <;> exact cell_block hn _

def sx : ByteArray := ⟨#[120]⟩
def dBad : D := .mk 1 0 ⟨#[]⟩ [sn, sx] [.mk 4 1 ⟨#[]⟩ [] [], .mk 4 2 ⟨#[]⟩ [] []]
def dMended : D := .mk 1 0 ⟨#[]⟩ [sn] [.mk 4 3 ⟨#[]⟩ [] []]
def dNone : D := .mk 1 0 ⟨#[]⟩ [] []
theorem bad_all : allV tSome dBad = [([sn], 8), ([sx], 10)] := by kernel_rfl
theorem bad_first : firstV tSome dBad = ([sn], 8) := by kernel_rfl
theorem bad_mend : mendV tSome dBad = (dMended, 2) := by kernel_rfl
theorem bad_is : isV tSome dBad = false := by kernel_rfl
theorem mended_is : isV tSome dMended = true := by kernel_rfl
theorem bad_fits : fitsAV tSome dBad = 0 := by kernel_rfl
theorem none_first : firstV tSome dNone = ([sn], 9) := by kernel_rfl
theorem dBad_fit : dBad.Fit := by simp [dBad, D.Fit, D.Fits, sn, sx]; decide
theorem dMended_fit : dMended.Fit := by simp [dMended, D.Fit, D.Fits, sn]; decide
theorem dNone_fit : dNone.Fit := by simp [dNone, D.Fit, D.Fits]; decide
end Go.Proofs.YteecdmceleanjaaGreatDoor
