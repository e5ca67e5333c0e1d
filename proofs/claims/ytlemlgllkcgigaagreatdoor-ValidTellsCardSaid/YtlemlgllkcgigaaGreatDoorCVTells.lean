/-
  The walk of ValidTells.
-/
import Derived.Test.YtlemlgllkcgigaaGreatDoorB40
namespace Go.Proofs.YtlemlgllkcgigaaGreatDoor
open Go.RowKit

theorem bl_alloc {w X : World} (h : Below w.heap.size w X) (o : Obj) : Below w.heap.size w (X.alloc o) := h.alloc h.size o
/-- Where the law stands. -/
structure LawSt (w0 w : World) (t : T) (d : D) (v0 v1 v2 v3 v4 v5 u0 u1 u2 u3 u4 : Value) : Prop where
  td : TD w0 w w0.heap.size t d v0 v1 v2 v3 v4 v5 u0 u1 u2 u3 u4
  tab : Tab w
theorem LawSt.next {w0 w w' : World} {t : T} {d : D} {v0 v1 v2 v3 v4 v5 u0 u1 u2 u3 u4 : Value} (h : LawSt w0 w t d v0 v1 v2 v3 v4 v5 u0 u1 u2 u3 u4) (hb : Below w.heap.size w w') : LawSt w0 w' t d v0 v1 v2 v3 v4 v5 u0 u1 u2 u3 u4 :=
  ⟨h.td.next (hb.mono h.td.sz), h.tab.next hb⟩
theorem LawSt.start {w : World} {t : T} {d : D} {v0 v1 v2 v3 v4 v5 u0 u1 u2 u3 u4 : Value} (ht : TypeIn w w.heap.size t v0 v1 v2 v3 v4 v5) (hd : DocIn w w.heap.size d u0 u1 u2 u3 u4) (htab : Tab w) :
    LawSt w ((w.alloc (.cells #[v0, v1, v2, v3, v4, v5] 26)).alloc (.cells #[u0, u1, u2, u3, u4] 29)) t d v0 v1 v2 v3 v4 v5 u0 u1 u2 u3 u4 :=
  ⟨TD.start (Nat.le_refl _) ht hd, (htab.next ((Below.refl _ _).alloc (Nat.le_refl _) _)).next ((Below.refl _ _).alloc (Nat.le_refl _) _)⟩
set_option maxHeartbeats 8000000 in
set_option maxRecDepth 100000 in
theorem vtells_law {t : T} {d : D} {v0 v1 v2 v3 v4 v5 u0 u1 u2 u3 u4 : Value} {w : World} (htab : Tab w) (ht : TypeIn w w.heap.size t v0 v1 v2 v3 v4 v5) (hd : DocIn w w.heap.size d u0 u1 u2 u3 u4) :
    Calls Tryz.prog 3 #[.agg #[v0, v1, v2, v3, v4, v5], .agg #[u0, u1, u2, u3, u4]] w fun e w' => e = .returned (.bool true) ∧ Below w.heap.size w w' := by
  have ST0 := Lib.hid (LawSt.start ht hd htab)
  clear ht hd htab
  go_enter Tryz.func3, Tryz.ntmps3
  go_wp2_with fail
  generalize (w.alloc (.cells #[v0, v1, v2, v3, v4, v5] 26)).alloc (.cells #[u0, u1, u2, u3, u4] 29) = w0 at *
  refine (vsmall_any _ ST0.out.tab.1 ST0.out.tab.2).mono ?_
  rintro e w1 ⟨rfl, hb1⟩
  have ST1 := Lib.hid (ST0.out.next hb1)
  clear hb1 ST0
  obtain ⟨x0, x1, x2, x3, x4, x5⟩ := ST1.out.td.bt.cells
  obtain ⟨y0, y1, y2, y3, y4⟩ := ST1.out.td.bd.cells
  have sz1 := ST1.out.td.sz
  go_wp2_with fail
  refine (vfew_any ST1.out.td.le ST1.out.td.tv ST1.out.td.dv).mono ?_
  rintro e w2 ⟨rfl, hb2⟩
  have ST2 := Lib.hid (ST1.out.next hb2)
  clear hb2 x0 x1 x2 x3 x4 x5 y0 y1 y2 y3 y4 sz1
  cases hfew : fewV2 t d
  · go_wp2_with fail
    go_ret
    exact ⟨rfl, ST2.out.td.bl⟩
  have HF := Lib.hid (small5_of hfew)
  clear hfew ST1
  obtain ⟨x0, x1, x2, x3, x4, x5⟩ := ST2.out.td.bt.cells
  obtain ⟨y0, y1, y2, y3, y4⟩ := ST2.out.td.bd.cells
  have sz2 := ST2.out.td.sz
  go_wp2_with fail
  refine (check_any (by have := HF.out.ts; omega) (by have := HF.out.td; omega) HF.out.tf HF.out.df ST2.out.td.le ST2.out.tab.2 ST2.out.tab.1 ST2.out.td.tv ST2.out.td.dv).mono ?_
  rintro e w3 ⟨va, rfl, hva, hb3⟩
  obtain ⟨A7, c7, rfl⟩ := ownsRow_slice hva
  have hsa : StrsS w3 (fun k => k < w3.heap.size) (.slice A7 (firstV t d).1.length c7) (firstV t d).1 := (strsS_own hva).keep (fun k hk => (hva.lt k hk).2) fun _ _ => rfl
  have HSA := Lib.hid hsa
  have hHP := firstV_path t d
  have ST3 := Lib.hid (ST2.out.next hb3)
  clear hva hsa hb3 x0 x1 x2 x3 x4 x5 y0 y1 y2 y3 y4 sz2 ST2
  generalize hfv : firstV t d = fv at *
  have HFV := Lib.hid hfv
  have HHP := Lib.hid hHP
  clear hfv hHP
  obtain ⟨x0, x1, x2, x3, x4, x5⟩ := ST3.out.td.bt.cells
  obtain ⟨y0, y1, y2, y3, y4⟩ := ST3.out.td.bd.cells
  have sz3 := ST3.out.td.sz
  go_upto_region 6 with fail
  obtain ⟨w4, hw4⟩ : ∃ w4, w4 = w3.alloc (.cells #[.slice A7 fv.1.length c7, .int .i64 fv.2] 34) := ⟨_, rfl⟩
  have HB4 : Hid (Below w3.heap.size w3 w4) := by rw [hw4]; exact (Below.refl _ _).alloc (Nat.le_refl _) _
  have HC4 : Hid (w4.heap[w3.heap.size]? = some (.cells #[.slice A7 fv.1.length c7, .int .i64 fv.2] 34 (0, 0))) := by rw [hw4]; exact heap_alloc_new w3 _
  have hz4 : w3.heap.size + 1 = w4.heap.size := by rw [hw4]; simp
  rw [← hw4]
  clear hw4 x0 x1 x2 x3 x4 x5 y0 y1 y2 y3 y4
  have ST4 := Lib.hid (ST3.out.next HB4.out)
  obtain ⟨x0, x1, x2, x3, x4, x5⟩ := ST4.out.td.bt.cells
  obtain ⟨y0, y1, y2, y3, y4⟩ := ST4.out.td.bd.cells
  go_wp2_with fail
  refine (rcheckA_any (by have := HF.out.ts; omega) (by have := HF.out.td; omega) HF.out.tf HF.out.df (by have := HF.out.ds; omega) (by have := HF.out.dd; omega) ST4.out.td.le ST4.out.td.tv ST4.out.td.dv).mono ?_
  rintro e w5 ⟨vb, rfl, hvb, hb5⟩
  rw [HFV.out] at hvb
  rw [HFV.out]
  have hvb2 := hvb
  obtain ⟨A8, c8, rfl, _, _⟩ := hvb2
  have HSB5 := Lib.hid hvb
  have HB5 := Lib.hid hb5
  have hz5 := hb5.size
  clear hvb hb5 x0 x1 x2 x3 x4 x5 y0 y1 y2 y3 y4
  have ST5 := Lib.hid (ST4.out.next HB5.out)
  obtain ⟨x0, x1, x2, x3, x4, x5⟩ := ST5.out.td.bt.cells
  obtain ⟨y0, y1, y2, y3, y4⟩ := ST5.out.td.bd.cells
  have l0 : w.heap.size < w5.heap.size := by omega
  have l1 : w.heap.size + 1 < w5.heap.size := by omega
  go_upto_region 7 with fail
  obtain ⟨wr, hwr⟩ : ∃ wr, wr = w5.alloc (.cells #[.slice A8 fv.1.length c8, .int .i64 fv.2] 34) := ⟨_, rfl⟩
  have HBR : Hid (Below w5.heap.size w5 wr) := by rw [hwr]; exact (Below.refl _ _).alloc (Nat.le_refl _) _
  have HCR : Hid (wr.heap[w5.heap.size]? = some (.cells #[.slice A8 fv.1.length c8, .int .i64 fv.2] 34 (0, 0))) := by rw [hwr]; exact heap_alloc_new w5 _
  have hzr : w5.heap.size + 1 = wr.heap.size := by rw [hwr]; simp
  rw [← hwr]
  clear hwr x0 x1 x2 x3 x4 x5 y0 y1 y2 y3 y4
  have STR := Lib.hid (ST5.out.next HBR.out)
  have hr7 := (HBR.out.block w3.heap.size (by omega)).trans ((HB5.out.block w3.heap.size (by omega)).trans HC4.out)
  have HC7 := Lib.hid hr7
  have HSA7 : Hid (StrsS wr (fun k => k < wr.heap.size) (.slice A7 fv.1.length c7) fv.1) := Lib.hid (HSA.out.keep (fun k hk => by omega) fun q hq => (HBR.out.cell (p := q) (by omega)).trans ((HB5.out.cell (p := q) (by omega)).trans (HB4.out.cell (p := q) hq)))
  have HSA8 : Hid (StrsS wr (fun k => k < wr.heap.size) (.slice A8 fv.1.length c8) fv.1) := Lib.hid (HSB5.out.keep (fun k hk => by omega) fun q hq => HBR.out.cell (p := q) hq.2)
  clear hr7
  obtain ⟨x0, x1, x2, x3, x4, x5⟩ := STR.out.td.bt.cells
  obtain ⟨y0, y1, y2, y3, y4⟩ := STR.out.td.bd.cells
  have a0 := cell_block HC7.out 0; have a1 := cell_block HC7.out 1
  have b0 := cell_block HCR.out 0; have b1 := cell_block HCR.out 1
  simp only [List.getElem?_toArray, List.getElem?_cons_zero, List.getElem?_cons_succ] at a0 a1 b0 b1
  have hS : ∀ X : World, Below wr.heap.size wr X → X.cell? ⟨w.heap.size, 0, none⟩ = some v0 ∧ X.cell? ⟨w.heap.size, 1, none⟩ = some v1 ∧ X.cell? ⟨w.heap.size, 2, none⟩ = some v2 ∧ X.cell? ⟨w.heap.size, 3, none⟩ = some v3 ∧ X.cell? ⟨w.heap.size, 4, none⟩ = some v4 ∧ X.cell? ⟨w.heap.size, 5, none⟩ = some v5 ∧ X.cell? ⟨w.heap.size + 1, 0, none⟩ = some u0 ∧ X.cell? ⟨w.heap.size + 1, 1, none⟩ = some u1 ∧ X.cell? ⟨w.heap.size + 1, 2, none⟩ = some u2 ∧ X.cell? ⟨w.heap.size + 1, 3, none⟩ = some u3 ∧ X.cell? ⟨w.heap.size + 1, 4, none⟩ = some u4 ∧ X.cell? ⟨w3.heap.size, 0, none⟩ = some (.slice A7 fv.1.length c7) ∧ X.cell? ⟨w3.heap.size, 1, none⟩ = some (.int .i64 fv.2) ∧ X.cell? ⟨w5.heap.size, 0, none⟩ = some (.slice A8 fv.1.length c8) ∧ X.cell? ⟨w5.heap.size, 1, none⟩ = some (.int .i64 fv.2) := fun X h => by
    have hX : ∀ b o, b < wr.heap.size → X.cell? ⟨b, o, none⟩ = wr.cell? ⟨b, o, none⟩ := fun b o hb => h.cell (p := ⟨b, o, none⟩) hb
    exact ⟨(hX _ _ (by omega)).trans x0, (hX _ _ (by omega)).trans x1, (hX _ _ (by omega)).trans x2, (hX _ _ (by omega)).trans x3, (hX _ _ (by omega)).trans x4, (hX _ _ (by omega)).trans x5, (hX _ _ (by omega)).trans y0, (hX _ _ (by omega)).trans y1, (hX _ _ (by omega)).trans y2, (hX _ _ (by omega)).trans y3, (hX _ _ (by omega)).trans y4, (hX _ _ (by omega)).trans a0, (hX _ _ (by omega)).trans a1, (hX _ _ (by omega)).trans b0, (hX _ _ (by omega)).trans b1⟩
  have HS := Lib.hid hS
  have hs1 : t.size ≤ 10000 := by have := HF.out.ts; omega
  have hs2 : t.depth ≤ 900 := by have := HF.out.td; omega
  have hs3 : d.size ≤ 10000 := by have := HF.out.ds; omega
  have hs4 : d.depth ≤ 10000 := by have := HF.out.dd; omega
  have HALL : Hid (∀ X, Below wr.heap.size wr X → Calls Tryz.prog 14 #[.agg #[v0, v1, v2, v3, v4, v5], .agg #[u0, u1, u2, u3, u4]] X fun e w' => ∃ r, e = .returned r ∧ FltsV w' (fun k => k < w'.heap.size) r (allV t d) ∧ Below wr.heap.size wr w') := Lib.hid (fun X hX => (vall_any hs1 hs2 HF.out.tf HF.out.df (STR.out.next hX).td.le (STR.out.next hX).tab.2 (STR.out.next hX).tab.1 (STR.out.next hX).td.tv (STR.out.next hX).td.dv).mono fun e w' h => by
    obtain ⟨r, h1, h2, h3⟩ := h.flts
    exact ⟨r, h1, h2.keep (fun _ h => h.2) fun _ _ => rfl, hX.trans (h3.mono hX.size)⟩)
  have HRALL : Hid (∀ X, Below wr.heap.size wr X → Calls Tryz.prog 15 #[.agg #[v0, v1, v2, v3, v4, v5], .agg #[u0, u1, u2, u3, u4]] X fun e w' => ∃ r, e = .returned r ∧ FltsV w' (fun k => k < w'.heap.size) r (allV t d) ∧ Below X.heap.size X w' ∧ Below wr.heap.size wr w') := Lib.hid (fun X hX => (rallA_any hs1 hs2 HF.out.tf HF.out.df hs3 hs4 (STR.out.next hX).td.le (STR.out.next hX).td.tv (STR.out.next hX).td.dv).mono fun e w' h => by
    obtain ⟨r, h1, h2, h3⟩ := h
    exact ⟨r, h1, h2.keep (fun _ h => h.2) fun _ _ => rfl, h3, hX.trans (h3.mono hX.size)⟩)
  have HFA : Hid (∀ X r r', Below wr.heap.size wr X → FltsV X (fun k => k < X.heap.size) r (allV t d) → FltsV X (fun k => k < X.heap.size) r' (allV t d) → Calls Tryz.prog 13 #[r, r'] X fun e w' => e = .returned (.bool true) ∧ Below wr.heap.size wr w') := Lib.hid (fun X r r' hX h1 h2 => (rfaults_same (fun _ h => h) (fun _ h => h) h1 h2 (allV_len t d) (allV_path t d)).mono fun e w' h => ⟨h.1, hX.trans (h.2.mono hX.size)⟩)
  have HFO : Hid (∀ X g g', Below wr.heap.size wr X → g < X.heap.size → g' < X.heap.size → X.cell? ⟨g, 0, none⟩ = some (.slice A7 fv.1.length c7) → X.cell? ⟨g, 1, none⟩ = some (.int .i64 fv.2) → X.cell? ⟨g', 0, none⟩ = some (.slice A8 fv.1.length c8) → X.cell? ⟨g', 1, none⟩ = some (.int .i64 fv.2) →
      Calls Tryz.prog 13 #[.slice (some ⟨g, 0, none⟩) 1 1, .slice (some ⟨g', 0, none⟩) 1 1] X fun e w' => e = .returned (.bool true) ∧ Below wr.heap.size wr w') := Lib.hid (fun X g g' hX hg hg' c0 c1 c2 c3 => (rfaults_same (l := [(fv.1, fv.2)]) (fun _ h => h) (fun _ h => h)
        (flts_one (S := fun k => k < X.heap.size) hg (HSA7.out.keep (fun k hk => Nat.lt_of_lt_of_le hk hX.size) fun q hq => hX.cell hq) c0 c1 rfl) (flts_one (S := fun k => k < X.heap.size) hg' (HSA8.out.keep (fun k hk => Nat.lt_of_lt_of_le hk hX.size) fun q hq => hX.cell hq) c2 c3 rfl) (by simp) (fun f hf => by simp only [List.mem_singleton] at hf; subst hf; exact HHP.out)).mono fun e w' h => ⟨h.1, hX.trans (h.2.mono hX.size)⟩)
  have HFP : Hid (∀ X, Below wr.heap.size wr X → Calls Tryz.prog 13 #[.slice (some ⟨X.heap.size, 0, none⟩) 1 1, .slice (some ⟨X.heap.size + 1, 0, none⟩) 1 1] ((X.alloc (.cells #[.slice A7 fv.1.length c7, .int .i64 fv.2] 34)).alloc (.cells #[.slice A8 fv.1.length c8, .int .i64 fv.2] 34)) fun e w' => e = .returned (.bool true) ∧ Below wr.heap.size wr w') := Lib.hid (fun X hX => by
    have k1 : ((X.alloc (.cells #[.slice A7 fv.1.length c7, .int .i64 fv.2] 34)).alloc (.cells #[.slice A8 fv.1.length c8, .int .i64 fv.2] 34)).heap[X.heap.size]? = some (.cells #[.slice A7 fv.1.length c7, .int .i64 fv.2] 34 (0, 0)) := (Below.heap_alloc _ _ _ (by simp)).trans (heap_alloc_new X _)
    have k2 : ((X.alloc (.cells #[.slice A7 fv.1.length c7, .int .i64 fv.2] 34)).alloc (.cells #[.slice A8 fv.1.length c8, .int .i64 fv.2] 34)).heap[X.heap.size + 1]? = some (.cells #[.slice A8 fv.1.length c8, .int .i64 fv.2] 34 (0, 0)) := heap_alloc_new' (by simp) _
    exact HFO.out _ X.heap.size (X.heap.size + 1) (bl_alloc (bl_alloc hX _) _) (by simp; omega) (by simp) (cell_block k1 0) (cell_block k1 1) (cell_block k2 0) (cell_block k2 1))
  have HFQ : Hid (∀ X, Below wr.heap.size wr X → Calls Tryz.prog 13 #[.slice (some ⟨X.heap.size + 1, 0, none⟩) 1 1, .slice (some ⟨X.heap.size, 0, none⟩) 1 1] ((X.alloc (.cells #[.slice A8 fv.1.length c8, .int .i64 fv.2] 34)).alloc (.cells #[.slice A7 fv.1.length c7, .int .i64 fv.2] 34)) fun e w' => e = .returned (.bool true) ∧ Below wr.heap.size wr w') := Lib.hid (fun X hX => by
    have k1 : ((X.alloc (.cells #[.slice A8 fv.1.length c8, .int .i64 fv.2] 34)).alloc (.cells #[.slice A7 fv.1.length c7, .int .i64 fv.2] 34)).heap[X.heap.size]? = some (.cells #[.slice A8 fv.1.length c8, .int .i64 fv.2] 34 (0, 0)) := (Below.heap_alloc _ _ _ (by simp)).trans (heap_alloc_new X _)
    have k2 : ((X.alloc (.cells #[.slice A8 fv.1.length c8, .int .i64 fv.2] 34)).alloc (.cells #[.slice A7 fv.1.length c7, .int .i64 fv.2] 34)).heap[X.heap.size + 1]? = some (.cells #[.slice A7 fv.1.length c7, .int .i64 fv.2] 34 (0, 0)) := heap_alloc_new' (by simp) _
    exact HFO.out _ (X.heap.size + 1) X.heap.size (bl_alloc (bl_alloc hX _) _) (by simp) (by simp; omega) (cell_block k2 0) (cell_block k2 1) (cell_block k1 0) (cell_block k1 1))
  have HIS : Hid (∀ X, Below wr.heap.size wr X → Calls Tryz.prog 16 #[.agg #[v0, v1, v2, v3, v4, v5], .agg #[u0, u1, u2, u3, u4]] X fun e w' => e = .returned (.bool (isV t d)) ∧ Below wr.heap.size wr w') := Lib.hid (fun X hX => (is_any hs1 hs2 HF.out.tf HF.out.df (STR.out.next hX).td.le (STR.out.next hX).tab.2 (STR.out.next hX).tab.1 (STR.out.next hX).td.tv (STR.out.next hX).td.dv).mono fun e w' h => ⟨h.1, hX.trans (h.2.mono hX.size)⟩)
  have HRIS : Hid (∀ X, Below wr.heap.size wr X → Calls Tryz.prog 17 #[.agg #[v0, v1, v2, v3, v4, v5], .agg #[u0, u1, u2, u3, u4]] X fun e w' => e = .returned (.bool (isV t d)) ∧ Below wr.heap.size wr w') := Lib.hid (fun X hX => (risA_any hs1 hs2 HF.out.tf HF.out.df hs3 hs4 (STR.out.next hX).td.le (STR.out.next hX).td.tv (STR.out.next hX).td.dv).mono fun e w' h => ⟨h.1, hX.trans (h.2.mono hX.size)⟩)
  have HFT : Hid (∀ X, Below wr.heap.size wr X → Calls Tryz.prog 18 #[.agg #[v0, v1, v2, v3, v4, v5], .agg #[u0, u1, u2, u3, u4]] X fun e w' => e = .returned (.int .i64 (fitsAV t d)) ∧ Below wr.heap.size wr w') := Lib.hid (fun X hX => (fitsA_any hs1 hs2 HF.out.tf HF.out.df (STR.out.next hX).td.le (STR.out.next hX).td.tv (STR.out.next hX).td.dv).mono fun e w' h => ⟨h.1, hX.trans (h.2.mono hX.size)⟩)
  have HRFT : Hid (∀ X, Below wr.heap.size wr X → Calls Tryz.prog 19 #[.agg #[v0, v1, v2, v3, v4, v5], .agg #[u0, u1, u2, u3, u4]] X fun e w' => e = .returned (.int .i64 (fitsAV t d)) ∧ Below wr.heap.size wr w') := Lib.hid (fun X hX => (rfitsA_any hs1 hs2 HF.out.tf HF.out.df hs3 hs4 (STR.out.next hX).td.le (STR.out.next hX).td.tv (STR.out.next hX).td.dv).mono fun e w' h => ⟨h.1, hX.trans (h.2.mono hX.size)⟩)
  have hrefl : Below wr.heap.size wr wr.drew := (Below.refl _ _).drew
  generalize hiv : isV t d = iv at *
  generalize hft : fitsAV t d = ft at *
  clear hiv hft
  have giv : (iv == iv) = true := by simp
  have gft : (ft == ft) = true := by simp
  have HW0 : Hid (Below w.heap.size w wr) := Lib.hid STR.out.td.bl
  clear x0 x1 x2 x3 x4 x5 y0 y1 y2 y3 y4 a0 a1 b0 b1 hS
  go_region_held3 (fun w' => w'.cell? ⟨w.heap.size, 0, none⟩ = some v0 ∧ w'.cell? ⟨w.heap.size, 1, none⟩ = some v1 ∧ w'.cell? ⟨w.heap.size, 2, none⟩ = some v2 ∧ w'.cell? ⟨w.heap.size, 3, none⟩ = some v3 ∧ w'.cell? ⟨w.heap.size, 4, none⟩ = some v4 ∧ w'.cell? ⟨w.heap.size, 5, none⟩ = some v5 ∧ w'.cell? ⟨w.heap.size + 1, 0, none⟩ = some u0 ∧ w'.cell? ⟨w.heap.size + 1, 1, none⟩ = some u1 ∧ w'.cell? ⟨w.heap.size + 1, 2, none⟩ = some u2 ∧ w'.cell? ⟨w.heap.size + 1, 3, none⟩ = some u3 ∧ w'.cell? ⟨w.heap.size + 1, 4, none⟩ = some u4 ∧ w'.cell? ⟨w3.heap.size, 0, none⟩ = some (.slice A7 fv.1.length c7) ∧ w'.cell? ⟨w3.heap.size, 1, none⟩ = some (.int .i64 fv.2) ∧ w'.cell? ⟨w5.heap.size, 0, none⟩ = some (.slice A8 fv.1.length c8) ∧ w'.cell? ⟨w5.heap.size, 1, none⟩ = some (.int .i64 fv.2))
    (first | with_reducible exact HS.out _ hrefl | with_reducible exact HS.out _ h10 | with_reducible exact HS.out _ h11 | with_reducible exact HS.out _ h12 | with_reducible exact HS.out _ h13 | with_reducible exact HS.out _ h14 | with_reducible exact HS.out _ h15 | with_reducible exact HS.out _ h16 | with_reducible exact HS.out _ h17 | with_reducible exact HS.out _ (bl_alloc h12 _) | with_reducible exact HS.out _ (bl_alloc (bl_alloc h12 _) _))
    ((first
      | (go_at_call 14; with_reducible refine (HALL.out _ hrefl).mono ?_; rintro e w10 ⟨r10, rfl, hf10, h10⟩; have HF10 := Lib.hid hf10; clear hf10)
      | (go_at_call 15; with_reducible refine (HRALL.out _ h10).mono ?_; rintro e w11 ⟨r11, rfl, hf11, hb11, h11⟩; have HF11 := Lib.hid hf11; have HG11 := Lib.hid (HF10.out.keep (w' := w11) (S' := fun k => k < w11.heap.size) (fun k hk => Nat.lt_of_lt_of_le hk hb11.size) fun q hq => hb11.cell hq); clear hf11 hb11)
      | (go_at_call 13; with_reducible refine (HFA.out _ _ _ h11 HG11.out HF11.out).mono ?_; rintro e w12 ⟨rfl, h12⟩)
      | (go_at_call 13; (have h9 := HFP.out w12 h12; with_reducible refine Calls.mono h9 ?_; clear h9; rintro e w13 ⟨rfl, h13⟩))
      | (go_at_call 13; (have h9 := HFQ.out w12 h12; with_reducible refine Calls.mono h9 ?_; clear h9; rintro e w13 ⟨rfl, h13⟩))
      | (go_at_call 16; with_reducible refine (HIS.out _ h13).mono ?_; rintro e w14 ⟨rfl, h14⟩)
      | (go_at_call 17; with_reducible refine (HRIS.out _ h14).mono ?_; rintro e w15 ⟨rfl, h15⟩)
      | (go_at_call 18; with_reducible refine (HFT.out _ h15).mono ?_; rintro e w16 ⟨rfl, h16⟩)
      | (go_at_call 19; with_reducible refine (HRFT.out _ h16).mono ?_; rintro e w17 ⟨rfl, h17⟩)))
  all_goals (go_wp2_with fail)
  all_goals go_ret
  all_goals exact ⟨rfl, HW0.out.trans (h17.mono HW0.out.size)⟩
end Go.Proofs.YtlemlgllkcgigaaGreatDoor
