/-
  ValidMends: the walk.
-/
import Derived.Test.YteecdmceleanjaaGreatDoorB42
import Derived.Test.YteecdmceleanjaaGreatDoorB50
namespace Go.Proofs.YteecdmceleanjaaGreatDoor
open Go.RowKit

theorem ownIn_row {w : World} {base : Nat} {d : D} {v0 v1 v2 v3 v4 : Value} {F : List Nat} (h : OwnIn w base d v0 v1 v2 v3 v4 F) : ∃ cs, w.ownsRow base 29 5 v4 d.kids.length cs := by
  obtain ⟨_, _, _, _, _⟩ := d
  simp only [OwnIn] at h
  obtain ⟨_, _, _, _, cs, _, h4, _⟩ := h
  exact ⟨cs, h4⟩
/-- Cells of a row of the call's own were written. -/
structure Spoilt (wb wr : World) (base : Nat) (v4 : Value) (n : Nat) : Prop where
  far : ∀ j, v4.ownBlock ≠ some j → wr.heap[j]? = wb.heap[j]?
  row : 0 < n → ∃ (g c : Nat) (cur : Array Value), v4 = .slice (some ⟨g, 0, none⟩) n c ∧ base ≤ g ∧ wr.heap[g]? = some (.cells cur 29 (0, 0)) ∧ n * 5 ≤ cur.size
  bl : Below base wb wr
theorem Spoilt.start {wb : World} {base n : Nat} {v4 : Value} {cs : List Value} (h : wb.ownsRow base 29 5 v4 n cs) : Spoilt wb wb base v4 n := by
  refine ⟨fun _ _ => rfl, fun hn => ?_, Below.refl _ _⟩
  rcases h.2 with ⟨rfl, h0⟩ | ⟨g, cap, cur, rfl, hb, hh, hc, _, hs, _⟩
  · omega
  · exact ⟨g, cap, cur, rfl, hb, hh, by rw [hs]; exact Nat.mul_le_mul_right 5 hc⟩
theorem Spoilt.step {wb wr : World} {base n g c i : Nat} {cur : Array Value} (h : Spoilt wb wr base (.slice (some ⟨g, 0, none⟩) n c) n) (hb : base ≤ g) (hg : wr.heap[g]? = some (.cells cur 29 (0, 0))) (hs : n * 5 ≤ cur.size) (u : Value) : Spoilt wb (wr.setCell ⟨g, i, none⟩ u) base (.slice (some ⟨g, 0, none⟩) n c) n := by
  refine ⟨fun j hj => (Below.heap_setCell _ _ _ j (fun e => hj (by subst e; rfl))).trans (h.far j hj), fun _ => ⟨g, c, cur.setIfInBounds i u, rfl, hb, by simp [World.setCell, Array.getElem?_modify, hg], by simpa using hs⟩, h.bl.setCell (by exact hb) _⟩
set_option maxHeartbeats 8000000 in
set_option maxRecDepth 100000 in
theorem vmends_law {t : T} {d : D} {v0 v1 v2 v3 v4 v5 u0 u1 u2 u3 u4 : Value} {w : World} (htab : Tab w) (ht : TypeIn w w.heap.size t v0 v1 v2 v3 v4 v5) (hd : DocIn w w.heap.size d u0 u1 u2 u3 u4) :
    Calls Tryz.prog 4 #[.agg #[v0, v1, v2, v3, v4, v5], .agg #[u0, u1, u2, u3, u4]] w fun e w' => e = .returned (.bool true) ∧ Below w.heap.size w w' := by
  have ST0 := Lib.hid (LawSt.start ht hd htab)
  clear ht hd htab
  go_enter Tryz.func4, Tryz.ntmps4
  go_wp2_with fail
  generalize (w.alloc (.cells #[v0, v1, v2, v3, v4, v5] 26)).alloc (.cells #[u0, u1, u2, u3, u4] 29) = w0 at *
  refine (vsmall_any _ ST0.out.tab.1 ST0.out.tab.2).mono ?_
  rintro e w1 ⟨rfl, hb1⟩
  have ST1 := Lib.hid (ST0.out.next hb1)
  clear hb1 ST0
  obtain ⟨x0, x1, x2, x3, x4, x5⟩ := ST1.out.td.bt.cells
  obtain ⟨y0, y1, y2, y3, y4⟩ := ST1.out.td.bd.cells
  have sz1 := ST1.out.td.sz
  go_wp2_with fail
  refine (vfew_any ST1.out.td.le ST1.out.td.tv ST1.out.td.dv).mono ?_
  rintro e w2 ⟨rfl, hb2⟩
  have ST2 := Lib.hid (ST1.out.next hb2)
  clear hb2 x0 x1 x2 x3 x4 x5 y0 y1 y2 y3 y4 sz1
  cases hfew : fewV2 t d
  · go_wp2_with fail
    go_ret
    exact ⟨rfl, ST2.out.td.bl⟩
  have HF := Lib.hid (small5_of hfew)
  have hs1 : t.size ≤ 10000 := by have := HF.out.ts; omega
  have hs2 : t.depth ≤ 900 := by have := HF.out.td; omega
  have hs3 : d.size ≤ 10000 := by have := HF.out.ds; omega
  have hs4 : d.depth ≤ 10000 := by have := HF.out.dd; omega
  clear hfew ST1
  obtain ⟨x0, x1, x2, x3, x4, x5⟩ := ST2.out.td.bt.cells
  have sz2 := ST2.out.td.sz
  go_wp2_with fail
  refine (tright_any hs1 hs2 HF.out.tf ST2.out.td.le ST2.out.td.tv).mono ?_
  rintro e w3 ⟨rfl, hb3⟩
  have ST3 := Lib.hid (ST2.out.next hb3)
  clear hb3 x0 x1 x2 x3 x4 x5 sz2 ST2
  cases hr : rightT t
  · go_wp2_with fail
    go_ret
    exact ⟨rfl, ST3.out.td.bl⟩
  have HR := Lib.hid hr
  clear hr
  obtain ⟨x0, x1, x2, x3, x4, x5⟩ := ST3.out.td.bt.cells
  have sz3 := ST3.out.td.sz
  go_wp2_with fail
  refine (narrow_any t.depth t _ _ w.heap.size (Nat.le_refl _) HF.out.tf ST3.out.td.le ST3.out.td.tv).mono ?_
  rintro e w4 ⟨rfl, hb4⟩
  have ST4 := Lib.hid (ST3.out.next hb4)
  clear hb4 x0 x1 x2 x3 x4 x5 sz3 ST3
  cases hn : narrowB t
  · go_wp2_with fail
    go_ret
    exact ⟨rfl, ST4.out.td.bl⟩
  clear hn
  -- the copy of what was handed in
  obtain ⟨y0, y1, y2, y3, y4⟩ := ST4.out.td.bd.cells
  have sz4 := ST4.out.td.sz
  have HDP := Lib.hid (rdeep_any d.depth d _ _ _ _ _ w4 w.heap.size (Nat.le_refl _) HF.out.df ST4.out.td.le (ST4.out.td.din.keep (w' := w4) (Nat.le_refl _) fun p hp => ST4.out.td.bl.cell (p := p) hp))
  go_wp2_with fail
  refine HDP.out.mono ?_
  rintro e w5 ⟨z0, z1, z2, z3, z4, rfl, hG, hb5⟩
  obtain ⟨A3, c3, A4, c4, rfl, rfl, rfl, rfl, rfl⟩ := hG.forms
  have HI5 := Lib.hid (hG.toIn (B := w5.heap.size) fun k hk => hk.2)
  have ST5 := Lib.hid (ST4.out.next hb5)
  have hz5 := hb5.size
  clear hG hb5 y0 y1 y2 y3 y4 HDP ST4
  go_upto_region 6 with fail
  obtain ⟨w6, hw6⟩ : ∃ w6, w6 = w5.alloc (.cells #[.int .i64 d.kind, .int .i64 d.num, .string d.str, .slice A3 d.keys.length c3, .slice A4 d.kids.length c4] 29) := ⟨_, rfl⟩
  have HB6 : Hid (Below w5.heap.size w5 w6) := by rw [hw6]; exact (Below.refl _ _).alloc (Nat.le_refl _) _
  have HX6 : Hid (Box5 w6 w5.heap.size (.int .i64 d.kind) (.int .i64 d.num) (.string d.str) (.slice A3 d.keys.length c3) (.slice A4 d.kids.length c4)) := by rw [hw6]; exact Box5.new w5 _ _ _ _ _
  have hz6 : w6.heap.size = w5.heap.size + 1 := by rw [hw6]; simp
  rw [← hw6]
  clear hw6
  have ST6 := Lib.hid (ST5.out.next HB6.out)
  have HI6 := Lib.hid (HI5.out.keep (w' := w6) (Nat.le_refl _) fun p hp => HB6.out.cell (p := p) hp)
  clear ST5 HI5
  -- the program's answer
  obtain ⟨x0, x1, x2, x3, x4, x5⟩ := ST6.out.td.bt.cells
  obtain ⟨y0, y1, y2, y3, y4⟩ := ST6.out.td.bd.cells
  have sz6 := ST6.out.td.sz
  have HMF := Lib.hid (mendV_fit (t := t) (d := d) HF.out.tf HF.out.df)
  go_wp2_with fail
  refine (mendV_any hs1 hs2 HF.out.tf HF.out.df ST6.out.td.le ST6.out.td.tv ST6.out.td.dv).mono ?_
  rintro e w7 ⟨z0, z1, z2, z3, z4, G, rfl, hG, hGn, hb7⟩
  obtain ⟨m, hm⟩ : ∃ m, m = (mendV t d).1 := ⟨_, rfl⟩
  obtain ⟨n, hnn⟩ : ∃ n, n = (mendV t d).2 := ⟨_, rfl⟩
  rw [← hm] at hG HMF
  rw [← hnn]
  have HM := Lib.hid hm; have HNN := Lib.hid hnn
  obtain ⟨A5, c5, A6, c6, rfl, rfl, rfl, rfl, rfl⟩ := hG.doc.forms
  have HG7 := Lib.hid hG
  have HL7 : Hid (∀ k, (Value.slice A6 m.kids.length c6).ownBlock = some k → w6.heap.size ≤ k ∧ k < w7.heap.size) := Lib.hid (by obtain ⟨cs, h⟩ := ownIn_row hG; exact fun k e => h.lt k e)
  have ST7 := Lib.hid (ST6.out.next hb7)
  have HX7 := Lib.hid (HX6.out.same (hb7.block _ (by omega)))
  have HI7 := Lib.hid (HI6.out.keep (w' := w7) (Nat.le_refl _) fun p hp => hb7.cell (p := p) (by omega))
  have hz7 := hb7.size
  clear hG hGn hb7 hm hnn x0 x1 x2 x3 x4 x5 y0 y1 y2 y3 y4 ST6 HX6 HI6
  go_upto_region 7 with fail
  obtain ⟨w8, hw8⟩ : ∃ w8, w8 = w7.alloc (.cells #[.int .i64 m.kind, .int .i64 m.num, .string m.str, .slice A5 m.keys.length c5, .slice A6 m.kids.length c6] 29) := ⟨_, rfl⟩
  have HB8 : Hid (Below w7.heap.size w7 w8) := by rw [hw8]; exact (Below.refl _ _).alloc (Nat.le_refl _) _
  have HY8 : Hid (Box5 w8 w7.heap.size (.int .i64 m.kind) (.int .i64 m.num) (.string m.str) (.slice A5 m.keys.length c5) (.slice A6 m.kids.length c6)) := by rw [hw8]; exact Box5.new w7 _ _ _ _ _
  have hz8 : w8.heap.size = w7.heap.size + 1 := by rw [hw8]; simp
  rw [← hw8]
  clear hw8
  have ST8 := Lib.hid (ST7.out.next HB8.out)
  have HX8 := Lib.hid (HX7.out.same (HB8.out.block _ (by omega)))
  have HI8 := Lib.hid (HI7.out.keep (w' := w8) (Nat.le_refl _) fun p hp => HB8.out.cell (p := p) (by omega))
  have HG8 := Lib.hid (HG7.out.same (Nat.le_refl _) fun k hk => HB8.out.block k (HG7.out.lt k hk).2)
  clear ST7 HX7 HI7 HG7
  -- the document's own answer
  obtain ⟨x0, x1, x2, x3, x4, x5⟩ := ST8.out.td.bt.cells
  obtain ⟨y0, y1, y2, y3, y4⟩ := ST8.out.td.bd.cells
  have sz8 := ST8.out.td.sz
  go_wp2_with fail
  refine (rmendV_any hs1 hs2 HF.out.tf HF.out.df hs3 hs4 ST8.out.td.le ST8.out.td.tv ST8.out.td.dv).mono ?_
  rintro e w9 ⟨z0, z1, z2, z3, z4, rfl, hR, hb9⟩
  rw [← HM.out] at hR
  rw [← HNN.out]
  obtain ⟨A7, c7, A8, c8, rfl, rfl, rfl, rfl, rfl⟩ := hR.forms
  have HR9 := Lib.hid (hR.toIn (B := w9.heap.size) fun k hk => hk.2)
  have ST9 := Lib.hid (ST8.out.next hb9)
  have HX9 := Lib.hid (HX8.out.same (hb9.block _ (by omega)))
  have HY9 := Lib.hid (HY8.out.same (hb9.block _ (by omega)))
  have HI9 := Lib.hid (HI8.out.keep (w' := w9) (Nat.le_refl _) fun p hp => hb9.cell (p := p) (by omega))
  have HG9 := Lib.hid (HG8.out.same (w' := w9) (Nat.le_refl _) fun k hk => hb9.block k (HG8.out.lt k hk).2)
  have hz9 := hb9.size
  clear hR hb9 x0 x1 x2 x3 x4 x5 y0 y1 y2 y3 y4 ST8 HX8 HY8 HI8 HG8
  go_upto_region 8 with fail
  obtain ⟨wa, hwa⟩ : ∃ wa, wa = w9.alloc (.cells #[.int .i64 m.kind, .int .i64 m.num, .string m.str, .slice A7 m.keys.length c7, .slice A8 m.kids.length c8] 29) := ⟨_, rfl⟩
  have HBA : Hid (Below w9.heap.size w9 wa) := by rw [hwa]; exact (Below.refl _ _).alloc (Nat.le_refl _) _
  have HZA : Hid (Box5 wa w9.heap.size (.int .i64 m.kind) (.int .i64 m.num) (.string m.str) (.slice A7 m.keys.length c7) (.slice A8 m.kids.length c8)) := by rw [hwa]; exact Box5.new w9 _ _ _ _ _
  have hza : wa.heap.size = w9.heap.size + 1 := by rw [hwa]; simp
  rw [← hwa]
  clear hwa
  have STA := Lib.hid (ST9.out.next HBA.out)
  have HXA := Lib.hid (HX9.out.same (HBA.out.block _ (by omega)))
  have HYA := Lib.hid (HY9.out.same (HBA.out.block _ (by omega)))
  have HIA := Lib.hid (HI9.out.keep (w' := wa) (Nat.le_refl _) fun p hp => HBA.out.cell (p := p) (by omega))
  have HGA := Lib.hid (HG9.out.same (w' := wa) (Nat.le_refl _) fun k hk => HBA.out.block k (HG9.out.lt k hk).2)
  have HRA := Lib.hid (HR9.out.keep (w' := wa) (Nat.le_refl _) fun p hp => HBA.out.cell (p := p) hp)
  clear ST9 HX9 HY9 HI9 HG9 HR9
  obtain ⟨k0, k1, k2, k3, k4⟩ := HYA.out.cells
  obtain ⟨l0, l1, l2, l3, l4⟩ := HZA.out.cells
  have hnn : ((n : Int) == (n : Int)) = true := by simp
  have HSM := Lib.hid (rsame_v (B := wa.heap.size) (w := wa) HMF.out HMF.out (Nat.le_refl _) ⟨_, _, _, _, _, rfl, HGA.out.doc.keep (w' := wa) (Nat.le_refl _) (fun _ _ => rfl)⟩ ⟨_, _, _, _, _, rfl, HRA.out.keep (w' := wa) (by omega) fun _ _ => rfl⟩)
  go_wp2_with fail
  refine HSM.out.mono ?_
  rintro e wb ⟨rfl, hbb⟩
  rw [dsame_refl]
  have STB := Lib.hid (STA.out.next hbb)
  have HXB := Lib.hid (HXA.out.same (hbb.block _ (by omega)))
  have HYB := Lib.hid (HYA.out.same (hbb.block _ (by omega)))
  have HIB := Lib.hid (HIA.out.keep (w' := wb) (Nat.le_refl _) fun p hp => hbb.cell (p := p) (by omega))
  have HGB := Lib.hid (HGA.out.same (w' := wb) (Nat.le_refl _) fun k hk => hbb.block k (HGA.out.lt k hk).2)
  have hzb := hbb.size
  clear hbb k0 k1 k2 k3 k4 l0 l1 l2 l3 l4 HSM STA HXA HYA HIA HGA HRA HZA
  obtain ⟨cs, hrow⟩ := ownIn_row HGB.out
  have HSP := Lib.hid (Spoilt.start hrow)
  have hml : m.kids.length ≤ 10000 := HMF.out.kids
  clear hrow HGB
  go_wp2_with fail
  go_loopw [13] (fun i wr => ∃ k : Nat, k ≤ m.kids.length ∧ i = .int .i64 k ∧ Hid (Spoilt wb wr w6.heap.size (.slice A6 m.kids.length c6) m.kids.length)) (fun i _ => m.kids.length - (intOf i).toNat)
  case atStart => exact ⟨0, Nat.zero_le _, rfl, HSP.out⟩
  case round =>
    obtain ⟨k, hk0, rfl, HS⟩ := hrel
    have hne7 : (Value.slice A6 m.kids.length c6).ownBlock ≠ some w7.heap.size := fun e => by have := HL7.out _ e; omega
    have HYR := Lib.hid (HYB.out.same (HS.out.far _ hne7))
    obtain ⟨k0, k1, k2, k3, k4⟩ := HYR.out.cells
    by_cases hlt : k < m.kids.length
    · obtain ⟨g, c, cur, e6, hgb, hgh, hcs⟩ := HS.out.row (by omega)
      injection e6 with e61 _ e63
      subst e61 e63
      have hci : k * 5 + 1 < cur.size := by omega
      have sc : wr.cell? ⟨g, k * 5 + 1, none⟩ = some cur[k * 5 + 1] := by rw [cell_of_row wr g (k * 5 + 1) _ _ _ hgh]; simp [hci]
      have sf : wr.frozen? ⟨g, k * 5 + 1, none⟩ = false := free_block hgh _
      have hik0 : (0 : Int) ≤ (k : Int) := by omega
      have hik1 : (k : Int) < (m.kids.length : Int) := by omega
      have HN := Lib.hid (HS.out.step (i := k * 5 + 1) hgb hgh hcs (.int .i64 (-77)))
      clear hgh hne7
      go_wp2_with fail
      refine ⟨⟨k + 1, by omega, by go_num, HN⟩, by simp [intOf]; omega⟩
    · have hkl : k = m.kids.length := by omega
      subst hkl
      have hlow : ∀ j, j < w6.heap.size → wr.heap[j]? = wb.heap[j]? := fun j hj => HS.out.far j fun e => by have := HL7.out _ e; omega
      have HXR := Lib.hid (HXB.out.same (hlow _ (by omega)))
      have HDR := Lib.hid (STB.out.td.bd.same (hlow _ (by omega)))
      have hkw : ∀ p : Addr, p.block < w.heap.size → wr.cell? p = w.cell? p := fun p hp => (World.cell?_of_block (a := p) (hlow p.block (by omega))).trans (STB.out.td.bl.cell (p := p) hp)
      have hbw : Below w.heap.size w wr := STB.out.td.bl.trans (HS.out.bl.mono (by omega))
      have hzr := HS.out.bl.size
      obtain ⟨l0, l1, l2, l3, l4⟩ := HXR.out.cells
      obtain ⟨y0, y1, y2, y3, y4⟩ := HDR.out.cells
      have HSM := Lib.hid (rsame_v (B := w5.heap.size) (w := wr) HF.out.df HF.out.df (by omega) ⟨_, _, _, _, _, rfl, HIB.out.keep (w' := wr) (Nat.le_refl _) fun p hp => World.cell?_of_block (a := p) (hlow p.block (by omega))⟩ ⟨_, _, _, _, _, rfl, STB.out.td.din.keep (w' := wr) (by omega) hkw⟩)
      have HBW := Lib.hid hbw
      clear hlow hkw hbw
      go_wp2_with fail
      refine HSM.out.mono ?_
      rintro e we ⟨rfl, hbe⟩
      rw [dsame_refl]
      go_wp2_with fail
      go_ret
      exact ⟨rfl, HBW.out.trans (hbe.mono HBW.out.size)⟩
end Go.Proofs.YteecdmceleanjaaGreatDoor
