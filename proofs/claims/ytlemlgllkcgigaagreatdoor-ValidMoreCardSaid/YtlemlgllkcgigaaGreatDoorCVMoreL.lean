/-
  ValidMore: the walk.
-/
import Derived.Test.YtlemlgllkcgigaaGreatDoorF40
import Derived.Test.YtlemlgllkcgigaaGreatDoorF29
import Derived.Deep.CutRange
import Derived.BigQuiet
import Derived.Deep.DeepCutAuto
namespace Go.Proofs.YtlemlgllkcgigaaGreatDoor
open Go.RowKit

/-- Where a law of a type and two documents stands. -/
structure LawSt3 (w0 w : World) (t : T) (d x : D) (v0 v1 v2 v3 v4 v5 u0 u1 u2 u3 u4 e0 e1 e2 e3 e4 : Value) : Prop where
  ls : LawSt w0 w t d v0 v1 v2 v3 v4 v5 u0 u1 u2 u3 u4
  bx : Box5 w (w0.heap.size + 2) e0 e1 e2 e3 e4
  xin : DocIn w0 w0.heap.size x e0 e1 e2 e3 e4
  sz : w0.heap.size + 3 ≤ w.heap.size
  glob : Glob w
section
variable {w0 w w' : World} {t : T} {d x : D} {v0 v1 v2 v3 v4 v5 u0 u1 u2 u3 u4 e0 e1 e2 e3 e4 : Value}
theorem LawSt3.next (h : LawSt3 w0 w t d x v0 v1 v2 v3 v4 v5 u0 u1 u2 u3 u4 e0 e1 e2 e3 e4) (hb : Below w.heap.size w w') : LawSt3 w0 w' t d x v0 v1 v2 v3 v4 v5 u0 u1 u2 u3 u4 e0 e1 e2 e3 e4 :=
  ⟨h.ls.next hb, h.bx.same (hb.block _ (by have := h.sz; omega)), h.xin, by have := h.sz; have := hb.size; omega, h.glob.below hb h.glob.size⟩
theorem LawSt3.start (ht : TypeIn w w.heap.size t v0 v1 v2 v3 v4 v5) (hd : DocIn w w.heap.size d u0 u1 u2 u3 u4) (hx : DocIn w w.heap.size x e0 e1 e2 e3 e4) (htab : Tab w) (hg : Glob w) :
    LawSt3 w (((w.alloc (.cells #[v0, v1, v2, v3, v4, v5] 26)).alloc (.cells #[u0, u1, u2, u3, u4] 29)).alloc (.cells #[e0, e1, e2, e3, e4] 29)) t d x v0 v1 v2 v3 v4 v5 u0 u1 u2 u3 u4 e0 e1 e2 e3 e4 :=
  ⟨(LawSt.start ht hd htab).next ((Below.refl _ _).alloc (Nat.le_refl _) _), Box5.new' (by simp) _ _ _ _ _, hx, by simp, ((hg.alloc _).alloc _).alloc _⟩
theorem LawSt3.xv (h : LawSt3 w0 w t d x v0 v1 v2 v3 v4 v5 u0 u1 u2 u3 u4 e0 e1 e2 e3 e4) : DocV w w0.heap.size x (.agg #[e0, e1, e2, e3, e4]) := ⟨_, _, _, _, _, rfl, h.xin.keep (Nat.le_refl _) fun p hp => h.ls.td.bl.cell (p := p) hp⟩
end
theorem strs_new {w : World} (s : ByteArray) : Strs (w.alloc (.cells #[.string s] 9)) (w.heap.size + 1) (.slice (some ⟨w.heap.size, 0, none⟩) 1 1) [s] :=
  ⟨_, 1, rfl, by simp, fun _ => ⟨w.heap.size, 0, rfl, by omega, fun i hi => by
    obtain rfl : i = 0 := by simpa using hi
    exact cell_block (heap_alloc_new w _) 0⟩⟩
set_option maxHeartbeats 8000000 in
set_option maxRecDepth 100000 in
theorem vmore_law {t : T} {d x : D} {s : ByteArray} {v0 v1 v2 v3 v4 v5 u0 u1 u2 u3 u4 e0 e1 e2 e3 e4 : Value} {w : World} (htab : Tab w) (hglob : Glob w) (hsh : Short s) (ht : TypeIn w w.heap.size t v0 v1 v2 v3 v4 v5) (hd : DocIn w w.heap.size d u0 u1 u2 u3 u4) (hx : DocIn w w.heap.size x e0 e1 e2 e3 e4) :
    Calls Tryz.prog 7 #[.agg #[v0, v1, v2, v3, v4, v5], .agg #[u0, u1, u2, u3, u4], .agg #[e0, e1, e2, e3, e4], .string s] w fun e w' => e = .returned (.bool true) ∧ Below w.heap.size w w' := by
  have ST0 := Lib.hid (LawSt3.start ht hd hx htab hglob)
  have HT := Lib.hid ht
  obtain ⟨A3, c3, A4, c4, A5, c5, rfl, q1, rfl, q3, q4, rfl⟩ := ht.forms
  clear q1 q3 q4
  obtain ⟨no, hno⟩ : ∃ no, t.of.length = no := ⟨_, rfl⟩
  rw [hno] at ST0 HT
  rw [hno]
  have HNO := Lib.hid hno
  have HSH := Lib.hid hsh
  clear ht hd hx htab hglob hno hsh
  go_enter Tryz.func7, Tryz.ntmps7
  go_wp2_with fail
  generalize ((w.alloc (.cells #[.int .i64 t.kind, v1, .int .i64 t.hi, v3, v4, .slice A5 no c5] 26)).alloc (.cells #[u0, u1, u2, u3, u4] 29)).alloc (.cells #[e0, e1, e2, e3, e4] 29) = w0 at *
  refine id ?_
  refine (vsmall_any _ ST0.out.ls.tab.1 ST0.out.ls.tab.2).mono ?_
  rintro e w1 ⟨rfl, hb1⟩
  have ST1 := Lib.hid (ST0.out.next hb1)
  clear hb1 ST0
  obtain ⟨x0, x1, x2, x3, x4, x5⟩ := ST1.out.ls.td.bt.cells
  obtain ⟨y0, y1, y2, y3, y4⟩ := ST1.out.ls.td.bd.cells
  have sz1 := ST1.out.sz
  go_wp2_with fail
  refine (vfew_any ST1.out.ls.td.le ST1.out.ls.td.tv ST1.out.ls.td.dv).mono ?_
  rintro e w2 ⟨rfl, hb2⟩
  have ST2 := Lib.hid (ST1.out.next hb2)
  clear hb2 x0 x1 x2 x3 x4 x5 y0 y1 y2 y3 y4 sz1 ST1
  obtain ⟨k0, k1, k2, k3, k4⟩ := ST2.out.bx.cells
  have sz2 := ST2.out.sz
  obtain ⟨okf, hokf⟩ : ∃ b, fewV2 t d = b := ⟨_, rfl⟩
  rw [hokf]
  go_wp2_with fail
  refine (few_v ST2.out.ls.td.le ST2.out.xv).mono ?_
  rintro e w3 ⟨rfl, hb3⟩
  have ST3 := Lib.hid (ST2.out.next hb3)
  clear hb3 k0 k1 k2 k3 k4 sz2 ST2
  cases okf
  · go_wp2_with fail
    go_ret
    exact ⟨rfl, ST3.out.ls.td.bl⟩
  have HF := Lib.hid (small5_of hokf)
  clear hokf
  cases hxf : fewB x
  · go_wp2_with fail
    go_ret
    exact ⟨rfl, ST3.out.ls.td.bl⟩
  have HXF := Lib.hid (show FewP x 20 by simpa [fewB] using hxf)
  have hs1 : t.size ≤ 10000 := by have := HF.out.ts; omega
  have hs2 : t.depth ≤ 900 := by have := HF.out.td; omega
  clear hxf
  obtain ⟨x0, x1, x2, x3, x4, x5⟩ := ST3.out.ls.td.bt.cells
  obtain ⟨y0, y1, y2, y3, y4⟩ := ST3.out.ls.td.bd.cells
  have sz3 := ST3.out.sz
  go_wp2_with fail
  refine (is_any hs1 hs2 HF.out.tf HF.out.df ST3.out.ls.td.le ST3.out.ls.tab.2 ST3.out.ls.tab.1 ST3.out.ls.td.tv ST3.out.ls.td.dv).mono ?_
  rintro e w4 ⟨rfl, hb4⟩
  have ST4 := Lib.hid (ST3.out.next hb4)
  clear hb4 x0 x1 x2 x3 x4 x5 y0 y1 y2 y3 y4 sz3 ST3
  cases hisd : isV t d
  · go_wp2_with fail
    go_ret
    exact ⟨rfl, ST4.out.ls.td.bl⟩
  have HISD := Lib.hid hisd
  clear hisd
  obtain ⟨x0, x1, x2, x3, x4, x5⟩ := ST4.out.ls.td.bt.cells
  have sz4 := ST4.out.sz
  by_cases h1 : t.kind = 1
  · have g1 : (t.kind != 1) = false := by simp [h1]
    have g9 : (t.kind == 1) = true := by simp [h1]
    have HK := Lib.hid h1
    clear h1
    obtain ⟨y0, y1, y2, y3, y4⟩ := ST4.out.ls.td.bd.cells
    obtain ⟨k0, k1, k2, k3, k4⟩ := ST4.out.bx.cells
    go_wp2_with fail
    have hbs : Below w4.heap.size w4 (w4.alloc (.cells #[.string s] 9)) := (Below.refl _ _).alloc (Nat.le_refl _) _
    have hzs : (w4.alloc (.cells #[.string s] 9)).heap.size = w4.heap.size + 1 := by simp
    have STS := Lib.hid (ST4.out.next hbs)
    refine (put_all (d := d) (y := x) (ps := [s]) (B := w4.heap.size + 1) HF.out.df HXF.out.fit.fit (by simp) (fun u hu => by rw [List.mem_singleton.1 hu]; exact HSH.out) STS.out.glob (by omega) (STS.out.ls.td.dv.keep (by omega) fun _ _ => rfl) (STS.out.xv.keep (by omega) fun _ _ => rfl) (strs_new s)).mono ?_
    rintro e w7 ⟨z0, z1, z2, z3, z4, G, rfl, hG, hGn, hb7⟩
    obtain ⟨p, hp⟩ : ∃ p, (putV d x [s]).1 = p := ⟨_, rfl⟩
    obtain ⟨er, her⟩ : ∃ er, (putV d x [s]).2 = er := ⟨_, rfl⟩
    rw [hp] at hG
    rw [her]
    obtain ⟨P3, q3, P4, q4, rfl, rfl, rfl, rfl, rfl⟩ := hG.doc.forms
    have HD7 := Lib.hid hG.doc
    have ST7 := Lib.hid (STS.out.next hb7)
    have HPE : Hid (putV d x [s] = (p, er)) := Lib.hid (by rw [← hp, ← her])
    have hz7 := hb7.size
    have szw7 := ST7.out.sz
    clear hG hGn hb7 hp her hbs STS x0 x1 x2 x3 x4 x5 y0 y1 y2 y3 y4 k0 k1 k2 k3 k4 sz4 ST4
    go_upto_region 7 with fail
    obtain ⟨w8, hw8⟩ : ∃ w8, w8 = w7.alloc (.cells #[.int .i64 p.kind, .int .i64 p.num, .string p.str, .slice P3 p.keys.length q3, .slice P4 p.kids.length q4] 29) := ⟨_, rfl⟩
    have HB8 : Hid (Below w7.heap.size w7 w8) := by rw [hw8]; exact (Below.refl _ _).alloc (Nat.le_refl _) _
    have HX8 : Hid (Box5 w8 w7.heap.size (.int .i64 p.kind) (.int .i64 p.num) (.string p.str) (.slice P3 p.keys.length q3) (.slice P4 p.kids.length q4)) := by rw [hw8]; exact Box5.new w7 _ _ _ _ _
    have hz8 : w7.heap.size + 1 ≤ w8.heap.size := by rw [hw8]; simp
    rw [← hw8]
    clear hw8
    have ST8 := Lib.hid (ST7.out.next HB8.out)
    have HD8 : Hid (DocIn w8 w7.heap.size p (.int .i64 p.kind) (.int .i64 p.num) (.string p.str) (.slice P3 p.keys.length q3) (.slice P4 p.kids.length q4)) := Lib.hid (HD7.out.keep (Nat.le_refl _) fun q hq => HB8.out.cell (p := q) hq)
    clear ST7 HD7
    by_cases her0 : er = 0
    case neg =>
      have g0 : (er != 0) = true := by simpa using her0
      clear her0
      go_wp2_with fail
      go_ret
      exact ⟨rfl, ST8.out.ls.td.bl⟩
    have g0 : (er != 0) = false := by simpa using her0
    subst her0
    have HPV := Lib.hid HPE.out
    have HPF : Hid p.Fit := Lib.hid (put_fit HXF.out.fit.fit [s] d p HF.out.d6 ((putV_ok HPE.out).2 rfl).2.2)
    obtain ⟨k0, k1, k2, k3, k4⟩ := HX8.out.cells
    have sz8 := ST8.out.sz
    go_wp2_with fail
    refine (right_v (B := w7.heap.size) HPF.out (by omega) ⟨_, _, _, _, _, rfl, HD8.out⟩).mono ?_
    rintro e w9 ⟨rfl, hb9⟩
    have ST9 := Lib.hid (ST8.out.next hb9)
    have HX9 := Lib.hid (HX8.out.same (hb9.block _ (by omega)))
    have HD9 := Lib.hid (HD8.out.keep (w' := w9) (Nat.le_refl _) fun q hq => hb9.cell (p := q) (by omega))
    have hz9 := hb9.size
    clear hb9 k0 k1 k2 k3 k4 sz8 ST8 HX8 HD8
    cases hrp : rightB p
    case false =>
      go_wp2_with fail
      go_ret
      exact ⟨rfl, ST9.out.ls.td.bl⟩
    have HRP := Lib.hid hrp
    clear hrp
    have HMR : Hid (fieldOf t s < 0 → fitsAV t p = 0 ∧ isV t p = false ∧ (allV t p).length = 1) := Lib.hid (fun h => more_rec HK.out HISD.out HPV.out HRP.out h)
    obtain ⟨x0, x1, x2, x3, x4, x5⟩ := ST9.out.ls.td.bt.cells
    have sz9 := ST9.out.sz
    go_wp2_with fail
    refine (tfield_any HF.out.tf ST9.out.ls.td.le ST9.out.ls.td.tv).mono ?_
    rintro e w10 ⟨rfl, hb10⟩
    have ST10 := Lib.hid (ST9.out.next hb10)
    have HX10 := Lib.hid (HX9.out.same (hb10.block _ (by omega)))
    have HD10 := Lib.hid (HD9.out.keep (w' := w10) (Nat.le_refl _) fun q hq => hb10.cell (p := q) (by omega))
    have hz10 := hb10.size
    clear hb10 x0 x1 x2 x3 x4 x5 sz9 ST9 HX9 HD9
    by_cases hfo : fieldOf t s < 0
    case neg =>
      have q1 : (0 : Int) ≤ fieldOf t s := by omega
      have q2 : decide ((0 : Int) ≤ fieldOf t s) = true := by simpa using q1
      clear hfo
      go_wp2_with fail
      go_ret
      exact ⟨rfl, ST10.out.ls.td.bl⟩
    have HM := Lib.hid (HMR.out hfo)
    have q1 : ¬ ((0 : Int) ≤ fieldOf t s) := by omega
    have q2 : decide ((0 : Int) ≤ fieldOf t s) = false := by simpa using hfo
    clear hfo
    obtain ⟨x0, x1, x2, x3, x4, x5⟩ := ST10.out.ls.td.bt.cells
    obtain ⟨k0, k1, k2, k3, k4⟩ := HX10.out.cells
    have sz10 := ST10.out.sz
    go_wp2_with fail
    refine (fitsA_any (B := w7.heap.size) hs1 hs2 HF.out.tf HPF.out (by omega) (ST10.out.ls.td.tv.keep (by omega) fun _ _ => rfl) ⟨_, _, _, _, _, rfl, HD10.out⟩).mono ?_
    rw [HM.out.1]
    rintro e w11 ⟨rfl, hb11⟩
    have ST11 := Lib.hid (ST10.out.next hb11)
    have HX11 := Lib.hid (HX10.out.same (hb11.block _ (by omega)))
    have HD11 := Lib.hid (HD10.out.keep (w' := w11) (Nat.le_refl _) fun q hq => hb11.cell (p := q) (by omega))
    have hz11 := hb11.size
    clear hb11 x0 x1 x2 x3 x4 x5 k0 k1 k2 k3 k4 sz10 ST10 HX10 HD10
    obtain ⟨x0, x1, x2, x3, x4, x5⟩ := ST11.out.ls.td.bt.cells
    obtain ⟨k0, k1, k2, k3, k4⟩ := HX11.out.cells
    have sz11 := ST11.out.sz
    go_wp2_with fail
    refine (is_any (B := w7.heap.size) hs1 hs2 HF.out.tf HPF.out (by omega) ST11.out.ls.tab.2 ST11.out.ls.tab.1 (ST11.out.ls.td.tv.keep (by omega) fun _ _ => rfl) ⟨_, _, _, _, _, rfl, HD11.out⟩).mono ?_
    rw [HM.out.2.1]
    rintro e w12 ⟨rfl, hb12⟩
    have ST12 := Lib.hid (ST11.out.next hb12)
    have HX12 := Lib.hid (HX11.out.same (hb12.block _ (by omega)))
    have HD12 := Lib.hid (HD11.out.keep (w' := w12) (Nat.le_refl _) fun q hq => hb12.cell (p := q) (by omega))
    have hz12 := hb12.size
    clear hb12 x0 x1 x2 x3 x4 x5 k0 k1 k2 k3 k4 sz11 ST11 HX11 HD11
    obtain ⟨x0, x1, x2, x3, x4, x5⟩ := ST12.out.ls.td.bt.cells
    obtain ⟨k0, k1, k2, k3, k4⟩ := HX12.out.cells
    have sz12 := ST12.out.sz
    go_wp2_with fail
    refine (vall_any (B := w7.heap.size) hs1 hs2 HF.out.tf HPF.out (by omega) ST12.out.ls.tab.2 ST12.out.ls.tab.1 (ST12.out.ls.td.tv.keep (by omega) fun _ _ => rfl) ⟨_, _, _, _, _, rfl, HD12.out⟩).mono ?_
    rintro e w13 hfl
    obtain ⟨r, rfl, hrow, hb13⟩ := hfl.flts
    obtain ⟨A, c, rfl, _, _⟩ := hrow.at_
    rw [HM.out.2.2]
    have HB13 := Lib.hid hb13
    clear hfl hrow hb13 x0 x1 x2 x3 x4 x5 k0 k1 k2 k3 k4
    go_wp2_with fail
    go_ret
    exact ⟨rfl, ST12.out.ls.td.bl.trans (HB13.out.mono ST12.out.ls.td.bl.size)⟩
  by_cases h2 : t.kind = 2
  case neg =>
    have g1 : (t.kind != 1) = true := by simp; omega
    have g2 : (t.kind != 2) = true := by simp; omega
    clear h1 h2
    go_wp2_with fail
    go_ret
    exact ⟨rfl, ST4.out.ls.td.bl⟩
  have g1 : (t.kind != 1) = true := by simp; omega
  have g2 : (t.kind != 2) = false := by simp [h2]
  have g9 : (t.kind == 1) = false := by simp; omega
  have HK := Lib.hid h2
  clear h1 h2
  obtain ⟨y0, y1, y2, y3, y4⟩ := ST4.out.ls.td.bd.cells
  obtain ⟨k0, k1, k2, k3, k4⟩ := ST4.out.bx.cells
  go_wp2_with fail
  have hbs : Below w4.heap.size w4 (w4.alloc (.cells #[.string s] 9)) := (Below.refl _ _).alloc (Nat.le_refl _) _
  have hzs : (w4.alloc (.cells #[.string s] 9)).heap.size = w4.heap.size + 1 := by simp
  have STS := Lib.hid (ST4.out.next hbs)
  refine (put_all (d := d) (y := x) (ps := [s]) (B := w4.heap.size + 1) HF.out.df HXF.out.fit.fit (by simp) (fun u hu => by rw [List.mem_singleton.1 hu]; exact HSH.out) STS.out.glob (by omega) (STS.out.ls.td.dv.keep (by omega) fun _ _ => rfl) (STS.out.xv.keep (by omega) fun _ _ => rfl) (strs_new s)).mono ?_
  rintro e w7 ⟨z0, z1, z2, z3, z4, G, rfl, hG, hGn, hb7⟩
  obtain ⟨p, hp⟩ : ∃ p, (putV d x [s]).1 = p := ⟨_, rfl⟩
  obtain ⟨er, her⟩ : ∃ er, (putV d x [s]).2 = er := ⟨_, rfl⟩
  rw [hp] at hG
  rw [her]
  obtain ⟨P3, q3, P4, q4, rfl, rfl, rfl, rfl, rfl⟩ := hG.doc.forms
  have HD7 := Lib.hid hG.doc
  have ST7 := Lib.hid (STS.out.next hb7)
  have HPE : Hid (putV d x [s] = (p, er)) := Lib.hid (by rw [← hp, ← her])
  have hz7 := hb7.size
  have szw7 := ST7.out.sz
  clear hG hGn hb7 hp her hbs STS x0 x1 x2 x3 x4 x5 y0 y1 y2 y3 y4 k0 k1 k2 k3 k4 sz4 ST4
  go_upto_region 7 with fail
  obtain ⟨w8, hw8⟩ : ∃ w8, w8 = w7.alloc (.cells #[.int .i64 p.kind, .int .i64 p.num, .string p.str, .slice P3 p.keys.length q3, .slice P4 p.kids.length q4] 29) := ⟨_, rfl⟩
  have HB8 : Hid (Below w7.heap.size w7 w8) := by rw [hw8]; exact (Below.refl _ _).alloc (Nat.le_refl _) _
  have HX8 : Hid (Box5 w8 w7.heap.size (.int .i64 p.kind) (.int .i64 p.num) (.string p.str) (.slice P3 p.keys.length q3) (.slice P4 p.kids.length q4)) := by rw [hw8]; exact Box5.new w7 _ _ _ _ _
  have hz8 : w7.heap.size + 1 ≤ w8.heap.size := by rw [hw8]; simp
  rw [← hw8]
  clear hw8
  have ST8 := Lib.hid (ST7.out.next HB8.out)
  have HD8 : Hid (DocIn w8 w7.heap.size p (.int .i64 p.kind) (.int .i64 p.num) (.string p.str) (.slice P3 p.keys.length q3) (.slice P4 p.kids.length q4)) := Lib.hid (HD7.out.keep (Nat.le_refl _) fun q hq => HB8.out.cell (p := q) hq)
  clear ST7 HD7
  by_cases her0 : er = 0
  case neg =>
    have g0 : (er != 0) = true := by simpa using her0
    clear her0
    go_wp2_with fail
    go_ret
    exact ⟨rfl, ST8.out.ls.td.bl⟩
  have g0 : (er != 0) = false := by simpa using her0
  subst her0
  have HPV := Lib.hid HPE.out
  have HPF : Hid p.Fit := Lib.hid (put_fit HXF.out.fit.fit [s] d p HF.out.d6 ((putV_ok HPE.out).2 rfl).2.2)
  obtain ⟨k0, k1, k2, k3, k4⟩ := HX8.out.cells
  have sz8 := ST8.out.sz
  go_wp2_with fail
  refine (right_v (B := w7.heap.size) HPF.out (by omega) ⟨_, _, _, _, _, rfl, HD8.out⟩).mono ?_
  rintro e w9 ⟨rfl, hb9⟩
  have ST9 := Lib.hid (ST8.out.next hb9)
  have HX9 := Lib.hid (HX8.out.same (hb9.block _ (by omega)))
  have HD9 := Lib.hid (HD8.out.keep (w' := w9) (Nat.le_refl _) fun q hq => hb9.cell (p := q) (by omega))
  have hz9 := hb9.size
  clear hb9 k0 k1 k2 k3 k4 sz8 ST8 HX8 HD8
  cases hrp : rightB p
  case false =>
    go_wp2_with fail
    go_ret
    exact ⟨rfl, ST9.out.ls.td.bl⟩
  have HRP := Lib.hid hrp
  clear hrp
  have hbd := isV_both HISD.out
  have hrt : rightT t = true := by unfold bothB at hbd; rw [Bool.and_eq_true] at hbd; exact hbd.1
  obtain ⟨y, hy⟩ := (leastOk_of (allT_sound (rightT_small hrt).2.2)).of1 (.inl HK.out)
  have hmd := more_dict HK.out hy HISD.out HPV.out HRP.out
  have hym : y ∈ t.of := by rw [hy]; simp
  have hno1 : no = 1 := by rw [← HNO.out, hy]; rfl
  have HYF : Hid y.Fit := Lib.hid (by have h := HF.out.tf.parts.2.2.2.2.2; rw [hy] at h; exact h.at_ (i := 0) (by simp))
  have hys : y.size ≤ 10000 := by have h := T.size_eq t; rw [hy] at h; simp only [T.sizes] at h; omega
  have hyd : y.depth ≤ 900 := by have := of_depth_mem hym; omega
  have htin := ST9.out.ls.td.tin.keep (w' := w9) (Nat.le_refl _) fun q hq => ST9.out.ls.td.bl.cell (p := q) hq
  obtain ⟨A5', c5q, e5, _, hofv⟩ := htin.of_
  injection e5 with e51 e52 e53
  subst e51; subst e53
  have hno : t.of.length = no := HNO.out
  obtain ⟨bo, off, rfl, hboB, hofw⟩ := hofv (by omega)
  obtain ⟨z0, z1, z2, z3, z4, z5, c0, c1, c2, c3', c4', c5', hzi⟩ := hofw.at_ 0 (by omega)
  have hx0 : t.of[0]'(by omega) = y := by simp only [hy, List.getElem_cons_zero]
  rw [hx0] at hzi
  simp only [Nat.zero_mul, Nat.add_zero] at c0 c1 c2 c3' c4' c5'
  have HZI := Lib.hid hzi
  obtain ⟨Y3, y3, Y4, y4, Y5, y5, rfl, rfl, rfl, rfl, rfl, rfl⟩ := hzi.forms
  have szw9 := ST9.out.sz
  have hbol : bo < w9.heap.size := by omega
  have hS : ∀ X : World, Below w9.heap.size w9 X → X.cell? ⟨w.heap.size, 0, none⟩ = some (.int .i64 t.kind) ∧ X.cell? ⟨w.heap.size, 1, none⟩ = some (v1) ∧ X.cell? ⟨w.heap.size, 2, none⟩ = some (.int .i64 t.hi) ∧ X.cell? ⟨w.heap.size, 3, none⟩ = some (v3) ∧ X.cell? ⟨w.heap.size, 4, none⟩ = some (v4) ∧ X.cell? ⟨w.heap.size, 5, none⟩ = some (.slice (some ⟨bo, off, none⟩) no c5) ∧ X.cell? ⟨w.heap.size + 2, 0, none⟩ = some (e0) ∧ X.cell? ⟨w.heap.size + 2, 1, none⟩ = some (e1) ∧ X.cell? ⟨w.heap.size + 2, 2, none⟩ = some (e2) ∧ X.cell? ⟨w.heap.size + 2, 3, none⟩ = some (e3) ∧ X.cell? ⟨w.heap.size + 2, 4, none⟩ = some (e4) ∧ X.cell? ⟨w7.heap.size, 0, none⟩ = some (.int .i64 p.kind) ∧ X.cell? ⟨w7.heap.size, 1, none⟩ = some (.int .i64 p.num) ∧ X.cell? ⟨w7.heap.size, 2, none⟩ = some (.string p.str) ∧ X.cell? ⟨w7.heap.size, 3, none⟩ = some (.slice P3 p.keys.length q3) ∧ X.cell? ⟨w7.heap.size, 4, none⟩ = some (.slice P4 p.kids.length q4) ∧ X.cell? ⟨bo, off, none⟩ = some (.int .i64 y.kind) ∧ X.cell? ⟨bo, off + 1, none⟩ = some (.int .i64 y.lo) ∧ X.cell? ⟨bo, off + 2, none⟩ = some (.int .i64 y.hi) ∧ X.cell? ⟨bo, off + 3, none⟩ = some (.slice Y3 y.names.length y3) ∧ X.cell? ⟨bo, off + 4, none⟩ = some (.slice Y4 y.fields.length y4) ∧ X.cell? ⟨bo, off + 5, none⟩ = some (.slice Y5 y.of.length y5) := fun X h => by
    obtain ⟨x0, x1, x2, x3, x4, x5⟩ := (ST9.out.next h).ls.td.bt.cells
    obtain ⟨k0, k1, k2, k3, k4⟩ := (ST9.out.next h).bx.cells
    obtain ⟨l0, l1, l2, l3, l4⟩ := (HX9.out.same (h.block _ (by omega))).cells
    exact ⟨x0, x1, x2, x3, x4, x5, k0, k1, k2, k3, k4, l0, l1, l2, l3, l4, (h.cell (p := ⟨bo, off, none⟩) hbol).trans c0, (h.cell (p := ⟨bo, off + 1, none⟩) hbol).trans c1, (h.cell (p := ⟨bo, off + 2, none⟩) hbol).trans c2, (h.cell (p := ⟨bo, off + 3, none⟩) hbol).trans c3', (h.cell (p := ⟨bo, off + 4, none⟩) hbol).trans c4', (h.cell (p := ⟨bo, off + 5, none⟩) hbol).trans c5'⟩
  have HS := Lib.hid hS
  have HIP : Hid (∀ b, isV t p = b → ∀ X, Below w9.heap.size w9 X → Calls Tryz.prog 16 #[.agg #[.int .i64 t.kind, v1, .int .i64 t.hi, v3, v4, .slice (some ⟨bo, off, none⟩) no c5], .agg #[.int .i64 p.kind, .int .i64 p.num, .string p.str, .slice P3 p.keys.length q3, .slice P4 p.kids.length q4]] X fun e w' => e = .returned (.bool b) ∧ Below w9.heap.size w9 w') := Lib.hid (fun b hb X hX => (is_any (B := w7.heap.size) hs1 hs2 HF.out.tf HPF.out (by have := hX.size; omega) (ST9.out.next hX).ls.tab.2 (ST9.out.next hX).ls.tab.1 ((ST9.out.next hX).ls.td.tv.keep (by omega) fun _ _ => rfl) ⟨_, _, _, _, _, rfl, HD9.out.keep (Nat.le_refl _) fun q hq => hX.cell (p := q) (by omega)⟩).mono fun e w' h => ⟨by rw [h.1, hb], hX.trans (h.2.mono hX.size)⟩)
  have HIX : Hid (∀ b, isV y x = b → ∀ X, Below w9.heap.size w9 X → Calls Tryz.prog 16 #[.agg #[.int .i64 y.kind, .int .i64 y.lo, .int .i64 y.hi, .slice Y3 y.names.length y3, .slice Y4 y.fields.length y4, .slice Y5 y.of.length y5], .agg #[e0, e1, e2, e3, e4]] X fun e w' => e = .returned (.bool b) ∧ Below w9.heap.size w9 w') := Lib.hid (fun b hb X hX => (is_any (B := w.heap.size) hys hyd HYF.out HXF.out.fit.fit (by have := hX.size; omega) (ST9.out.next hX).ls.tab.2 (ST9.out.next hX).ls.tab.1 ⟨_, _, _, _, _, _, rfl, HZI.out.keep (Nat.le_refl _) fun q hq => hX.cell (p := q) (by omega)⟩ (ST9.out.next hX).xv).mono fun e w' h => ⟨by rw [h.1, hb], hX.trans (h.2.mono hX.size)⟩)
  have hrefl : Below w9.heap.size w9 w9.drew := (Below.refl _ _).drew
  have HW9 : Hid (Below w.heap.size w w9) := Lib.hid ST9.out.ls.td.bl
  have ho1 : (0 : Int) < (no : Int) := by omega
  have ho2 : 0 < no := by omega
  have ho3 : decide ((0 : Int) < (no : Int)) = true := by simpa using ho2
  have ho4 : ¬ (no = 0) := by omega
  have HMD := Lib.hid hmd
  clear hS hzi htin hofv hofw hx0 hno hno1 e52 hmd hy hym hbd hrt c0 c1 c2 c3' c4' c5'
  cases hiy : isV y x with
  | false =>
    have HIP0 := Lib.hid (HIP.out false (by rw [HMD.out, hiy]; rfl))
    have HIX0 := Lib.hid (HIX.out false hiy)
    clear hiy
    obtain ⟨x0, x1, x2, x3, x4, x5⟩ := ST9.out.ls.td.bt.cells
    go_wp2_with fail
    clear x0 x1 x2 x3 x4 x5
    refine wp_region_quiet (C := fun w' => Below w9.heap.size w9 w') (by kernel_rfl) (by kernel_rfl) ((Below.refl _ _).drew) ?_
    dsimp only
    repeat (first
      | go_big_quiet_skip
      | (go_big_quiet_want; go_big_quiet_op; go_big_quiet_on)
      | (go_big_quiet_want; go_big_quiet_op; apply Exists.intro; refine ⟨fun _ _ => rfl, ?_⟩; go_big_quiet_on))
    go_big_quiet_want
    refine ⟨(.agg #[.int .i64 t.kind, v1, .int .i64 t.hi, v3, v4, .slice (some ⟨bo, off, none⟩) no c5]), fun wq hq => ?_, ?_⟩
    · obtain ⟨x0, x1, x2, x3, x4, x5, k0, k1, k2, k3, k4, l0, l1, l2, l3, l4, c0, c1, c2, c3', c4', c5'⟩ := HS.out _ hq
      go_simp
    simp only [Act.put, List.setIfInBounds_toArray, List.set_cons_zero, List.set_cons_succ]
    go_big_quiet_on
    repeat (first
      | go_big_quiet_skip
      | (go_big_quiet_want; go_big_quiet_op; go_big_quiet_on)
      | (go_big_quiet_want; go_big_quiet_op; apply Exists.intro; refine ⟨fun _ _ => rfl, ?_⟩; go_big_quiet_on))
    go_big_quiet_want
    refine ⟨(.agg #[.int .i64 p.kind, .int .i64 p.num, .string p.str, .slice P3 p.keys.length q3, .slice P4 p.kids.length q4]), fun wq hq => ?_, ?_⟩
    · obtain ⟨x0, x1, x2, x3, x4, x5, k0, k1, k2, k3, k4, l0, l1, l2, l3, l4, c0, c1, c2, c3', c4', c5'⟩ := HS.out _ hq
      go_simp
    simp only [Act.put, List.setIfInBounds_toArray, List.set_cons_zero, List.set_cons_succ]
    go_big_quiet_on
    repeat (first
      | go_big_quiet_skip
      | (go_big_quiet_want; go_big_quiet_op; go_big_quiet_on)
      | (go_big_quiet_want; go_big_quiet_op; apply Exists.intro; refine ⟨fun _ _ => rfl, ?_⟩; go_big_quiet_on))
    go_big_quiet_want
    go_big_quiet_op
    apply Exists.intro
    refine ⟨fun wq hq => ?_, ?_⟩
    · go_at_call 16
      with_reducible exact HIP0.out wq hq
    go_big_quiet_on
    repeat (first
      | go_big_quiet_skip
      | (go_big_quiet_want; go_big_quiet_op; go_big_quiet_on)
      | (go_big_quiet_want; go_big_quiet_op; apply Exists.intro; refine ⟨fun _ _ => rfl, ?_⟩; go_big_quiet_on))
    go_big_quiet_want
    refine ⟨(.slice (some ⟨bo, off, none⟩) no c5), fun wq hq => ?_, ?_⟩
    · obtain ⟨x0, x1, x2, x3, x4, x5, k0, k1, k2, k3, k4, l0, l1, l2, l3, l4, c0, c1, c2, c3', c4', c5'⟩ := HS.out _ hq
      go_simp
    simp only [Act.put, List.setIfInBounds_toArray, List.set_cons_zero, List.set_cons_succ]
    go_big_quiet_on
    repeat (first
      | go_big_quiet_skip
      | (go_big_quiet_want; go_big_quiet_op; go_big_quiet_on)
      | (go_big_quiet_want; go_big_quiet_op; apply Exists.intro; refine ⟨fun _ _ => rfl, ?_⟩; go_big_quiet_on))
    go_big_quiet_want
    refine ⟨(.agg #[.int .i64 y.kind, .int .i64 y.lo, .int .i64 y.hi, .slice Y3 y.names.length y3, .slice Y4 y.fields.length y4, .slice Y5 y.of.length y5]), fun wq hq => ?_, ?_⟩
    · obtain ⟨x0, x1, x2, x3, x4, x5, k0, k1, k2, k3, k4, l0, l1, l2, l3, l4, c0, c1, c2, c3', c4', c5'⟩ := HS.out _ hq
      go_simp
    simp only [Act.put, List.setIfInBounds_toArray, List.set_cons_zero, List.set_cons_succ]
    go_big_quiet_on
    repeat (first
      | go_big_quiet_skip
      | (go_big_quiet_want; go_big_quiet_op; go_big_quiet_on)
      | (go_big_quiet_want; go_big_quiet_op; apply Exists.intro; refine ⟨fun _ _ => rfl, ?_⟩; go_big_quiet_on))
    go_big_quiet_want
    refine ⟨(.agg #[e0, e1, e2, e3, e4]), fun wq hq => ?_, ?_⟩
    · obtain ⟨x0, x1, x2, x3, x4, x5, k0, k1, k2, k3, k4, l0, l1, l2, l3, l4, c0, c1, c2, c3', c4', c5'⟩ := HS.out _ hq
      go_simp
    simp only [Act.put, List.setIfInBounds_toArray, List.set_cons_zero, List.set_cons_succ]
    go_big_quiet_on
    repeat (first
      | go_big_quiet_skip
      | (go_big_quiet_want; go_big_quiet_op; go_big_quiet_on)
      | (go_big_quiet_want; go_big_quiet_op; apply Exists.intro; refine ⟨fun _ _ => rfl, ?_⟩; go_big_quiet_on))
    go_big_quiet_want
    go_big_quiet_op
    apply Exists.intro
    refine ⟨fun wq hq => ?_, ?_⟩
    · go_at_call 16
      with_reducible exact HIX0.out wq hq
    go_big_quiet_on
    repeat (first
      | go_big_quiet_skip
      | (go_big_quiet_want; go_big_quiet_op; go_big_quiet_on)
      | (go_big_quiet_want; go_big_quiet_op; apply Exists.intro; refine ⟨fun _ _ => rfl, ?_⟩; go_big_quiet_on))
    refine wpQuiet_nil ?_
    intro wq hq
    go_wp2_with fail
    go_ret
    exact ⟨rfl, HW9.out.trans (hq.mono HW9.out.size)⟩
  | true =>
    by_cases hle : (p.kids.length : Int) ≤ t.hi
    · have HIP0 := Lib.hid (HIP.out true (by rw [HMD.out, hiy, decide_eq_true hle]; rfl))
      have HIX0 := Lib.hid (HIX.out true hiy)
      have hle2 : decide ((p.kids.length : Int) ≤ t.hi) = true := decide_eq_true hle
      clear hiy
      obtain ⟨x0, x1, x2, x3, x4, x5⟩ := ST9.out.ls.td.bt.cells
      go_wp2_with fail
      clear x0 x1 x2 x3 x4 x5
      go_region_held3 (fun w' => w'.cell? ⟨w.heap.size, 0, none⟩ = some (.int .i64 t.kind) ∧ w'.cell? ⟨w.heap.size, 1, none⟩ = some (v1) ∧ w'.cell? ⟨w.heap.size, 2, none⟩ = some (.int .i64 t.hi) ∧ w'.cell? ⟨w.heap.size, 3, none⟩ = some (v3) ∧ w'.cell? ⟨w.heap.size, 4, none⟩ = some (v4) ∧ w'.cell? ⟨w.heap.size, 5, none⟩ = some (.slice (some ⟨bo, off, none⟩) no c5) ∧ w'.cell? ⟨w.heap.size + 2, 0, none⟩ = some (e0) ∧ w'.cell? ⟨w.heap.size + 2, 1, none⟩ = some (e1) ∧ w'.cell? ⟨w.heap.size + 2, 2, none⟩ = some (e2) ∧ w'.cell? ⟨w.heap.size + 2, 3, none⟩ = some (e3) ∧ w'.cell? ⟨w.heap.size + 2, 4, none⟩ = some (e4) ∧ w'.cell? ⟨w7.heap.size, 0, none⟩ = some (.int .i64 p.kind) ∧ w'.cell? ⟨w7.heap.size, 1, none⟩ = some (.int .i64 p.num) ∧ w'.cell? ⟨w7.heap.size, 2, none⟩ = some (.string p.str) ∧ w'.cell? ⟨w7.heap.size, 3, none⟩ = some (.slice P3 p.keys.length q3) ∧ w'.cell? ⟨w7.heap.size, 4, none⟩ = some (.slice P4 p.kids.length q4) ∧ w'.cell? ⟨bo, off, none⟩ = some (.int .i64 y.kind) ∧ w'.cell? ⟨bo, off + 1, none⟩ = some (.int .i64 y.lo) ∧ w'.cell? ⟨bo, off + 2, none⟩ = some (.int .i64 y.hi) ∧ w'.cell? ⟨bo, off + 3, none⟩ = some (.slice Y3 y.names.length y3) ∧ w'.cell? ⟨bo, off + 4, none⟩ = some (.slice Y4 y.fields.length y4) ∧ w'.cell? ⟨bo, off + 5, none⟩ = some (.slice Y5 y.of.length y5))
        (first | with_reducible exact HS.out _ hrefl | with_reducible exact HS.out _ h10 | with_reducible exact HS.out _ h11)
        ((first
          | (go_at_call 16; with_reducible refine (HIP0.out _ hrefl).mono ?_; rintro e w10 ⟨rfl, h10⟩)
          | (go_at_call 16; with_reducible refine (HIX0.out _ h10).mono ?_; rintro e w11 ⟨rfl, h11⟩)))
      all_goals (go_wp2_with fail)
      all_goals go_ret
      all_goals exact ⟨rfl, HW9.out.trans (h11.mono HW9.out.size)⟩
    · have HIP0 := Lib.hid (HIP.out false (by rw [HMD.out, hiy, decide_eq_false hle]; rfl))
      have HIX0 := Lib.hid (HIX.out true hiy)
      have hle2 : decide ((p.kids.length : Int) ≤ t.hi) = false := decide_eq_false hle
      clear hiy
      obtain ⟨x0, x1, x2, x3, x4, x5⟩ := ST9.out.ls.td.bt.cells
      go_wp2_with fail
      clear x0 x1 x2 x3 x4 x5
      go_region_held3 (fun w' => w'.cell? ⟨w.heap.size, 0, none⟩ = some (.int .i64 t.kind) ∧ w'.cell? ⟨w.heap.size, 1, none⟩ = some (v1) ∧ w'.cell? ⟨w.heap.size, 2, none⟩ = some (.int .i64 t.hi) ∧ w'.cell? ⟨w.heap.size, 3, none⟩ = some (v3) ∧ w'.cell? ⟨w.heap.size, 4, none⟩ = some (v4) ∧ w'.cell? ⟨w.heap.size, 5, none⟩ = some (.slice (some ⟨bo, off, none⟩) no c5) ∧ w'.cell? ⟨w.heap.size + 2, 0, none⟩ = some (e0) ∧ w'.cell? ⟨w.heap.size + 2, 1, none⟩ = some (e1) ∧ w'.cell? ⟨w.heap.size + 2, 2, none⟩ = some (e2) ∧ w'.cell? ⟨w.heap.size + 2, 3, none⟩ = some (e3) ∧ w'.cell? ⟨w.heap.size + 2, 4, none⟩ = some (e4) ∧ w'.cell? ⟨w7.heap.size, 0, none⟩ = some (.int .i64 p.kind) ∧ w'.cell? ⟨w7.heap.size, 1, none⟩ = some (.int .i64 p.num) ∧ w'.cell? ⟨w7.heap.size, 2, none⟩ = some (.string p.str) ∧ w'.cell? ⟨w7.heap.size, 3, none⟩ = some (.slice P3 p.keys.length q3) ∧ w'.cell? ⟨w7.heap.size, 4, none⟩ = some (.slice P4 p.kids.length q4) ∧ w'.cell? ⟨bo, off, none⟩ = some (.int .i64 y.kind) ∧ w'.cell? ⟨bo, off + 1, none⟩ = some (.int .i64 y.lo) ∧ w'.cell? ⟨bo, off + 2, none⟩ = some (.int .i64 y.hi) ∧ w'.cell? ⟨bo, off + 3, none⟩ = some (.slice Y3 y.names.length y3) ∧ w'.cell? ⟨bo, off + 4, none⟩ = some (.slice Y4 y.fields.length y4) ∧ w'.cell? ⟨bo, off + 5, none⟩ = some (.slice Y5 y.of.length y5))
        (first | with_reducible exact HS.out _ hrefl | with_reducible exact HS.out _ h10 | with_reducible exact HS.out _ h11)
        ((first
          | (go_at_call 16; with_reducible refine (HIP0.out _ hrefl).mono ?_; rintro e w10 ⟨rfl, h10⟩)
          | (go_at_call 16; with_reducible refine (HIX0.out _ h10).mono ?_; rintro e w11 ⟨rfl, h11⟩)))
      all_goals (go_wp2_with fail)
      all_goals go_ret
      all_goals exact ⟨rfl, HW9.out.trans (h11.mono HW9.out.size)⟩
end Go.Proofs.YtlemlgllkcgigaaGreatDoor
