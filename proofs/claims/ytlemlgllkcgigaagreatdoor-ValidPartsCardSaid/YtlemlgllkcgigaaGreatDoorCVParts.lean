/-
  ValidParts: the walk.
-/
import Derived.Test.YtlemlgllkcgigaaGreatDoorCVMoreL
import Derived.Test.YtlemlgllkcgigaaGreatDoorG01
import Derived.Test.YtlemlgllkcgigaaGreatDoorF23
namespace Go.Proofs.YtlemlgllkcgigaaGreatDoor
open Go.RowKit

theorem getV_fit1 {d : D} {s : ByteArray} (h : d.Fit) : (getV d [s]).1.Fit := by
  have hz : D.zero.Fit := by simp [D.zero, D.Fit, D.Fits]; decide
  cases hst : stepD d s with
  | none => rw [getV_none hst]; exact hz
  | some i =>
    have hi := (stepD_lt h.keys hst).1
    rw [getV_one hst hi]; exact h.kid hi
theorem dropV_fit1 {d r : D} {s : ByteArray} {er : Int} (h : d.Fit) (hr : dropV d [s] = (r, er)) : r.Fit := by
  have hz : D.zero.Fit := by simp [D.zero, D.Fit, D.Fits]; decide
  unfold dropV at hr
  by_cases h0 : rightB d = false ∨ [s] = []
  · rw [if_pos h0] at hr; injection hr with h1 _; rw [← h1]; exact hz
  · rw [if_neg h0] at hr
    simp only [List.dropLast, D.locate, D.subAt, List.getLastD, List.getLast] at hr
    cases hs : stepD d s with
    | none => rw [hs] at hr; injection hr with h1 _; rw [← h1]; exact hz
    | some i =>
      rw [hs] at hr
      injection hr with h1 _
      rw [← h1]
      obtain ⟨kd, nm, st, ks, ds⟩ := d
      simp only [D.Fit] at h
      simp only [D.repl, D.dropKid, D.Fit, D.kind, D.num, D.str, D.keys, D.kids]
      have hk : ∀ u ∈ (if kd = 3 then ks else ks.take i ++ ks.drop (i + 1)), u.size ≤ 10000 := fun u hu => by
        split at hu
        · exact h.2.2.2.1 u hu
        · exact h.2.2.2.1 u ((take_drop_sub ks i).subset hu)
      have hkl : (if kd = 3 then ks else ks.take i ++ ks.drop (i + 1)).length ≤ 10000 := by
        split
        · exact h.2.1
        · have := (take_drop_sub ks i).length_le; omega
      have hdl : (ds.take i ++ ds.drop (i + 1)).length ≤ 10000 := by have := (take_drop_sub ds i).length_le; omega
      exact ⟨h.1, hkl, hdl, hk, fits_of fun y hy => by
        obtain ⟨j, hj, rfl⟩ := List.mem_iff_getElem.1 ((take_drop_sub ds i).subset hy)
        exact h.2.2.2.2.at_ hj⟩
theorem sizes_in : ∀ {l : List T} {x : T}, x ∈ l → x.size ≤ T.sizes l
  | y :: r, x, h => by
    simp only [T.sizes]
    rcases List.mem_cons.1 h with rfl | h
    · omega
    · have := sizes_in h; omega
theorem sizes_mem {t : T} {f : F} (h : f ∈ t.fields) : f.type.size ≤ t.size := by
  have h1 := sizes_in (List.mem_map.2 ⟨f, h, rfl⟩ : f.type ∈ t.fields.map F.type)
  have h2 := T.size_eq t
  omega
set_option maxHeartbeats 8000000 in
set_option maxRecDepth 100000 in
theorem vparts_law {t : T} {d x : D} {n : Int} {v0 v1 v2 v3 v4 v5 u0 u1 u2 u3 u4 e0 e1 e2 e3 e4 : Value} {w : World} (htab : Tab w) (hglob : Glob w) (ht : TypeIn w w.heap.size t v0 v1 v2 v3 v4 v5) (hd : DocIn w w.heap.size d u0 u1 u2 u3 u4) (hx : DocIn w w.heap.size x e0 e1 e2 e3 e4) :
    Calls Tryz.prog 6 #[.agg #[v0, v1, v2, v3, v4, v5], .agg #[u0, u1, u2, u3, u4], .agg #[e0, e1, e2, e3, e4], .int .i64 n] w fun e w' => e = .returned (.bool true) ∧ Below w.heap.size w w' := by
  have ST0 := Lib.hid (LawSt3.start ht hd hx htab hglob)
  have HT := Lib.hid ht
  obtain ⟨A3, c3, A4, c4, A5, c5, rfl, q1, q2, q3, rfl, q5⟩ := ht.forms
  clear q1 q2 q3 q5
  obtain ⟨nf, hno⟩ : ∃ nf, t.fields.length = nf := ⟨_, rfl⟩
  rw [hno] at ST0 HT
  rw [hno]
  have HNO := Lib.hid hno
  clear ht hd hx htab hglob hno
  go_enter Tryz.func6, Tryz.ntmps6
  go_wp2_with fail
  generalize ((w.alloc (.cells #[.int .i64 t.kind, v1, v2, v3, .slice A4 nf c4, v5] 26)).alloc (.cells #[u0, u1, u2, u3, u4] 29)).alloc (.cells #[e0, e1, e2, e3, e4] 29) = w0 at *
  refine id ?_
  refine (vsmall_any _ ST0.out.ls.tab.1 ST0.out.ls.tab.2).mono ?_
  rintro e w1 ⟨rfl, hb1⟩
  have ST1 := Lib.hid (ST0.out.next hb1)
  clear hb1 ST0
  obtain ⟨x0, x1, x2, x3, x4, x5⟩ := ST1.out.ls.td.bt.cells
  obtain ⟨y0, y1, y2, y3, y4⟩ := ST1.out.ls.td.bd.cells
  have sz1 := ST1.out.sz
  go_wp2_with fail
  refine (vfew_any ST1.out.ls.td.le ST1.out.ls.td.tv ST1.out.ls.td.dv).mono ?_
  rintro e w2 ⟨rfl, hb2⟩
  have ST2 := Lib.hid (ST1.out.next hb2)
  clear hb2 x0 x1 x2 x3 x4 x5 y0 y1 y2 y3 y4 sz1 ST1
  obtain ⟨k0, k1, k2, k3, k4⟩ := ST2.out.bx.cells
  have sz2 := ST2.out.sz
  obtain ⟨okf, hokf⟩ : ∃ b, fewV2 t d = b := ⟨_, rfl⟩
  rw [hokf]
  go_wp2_with fail
  refine (few_v ST2.out.ls.td.le ST2.out.xv).mono ?_
  rintro e w3 ⟨rfl, hb3⟩
  have ST3 := Lib.hid (ST2.out.next hb3)
  clear hb3 k0 k1 k2 k3 k4 sz2 ST2
  cases okf
  · go_wp2_with fail
    go_ret
    exact ⟨rfl, ST3.out.ls.td.bl⟩
  have HF := Lib.hid (small5_of hokf)
  clear hokf
  cases hxf : fewB x
  · go_wp2_with fail
    go_ret
    exact ⟨rfl, ST3.out.ls.td.bl⟩
  have HXF := Lib.hid (show FewP x 20 by simpa [fewB] using hxf)
  have hs1 : t.size ≤ 10000 := by have := HF.out.ts; omega
  have hs2 : t.depth ≤ 900 := by have := HF.out.td; omega
  clear hxf
  obtain ⟨x0, x1, x2, x3, x4, x5⟩ := ST3.out.ls.td.bt.cells
  obtain ⟨y0, y1, y2, y3, y4⟩ := ST3.out.ls.td.bd.cells
  have sz3 := ST3.out.sz
  by_cases h1 : t.kind = 1
  case neg =>
    have g1 : (t.kind != 1) = true := by simp [h1]
    clear h1
    go_wp2_with fail
    go_ret
    exact ⟨rfl, ST3.out.ls.td.bl⟩
  have g1 : (t.kind != 1) = false := by simp [h1]
  have HK := Lib.hid h1
  clear h1
  by_cases hn0 : n < 0
  · go_wp2_with fail
    go_ret
    exact ⟨rfl, ST3.out.ls.td.bl⟩
  by_cases hn1 : (nf : Int) ≤ n
  · go_wp2_with fail
    go_ret
    exact ⟨rfl, ST3.out.ls.td.bl⟩
  obtain ⟨k, hk⟩ : ∃ k : Nat, n = k := ⟨n.toNat, by omega⟩
  subst hk
  have hkl : k < nf := by omega
  have n1b : decide ((nf : Int) ≤ (k : Int)) = false := by simpa using hn1
  go_wp2_with fail
  refine (is_any hs1 hs2 HF.out.tf HF.out.df ST3.out.ls.td.le ST3.out.ls.tab.2 ST3.out.ls.tab.1 ST3.out.ls.td.tv ST3.out.ls.td.dv).mono ?_
  rintro e w4 ⟨rfl, hb4⟩
  have ST4 := Lib.hid (ST3.out.next hb4)
  clear hb4 x0 x1 x2 x3 x4 x5 y0 y1 y2 y3 y4 sz3 ST3
  cases hisd : isV t d
  · go_wp2_with fail
    go_ret
    exact ⟨rfl, ST4.out.ls.td.bl⟩
  have HISD := Lib.hid hisd
  clear hisd
  have hnf : t.fields.length = nf := HNO.out
  have htin := ST4.out.ls.td.tin.keep (w' := w4) (Nat.le_refl _) fun q hq => ST4.out.ls.td.bl.cell (p := q) hq
  obtain ⟨A', c', e5, _, hfv⟩ := htin.fields_
  injection e5 with e51 e52 e53
  subst e51; subst e53
  obtain ⟨bo, off, rfl, hboB, hfw⟩ := hfv (by omega)
  obtain ⟨g0, g1', z0, z1, z2, z3, z4, z5, g2', g3', g4, g5, g6, g7, hzi⟩ := hfw.at_ k (by omega)
  obtain ⟨f, hfe⟩ : ∃ f, f = t.fields[k]'(by omega) := ⟨_, rfl⟩
  rw [← hfe] at g0 g1' hzi
  simp only [Nat.zero_add] at g0 g1' g2' g3' g4 g5 g6 g7
  obtain ⟨X3, x3, X4, x4, X5, x5, rfl, rfl, rfl, rfl, rfl, rfl⟩ := hzi.forms
  have hfm : f ∈ t.fields := by rw [hfe]; exact List.getElem_mem _
  have HPL := Lib.hid (parts_law x HK.out hfm HISD.out)
  have hff := HF.out.tf.parts.2.2.2.2.1.at_ (i := k) (by omega)
  rw [← hfe] at hff
  have HFT := Lib.hid hff.type
  have HSH : Hid (Short f.name) := Lib.hid (Short.of hff.name)
  have hfd := field_depth_mem hfm
  have hfs := T.size_eq t
  have hfs2 : f.type.size ≤ t.size := by
    have h2 := sizes_mem hfm
    omega
  have ht1 : f.type.size ≤ 10000 := by omega
  have ht2 : f.type.depth ≤ 900 := by omega
  have HZI := Lib.hid hzi
  have szw4 := ST4.out.sz
  have hbol : bo < w4.heap.size := by omega
  clear hfv hfw hzi htin hfe hfm hff hfd hfs hfs2 e52 hnf
  obtain ⟨x0, x1, x2, x3', x4', x5'⟩ := ST4.out.ls.td.bt.cells
  go_upto_region 7 with fail
  obtain ⟨w5, hw5⟩ : ∃ w5, w5 = w4.alloc (.cells #[.string f.name, .bool f.opt, .int .i64 f.type.kind, .int .i64 f.type.lo, .int .i64 f.type.hi, .slice X3 f.type.names.length x3, .slice X4 f.type.fields.length x4, .slice X5 f.type.of.length x5] 48) := ⟨_, rfl⟩
  have HB5 : Hid (Below w4.heap.size w4 w5) := by rw [hw5]; exact (Below.refl _ _).alloc (Nat.le_refl _) _
  have HX5 : Hid (Box8 w5 w4.heap.size f.name f.opt (.int .i64 f.type.kind) (.int .i64 f.type.lo) (.int .i64 f.type.hi) (.slice X3 f.type.names.length x3) (.slice X4 f.type.fields.length x4) (.slice X5 f.type.of.length x5)) := by rw [hw5]; exact heap_alloc_new w4 _
  have hz5 : w4.heap.size + 1 ≤ w5.heap.size := by rw [hw5]; simp
  rw [← hw5]
  clear hw5 x0 x1 x2 x3' x4' x5' g0 g1' g2' g3' g4 g5 g6 g7
  have ST5 := Lib.hid (ST4.out.next HB5.out)
  have HZ5 : Hid (TypeIn w5 w.heap.size f.type (.int .i64 f.type.kind) (.int .i64 f.type.lo) (.int .i64 f.type.hi) (.slice X3 f.type.names.length x3) (.slice X4 f.type.fields.length x4) (.slice X5 f.type.of.length x5)) := Lib.hid (HZI.out.keep (Nat.le_refl _) fun q hq => HB5.out.cell (p := q) (by omega))
  clear ST4 HZI
  obtain ⟨y0, y1, y2, y3, y4⟩ := ST5.out.ls.td.bd.cells
  obtain ⟨k0, k1, k2, k3, k4, k5, k6, k7⟩ := HX5.out.cells
  have szw5 := ST5.out.sz
  go_wp2_with fail
  have hbs : Below w5.heap.size w5 (w5.alloc (.cells #[.string f.name] 9)) := (Below.refl _ _).alloc (Nat.le_refl _) _
  have hzs : (w5.alloc (.cells #[.string f.name] 9)).heap.size = w5.heap.size + 1 := by simp
  have STS := Lib.hid (ST5.out.next hbs)
  have HZS := Lib.hid (HZ5.out.keep (w' := w5.alloc (.cells #[.string f.name] 9)) (Nat.le_refl _) fun q hq => hbs.cell (p := q) (by omega))
  have HXS := Lib.hid (HX5.out.same (hbs.block _ (by omega)))
  refine (get_v (d := d) (ps := [f.name]) (B := w5.heap.size + 1) HF.out.df (by simp) (fun u hu => by rw [List.mem_singleton.1 hu]; exact HSH.out) STS.out.glob (by omega) (STS.out.ls.td.dv.keep (by omega) fun _ _ => rfl) (strs_new f.name)).mono ?_
  rintro e w6 ⟨q0, q1, q2, q3, q4, G, rfl, hG, hGn, hb6⟩
  have HOF := Lib.hid (getV_fit1 (s := f.name) HF.out.df)
  obtain ⟨old, hold⟩ : ∃ old, (getV d [f.name]).1 = old := ⟨_, rfl⟩
  obtain ⟨had, hhad⟩ : ∃ had, (getV d [f.name]).2 = had := ⟨_, rfl⟩
  have hpl1 := HPL.out.had; have hpl2 := HPL.out.hadnt
  rw [hold] at hG HOF
  rw [hold, hhad] at hpl1
  rw [hhad] at hpl2
  rw [hhad]
  have HP1 := Lib.hid hpl1; have HP2 := Lib.hid hpl2
  obtain ⟨O3, oa, O4, ob, rfl, rfl, rfl, rfl, rfl⟩ := hG.doc.forms
  have HD6 := Lib.hid hG.doc
  have ST6 := Lib.hid (STS.out.next hb6)
  have HZ6 := Lib.hid (HZS.out.keep (w' := w6) (Nat.le_refl _) fun q hq => hb6.cell (p := q) (by omega))
  have HX6 := Lib.hid (HXS.out.same (hb6.block _ (by omega)))
  have hz6 := hb6.size
  clear hG hGn hb6 hold hhad hpl1 hpl2 hbs STS HZS HXS y0 y1 y2 y3 y4 k0 k1 k2 k3 k4 k5 k6 k7 ST5 HZ5 HX5
  go_upto_region 8 with fail
  obtain ⟨w7, hw7⟩ : ∃ w7, w7 = w6.alloc (.cells #[.int .i64 old.kind, .int .i64 old.num, .string old.str, .slice O3 old.keys.length oa, .slice O4 old.kids.length ob] 29) := ⟨_, rfl⟩
  have HB7 : Hid (Below w6.heap.size w6 w7) := by rw [hw7]; exact (Below.refl _ _).alloc (Nat.le_refl _) _
  have HXO : Hid (Box5 w7 w6.heap.size (.int .i64 old.kind) (.int .i64 old.num) (.string old.str) (.slice O3 old.keys.length oa) (.slice O4 old.kids.length ob)) := by rw [hw7]; exact Box5.new w6 _ _ _ _ _
  have hz7 : w6.heap.size + 1 ≤ w7.heap.size := by rw [hw7]; simp
  rw [← hw7]
  clear hw7
  have ST7 := Lib.hid (ST6.out.next HB7.out)
  have HZ7 := Lib.hid (HZ6.out.keep (w' := w7) (Nat.le_refl _) fun q hq => HB7.out.cell (p := q) (by omega))
  have HX7 := Lib.hid (HX6.out.same (HB7.out.block _ (by omega)))
  have HDO : Hid (DocIn w7 w6.heap.size old (.int .i64 old.kind) (.int .i64 old.num) (.string old.str) (.slice O3 old.keys.length oa) (.slice O4 old.kids.length ob)) := Lib.hid (HD6.out.keep (Nat.le_refl _) fun q hq => HB7.out.cell (p := q) hq)
  clear ST6 HZ6 HX6 HD6
  go_cut [83] (fun s83 wx => s83 = .bool false ∧ Below w7.heap.size w7 wx)
  case first =>
    obtain ⟨k0, k1, k2, k3, k4, k5, k6, k7⟩ := HX7.out.cells
    obtain ⟨l0, l1, l2, l3, l4⟩ := HXO.out.cells
    cases had
    · have ho := HP2.out (by trivial)
      rw [ho] at k1
      clear ho
      go_wp2_with fail
      go_meet
      case rel => exact ⟨rfl, Below.refl _ _⟩
    · go_wp2_with fail
      refine (is_any (t := f.type) (d := old) (B := w6.heap.size) ht1 ht2 HFT.out HOF.out (by omega) ST7.out.ls.tab.2 ST7.out.ls.tab.1 ⟨_, _, _, _, _, _, rfl, HZ7.out.keep (by omega) fun _ _ => rfl⟩ ⟨_, _, _, _, _, rfl, HDO.out⟩).mono ?_
      rw [HP1.out (by trivial)]
      rintro e w8 ⟨rfl, hb8⟩
      go_wp2_with fail
      go_meet
      case rel => exact ⟨rfl, hb8⟩
  case rest =>
    obtain ⟨h83, hbc⟩ := hcut
    rw [h83]
    clear h83
    generalize wc = w8 at *
    have ST8 := Lib.hid (ST7.out.next hbc)
    have HZ8 := Lib.hid (HZ7.out.keep (w' := w8) (Nat.le_refl _) fun q hq => hbc.cell (p := q) (by omega))
    have HX8 := Lib.hid (HX7.out.same (hbc.block _ (by omega)))
    have hz8 := hbc.size
    clear hbc ST7 HZ7 HX7 HXO HDO HP1 HP2
    obtain ⟨y0, y1, y2, y3, y4⟩ := ST8.out.ls.td.bd.cells
    obtain ⟨m0, m1, m2, m3, m4⟩ := ST8.out.bx.cells
    obtain ⟨k0, k1, k2, k3, k4, k5, k6, k7⟩ := HX8.out.cells
    have szw8 := ST8.out.sz
    go_wp2_with fail
    have hbs : Below w8.heap.size w8 (w8.alloc (.cells #[.string f.name] 9)) := (Below.refl _ _).alloc (Nat.le_refl _) _
    have hzs : (w8.alloc (.cells #[.string f.name] 9)).heap.size = w8.heap.size + 1 := by simp
    have STS := Lib.hid (ST8.out.next hbs)
    have HZS := Lib.hid (HZ8.out.keep (w' := w8.alloc (.cells #[.string f.name] 9)) (Nat.le_refl _) fun q hq => hbs.cell (p := q) (by omega))
    have HXS := Lib.hid (HX8.out.same (hbs.block _ (by omega)))
    refine (put_all (d := d) (y := x) (ps := [f.name]) (B := w8.heap.size + 1) HF.out.df HXF.out.fit.fit (by simp) (fun u hu => by rw [List.mem_singleton.1 hu]; exact HSH.out) STS.out.glob (by omega) (STS.out.ls.td.dv.keep (by omega) fun _ _ => rfl) (STS.out.xv.keep (by omega) fun _ _ => rfl) (strs_new f.name)).mono ?_
    rintro e w9 ⟨q0, q1, q2, q3, q4, G, rfl, hG, hGn, hb9⟩
    obtain ⟨p, hp⟩ : ∃ p, (putV d x [f.name]).1 = p := ⟨_, rfl⟩
    obtain ⟨er, her⟩ : ∃ er, (putV d x [f.name]).2 = er := ⟨_, rfl⟩
    rw [hp] at hG
    rw [her]
    obtain ⟨P3, pa, P4, pb, rfl, rfl, rfl, rfl, rfl⟩ := hG.doc.forms
    have HD9 := Lib.hid hG.doc
    have ST9 := Lib.hid (STS.out.next hb9)
    have HPE : Hid (putV d x [f.name] = (p, er)) := Lib.hid (by rw [← hp, ← her])
    have hz9 := hb9.size
    have HZ9 := Lib.hid (HZS.out.keep (w' := w9) (Nat.le_refl _) fun q hq => hb9.cell (p := q) (by omega))
    have HX9 := Lib.hid (HXS.out.same (hb9.block _ (by omega)))
    clear hG hGn hb9 hp her hbs STS HZS HXS y0 y1 y2 y3 y4 m0 m1 m2 m3 m4 k0 k1 k2 k3 k4 k5 k6 k7 ST8 HZ8 HX8
    go_upto_region 11 with fail
    obtain ⟨wa, hwa⟩ : ∃ wa, wa = w9.alloc (.cells #[.int .i64 p.kind, .int .i64 p.num, .string p.str, .slice P3 p.keys.length pa, .slice P4 p.kids.length pb] 29) := ⟨_, rfl⟩
    have HBA : Hid (Below w9.heap.size w9 wa) := by rw [hwa]; exact (Below.refl _ _).alloc (Nat.le_refl _) _
    have HPA : Hid (Box5 wa w9.heap.size (.int .i64 p.kind) (.int .i64 p.num) (.string p.str) (.slice P3 p.keys.length pa) (.slice P4 p.kids.length pb)) := by rw [hwa]; exact Box5.new w9 _ _ _ _ _
    have hza : w9.heap.size + 1 ≤ wa.heap.size := by rw [hwa]; simp
    rw [← hwa]
    clear hwa
    have STA := Lib.hid (ST9.out.next HBA.out)
    have HDA : Hid (DocIn wa w9.heap.size p (.int .i64 p.kind) (.int .i64 p.num) (.string p.str) (.slice P3 p.keys.length pa) (.slice P4 p.kids.length pb)) := Lib.hid (HD9.out.keep (Nat.le_refl _) fun q hq => HBA.out.cell (p := q) hq)
    have HZA := Lib.hid (HZ9.out.keep (w' := wa) (Nat.le_refl _) fun q hq => HBA.out.cell (p := q) (by omega))
    have HXA := Lib.hid (HX9.out.same (HBA.out.block _ (by omega)))
    clear ST9 HD9 HZ9 HX9
    by_cases her0 : er = 0
    case neg =>
      have g0 : (er != 0) = true := by simpa using her0
      clear her0
      go_wp2_with fail
      go_ret
      exact ⟨rfl, STA.out.ls.td.bl⟩
    have g0 : (er != 0) = false := by simpa using her0
    subst her0
    have HPF : Hid p.Fit := Lib.hid (put_fit HXF.out.fit.fit [f.name] d p HF.out.d6 ((putV_ok HPE.out).2 rfl).2.2)
    obtain ⟨l0, l1, l2, l3, l4⟩ := HPA.out.cells
    go_wp2_with fail
    refine (right_v (B := w9.heap.size) HPF.out (by omega) ⟨_, _, _, _, _, rfl, HDA.out⟩).mono ?_
    rintro e wb ⟨rfl, hbb⟩
    have STB := Lib.hid (STA.out.next hbb)
    have HPB := Lib.hid (HPA.out.same (hbb.block _ (by omega)))
    have HDB := Lib.hid (HDA.out.keep (w' := wb) (Nat.le_refl _) fun q hq => hbb.cell (p := q) (by omega))
    have HZB := Lib.hid (HZA.out.keep (w' := wb) (Nat.le_refl _) fun q hq => hbb.cell (p := q) (by omega))
    have HXB := Lib.hid (HXA.out.same (hbb.block _ (by omega)))
    have hzb := hbb.size
    clear hbb l0 l1 l2 l3 l4 STA HPA HDA HZA HXA
    cases hrp : rightB p
    case false =>
      go_wp2_with fail
      go_ret
      exact ⟨rfl, STB.out.ls.td.bl⟩
    have HIP := Lib.hid (HPL.out.put p HPE.out hrp)
    clear hrp
    obtain ⟨y0, y1, y2, y3, y4⟩ := STB.out.ls.td.bd.cells
    obtain ⟨k0, k1, k2, k3, k4, k5, k6, k7⟩ := HXB.out.cells
    have szwb := STB.out.sz
    go_wp2_with fail
    have hbs : Below wb.heap.size wb (wb.alloc (.cells #[.string f.name] 9)) := (Below.refl _ _).alloc (Nat.le_refl _) _
    have hzs2 : (wb.alloc (.cells #[.string f.name] 9)).heap.size = wb.heap.size + 1 := by simp
    have STS := Lib.hid (STB.out.next hbs)
    have HZS := Lib.hid (HZB.out.keep (w' := wb.alloc (.cells #[.string f.name] 9)) (Nat.le_refl _) fun q hq => hbs.cell (p := q) (by omega))
    have HXS := Lib.hid (HXB.out.same (hbs.block _ (by omega)))
    have HPS := Lib.hid (HPB.out.same (hbs.block _ (by omega)))
    have HDS := Lib.hid (HDB.out.keep (w' := wb.alloc (.cells #[.string f.name] 9)) (Nat.le_refl _) fun q hq => hbs.cell (p := q) (by omega))
    refine (drop_v (d := d) (ps := [f.name]) (B := wb.heap.size + 1) HF.out.df (by simp) (fun u hu => by rw [List.mem_singleton.1 hu]; exact HSH.out) STS.out.glob (by omega) (STS.out.ls.td.dv.keep (by omega) fun _ _ => rfl) (strs_new f.name)).mono ?_
    rintro e wd ⟨q0, q1, q2, q3, q4, G, rfl, hG, hGn, hbd⟩
    obtain ⟨r, hr⟩ : ∃ r, (dropV d [f.name]).1 = r := ⟨_, rfl⟩
    obtain ⟨gg, hgg⟩ : ∃ gg, (dropV d [f.name]).2 = gg := ⟨_, rfl⟩
    rw [hr] at hG
    rw [hgg]
    obtain ⟨R3, ra, R4, rb, rfl, rfl, rfl, rfl, rfl⟩ := hG.doc.forms
    have HDD := Lib.hid hG.doc
    have STD := Lib.hid (STS.out.next hbd)
    have HRE : Hid (dropV d [f.name] = (r, gg)) := Lib.hid (by rw [← hr, ← hgg])
    have hzd := hbd.size
    have HZD := Lib.hid (HZS.out.keep (w' := wd) (Nat.le_refl _) fun q hq => hbd.cell (p := q) (by omega))
    have HXD := Lib.hid (HXS.out.same (hbd.block _ (by omega)))
    have HPD := Lib.hid (HPS.out.same (hbd.block _ (by omega)))
    have HPO := Lib.hid (HDS.out.keep (w' := wd) (Nat.le_refl _) fun q hq => hbd.cell (p := q) (by omega))
    clear hG hGn hbd hr hgg hbs STS HZS HXS HPS HDS y0 y1 y2 y3 y4 k0 k1 k2 k3 k4 k5 k6 k7 STB HZB HXB HPB HDB
    go_upto_region 14 with fail
    obtain ⟨we, hwe⟩ : ∃ we, we = wd.alloc (.cells #[.int .i64 r.kind, .int .i64 r.num, .string r.str, .slice R3 r.keys.length ra, .slice R4 r.kids.length rb] 29) := ⟨_, rfl⟩
    have HBE : Hid (Below wd.heap.size wd we) := by rw [hwe]; exact (Below.refl _ _).alloc (Nat.le_refl _) _
    have HRB : Hid (Box5 we wd.heap.size (.int .i64 r.kind) (.int .i64 r.num) (.string r.str) (.slice R3 r.keys.length ra) (.slice R4 r.kids.length rb)) := by rw [hwe]; exact Box5.new wd _ _ _ _ _
    have hze : wd.heap.size + 1 ≤ we.heap.size := by rw [hwe]; simp
    rw [← hwe]
    clear hwe
    have STE := Lib.hid (STD.out.next HBE.out)
    have HDR : Hid (DocIn we wd.heap.size r (.int .i64 r.kind) (.int .i64 r.num) (.string r.str) (.slice R3 r.keys.length ra) (.slice R4 r.kids.length rb)) := Lib.hid (HDD.out.keep (Nat.le_refl _) fun q hq => HBE.out.cell (p := q) hq)
    have HZE := Lib.hid (HZD.out.keep (w' := we) (Nat.le_refl _) fun q hq => HBE.out.cell (p := q) (by omega))
    have HXE := Lib.hid (HXD.out.same (HBE.out.block _ (by omega)))
    have HPX := Lib.hid (HPD.out.same (HBE.out.block _ (by omega)))
    have HPZ := Lib.hid (HPO.out.keep (w' := we) (Nat.le_refl _) fun q hq => HBE.out.cell (p := q) (by omega))
    clear STD HDD HZD HXD HPD HPO
    have HRF : Hid r.Fit := Lib.hid (dropV_fit1 HF.out.df HRE.out)
    have szwe := STE.out.sz
    go_cut [118] (fun s118 wx => s118 = .bool false ∧ Below we.heap.size we wx)
    case first =>
      by_cases hg0 : gg = 0
      · subst hg0
        have HIR0 := HPL.out.drop r HRE.out
        obtain ⟨fo, hfo⟩ : ∃ fo, f.opt = fo := ⟨_, rfl⟩
        have gfo : (fo != fo) = false := by simp
        rw [hfo] at HIR0
        have HFO := Lib.hid hfo
        have HIR : Hid (∀ X, Below we.heap.size we X → Calls Tryz.prog 16 #[.agg #[.int .i64 t.kind, v1, v2, v3, .slice (some ⟨bo, off, none⟩) nf c4, v5], .agg #[.int .i64 r.kind, .int .i64 r.num, .string r.str, .slice R3 r.keys.length ra, .slice R4 r.kids.length rb]] X fun e w' => e = .returned (.bool fo) ∧ Below we.heap.size we w') := Lib.hid (fun X hX => (is_any (B := wd.heap.size) hs1 hs2 HF.out.tf HRF.out (by have := hX.size; omega) (STE.out.next hX).ls.tab.2 (STE.out.next hX).ls.tab.1 ((STE.out.next hX).ls.td.tv.keep (by omega) fun _ _ => rfl) ⟨_, _, _, _, _, rfl, HDR.out.keep (Nat.le_refl _) fun q hq => hX.cell (p := q) (by omega)⟩).mono fun e w' h => ⟨by rw [h.1, HIR0], hX.trans (h.2.mono hX.size)⟩)
        clear hfo HIR0
        refine wp_region_quiet (C := fun w' => Below we.heap.size we w') (by kernel_rfl) (by kernel_rfl) ((Below.refl _ _).drew) ?_
        dsimp only
        repeat (first
          | go_big_quiet_skip
          | (go_big_quiet_want; go_big_quiet_op; go_big_quiet_on)
          | (go_big_quiet_want; go_big_quiet_op; apply Exists.intro; refine ⟨fun _ _ => rfl, ?_⟩; go_big_quiet_on))
        go_big_quiet_want
        refine ⟨(.agg #[.int .i64 t.kind, v1, v2, v3, .slice (some ⟨bo, off, none⟩) nf c4, v5]), fun wq hq => ?_, ?_⟩
        · obtain ⟨x0, x1, x2, x3', x4', x5'⟩ := (STE.out.next hq).ls.td.bt.cells
          go_simp
        simp only [Act.put, List.setIfInBounds_toArray, List.set_cons_zero, List.set_cons_succ]
        go_big_quiet_on
        repeat (first
          | go_big_quiet_skip
          | (go_big_quiet_want; go_big_quiet_op; go_big_quiet_on)
          | (go_big_quiet_want; go_big_quiet_op; apply Exists.intro; refine ⟨fun _ _ => rfl, ?_⟩; go_big_quiet_on))
        go_big_quiet_want
        refine ⟨(.agg #[.int .i64 r.kind, .int .i64 r.num, .string r.str, .slice R3 r.keys.length ra, .slice R4 r.kids.length rb]), fun wq hq => ?_, ?_⟩
        · obtain ⟨l0, l1, l2, l3, l4⟩ := (HRB.out.same (hq.block _ (by omega))).cells
          go_simp
        simp only [Act.put, List.setIfInBounds_toArray, List.set_cons_zero, List.set_cons_succ]
        go_big_quiet_on
        repeat (first
          | go_big_quiet_skip
          | (go_big_quiet_want; go_big_quiet_op; go_big_quiet_on)
          | (go_big_quiet_want; go_big_quiet_op; apply Exists.intro; refine ⟨fun _ _ => rfl, ?_⟩; go_big_quiet_on))
        go_big_quiet_want
        go_big_quiet_op
        apply Exists.intro
        refine ⟨fun wq hq => ?_, ?_⟩
        · go_at_call 16
          with_reducible exact HIR.out wq hq
        go_big_quiet_on
        repeat (first
          | go_big_quiet_skip
          | (go_big_quiet_want; go_big_quiet_op; go_big_quiet_on)
          | (go_big_quiet_want; go_big_quiet_op; apply Exists.intro; refine ⟨fun _ _ => rfl, ?_⟩; go_big_quiet_on))
        go_big_quiet_want
        refine ⟨(.bool fo), fun wq hq => ?_, ?_⟩
        · obtain ⟨k0, k1, k2, k3, k4, k5, k6, k7⟩ := (HXE.out.same (hq.block _ (by omega))).cells
          rw [HFO.out] at k1
          go_simp
        simp only [Act.put, List.setIfInBounds_toArray, List.set_cons_zero, List.set_cons_succ]
        go_big_quiet_on
        repeat (first
          | go_big_quiet_skip
          | (go_big_quiet_want; go_big_quiet_op; go_big_quiet_on)
          | (go_big_quiet_want; go_big_quiet_op; apply Exists.intro; refine ⟨fun _ _ => rfl, ?_⟩; go_big_quiet_on))
        refine wpQuiet_nil ?_
        intro wq hq
        go_wp2_with fail
        go_meet
        case rel => exact ⟨rfl, hq⟩
      · have gg0 : (gg == 0) = false := by simpa using hg0
        clear hg0
        refine wp_region_quiet (C := fun w' => Below we.heap.size we w') (by kernel_rfl) (by kernel_rfl) ((Below.refl _ _).drew) ?_
        dsimp only
        repeat (first
          | go_big_quiet_skip
          | (go_big_quiet_want; go_big_quiet_op; go_big_quiet_on)
          | (go_big_quiet_want; go_big_quiet_op; apply Exists.intro; refine ⟨fun _ _ => rfl, ?_⟩; go_big_quiet_on))
        refine wpQuiet_nil ?_
        intro wq hq
        go_wp2_with fail
        go_meet
        case rel => exact ⟨rfl, hq⟩
    case rest =>
      obtain ⟨h118, hbc⟩ := hcut
      rw [h118]
      clear h118
      generalize wc = wf at *
      have STF := Lib.hid (STE.out.next hbc)
      have HZF := Lib.hid (HZE.out.keep (w' := wf) (Nat.le_refl _) fun q hq => hbc.cell (p := q) (by omega))
      have HXG := Lib.hid (HXE.out.same (hbc.block _ (by omega)))
      have HPY := Lib.hid (HPX.out.same (hbc.block _ (by omega)))
      have HPW := Lib.hid (HPZ.out.keep (w' := wf) (Nat.le_refl _) fun q hq => hbc.cell (p := q) (by omega))
      have hzf := hbc.size
      clear hbc STE HZE HXE HPX HPZ HRB HDR
      obtain ⟨b, hb⟩ : ∃ b, isV f.type x = b := ⟨_, rfl⟩
      have HBB := Lib.hid hb
      have gbb : (b == b) = true := by simp
      have HI1 : Hid (∀ X, Below wf.heap.size wf X → Calls Tryz.prog 16 #[.agg #[.int .i64 t.kind, v1, v2, v3, .slice (some ⟨bo, off, none⟩) nf c4, v5], .agg #[.int .i64 p.kind, .int .i64 p.num, .string p.str, .slice P3 p.keys.length pa, .slice P4 p.kids.length pb]] X fun e w' => e = .returned (.bool b) ∧ Below wf.heap.size wf w') := Lib.hid (fun X hX => (is_any (B := w9.heap.size) hs1 hs2 HF.out.tf HPF.out (by have := hX.size; omega) (STF.out.next hX).ls.tab.2 (STF.out.next hX).ls.tab.1 ((STF.out.next hX).ls.td.tv.keep (by omega) fun _ _ => rfl) ⟨_, _, _, _, _, rfl, HPW.out.keep (Nat.le_refl _) fun q hq => hX.cell (p := q) (by omega)⟩).mono fun e w' h => ⟨by rw [h.1, HIP.out, HBB.out], hX.trans (h.2.mono hX.size)⟩)
      have HI2 : Hid (∀ X, Below wf.heap.size wf X → Calls Tryz.prog 16 #[.agg #[.int .i64 f.type.kind, .int .i64 f.type.lo, .int .i64 f.type.hi, .slice X3 f.type.names.length x3, .slice X4 f.type.fields.length x4, .slice X5 f.type.of.length x5], .agg #[e0, e1, e2, e3, e4]] X fun e w' => e = .returned (.bool b) ∧ Below wf.heap.size wf w') := Lib.hid (fun X hX => (is_any (B := w.heap.size) ht1 ht2 HFT.out HXF.out.fit.fit (by have := hX.size; omega) (STF.out.next hX).ls.tab.2 (STF.out.next hX).ls.tab.1 ⟨_, _, _, _, _, _, rfl, HZF.out.keep (Nat.le_refl _) fun q hq => hX.cell (p := q) (by omega)⟩ (STF.out.next hX).xv).mono fun e w' h => ⟨by rw [h.1, HBB.out], hX.trans (h.2.mono hX.size)⟩)
      have HW9 : Hid (Below w.heap.size w wf) := Lib.hid STF.out.ls.td.bl
      clear hb
      go_wp2_with fail
      refine wp_region_quiet (C := fun w' => Below wf.heap.size wf w') (by kernel_rfl) (by kernel_rfl) ((Below.refl _ _).drew) ?_
      dsimp only
      repeat (first
        | go_big_quiet_skip
        | (go_big_quiet_want; go_big_quiet_op; go_big_quiet_on)
        | (go_big_quiet_want; go_big_quiet_op; apply Exists.intro; refine ⟨fun _ _ => rfl, ?_⟩; go_big_quiet_on))
      go_big_quiet_want
      refine ⟨(.agg #[.int .i64 t.kind, v1, v2, v3, .slice (some ⟨bo, off, none⟩) nf c4, v5]), fun wq hq => ?_, ?_⟩
      · obtain ⟨x0, x1, x2, x3', x4', x5'⟩ := (STF.out.next hq).ls.td.bt.cells
        go_simp
      simp only [Act.put, List.setIfInBounds_toArray, List.set_cons_zero, List.set_cons_succ]
      go_big_quiet_on
      repeat (first
        | go_big_quiet_skip
        | (go_big_quiet_want; go_big_quiet_op; go_big_quiet_on)
        | (go_big_quiet_want; go_big_quiet_op; apply Exists.intro; refine ⟨fun _ _ => rfl, ?_⟩; go_big_quiet_on))
      go_big_quiet_want
      refine ⟨(.agg #[.int .i64 p.kind, .int .i64 p.num, .string p.str, .slice P3 p.keys.length pa, .slice P4 p.kids.length pb]), fun wq hq => ?_, ?_⟩
      · obtain ⟨l0, l1, l2, l3, l4⟩ := (HPY.out.same (hq.block _ (by omega))).cells
        go_simp
      simp only [Act.put, List.setIfInBounds_toArray, List.set_cons_zero, List.set_cons_succ]
      go_big_quiet_on
      repeat (first
        | go_big_quiet_skip
        | (go_big_quiet_want; go_big_quiet_op; go_big_quiet_on)
        | (go_big_quiet_want; go_big_quiet_op; apply Exists.intro; refine ⟨fun _ _ => rfl, ?_⟩; go_big_quiet_on))
      go_big_quiet_want
      go_big_quiet_op
      apply Exists.intro
      refine ⟨fun wq hq => ?_, ?_⟩
      · go_at_call 16
        with_reducible exact HI1.out wq hq
      go_big_quiet_on
      repeat (first
        | go_big_quiet_skip
        | (go_big_quiet_want; go_big_quiet_op; go_big_quiet_on)
        | (go_big_quiet_want; go_big_quiet_op; apply Exists.intro; refine ⟨fun _ _ => rfl, ?_⟩; go_big_quiet_on))
      go_big_quiet_want
      refine ⟨(.agg #[.int .i64 f.type.kind, .int .i64 f.type.lo, .int .i64 f.type.hi, .slice X3 f.type.names.length x3, .slice X4 f.type.fields.length x4, .slice X5 f.type.of.length x5]), fun wq hq => ?_, ?_⟩
      · obtain ⟨k0, k1, k2, k3, k4, k5, k6, k7⟩ := (HXG.out.same (hq.block _ (by omega))).cells
        go_simp
      simp only [Act.put, List.setIfInBounds_toArray, List.set_cons_zero, List.set_cons_succ]
      go_big_quiet_on
      repeat (first
        | go_big_quiet_skip
        | (go_big_quiet_want; go_big_quiet_op; go_big_quiet_on)
        | (go_big_quiet_want; go_big_quiet_op; apply Exists.intro; refine ⟨fun _ _ => rfl, ?_⟩; go_big_quiet_on))
      go_big_quiet_want
      refine ⟨(.agg #[e0, e1, e2, e3, e4]), fun wq hq => ?_, ?_⟩
      · obtain ⟨l0, l1, l2, l3, l4⟩ := (STF.out.next hq).bx.cells
        go_simp
      simp only [Act.put, List.setIfInBounds_toArray, List.set_cons_zero, List.set_cons_succ]
      go_big_quiet_on
      repeat (first
        | go_big_quiet_skip
        | (go_big_quiet_want; go_big_quiet_op; go_big_quiet_on)
        | (go_big_quiet_want; go_big_quiet_op; apply Exists.intro; refine ⟨fun _ _ => rfl, ?_⟩; go_big_quiet_on))
      go_big_quiet_want
      go_big_quiet_op
      apply Exists.intro
      refine ⟨fun wq hq => ?_, ?_⟩
      · go_at_call 16
        with_reducible exact HI2.out wq hq
      go_big_quiet_on
      repeat (first
        | go_big_quiet_skip
        | (go_big_quiet_want; go_big_quiet_op; go_big_quiet_on)
        | (go_big_quiet_want; go_big_quiet_op; apply Exists.intro; refine ⟨fun _ _ => rfl, ?_⟩; go_big_quiet_on))
      refine wpQuiet_nil ?_
      intro wq hq
      go_wp2_with fail
      go_ret
      exact ⟨rfl, HW9.out.trans (hq.mono HW9.out.size)⟩
end Go.Proofs.YtlemlgllkcgigaaGreatDoor
