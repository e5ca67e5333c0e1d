/-
  Get and Put with a key of any length, in a record or a dictionary.
-/
import Derived.Test.YtekoicgclkehjaaDoorPutAll
namespace Go.Proofs.YtekoicgclkehjaaDoor
open Go.RowKit

/-- A part that can be looked for in a document. -/
def Wide (d : D) (s : ByteArray) : Prop := s.size ≤ 9223372036854775807 ∧ (Short s ∨ d.kind = 1 ∨ d.kind = 2)
theorem Wide.of {d : D} {s : ByteArray} (h : Short s) : Wide d s := ⟨by unfold Short at h; omega, .inl h⟩
theorem wide_big {d : D} {s : ByteArray} (h : Wide d s) (hn : ¬ Short s) : d.kind = 1 ∨ d.kind = 2 := h.2.resolve_left hn
theorem big_size {s : ByteArray} (hn : ¬ Short s) : 140737488355328 < s.size := by unfold Short at hn; omega
theorem big_key {kind : Int} {s : ByteArray} (hn : ¬ Short s) : keyOfB kind s = false := by
  have h := big_size hn
  unfold keyOfB
  split
  · exact nameB_long (by omega)
  · split
    · simp; omega
    · rfl

set_option maxHeartbeats 2000000 in
set_option maxRecDepth 100000 in
theorem find_big {d : D} {v0 v1 v2 v3 v4 : Value} {s : ByteArray} {w : World} {B : Nat} (hf : d.Fit) (hk : d.kind = 1 ∨ d.kind = 2) (hB : B ≤ w.heap.size) (hd : DocIn w B d v0 v1 v2 v3 v4) :
    Calls Tryd.prog 35 #[.agg #[v0, v1, v2, v3, v4], .string s] w fun e w' => e = .returned (.int .i64 (findI d s)) ∧ Below w.heap.size w w' := by
  have HK := Lib.hid hd.keys_
  obtain ⟨A3, c3, A4, c4, rfl, rfl, rfl, rfl, rfl⟩ := hd.forms
  have hkl := hf.keys; have hdl := hf.kids
  have HR := Lib.hid (find0_range d s hkl)
  clear hd hf
  have tail : ∀ i : Int, find0 d s = i → Hid (if (d.kids.length : Int) ≤ i then findI d s = -1 else findI d s = i) := fun i hi => by
    show if _ then _ else _
    unfold findI; rw [hi]; split <;> rfl
  have TL := Lib.hid tail; clear tail
  by_cases h1 : d.kind = 1
  · have E0 := Lib.hid (show find0 d s = Lib.idxOfS d.keys s by simp [find0, h1])
    have g1 : (d.kind == 1) = true := by simp [h1]
    clear h1
    have hr := idxOfS_range d.keys s
    have TT := TL.out _ E0.out
    go_enter Tryd.func35, Tryd.ntmps35
    go_wp2_with fail
    refine (idx_any d.keys _ s B _ (HK.out.keep fun p hp => World.cell?_alloc_lt w _ p (by omega)) hkl).mono ?_
    rintro e w1 ⟨rfl, rfl⟩
    by_cases hge : (d.kids.length : Int) ≤ Lib.idxOfS d.keys s
    · go_wp2_with fail
      go_ret
      exact ⟨ret_int (by have := TT.out; rw [if_pos hge] at this; exact this.symm), (Below.refl _ _).alloc (Nat.le_refl _) _⟩
    · go_wp2_with fail
      go_ret
      exact ⟨ret_int (by have := TT.out; rw [if_neg (by omega)] at this; exact this.symm), (Below.refl _ _).alloc (Nat.le_refl _) _⟩
  have g1 : (d.kind == 1) = false := by simp [h1]
  by_cases h2 : d.kind = 2
  · have E0 := Lib.hid (show find0 d s = Lib.idxOfS d.keys s by simp [find0, h2])
    have g2 : (d.kind == 2) = true := by simp [h2]
    clear h1 h2
    have hr := idxOfS_range d.keys s
    have TT := TL.out _ E0.out
    go_enter Tryd.func35, Tryd.ntmps35
    go_wp2_with fail
    refine (idx_any d.keys _ s B _ (HK.out.keep fun p hp => World.cell?_alloc_lt w _ p (by omega)) hkl).mono ?_
    rintro e w1 ⟨rfl, rfl⟩
    by_cases hge : (d.kids.length : Int) ≤ Lib.idxOfS d.keys s
    · go_wp2_with fail
      go_ret
      exact ⟨ret_int (by have := TT.out; rw [if_pos hge] at this; exact this.symm), (Below.refl _ _).alloc (Nat.le_refl _) _⟩
    · go_wp2_with fail
      go_ret
      exact ⟨ret_int (by have := TT.out; rw [if_neg (by omega)] at this; exact this.symm), (Below.refl _ _).alloc (Nat.le_refl _) _⟩
  exact absurd hk (by simp [h1, h2])
theorem find_wide {d : D} {v0 v1 v2 v3 v4 : Value} {s : ByteArray} {w : World} {B : Nat} (hf : d.Fit) (hs : Wide d s) (hg : Glob w) (hB : B ≤ w.heap.size) (hd : DocIn w B d v0 v1 v2 v3 v4) :
    Calls Tryd.prog 35 #[.agg #[v0, v1, v2, v3, v4], .string s] w fun e w' => e = .returned (.int .i64 (findI d s)) ∧ Below w.heap.size w w' := by
  by_cases h : Short s
  · exact find_any hf h hg hB hd
  · exact find_big hf (wide_big hs h) hB hd

set_option maxHeartbeats 400000 in
theorem keyOf_wide (kind : Int) (s : ByteArray) (w : World) (hs : s.size ≤ 9223372036854775807) : Calls Tryd.prog 36 #[.int .i64 kind, .string s] w fun e w' => e = .returned (.bool (keyOfB kind s)) ∧ w = w' := by
  by_cases h1 : kind = 1
  · subst h1
    have E := Lib.hid (show keyOfB 1 s = nameB s by simp [keyOfB])
    go_enter Tryd.func36, Tryd.ntmps36
    go_wp2_with fail
    refine (name_any _ _).mono ?_
    rintro e w' ⟨rfl, rfl⟩
    go_wp2_with fail
    go_ret
    exact ⟨ret_bool E.out.symm, rfl⟩
  · by_cases h2 : kind = 2
    · subst h2
      have E := Lib.hid (show keyOfB 2 s = decide (s.size ≤ 256) by simp [keyOfB])
      go_enter Tryd.func36, Tryd.ntmps36
      go_wp2_with fail
      all_goals (go_ret; refine ⟨ret_bool ?_, rfl⟩; rw [E.out, Bool.eq_iff_iff]; simp; try omega)
    · have E := Lib.hid (show keyOfB kind s = false by simp [keyOfB, h1, h2])
      have g1 : (kind == 1) = false := by simp [h1]
      have g2 : (kind == 2) = false := by simp [h2]
      go_enter Tryd.func36, Tryd.ntmps36
      go_wp2_with fail
      go_ret
      exact ⟨ret_bool E.out.symm, rfl⟩


set_option maxHeartbeats 4000000 in
set_option maxRecDepth 100000 in
theorem at_wide {d : D} {v0 v1 v2 v3 v4 pv : Value} {ps : List ByteArray} {w : World} {B b off : Nat} (hf : d.Fit) (hps : ps.length ≤ 10000) (hs : ∀ (k : Nat) (h : k < ps.length) (x : D), (k = 0 → x = d) → Wide x ps[k]) (hg : Glob w) (hB : B ≤ w.heap.size)
    (hc : Cells5 w b off v0 v1 v2 v3 v4) (hd : DocIn w B d v0 v1 v2 v3 v4) (hp : Strs w B pv ps) :
    Calls Tryd.prog 24 #[.pointer (some ⟨b, off, none⟩), pv] w fun e w' => AtTold w B b off d ps e ∧ Below w.heap.size w w' := by
  obtain ⟨A, c, rfl, hc1, hc2⟩ := hp
  have HP := Lib.hid hc2; have HS := Lib.hid hs; have HG := Lib.hid hg
  have HF := Lib.hid hf; have HC := Lib.hid hc; have HD := Lib.hid hd
  clear hc2 hs hg hf hc hd
  go_enter Tryd.func24, Tryd.ntmps24
  go_wp2_with fail
  go_loopw [0, 10] (fun p i wr => ∃ (k : Nat) (is : List Nat) (b' off' : Nat) (x : D) (u0 u1 u2 u3 u4 : Value), k ≤ ps.length ∧ i = .int .i64 k ∧ p = .pointer (some ⟨b', off', none⟩) ∧ Leads w b off is b' off' ∧ D.subAt d is = some x ∧
      Cells5 w b' off' u0 u1 u2 u3 u4 ∧ DocIn w B x u0 u1 u2 u3 u4 ∧ x.Fit ∧ D.locate d ps = (D.locate x (ps.drop k)).map (is ++ ·) ∧ (k = 0 → x = d) ∧ Below w.heap.size w wr) (fun _ i _ => ps.length - (intOf i).toNat)
  case atStart => exact ⟨0, [], b, off, d, v0, v1, v2, v3, v4, Nat.zero_le _, rfl, rfl, ⟨rfl, rfl⟩, rfl, HC.out, HD.out, HF.out, by simp, fun _ => rfl, Below.refl _ _⟩
  case round =>
    obtain ⟨k, is, b', off', x, y0, y1, y2, y3, y4, hk, rfl, rfl, hlead, hsub, hcx, hdx, hfx, hloc, hx0, hb⟩ := hrel
    have HLD := Lib.hid hlead; have HSB := Lib.hid hsub; have HCX := Lib.hid hcx; have HDX := Lib.hid hdx; have HFX := Lib.hid hfx; have HLC := Lib.hid hloc
    clear hlead hsub hloc
    have hz := hb.size
    by_cases hlt : k < ps.length
    · obtain ⟨pb, po, rfl, hpb, hcells⟩ := HP.out (by omega)
      have gp : wr.cell? ⟨pb, po + k, none⟩ = some (.string ps[k]) := (hb.cell (p := ⟨pb, po + k, none⟩) (by show pb < _; omega)).trans (hcells k hlt)
      clear hcells
      have hbl := hcx.lt
      have hcr := hcx.keep (w' := wr) fun o => hb.cell (p := ⟨b', o, none⟩) hbl
      obtain ⟨A3, c3, A4, c4, rfl, rfl, rfl, rfl, rfl⟩ := hdx.forms
      obtain ⟨g0, g1, g2, g3, g4⟩ := hcr
      have hxk := hfx.keys
      clear hcx hdx hfx
      go_wp2_with fail
      refine (find_wide (B := B) HFX.out (HS.out k hlt x hx0) (HG.out.below hb HG.out.size) (by omega) (HDX.out.below (hb.mono hB))).mono ?_
      rintro e w1 ⟨rfl, hb1⟩
      have hb2 : Below w.heap.size w w1 := hb.trans (hb1.mono hz)
      have hcr1 := HCX.out.keep (w' := w1) fun o => hb2.cell (p := ⟨b', o, none⟩) hbl
      by_cases hneg : findI x ps[k] < 0
      · have E := Lib.hid (locate_none hlt HLC.out (stepD_none hneg))
        go_wp2_with fail
        go_ret
        exact ⟨.inl ⟨E.out, rfl⟩, hb2⟩
      · obtain ⟨i, hi⟩ : ∃ i : Nat, findI x ps[k] = (i : Int) := ⟨(findI x ps[k]).toNat, by omega⟩
        have hst : stepD x ps[k] = some i := by rw [stepD_some (by omega), hi]; simp
        obtain ⟨hik, _⟩ := stepD_lt hxk hst
        have hl2 := locate_some hlt HLC.out hst hik
        have hsub2 : D.subAt d (is ++ [i]) = some x.kids[i] := by rw [D.subAt_append, HSB.out]; simp [D.subAt, List.getElem?_eq_getElem hik]
        obtain ⟨_, hc4, hkk⟩ := HDX.out.kids_
        obtain ⟨kb, ko, rfl, hkb, hki⟩ := hkk (by omega)
        have hkc := KidsIn.at_ hki i hik
        rw [Nat.zero_add] at hkc
        obtain ⟨z0, z1, z2, z3, z4, q0, q1, q2, q3, q4, hdk⟩ := hkc
        have HREL : Hid (Leads w b off (is ++ [i]) kb (ko + i * 5) ∧ D.subAt d (is ++ [i]) = some x.kids[i] ∧ Cells5 w kb (ko + i * 5) z0 z1 z2 z3 z4 ∧ DocIn w B x.kids[i] z0 z1 z2 z3 z4 ∧ (x.kids[i]).Fit ∧
          D.locate d ps = (D.locate x.kids[i] (ps.drop (k + 1))).map ((is ++ [i]) ++ ·)) := ⟨HLD.out.snoc HCX.out.c4, hsub2, ⟨q0, q1, q2, q3, q4⟩, hdk, HFX.out.kid hik, hl2⟩
        obtain ⟨p0, p1, p2, p3, p4⟩ := hcr1
        rw [hi]
        clear hi hst hl2 hsub2 hkk hki q0 q1 q2 q3 q4 hdk hneg
        go_wp2_with fail
        go_roundw
        case rel => exact ⟨k + 1, is ++ [i], kb, ko + i * 5, x.kids[i], z0, z1, z2, z3, z4, by omega, by go_num, rfl, HREL.out.1, HREL.out.2.1, HREL.out.2.2.1, HREL.out.2.2.2.1, HREL.out.2.2.2.2.1, HREL.out.2.2.2.2.2, (fun h => absurd h (by omega)), hb2⟩
        case measure => simp [intOf]; omega
    · have E : Hid (D.locate d ps = some is) := by
        show D.locate d ps = some is
        rw [HLC.out, List.drop_eq_nil_of_le (by omega)]; simp [D.locate]
      go_wp2_with fail
      go_ret
      exact ⟨.inr ⟨is, b', off', x, y0, y1, y2, y3, y4, E.out, rfl, HLD.out, HSB.out, HCX.out, HDX.out, HFX.out⟩, hb⟩

set_option maxHeartbeats 4000000 in
set_option maxRecDepth 100000 in
theorem get_wide {d : D} {v pv : Value} {ps : List ByteArray} {w : World} {B : Nat} (hf : d.Fit) (hps : ps.length ≤ 10000) (hs : ∀ (k : Nat) (h : k < ps.length) (x : D), (k = 0 → x = d) → Wide x ps[k]) (hg : Glob w) (hB : B ≤ w.heap.size) (hd : DocV w B d v) (hp : Strs w B pv ps) :
    Calls Tryd.prog 11 #[v, pv] w (MadeDoc2 w.heap.size w (getV d ps).1 (.bool (getV d ps).2)) := by
  obtain ⟨v0, v1, v2, v3, v4, rfl, hd⟩ := hd
  have HD := Lib.hid hd; have HP := Lib.hid hp; have HS := Lib.hid hs; have HG := Lib.hid hg; have HF := Lib.hid hf
  obtain ⟨A3, c3, A4, c4, rfl, rfl, rfl, rfl, rfl⟩ := hd.forms
  obtain ⟨A, c, rfl, hpc, _⟩ := hp
  clear hd hs hg hf
  go_enter Tryd.func11, Tryd.ntmps11
  go_wp2_with fail
  have keep : ∀ o o' : Obj, ∀ p : Addr, p.block < B → ((w.alloc o).alloc o').cell? p = w.cell? p := fun o o' p hp => (World.cell?_alloc_lt (w.alloc _) _ p (by simp; omega)).trans (World.cell?_alloc_lt w _ p (by omega))
  have hx1 := (Box5.new w (.int .i64 d.kind) (.int .i64 d.num) (.string d.str) (.slice A3 d.keys.length c3) (.slice A4 d.kids.length c4)).alloc (.cells #[.int .i64 0, .int .i64 0, .string ⟨#[]⟩, .slice none 0 0, .slice none 0 0] 25)
  have hr1 := Box5.new' (w := w.alloc (.cells #[.int .i64 d.kind, .int .i64 d.num, .string d.str, .slice A3 d.keys.length c3, .slice A4 d.kids.length c4] 25)) (World.size_alloc _ _) (.int .i64 0) (.int .i64 0) (.string ⟨#[]⟩) (.slice none 0 0) (.slice none 0 0)
  refine (at_wide (B := B) (d := d) HF.out hps HS.out ((HG.out.alloc _).alloc _) (by simp; omega) ⟨hx1.cells.1, hx1.cells.2.1, hx1.cells.2.2.1, hx1.cells.2.2.2.1, hx1.cells.2.2.2.2⟩ (HD.out.keep (Nat.le_refl _) (keep _ _)) (HP.out.keep (keep _ _))).mono ?_
  rintro e w1 ⟨ht, hb1⟩
  simp only [World.size_alloc] at hb1
  have hz1 := hb1.size
  simp only [World.size_alloc] at hz1
  have hr2 := hr1.same (hb1.block (w.heap.size + 1) (by omega))
  have hbw : Below w.heap.size w w1 := (((Below.refl _ _).alloc (Nat.le_refl _) _).alloc (by simp) _).trans (hb1.mono (by omega))
  have HR2 := Lib.hid hr2
  rcases ht with ⟨hloc, rfl⟩ | ⟨is, b', off', x, u0, u1, u2, u3, u4, hloc, rfl, _, hsub, hcx, hdx, hfx⟩
  · have E : Hid (getV d ps = (D.zero, false)) := by show getV d ps = _; simp [getV, D.get, hloc]
    obtain ⟨r0, r1, r2, r3, r4⟩ := hr2.cells
    have r5 := hr2.frozen
    clear hx1 hr1 keep hloc hr2
    go_wp2_with fail
    have hfin := ((((HR2.out.set0 (.int .i64 0)).set1 (.int .i64 0)).set2 (.string ⟨#[]⟩)).set3 (.slice none 0 0)).set4 (.slice none 0 0)
    refine ret_cell5_2 (u := .bool false) rfl rfl rfl hfin.load rfl ?_
    rw [E.out]
    exact ⟨_, _, _, _, _, [], rfl, OwnIn.zero _ _, List.nodup_nil, ((((hbw.setCell (by show w.heap.size ≤ w.heap.size + 1; omega) _).setCell (by show w.heap.size ≤ w.heap.size + 1; omega) _).setCell (by show w.heap.size ≤ w.heap.size + 1; omega) _).setCell (by show w.heap.size ≤ w.heap.size + 1; omega) _).setCell (by show w.heap.size ≤ w.heap.size + 1; omega) _⟩
  · have E : Hid (getV d ps = (x, true)) := by show getV d ps = _; simp [getV, D.get, hloc, hsub]
    have hcl := hcx.lt
    simp only [World.size_alloc] at hcl
    have hcx1 := hcx.keep (w' := w1) fun o => hb1.cell (p := ⟨b', o, none⟩) hcl
    have hdx1 : DocIn w1 B x u0 u1 u2 u3 u4 := hdx.keep (Nat.le_refl _) fun p hp => hb1.cell (by omega)
    obtain ⟨X3, e3, X4, e4, rfl, rfl, rfl, rfl, rfl⟩ := hdx1.forms
    obtain ⟨q0, q1, q2, q3, q4⟩ := hcx1
    have HDX := Lib.hid hdx1
    clear hx1 hr1 keep hloc hr2 hsub hcx hdx hdx1
    go_wp2_with fail
    refine (copy_v (B := B) (d := x) hfx (by omega) ⟨_, _, _, _, _, rfl, HDX.out⟩).mono ?_
    rintro e w2 ⟨y0, y1, y2, y3, y4, F, rfl, hown, hnd, hb2⟩
    obtain ⟨Y3, f3, Y4, f4, rfl, rfl, rfl, rfl, rfl⟩ := hown.doc.forms
    have hr3 := HR2.out.same (hb2.block (w.heap.size + 1) (by omega))
    obtain ⟨r0, r1, r2, r3, r4⟩ := hr3.cells
    have r5 := hr3.frozen
    have HR3 := Lib.hid hr3; have HO := Lib.hid hown; have HN := Lib.hid hnd; have HB2 := Lib.hid hb2
    clear hr3 hown hnd hb2 q0 q1 q2 q3 q4
    go_wp2_with fail
    have hfin := ((((HR3.out.set0 (.int .i64 x.kind)).set1 (.int .i64 x.num)).set2 (.string x.str)).set3 (.slice Y3 x.keys.length f3)).set4 (.slice Y4 x.kids.length f4)
    refine ret_cell5_2 (u := .bool true) rfl rfl rfl hfin.load rfl ?_
    rw [E.out]
    have hF := HO.out.lt
    refine ⟨_, _, _, _, _, F, rfl, HO.out.same (by omega) fun k hk => ?_, HN.out, (((((hbw.trans (HB2.out.mono (by omega))).setCell (by show w.heap.size ≤ w.heap.size + 1; omega) _).setCell (by show w.heap.size ≤ w.heap.size + 1; omega) _).setCell (by show w.heap.size ≤ w.heap.size + 1; omega) _).setCell (by show w.heap.size ≤ w.heap.size + 1; omega) _).setCell (by show w.heap.size ≤ w.heap.size + 1; omega) _⟩
    have hk1 := (hF k hk).1
    rw [Below.heap_setCell _ _ _ k (by show k ≠ w.heap.size + 1; omega), Below.heap_setCell _ _ _ k (by show k ≠ w.heap.size + 1; omega), Below.heap_setCell _ _ _ k (by show k ≠ w.heap.size + 1; omega), Below.heap_setCell _ _ _ k (by show k ≠ w.heap.size + 1; omega), Below.heap_setCell _ _ _ k (by show k ≠ w.heap.size + 1; omega)]

set_option maxHeartbeats 4000000 in
set_option maxRecDepth 100000 in
theorem set_big {x y : D} {u0 u1 u2 u3 u4 y0 y1 y2 y3 y4 : Value} {s : ByteArray} {w : World} {base b off : Nat} {G FY : List Nat} (hf : x.Fit) (hs : Wide x s) (hg : Glob w) (hc : Cells5 w b off u0 u1 u2 u3 u4) (hx : OwnIn w base x u0 u1 u2 u3 u4 G)
    (hy : OwnIn w base y y0 y1 y2 y3 y4 FY) (hst : findI x s = -1) (hxk : keyOfB x.kind s = false) (hk : x.kind ≠ 3) :
    Calls Tryd.prog 25 #[.pointer (some ⟨b, off, none⟩), .string s, .agg #[y0, y1, y2, y3, y4]] w fun e w' => e = .returned (.bool false) ∧ Below w.heap.size w w' := by
  have HX := Lib.hid hx; have HF := Lib.hid hf; have HS := Lib.hid hs; have HG := Lib.hid hg; have HFI := Lib.hid hst
  have hbl := hc.lt
  obtain ⟨A3, c3, A4, c4, rfl, rfl, rfl, rfl, rfl⟩ := hy.doc.forms
  obtain ⟨X3, d3, X4, d4, rfl, rfl, rfl, rfl, rfl⟩ := hx.doc.forms
  obtain ⟨p0, p1, p2, p3, p4⟩ := hc
  have HXK := Lib.hid hxk
  clear hx hf hs hg hst hxk hy
  have hk3 : (x.kind == 3) = false := by simp [hk]
  clear hk
  go_enter Tryd.func25, Tryd.ntmps25
  go_wp2_with fail
  refine (find_wide (B := w.heap.size) HF.out HS.out (HG.out.alloc _) (by simp) (HX.out.doc.keep (Nat.le_refl _) fun p hp => World.cell?_alloc_lt w _ p hp)).mono ?_
  rintro e w1 ⟨rfl, hb1⟩
  rw [HFI.out]
  have hz1 := hb1.size
  simp only [World.size_alloc] at hz1
  have k1 : ∀ o, w1.cell? ⟨b, o, none⟩ = w.cell? ⟨b, o, none⟩ := fun o => (hb1.cell (p := ⟨b, o, none⟩) (by simp; omega)).trans (World.cell?_alloc_lt w _ ⟨b, o, none⟩ hbl)
  rw [← k1] at p0 p1 p2 p3 p4
  clear k1
  go_wp2_with fail
  refine (keyOf_wide x.kind s w1 HS.out.1).mono ?_
  rintro e w2 ⟨rfl, rfl⟩
  rw [HXK.out]
  go_wp2_with fail
  have HB1 := Lib.hid hb1; clear hb1
  go_quiet (fail)
  go_wp2_with fail
  go_ret
  exact ⟨rfl, ((Below.refl _ _).alloc (Nat.le_refl _) _).trans ((HB1.out.mono (by simp)).trans ((below_drewN w1 _).mono (by omega)))⟩

theorem find_absent {x : D} {s : ByteArray} (hf : x.Fit) (hn : ¬ Short s) (hk : x.kind = 1 ∨ x.kind = 2) : findI x s = -1 := by
  have h := big_size hn
  have hi : Lib.idxOfS x.keys s = -1 := by
    have : ∀ (l : List ByteArray) (i : Nat), (∀ k ∈ l, k.size ≤ 10000) → Lib.idxFromS l s i = -1 := by
      intro l
      induction l with
      | nil => intro i _; rfl
      | cons k r ih =>
        intro i hl
        have hne : ¬ k = s := fun e => by have := hl k (by simp); rw [e] at this; omega
        simp only [Lib.idxFromS]
        rw [if_neg (by simpa using hne)]
        exact ih _ fun k hk => hl k (by simp [hk])
    exact this x.keys 0 (by obtain ⟨_, _, _, _, _⟩ := x; simp only [D.Fit] at hf; exact hf.2.2.2.1)
  have h0 : find0 x s = -1 := by unfold find0; rw [if_pos hk, hi]
  unfold findI
  rw [h0]
  split <;> rfl
theorem set_wide {x y : D} {u0 u1 u2 u3 u4 y0 y1 y2 y3 y4 : Value} {s : ByteArray} {w : World} {base b off : Nat} {G FY : List Nat} (hf : x.Fit) (hs : Wide x s) (hg : Glob w) (hc : Cells5 w b off u0 u1 u2 u3 u4) (hx : OwnIn w base x u0 u1 u2 u3 u4 G) (hn : G.Nodup) (hb : b ∉ G)
    (hblk : ∃ cur : Array Value, w.heap[b]? = some (.cells cur 25 (0, 0))) (hy : OwnIn w base y y0 y1 y2 y3 y4 FY) (hyn : FY.Nodup) (hdis : ∀ k ∈ FY, k ∉ G ∧ k ≠ b) (hbase : base ≤ w.heap.size) (hrx : keyOfB x.kind s = true → Rising x.keys ∧ x.keys.length = x.kids.length) :
    Calls Tryd.prog 25 #[.pointer (some ⟨b, off, none⟩), .string s, .agg #[y0, y1, y2, y3, y4]] w (SetTold w base x y s b off G FY) := by
  by_cases h : Short s
  · exact set_all hf h hg hc hx hn hb hblk hy hyn hdis hbase hrx
  · have hk := wide_big hs h
    have hfi := find_absent hf h hk
    have hky := big_key (kind := x.kind) h
    refine (set_big hf hs hg hc hx hy hfi hky (by rcases hk with e | e <;> rw [e] <;> decide)).mono ?_
    rintro e w' ⟨he, hok⟩
    refine .inl ⟨?_, he, hok⟩
    simp only [setD, stepD_none (d := x) (s := s) (by rw [hfi]; decide), hky]
    rw [if_neg (by simp), if_neg (fun hp => by rcases hk with e | e <;> rw [e] at hp <;> exact absurd hp.1 (by decide))]

set_option maxHeartbeats 8000000 in
set_option maxRecDepth 100000 in
theorem put_wide {d y : D} {v u pv : Value} {ps : List ByteArray} {w : World} {B : Nat} (hf : d.Fit) (hfy : y.Fit) (hps : ps.length ≤ 10000) (hs : ∀ s ∈ ps.dropLast, Short s) (hsl : ∀ (is : List Nat) (x : D) (h : 0 < ps.length), D.locate d ps.dropLast = some is → D.subAt d is = some x → Wide x (ps[ps.length - 1]'(by omega))) (hg : Glob w) (hB : B ≤ w.heap.size) (hd : DocV w B d v) (hy : DocV w B y u) (hp : Strs w B pv ps) :
    Calls Tryd.prog 10 #[v, u, pv] w (MadeDoc2 w.heap.size w (putV d y ps).1 (.int .i64 (putV d y ps).2)) := by
  obtain ⟨v0, v1, v2, v3, v4, rfl, hd⟩ := hd
  obtain ⟨u0, u1, u2, u3, u4, rfl, hy⟩ := hy
  have HD := Lib.hid hd; have HY := Lib.hid hy; have HS := Lib.hid hs; have HSL := Lib.hid hsl; have HG := Lib.hid hg; have HF := Lib.hid hf; have HFY := Lib.hid hfy
  obtain ⟨A3, c3, A4, c4, rfl, rfl, rfl, rfl, rfl⟩ := hd.forms
  obtain ⟨B3, e3, B4, e4, rfl, rfl, rfl, rfl, rfl⟩ := hy.forms
  obtain ⟨A, c, rfl, hpc, hpcells⟩ := hp
  have HPC := Lib.hid hpcells
  clear hd hy hs hsl hg hf hfy hpcells
  go_enter Tryd.func10, Tryd.ntmps10
  go_wp2_with fail
  have keep : ∀ p : Addr, p.block < B → (((w.alloc (.cells #[.int .i64 d.kind, .int .i64 d.num, .string d.str, .slice A3 d.keys.length c3, .slice A4 d.kids.length c4] 25)).alloc (.cells #[.int .i64 y.kind, .int .i64 y.num, .string y.str, .slice B3 y.keys.length e3, .slice B4 y.kids.length e4] 25)).alloc (.cells #[.int .i64 0, .int .i64 0, .string ⟨#[]⟩, .slice none 0 0, .slice none 0 0] 25)).cell? p = w.cell? p := fun p hp => (World.cell?_alloc_lt ((w.alloc _).alloc _) _ p (by simp; omega)).trans ((World.cell?_alloc_lt (w.alloc _) _ p (by simp; omega)).trans (World.cell?_alloc_lt w _ p (by omega)))
  have hx1 := ((Box5.new w (.int .i64 d.kind) (.int .i64 d.num) (.string d.str) (.slice A3 d.keys.length c3) (.slice A4 d.kids.length c4)).alloc (.cells #[.int .i64 y.kind, .int .i64 y.num, .string y.str, .slice B3 y.keys.length e3, .slice B4 y.kids.length e4] 25)).alloc (.cells #[.int .i64 0, .int .i64 0, .string ⟨#[]⟩, .slice none 0 0, .slice none 0 0] 25)
  have hy1 := (Box5.new' (w := w.alloc (.cells #[.int .i64 d.kind, .int .i64 d.num, .string d.str, .slice A3 d.keys.length c3, .slice A4 d.kids.length c4] 25)) (World.size_alloc _ _) (.int .i64 y.kind) (.int .i64 y.num) (.string y.str) (.slice B3 y.keys.length e3) (.slice B4 y.kids.length e4)).alloc (.cells #[.int .i64 0, .int .i64 0, .string ⟨#[]⟩, .slice none 0 0, .slice none 0 0] 25)
  have hr1 := Box5.new' (w := (w.alloc (.cells #[.int .i64 d.kind, .int .i64 d.num, .string d.str, .slice A3 d.keys.length c3, .slice A4 d.kids.length c4] 25)).alloc (.cells #[.int .i64 y.kind, .int .i64 y.num, .string y.str, .slice B3 y.keys.length e3, .slice B4 y.kids.length e4] 25)) (b := w.heap.size + 2) (by simp) (.int .i64 0) (.int .i64 0) (.string ⟨#[]⟩) (.slice none 0 0) (.slice none 0 0)
  refine (right_v (B := B) (d := d) HF.out (by simp; omega) ⟨_, _, _, _, _, rfl, HD.out.keep (Nat.le_refl _) keep⟩).mono ?_
  rintro e w1 ⟨rfl, hb1⟩
  simp only [World.size_alloc] at hb1
  have hz1 := hb1.size
  simp only [World.size_alloc] at hz1
  have hx2 := hx1.same (hb1.block w.heap.size (by omega))
  have hy2 := hy1.same (hb1.block (w.heap.size + 1) (by omega))
  have hr2 := hr1.same (hb1.block (w.heap.size + 2) (by omega))
  have hbw : Below w.heap.size w w1 := ((((Below.refl _ _).alloc (Nat.le_refl _) _).alloc (by simp) _).alloc (by simp; omega) _).trans (hb1.mono (by omega))
  have HX2 := Lib.hid hx2; have HY2 := Lib.hid hy2; have HR2 := Lib.hid hr2; have HBW := Lib.hid hbw
  have ha0 : ∀ e : Nat, e = 0 ∨ e = 1 ∨ 2 ≤ e := fun e => by omega
  clear ha0
  cases hr : rightB d with
  | false =>
    have E : Hid (putV d y ps = (D.zero, 1)) := by show putV d y ps = _; unfold putV; rw [if_pos (.inl hr)]
    obtain ⟨r0, r1, r2, r3, r4⟩ := hr2.cells
    have r5 := hr2.frozen
    clear hx1 hy1 hr1 keep hr2 hx2 hy2 hbw hb1
    go_wp2_with fail
    have hfin := ((((HR2.out.set0 (.int .i64 0)).set1 (.int .i64 0)).set2 (.string ⟨#[]⟩)).set3 (.slice none 0 0)).set4 (.slice none 0 0)
    refine ret_cell5_2 (u := .int .i64 1) rfl rfl rfl hfin.load rfl ?_
    rw [E.out]
    exact ⟨_, _, _, _, _, [], rfl, OwnIn.zero _ _, List.nodup_nil, (((((HBW.out).setCell (by show w.heap.size ≤ w.heap.size + 2; omega) _).setCell (by show w.heap.size ≤ w.heap.size + 2; omega) _).setCell (by show w.heap.size ≤ w.heap.size + 2; omega) _).setCell (by show w.heap.size ≤ w.heap.size + 2; omega) _).setCell (by show w.heap.size ≤ w.heap.size + 2; omega) _⟩
  | true =>
    obtain ⟨m0, m1, m2, m3, m4⟩ := hy2.cells
    have hyd1 : DocIn w1 B y (.int .i64 y.kind) (.int .i64 y.num) (.string y.str) (.slice B3 y.keys.length e3) (.slice B4 y.kids.length e4) := HY.out.keep (Nat.le_refl _) fun p hp => hbw.cell (p := p) (by omega)
    have hdd1 : DocIn w1 B d (.int .i64 d.kind) (.int .i64 d.num) (.string d.str) (.slice A3 d.keys.length c3) (.slice A4 d.kids.length c4) := HD.out.keep (Nat.le_refl _) fun p hp => hbw.cell (p := p) (by omega)
    have HYD1 := Lib.hid hyd1; have HDD1 := Lib.hid hdd1; have HRT := Lib.hid hr
    clear hx1 hy1 hr1 keep hr2 hx2 hy2 hbw hb1 hyd1 hdd1
    go_wp2_with fail
    refine (right_v (B := B) (d := y) HFY.out (by omega) ⟨_, _, _, _, _, rfl, HYD1.out⟩).mono ?_
    rintro e w2 ⟨rfl, hb2⟩
    have hz2 := hb2.size
    have hbw2 : Below w.heap.size w w2 := HBW.out.trans (hb2.mono (by omega))
    have hx3 := HX2.out.same (w' := w2) (hb2.block w.heap.size (by omega))
    have hy3 := HY2.out.same (w' := w2) (hb2.block (w.heap.size + 1) (by omega))
    have hr3 := HR2.out.same (w' := w2) (hb2.block (w.heap.size + 2) (by omega))
    have HX3 := Lib.hid hx3; have HY3 := Lib.hid hy3; have HR3 := Lib.hid hr3; have HBW2 := Lib.hid hbw2; have HB2 := Lib.hid hb2
    cases hry : rightB y with
    | false =>
      have E : Hid (putV d y ps = (D.zero, 1)) := by show putV d y ps = _; unfold putV; rw [if_pos (.inr hry)]
      obtain ⟨r0, r1, r2, r3, r4⟩ := hr3.cells
      have r5 := hr3.frozen
      clear hr3 hx3 hy3 hbw2 hb2
      go_wp2_with fail
      have hfin := ((((HR3.out.set0 (.int .i64 0)).set1 (.int .i64 0)).set2 (.string ⟨#[]⟩)).set3 (.slice none 0 0)).set4 (.slice none 0 0)
      refine ret_cell5_2 (u := .int .i64 1) rfl rfl rfl hfin.load rfl ?_
      rw [E.out]
      exact ⟨_, _, _, _, _, [], rfl, OwnIn.zero _ _, List.nodup_nil, (((((HBW2.out).setCell (by show w.heap.size ≤ w.heap.size + 2; omega) _).setCell (by show w.heap.size ≤ w.heap.size + 2; omega) _).setCell (by show w.heap.size ≤ w.heap.size + 2; omega) _).setCell (by show w.heap.size ≤ w.heap.size + 2; omega) _).setCell (by show w.heap.size ≤ w.heap.size + 2; omega) _⟩
    | true =>
      have HRY := Lib.hid hry
      have hne : ¬ (rightB d = false ∨ rightB y = false) := by rw [HRT.out, hry]; simp
      have HNE := Lib.hid hne; clear hne
      rcases Nat.eq_zero_or_pos ps.length with h0 | h0
      · have E : Hid (putV d y ps = (y, 0)) := by show putV d y ps = _; unfold putV; rw [if_neg HNE.out, if_pos (List.eq_nil_of_length_eq_zero h0)]
        have hl0 : ((ps.length : Int) == 0) = true := by simp [h0]
        obtain ⟨n0, n1, n2, n3, n4⟩ := hy3.cells
        clear hr3 hx3 hy3 hbw2 hb2 h0
        go_wp2_with fail
        refine (copy_v (B := B) (d := y) HFY.out (by omega) ⟨_, _, _, _, _, rfl, HYD1.out.below (HB2.out.mono (by omega))⟩).mono ?_
        rintro e w3 ⟨y0, y1, y2, y3, y4, F, rfl, hown, hnd, hb3⟩
        obtain ⟨Y3, f3, Y4, f4, rfl, rfl, rfl, rfl, rfl⟩ := hown.doc.forms
        have hr4 := HR3.out.same (hb3.block (w.heap.size + 2) (by omega))
        have hbw3 : Below w.heap.size w w3 := HBW2.out.trans (hb3.mono (by omega))
        obtain ⟨r0, r1, r2, r3, r4⟩ := hr4.cells
        have r5 := hr4.frozen
        have HR4 := Lib.hid hr4; have HO := Lib.hid hown; have HN := Lib.hid hnd; have HBW3 := Lib.hid hbw3
        clear hr4 hown hnd hb3 n0 n1 n2 n3 n4 hbw3
        go_wp2_with fail
        have hfin := ((((HR4.out.set0 (.int .i64 y.kind)).set1 (.int .i64 y.num)).set2 (.string y.str)).set3 (.slice Y3 y.keys.length f3)).set4 (.slice Y4 y.kids.length f4)
        refine ret_cell5_2 (u := .int .i64 0) rfl rfl rfl hfin.load rfl ?_
        rw [E.out]
        have hF := HO.out.lt
        refine ⟨_, _, _, _, _, F, rfl, HO.out.same (by omega) fun k hk => ?_, HN.out, (((((HBW3.out).setCell (by show w.heap.size ≤ w.heap.size + 2; omega) _).setCell (by show w.heap.size ≤ w.heap.size + 2; omega) _).setCell (by show w.heap.size ≤ w.heap.size + 2; omega) _).setCell (by show w.heap.size ≤ w.heap.size + 2; omega) _).setCell (by show w.heap.size ≤ w.heap.size + 2; omega) _⟩
        have hk1 : k ≠ w.heap.size + 2 := by have := (hF k hk).1; omega
        rw [Below.heap_setCell _ _ _ k hk1, Below.heap_setCell _ _ _ k hk1, Below.heap_setCell _ _ _ k hk1, Below.heap_setCell _ _ _ k hk1, Below.heap_setCell _ _ _ k hk1]
      · have hl0 : ((ps.length : Int) == 0) = false := beq_eq_false_iff_ne.2 (by omega)
        obtain ⟨pb, po, rfl, hpb, hpcells⟩ := HPC.out h0
        have HPCE := Lib.hid hpcells
        obtain ⟨q0, q1, q2, q3, q4⟩ := hx3.cells
        clear hr3 hx3 hy3 hbw2 hb2 hpcells m0 m1 m2 m3 m4
        go_wp2_with fail
        refine (copy_v (B := B) (d := d) HF.out (by omega) ⟨_, _, _, _, _, rfl, HDD1.out.below (HB2.out.mono (by omega))⟩).mono ?_
        rintro e w3 ⟨y0, y1, y2, y3, y4, F, rfl, hown, hnd, hb3⟩
        obtain ⟨Y3, f3, Y4, f4, rfl, rfl, rfl, rfl, rfl⟩ := hown.doc.forms
        have hz3 := hb3.size
        have hbw3 : Below w.heap.size w w3 := HBW2.out.trans (hb3.mono (by omega))
        have HO := Lib.hid hown; have HN := Lib.hid hnd; have HB3 := Lib.hid hb3; have HBW3 := Lib.hid hbw3
        have hpw3 : pb < w3.heap.size := by omega
        have hlc : ps.length ≤ c := hpc
        have ib0 : (0 : Int) ≤ (ps.length : Int) - 1 := by omega
        have ib1 : (ps.length : Int) - 1 ≤ (c : Int) := by omega
        have ib2 : (ps.length : Int) - 1 < (ps.length : Int) := by omega
        clear hown hnd hb3 hbw3 q0 q1 q2 q3 q4
        go_wp2_with fail
        have hboxn := Box5.new w3 (.int .i64 d.kind) (.int .i64 d.num) (.string d.str) (.slice Y3 d.keys.length f3) (.slice Y4 d.kids.length f4)
        have hbw4 : Below w.heap.size w (w3.alloc (.cells #[.int .i64 d.kind, .int .i64 d.num, .string d.str, .slice Y3 d.keys.length f3, .slice Y4 d.kids.length f4] 25)) := HBW3.out.alloc (by omega) _
        have hstr : Strs (w3.alloc (.cells #[.int .i64 d.kind, .int .i64 d.num, .string d.str, .slice Y3 d.keys.length f3, .slice Y4 d.kids.length f4] 25)) w3.heap.size (.slice (some ⟨pb, po, none⟩) (ps.length - 1) c) ps.dropLast :=
          ⟨some ⟨pb, po, none⟩, c, by rw [List.length_dropLast], by rw [List.length_dropLast]; omega, fun _ => ⟨pb, po, rfl, hpw3, fun i hi => by
            rw [List.length_dropLast] at hi
            rw [List.getElem_dropLast]
            exact (hbw4.cell (p := ⟨pb, po + i, none⟩) (by show pb < _; omega)).trans (HPCE.out i (by omega))⟩⟩
        refine (at_any (B := w3.heap.size) (d := d) (ps := ps.dropLast) HF.out (by rw [List.length_dropLast]; omega) HS.out (HG.out.below hbw4 HG.out.size) (by simp) ⟨hboxn.cells.1, hboxn.cells.2.1, hboxn.cells.2.2.1, hboxn.cells.2.2.2.1, hboxn.cells.2.2.2.2⟩
          (HO.out.doc.keep (Nat.le_refl _) fun p hp => World.cell?_alloc_lt w3 _ p hp) hstr).mono ?_
        rintro e w4 ⟨ht, hb4⟩
        simp only [World.size_alloc] at hb4
        have hz4 := hb4.size
        simp only [World.size_alloc] at hz4
        have hbox4 := hboxn.same (hb4.block w3.heap.size (by omega))
        have far4 : ∀ k, k < w3.heap.size → w4.heap[k]? = w3.heap[k]? := fun k hk => (hb4.block k (by omega)).trans (Below.heap_alloc w3 _ k hk)
        have hr4 := (HR3.out.same (HB3.out.block (w.heap.size + 2) (by omega))).same (w' := w4) (far4 (w.heap.size + 2) (by omega))
        have hy4 := (HY3.out.same (HB3.out.block (w.heap.size + 1) (by omega))).same (w' := w4) (far4 (w.heap.size + 1) (by omega))
        have hbw5 : Below w.heap.size w w4 := hbw4.trans (hb4.mono (by omega))
        have hgp4 : w4.cell? ⟨pb, po + (ps.length - 1), none⟩ = some (.string (ps[ps.length - 1]'(by omega))) := (hbw5.cell (p := ⟨pb, po + (ps.length - 1), none⟩) (by show pb < _; omega)).trans (HPCE.out (ps.length - 1) (by omega))
        have hdl : ps.getLastD ByteArray.empty = ps[ps.length - 1]'(by omega) := by
          rw [List.getLastD_eq_getLast?, List.getLast?_eq_getElem?, List.getElem?_eq_getElem (by omega)]; rfl
        have hnil : ¬ ps = [] := fun h => by rw [h] at h0; simp at h0
        have HR4 := Lib.hid hr4; have HBW5 := Lib.hid hbw5; have HBOX4 := Lib.hid hbox4; have HDL := Lib.hid hdl; have HNIL := Lib.hid hnil; have HY4 := Lib.hid hy4; have HFAR4 := Lib.hid far4; have HB4 := Lib.hid hb4
        clear hboxn hbw4 hstr hdl hnil hbw5 far4 hb4
        rcases ht with ⟨hloc, rfl⟩ | ⟨is, b', off', x, s0, s1, s2, s3, s4, hloc, rfl, hlead, hsub, hcx, hdx, hfx⟩
        · have E : Hid (putV d y ps = (D.zero, 3)) := by show putV d y ps = _; unfold putV; rw [if_neg HNE.out, if_neg HNIL.out, hloc]
          obtain ⟨r0, r1, r2, r3, r4⟩ := hr4.cells
          have r5 := hr4.frozen
          clear hloc hr4 hy4 hbox4
          go_wp2_with fail
          go_quiet (fail)
          go_wp2_with fail
          have hfin := ((((HR4.out.set0 (.int .i64 0)).set1 (.int .i64 0)).set2 (.string ⟨#[]⟩)).set3 (.slice none 0 0)).set4 (.slice none 0 0)
          refine ret_cell5_2 (u := .int .i64 3) rfl rfl rfl (Box5.load (hfin.same rfl)) rfl ?_
          rw [E.out]
          exact ⟨_, _, _, _, _, [], rfl, OwnIn.zero _ _, List.nodup_nil, below_dr ((((((HBW5.out).setCell (by show w.heap.size ≤ w.heap.size + 2; omega) _).setCell (by show w.heap.size ≤ w.heap.size + 2; omega) _).setCell (by show w.heap.size ≤ w.heap.size + 2; omega) _).setCell (by show w.heap.size ≤ w.heap.size + 2; omega) _).setCell (by show w.heap.size ≤ w.heap.size + 2; omega) _) _⟩
        · have hF := HO.out.lt
          have hown4 : OwnIn w4 w2.heap.size d (.int .i64 d.kind) (.int .i64 d.num) (.string d.str) (.slice Y3 d.keys.length f3) (.slice Y4 d.kids.length f4) F := HO.out.same (Nat.le_refl _) fun k hk => HFAR4.out k (hF k hk).2
          have hboxF : w3.heap.size ∉ F := fun h => by have := (hF _ h).2; omega
          have hlead4 : Leads w4 w3.heap.size 0 is b' off' := hlead.keep fun p hp => HB4.out.cell (by simpa using hp)
          have HO4 := Lib.hid hown4; have HL4 := Lib.hid hlead4; have HLOC := Lib.hid hloc; have HSUB := Lib.hid hsub; have HFX := Lib.hid hfx
          have hgl4 : Glob w4 := HG.out.below HBW5.out HG.out.size
          have HGL4 := Lib.hid hgl4
          have hyd4 : DocIn w4 B y (.int .i64 y.kind) (.int .i64 y.num) (.string y.str) (.slice B3 y.keys.length e3) (.slice B4 y.kids.length e4) := HY.out.keep (Nat.le_refl _) fun p hp => HBW5.out.cell (p := p) (by omega)
          have HYD4 : Hid (DocIn w4.drew B y (.int .i64 y.kind) (.int .i64 y.num) (.string y.str) (.slice B3 y.keys.length e3) (.slice B4 y.kids.length e4)) := DocIn.keep (w := w4) (w' := w4.drew) (Nat.le_refl _) (fun _ _ => rfl) hyd4
          have ib3 : (1 : Int) ≤ (ps.length : Int) := by omega
          have ib4 : 1 ≤ ps.length := h0
          have hlast : Wide x (ps[ps.length - 1]'(by omega)) := HSL.out is x h0 hloc hsub
          have HLAST := Lib.hid hlast
          obtain ⟨m0, m1, m2, m3, m4⟩ := hy4.cells
          have hz4' : w3.heap.size < w4.heap.size := by omega
          have hzb' : B ≤ w4.drew.heap.size := show B ≤ w4.heap.size by omega
          clear hown4 hlead4 hloc hsub hfx hgl4 hyd4 hlast hlead hcx hdx hr4 hy4 hbox4
          go_wp2_with fail
          have hbox4 := HBOX4.out
          have hmid : ∀ (w5 : World), Below w4.heap.size w4 w5 → ∃ s0 s1 s2 s3 s4 G, Focus w5 w2.heap.size d is x w3.heap.size 0 (.int .i64 d.kind) (.int .i64 d.num) (.string d.str) (.slice Y3 d.keys.length f3) (.slice Y4 d.kids.length f4) F b' off' s0 s1 s2 s3 s4 G := fun w5 hb5 => by
            have hbox5 := hbox4.same (hb5.block w3.heap.size hz4')
            exact focus is d x w3.heap.size 0 _ _ _ _ _ F b' off' ⟨_, hbox5⟩ ⟨hbox5.cells.1, hbox5.cells.2.1, hbox5.cells.2.2.1, hbox5.cells.2.2.2.1, hbox5.cells.2.2.2.2⟩ (HO4.out.below hb5 (Nat.le_refl _)) HN.out hboxF HSUB.out (HL4.out.keep fun p hp => hb5.cell hp)
          have HMID := Lib.hid hmid; clear hmid hbox4
          have hsetc : ∀ (w5 : World) (z0 z1 z2 z3 z4 : Value) (FY : List Nat), Below w4.heap.size w4 w5 → OwnIn w5 w4.heap.size y z0 z1 z2 z3 z4 FY → FY.Nodup → ∃ s0 s1 s2 s3 s4 G, Focus w5 w2.heap.size d is x w3.heap.size 0 (.int .i64 d.kind) (.int .i64 d.num) (.string d.str) (.slice Y3 d.keys.length f3) (.slice Y4 d.kids.length f4) F b' off' s0 s1 s2 s3 s4 G ∧
              Calls Tryd.prog 25 #[.pointer (some ⟨b', off', none⟩), .string (ps[ps.length - 1]'(by omega)), .agg #[z0, z1, z2, z3, z4]] w5 fun e w' => ∃ ok, e = .returned (.bool ok) ∧ SetOne w5 w2.heap.size x y (ps[ps.length - 1]'(by omega)) b' off' G FY ok w' ∧ Turned w5 w' G b' := by
            intro w5 z0 z1 z2 z3 z4 FY hb5 hyo hyn
            obtain ⟨s0, s1, s2, s3, s4, G, hfo⟩ := HMID.out w5 hb5
            have hFYl := hyo.lt
            have hs5 := hb5.size
            refine ⟨s0, s1, s2, s3, s4, G, hfo, set_one (set_wide HFX.out HLAST.out (HGL4.out.below hb5 (by have := HGL4.out.size; omega)) hfo.cells hfo.own hfo.nodup hfo.out hfo.blkc (hyo.same (by omega) fun _ _ => rfl) hyn (fun k hk => ?_) (by omega) (fun hst => ?_))⟩
            · have h1 := (hFYl k hk).1
              refine ⟨fun hm => by have := (hF k (hfo.sub k hm)).2; omega, fun h => ?_⟩
              rcases hfo.place with ⟨_, h2, _⟩ | h2
              · omega
              · have := (hF b' h2).2; omega
            · exact part_rising (partB_sub is d x (right_part HRT.out) HSUB.out) hst
          have HSETC := Lib.hid hsetc; clear hsetc
          go_region_held3 (fun w' => w'.cell? ⟨pb, po + (ps.length - 1), none⟩ = some (.string (ps[ps.length - 1]'(by omega))) ∧ w'.cell? ⟨w.heap.size + 1, 0, none⟩ = some (.int .i64 y.kind) ∧ w'.cell? ⟨w.heap.size + 1, 1, none⟩ = some (.int .i64 y.num) ∧ w'.cell? ⟨w.heap.size + 1, 2, none⟩ = some (.string y.str) ∧
              w'.cell? ⟨w.heap.size + 1, 3, none⟩ = some (.slice B3 y.keys.length e3) ∧ w'.cell? ⟨w.heap.size + 1, 4, none⟩ = some (.slice B4 y.kids.length e4))
            (first
              | go_keep
              | (exact ⟨(hb5.cell (p := ⟨pb, po + (ps.length - 1), none⟩) (by show pb < w4.heap.size; omega)).trans hgp4, (hb5.cell (p := ⟨w.heap.size + 1, 0, none⟩) (by show w.heap.size + 1 < w4.heap.size; omega)).trans m0, (hb5.cell (p := ⟨w.heap.size + 1, 1, none⟩) (by show w.heap.size + 1 < w4.heap.size; omega)).trans m1,
                  (hb5.cell (p := ⟨w.heap.size + 1, 2, none⟩) (by show w.heap.size + 1 < w4.heap.size; omega)).trans m2, (hb5.cell (p := ⟨w.heap.size + 1, 3, none⟩) (by show w.heap.size + 1 < w4.heap.size; omega)).trans m3, (hb5.cell (p := ⟨w.heap.size + 1, 4, none⟩) (by show w.heap.size + 1 < w4.heap.size; omega)).trans m4⟩)
              | (exact ⟨(World.cell?_of_block (a := ⟨pb, po + (ps.length - 1), none⟩) (hfr6 pb (by omega))).trans hgp4, (World.cell?_of_block (a := ⟨w.heap.size + 1, 0, none⟩) (hfr6 (w.heap.size + 1) (by omega))).trans m0, (World.cell?_of_block (a := ⟨w.heap.size + 1, 1, none⟩) (hfr6 (w.heap.size + 1) (by omega))).trans m1,
                  (World.cell?_of_block (a := ⟨w.heap.size + 1, 2, none⟩) (hfr6 (w.heap.size + 1) (by omega))).trans m2, (World.cell?_of_block (a := ⟨w.heap.size + 1, 3, none⟩) (hfr6 (w.heap.size + 1) (by omega))).trans m3, (World.cell?_of_block (a := ⟨w.heap.size + 1, 4, none⟩) (hfr6 (w.heap.size + 1) (by omega))).trans m4⟩))
            ((first
              | (go_at_call 22; (refine (copy_v (B := B) (d := y) HFY.out hzb' ⟨_, _, _, _, _, rfl, HYD4.out⟩).mono ?_); (rintro e w5 ⟨z0, z1, z2, z3, z4, FY, rfl, hyo, hyn, hb5'⟩); (have hb5 : Below w4.heap.size w4 w5 := (Below.refl _ _).drew.trans hb5'); (have HYO := Lib.hid hyo; have HYN := Lib.hid hyn; clear hyo hyn hb5'))
              | (go_at_call 25; (obtain ⟨s0, s1, s2, s3, s4, G, hfo, hcall⟩ := HSETC.out w5 z0 z1 z2 z3 z4 FY hb5 HYO.out HYN.out); (refine hcall.mono ?_); rintro e w6 ⟨ok, rfl, hone, hturn⟩; have HFO5 := Lib.hid hfo; have HONE := Lib.hid hone; have HTURN := Lib.hid hturn; have hfr6 := fr6 hturn hfo hb5 hF hz4' (show w2.heap.size ≤ w3.heap.size by omega); clear hfo hcall hone hturn)))
          have hs5 := hb5.size
          have hs6 := HTURN.out.size
          have hr6 := HR4.out.same (w' := w6) (hfr6 (w.heap.size + 2) (by omega))
          have hGF := HFO5.out.sub
          have hbF : b' = w3.heap.size ∨ b' ∈ F := by
            rcases HFO5.out.place with ⟨_, h2, _⟩ | h2
            · exact .inl h2
            · exact .inr h2
          have hbw6 : Below w.heap.size w w6 := (HBW5.out.trans (hb5.mono (by omega))).trans (HTURN.out.below (fun k hk => by have := (hF k (hGF k hk)).1; omega) (by
            rcases hbF with h | h
            · omega
            · have := (hF b' h).1; omega) (by omega))
          obtain ⟨r0, r1, r2, r3, r4⟩ := hr6.cells
          have r5 := hr6.frozen
          have HR6 := Lib.hid hr6; have HBW6 := Lib.hid hbw6
          clear hr6 hbw6 hfr6 hgp4 m0 m1 m2 m3 m4
          rcases HONE.out with ⟨rfl, hnone⟩ | ⟨rfl, x', hsome, hok⟩
          · have E : Hid (putV d y ps = (D.zero, 3)) := by show putV d y ps = _; unfold putV; rw [if_neg HNE.out, if_neg HNIL.out, HLOC.out]; simp only; rw [HSUB.out]; simp only; rw [HDL.out, hnone]
            clear hnone HONE
            go_wp2_with fail
            have hfin := ((((HR6.out.set0 (.int .i64 0)).set1 (.int .i64 0)).set2 (.string ⟨#[]⟩)).set3 (.slice none 0 0)).set4 (.slice none 0 0)
            refine ret_cell5_2 (u := .int .i64 3) rfl rfl rfl hfin.load rfl ?_
            rw [E.out]
            exact ⟨_, _, _, _, _, [], rfl, OwnIn.zero _ _, List.nodup_nil, (((((HBW6.out).setCell (by show w.heap.size ≤ w.heap.size + 2; omega) _).setCell (by show w.heap.size ≤ w.heap.size + 2; omega) _).setCell (by show w.heap.size ≤ w.heap.size + 2; omega) _).setCell (by show w.heap.size ≤ w.heap.size + 2; omega) _).setCell (by show w.heap.size ≤ w.heap.size + 2; omega) _⟩
          · have E : Hid (putV d y ps = (D.repl d is x', 0)) := by show putV d y ps = _; unfold putV; rw [if_neg HNE.out, if_neg HNIL.out, HLOC.out]; simp only; rw [HSUB.out]; simp only; rw [HDL.out, hsome]
            have hFYl : ∀ k ∈ FY, w4.heap.size ≤ k ∧ k < w5.heap.size := HYO.out.lt
            obtain ⟨c0, c1, c2, c3', c4', F', zc, zo, zn, zf, zt⟩ := whole_turned HFO5.out hok (fun k hk => ⟨fun h => by have h1 := (hFYl k hk).1; have h2 := (hF k h).2; omega, by have h1 := (hFYl k hk).1; omega⟩) (fun k hk => by have := (hF k hk).2; omega) (by omega) hboxF
            obtain ⟨Z3, g3, Z4, g4, rfl, rfl, rfl, rfl, rfl⟩ := zo.doc.forms
            obtain ⟨t0, t1, t2, t3, t4⟩ := zc
            have HZO := Lib.hid zo; have HZF := Lib.hid zf; have HZN := Lib.hid zn
            clear zo zf zn zt hok hsome HONE
            go_wp2_with fail
            have hfin := ((((HR6.out.set0 (.int .i64 (D.repl d is x').kind)).set1 (.int .i64 (D.repl d is x').num)).set2 (.string (D.repl d is x').str)).set3 (.slice Z3 (D.repl d is x').keys.length g3)).set4 (.slice Z4 (D.repl d is x').kids.length g4)
            refine ret_cell5_2 (u := .int .i64 0) rfl rfl rfl hfin.load rfl ?_
            rw [E.out]
            refine ⟨_, _, _, _, _, F', rfl, HZO.out.same (by omega) fun k hk => ?_, HZN.out, (((((HBW6.out).setCell (by show w.heap.size ≤ w.heap.size + 2; omega) _).setCell (by show w.heap.size ≤ w.heap.size + 2; omega) _).setCell (by show w.heap.size ≤ w.heap.size + 2; omega) _).setCell (by show w.heap.size ≤ w.heap.size + 2; omega) _).setCell (by show w.heap.size ≤ w.heap.size + 2; omega) _⟩
            have hk1 : k ≠ w.heap.size + 2 := by
              rcases HZF.out k hk with h | h | h
              · have := (hF k h).1; omega
              · have := (hFYl k h).1; omega
              · omega
            rw [Below.heap_setCell _ _ _ k hk1, Below.heap_setCell _ _ _ k hk1, Below.heap_setCell _ _ _ k hk1, Below.heap_setCell _ _ _ k hk1, Below.heap_setCell _ _ _ k hk1]

theorem get_key {d : D} {v pv : Value} {s : ByteArray} {w : World} {B : Nat} (hf : d.Fit) (hs : Wide d s) (hg : Glob w) (hB : B ≤ w.heap.size) (hd : DocV w B d v) (hp : Strs w B pv [s]) :
    Calls Tryd.prog 11 #[v, pv] w (MadeDoc2 w.heap.size w (getV d [s]).1 (.bool (getV d [s]).2)) :=
  get_wide hf (by simp) (fun k h x hx => by
    obtain rfl : k = 0 := by simp at h; exact h
    rw [hx rfl]; exact hs) hg hB hd hp
theorem put_key {d y : D} {v u pv : Value} {s : ByteArray} {w : World} {B : Nat} (hf : d.Fit) (hfy : y.Fit) (hs : Wide d s) (hg : Glob w) (hB : B ≤ w.heap.size) (hd : DocV w B d v) (hy : DocV w B y u) (hp : Strs w B pv [s]) :
    Calls Tryd.prog 10 #[v, u, pv] w (MadeDoc2 w.heap.size w (putV d y [s]).1 (.int .i64 (putV d y [s]).2)) :=
  put_wide hf hfy (by simp) (fun s h => by simp at h) (fun is x h hl hx => by
    simp only [List.dropLast, D.locate, Option.some.injEq] at hl
    subst hl
    simp only [D.subAt, Option.some.injEq] at hx
    subst hx
    exact hs) hg hB hd hy hp
end Go.Proofs.YtekoicgclkehjaaDoor
