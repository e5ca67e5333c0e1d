/-
  
-/
import Derived.Test.YtdcempejdggkpaaGreatDoorB24
namespace Go.Proofs.YtdcempejdggkpaaGreatDoor
open Go.RowKit

theorem whole_turned {w w' : World} {base box b off : Nat} {d x x' : D} {is : List Nat} {v0 v1 v2 v3 v4 u0 u1 u2 u3 u4 : Value} {F G FY : List Nat} (hf : Focus w base d is x box 0 v0 v1 v2 v3 v4 F b off u0 u1 u2 u3 u4 G) (hset : SetOk w base x' b off G FY w')
    (hFY : ∀ k ∈ FY, k ∉ F ∧ k ≠ box) (hF : ∀ k ∈ F, k < w.heap.size) (hbox : box < w.heap.size) (hbF : box ∉ F) :
    ∃ (z0 z1 z2 z3 z4 : Value) (F' : List Nat), Cells5 w' box 0 z0 z1 z2 z3 z4 ∧ OwnIn w' base (D.repl d is x') z0 z1 z2 z3 z4 F' ∧ F'.Nodup ∧ (∀ k ∈ F', k ∈ F ∨ k ∈ FY ∨ w.heap.size ≤ k) ∧ Turned w w' F box := by
  obtain ⟨y0, y1, y2, y3, y4, G', h1, h2, h3, h4, h5, h6, h7⟩ := hset
  have hbb : b = box ∨ b ∈ F := by
    rcases hf.place with ⟨_, h, _⟩ | h
    · exact .inl h
    · exact .inr h
  obtain ⟨z0, z1, z2, z3, z4, F', k1, k2, k3, _, k5⟩ := hf.back w' x' y0 y1 y2 y3 y4 G' (fun k hk hkG hkb => h7.block k (hF k hk) hkG hkb) (fun h => h7.block box hbox (fun hm => hbF (hf.sub box hm)) h) h1 h2 h3 h4 (fun k hk => by
    rcases h6 k hk with h | h | h
    · exact .inl h
    · exact .inr (hFY k h)
    · exact .inr ⟨fun hm => by have := hF k hm; omega, by omega⟩) h5
  refine ⟨z0, z1, z2, z3, z4, F', k1, k2, k3, fun k hk => ?_, ⟨h7.os, h7.tape, h7.output, h7.size, fun k hk hkF hkb => h7.block k hk (fun hm => hkF (hf.sub k hm)) (fun h => ?_)⟩⟩
  · rcases k5 k hk with h | h
    · exact .inl h
    · rcases h6 k h with h | h | h
      · exact .inl (hf.sub k h)
      · exact .inr (.inl h)
      · exact .inr (.inr h)
  · subst h
    rcases hbb with h | h
    · exact hkb h
    · exact hkF h

theorem partB_sub : ∀ (is : List Nat) (d x : D), partB d = true → D.subAt d is = some x → partB x = true
  | [], d, x, h, hs => by simp only [D.subAt, Option.some.injEq] at hs; rw [← hs]; exact h
  | i :: is, d, x, h, hs => by
    simp only [D.subAt] at hs
    cases hk : d.kids[i]? with
    | none => rw [hk] at hs; cases hs
    | some k =>
      rw [hk] at hs
      obtain ⟨hi, rfl⟩ := List.getElem?_eq_some_iff.1 hk
      rw [partB_eq, Bool.and_eq_true] at h
      exact partB_sub is _ x (partsB_at h.2 hi) hs
theorem sound_keys {x : D} (h : soundB x = true) (hk : x.kind ≠ 3) : x.keys.length = x.kids.length := by
  simp only [soundB, Bool.and_eq_true] at h
  have h2 := h.2.2
  simp only [formB] at h2
  by_cases h1 : x.kind = 1
  · rw [if_pos h1, keyedB, Bool.and_eq_true, decide_eq_true_eq] at h2; exact h2.1
  · rw [if_neg h1] at h2
    by_cases h3 : x.kind = 2
    · rw [if_pos h3, keyedB, Bool.and_eq_true, decide_eq_true_eq] at h2; exact h2.1
    · rw [if_neg h3, if_neg hk] at h2
      split at h2
      · simp only [Bool.and_eq_true, decide_eq_true_eq] at h2; omega
      · cases h2
theorem right_part {d : D} (h : rightB d = true) : partB d = true := (okB_iff.1 h).2.2

/-- What Drop tells. -/
def dropV (d : D) (ps : List ByteArray) : D × Int :=
  if rightB d = false ∨ ps = [] then (D.zero, 1)
  else match D.locate d ps.dropLast with
    | none => (D.zero, 3)
    | some is => match D.subAt d is with
      | none => (D.zero, 3)
      | some x => match stepD x (ps.getLastD ByteArray.empty) with
        | none => (D.zero, 3)
        | some i => (D.repl d is (x.dropKid i), 0)

set_option maxHeartbeats 4000000 in
set_option maxRecDepth 100000 in
theorem drop_v {d : D} {v pv : Value} {ps : List ByteArray} {w : World} {B : Nat} (hf : d.Fit) (hps : ps.length ≤ 10000) (hs : ∀ s ∈ ps, Short s) (hg : Glob w) (hB : B ≤ w.heap.size) (hd : DocV w B d v) (hp : Strs w B pv ps) :
    Calls Tryz.prog 16 #[v, pv] w (MadeDoc2 w.heap.size w (dropV d ps).1 (.int .i64 (dropV d ps).2)) := by
  obtain ⟨v0, v1, v2, v3, v4, rfl, hd⟩ := hd
  have HD := Lib.hid hd; have HP := Lib.hid hp; have HS := Lib.hid hs; have HG := Lib.hid hg; have HF := Lib.hid hf
  obtain ⟨A3, c3, A4, c4, rfl, rfl, rfl, rfl, rfl⟩ := hd.forms
  obtain ⟨A, c, rfl, hpc, hpcells⟩ := hp
  have HPC := Lib.hid hpcells
  clear hd hs hg hf hpcells
  go_enter Tryz.func16, Tryz.ntmps16
  go_wp2_with fail
  have keep : ∀ o o' : Obj, ∀ p : Addr, p.block < B → ((w.alloc o).alloc o').cell? p = w.cell? p := fun o o' p hp => (World.cell?_alloc_lt (w.alloc _) _ p (by simp; omega)).trans (World.cell?_alloc_lt w _ p (by omega))
  have hx1 := (Box5.new w (.int .i64 d.kind) (.int .i64 d.num) (.string d.str) (.slice A3 d.keys.length c3) (.slice A4 d.kids.length c4)).alloc (.cells #[.int .i64 0, .int .i64 0, .string ⟨#[]⟩, .slice none 0 0, .slice none 0 0] 27)
  have hr1 := Box5.new' (w := w.alloc (.cells #[.int .i64 d.kind, .int .i64 d.num, .string d.str, .slice A3 d.keys.length c3, .slice A4 d.kids.length c4] 27)) (World.size_alloc _ _) (.int .i64 0) (.int .i64 0) (.string ⟨#[]⟩) (.slice none 0 0) (.slice none 0 0)
  refine (right_v (B := B) (d := d) HF.out (by simp; omega) ⟨_, _, _, _, _, rfl, HD.out.keep (Nat.le_refl _) (keep _ _)⟩).mono ?_
  rintro e w1 ⟨rfl, hb1⟩
  simp only [World.size_alloc] at hb1
  have hz1 := hb1.size
  simp only [World.size_alloc] at hz1
  have hx2 := hx1.same (hb1.block w.heap.size (by omega))
  have hr2 := hr1.same (hb1.block (w.heap.size + 1) (by omega))
  have hbw : Below w.heap.size w w1 := (((Below.refl _ _).alloc (Nat.le_refl _) _).alloc (by simp) _).trans (hb1.mono (by omega))
  have HR2 := Lib.hid hr2; have HBW := Lib.hid hbw
  cases hr : rightB d with
  | false =>
    have E : Hid (dropV d ps = (D.zero, 1)) := by show dropV d ps = _; unfold dropV; rw [if_pos (.inl hr)]
    obtain ⟨r0, r1, r2, r3, r4⟩ := hr2.cells
    have r5 := hr2.frozen
    clear hx1 hr1 keep hr2 hx2 hbw hb1
    go_wp2_with fail
    have hfin := ((((HR2.out.set0 (.int .i64 0)).set1 (.int .i64 0)).set2 (.string ⟨#[]⟩)).set3 (.slice none 0 0)).set4 (.slice none 0 0)
    refine ret_cell5_2 (u := .int .i64 1) rfl rfl rfl hfin.load rfl ?_
    rw [E.out]
    exact ⟨_, _, _, _, _, [], rfl, OwnIn.zero _ _, List.nodup_nil, ((((HBW.out.setCell (by show w.heap.size ≤ w.heap.size + 1; omega) _).setCell (by show w.heap.size ≤ w.heap.size + 1; omega) _).setCell (by show w.heap.size ≤ w.heap.size + 1; omega) _).setCell (by show w.heap.size ≤ w.heap.size + 1; omega) _).setCell (by show w.heap.size ≤ w.heap.size + 1; omega) _⟩
  | true =>
    have HRT := Lib.hid hr
    rcases Nat.eq_zero_or_pos ps.length with h0 | h0
    · have E : Hid (dropV d ps = (D.zero, 1)) := by show dropV d ps = _; unfold dropV; rw [if_pos (.inr (List.eq_nil_of_length_eq_zero h0))]
      have hl0 : ((ps.length : Int) == 0) = true := by simp [h0]
      obtain ⟨r0, r1, r2, r3, r4⟩ := hr2.cells
      have r5 := hr2.frozen
      clear hx1 hr1 keep hr2 hx2 hbw hb1 h0
      go_wp2_with fail
      have hfin := ((((HR2.out.set0 (.int .i64 0)).set1 (.int .i64 0)).set2 (.string ⟨#[]⟩)).set3 (.slice none 0 0)).set4 (.slice none 0 0)
      refine ret_cell5_2 (u := .int .i64 1) rfl rfl rfl hfin.load rfl ?_
      rw [E.out]
      exact ⟨_, _, _, _, _, [], rfl, OwnIn.zero _ _, List.nodup_nil, ((((HBW.out.setCell (by show w.heap.size ≤ w.heap.size + 1; omega) _).setCell (by show w.heap.size ≤ w.heap.size + 1; omega) _).setCell (by show w.heap.size ≤ w.heap.size + 1; omega) _).setCell (by show w.heap.size ≤ w.heap.size + 1; omega) _).setCell (by show w.heap.size ≤ w.heap.size + 1; omega) _⟩
    · have hl0 : ((ps.length : Int) == 0) = false := beq_eq_false_iff_ne.2 (by omega)
      obtain ⟨pb, po, rfl, hpb, hpcells⟩ := HPC.out h0
      have HPCE := Lib.hid hpcells
      obtain ⟨q0, q1, q2, q3, q4⟩ := hx2.cells
      have hd1 : DocIn w1 B d (.int .i64 d.kind) (.int .i64 d.num) (.string d.str) (.slice A3 d.keys.length c3) (.slice A4 d.kids.length c4) := HD.out.keep (Nat.le_refl _) fun p hp => hbw.cell (p := p) (by omega)
      have HD1 := Lib.hid hd1
      have HB1 := Lib.hid hb1
      clear hx1 hr1 keep hr2 hx2 hbw hb1 hpcells hd1
      go_wp2_with fail
      refine (copy_v (B := B) (d := d) HF.out (by omega) ⟨_, _, _, _, _, rfl, HD1.out⟩).mono ?_
      rintro e w2 ⟨y0, y1, y2, y3, y4, F, rfl, hown, hnd, hb2⟩
      obtain ⟨Y3, f3, Y4, f4, rfl, rfl, rfl, rfl, rfl⟩ := hown.doc.forms
      have hz2 := hb2.size
      have hbw2 : Below w.heap.size w w2 := HBW.out.trans (hb2.mono (by omega))
      have HO := Lib.hid hown; have HN := Lib.hid hnd; have HB2 := Lib.hid hb2; have HBW2 := Lib.hid hbw2
      have hgp : w2.cell? ⟨pb, po + (ps.length - 1), none⟩ = some (.string (ps[ps.length - 1]'(by omega))) := (hbw2.cell (p := ⟨pb, po + (ps.length - 1), none⟩) (by show pb < _; omega)).trans (HPCE.out (ps.length - 1) (by omega))
      have hpw2 : pb < w2.heap.size := by omega
      have hlc : ps.length ≤ c := hpc
      have ib0 : (0 : Int) ≤ (ps.length : Int) - 1 := by omega
      have ib1 : (ps.length : Int) - 1 ≤ (c : Int) := by omega
      clear hown hnd hb2 hbw2 q0 q1 q2 q3 q4
      go_wp2_with fail
      have hboxn := Box5.new w2 (.int .i64 d.kind) (.int .i64 d.num) (.string d.str) (.slice Y3 d.keys.length f3) (.slice Y4 d.kids.length f4)
      have hbw3 : Below w.heap.size w (w2.alloc (.cells #[.int .i64 d.kind, .int .i64 d.num, .string d.str, .slice Y3 d.keys.length f3, .slice Y4 d.kids.length f4] 27)) := HBW2.out.alloc (by omega) _
      have hstr : Strs (w2.alloc (.cells #[.int .i64 d.kind, .int .i64 d.num, .string d.str, .slice Y3 d.keys.length f3, .slice Y4 d.kids.length f4] 27)) w2.heap.size (.slice (some ⟨pb, po, none⟩) (ps.length - 1) c) ps.dropLast :=
        ⟨some ⟨pb, po, none⟩, c, by rw [List.length_dropLast], by rw [List.length_dropLast]; omega, fun _ => ⟨pb, po, rfl, hpw2, fun i hi => by
          rw [List.length_dropLast] at hi
          rw [List.getElem_dropLast]
          exact (hbw3.cell (p := ⟨pb, po + i, none⟩) (by show pb < _; omega)).trans (HPCE.out i (by omega))⟩⟩
      refine (at_any (B := w2.heap.size) (d := d) (ps := ps.dropLast) HF.out (by rw [List.length_dropLast]; omega) (fun s hs => HS.out s (List.dropLast_subset _ hs)) (HG.out.below hbw3 HG.out.size) (by simp) ⟨hboxn.cells.1, hboxn.cells.2.1, hboxn.cells.2.2.1, hboxn.cells.2.2.2.1, hboxn.cells.2.2.2.2⟩
        (HO.out.doc.keep (Nat.le_refl _) fun p hp => World.cell?_alloc_lt w2 _ p hp) hstr).mono ?_
      rintro e w3 ⟨ht, hb3⟩
      simp only [World.size_alloc] at hb3
      have hz3 := hb3.size
      simp only [World.size_alloc] at hz3
      have hbox3 := hboxn.same (hb3.block w2.heap.size (by omega))
      have hr3 := (HR2.out.same (HB2.out.block (w.heap.size + 1) (by omega))).same (w' := w3) ((hb3.block (w.heap.size + 1) (by omega)).trans (Below.heap_alloc w2 _ (w.heap.size + 1) (by omega)))
      have hbw4 : Below w.heap.size w w3 := hbw3.trans (hb3.mono (by omega))
      have hgp3 : w3.cell? ⟨pb, po + (ps.length - 1), none⟩ = some (.string (ps[ps.length - 1]'(by omega))) := (hbw4.cell (p := ⟨pb, po + (ps.length - 1), none⟩) (by show pb < _; omega)).trans (HPCE.out (ps.length - 1) (by omega))
      have hdl : ps.getLastD ByteArray.empty = ps[ps.length - 1]'(by omega) := by
        rw [List.getLastD_eq_getLast?, List.getLast?_eq_getElem?, List.getElem?_eq_getElem (by omega)]; rfl
      have hne : ¬ (rightB d = false ∨ ps = []) := by
        rintro (h | h)
        · rw [HRT.out] at h; cases h
        · rw [h] at h0; simp at h0
      have HR3 := Lib.hid hr3; have HBW4 := Lib.hid hbw4; have HBOX3 := Lib.hid hbox3; have HDL := Lib.hid hdl; have HNE := Lib.hid hne
      clear hboxn hbw3 hstr hgp hdl hne hbw4
      rcases ht with ⟨hloc, rfl⟩ | ⟨is, b', off', x, u0, u1, u2, u3, u4, hloc, rfl, hlead, hsub, hcx, hdx, hfx⟩
      · have E : Hid (dropV d ps = (D.zero, 3)) := by show dropV d ps = _; unfold dropV; rw [if_neg HNE.out, hloc]
        obtain ⟨r0, r1, r2, r3, r4⟩ := hr3.cells
        have r5 := hr3.frozen
        clear hloc hr3 hbox3 hb3
        go_wp2_with fail
        have hfin := ((((HR3.out.set0 (.int .i64 0)).set1 (.int .i64 0)).set2 (.string ⟨#[]⟩)).set3 (.slice none 0 0)).set4 (.slice none 0 0)
        refine ret_cell5_2 (u := .int .i64 3) rfl rfl rfl hfin.load rfl ?_
        rw [E.out]
        exact ⟨_, _, _, _, _, [], rfl, OwnIn.zero _ _, List.nodup_nil, ((((HBW4.out.setCell (by show w.heap.size ≤ w.heap.size + 1; omega) _).setCell (by show w.heap.size ≤ w.heap.size + 1; omega) _).setCell (by show w.heap.size ≤ w.heap.size + 1; omega) _).setCell (by show w.heap.size ≤ w.heap.size + 1; omega) _).setCell (by show w.heap.size ≤ w.heap.size + 1; omega) _⟩
      · have hF := HO.out.lt
        have hown3 : OwnIn w3 w1.heap.size d (.int .i64 d.kind) (.int .i64 d.num) (.string d.str) (.slice Y3 d.keys.length f3) (.slice Y4 d.kids.length f4) F := HO.out.same (Nat.le_refl _) fun k hk => (hb3.block k (by have := (hF k hk).2; omega)).trans (Below.heap_alloc w2 _ k (hF k hk).2)
        have hboxF : w2.heap.size ∉ F := fun h => by have := (hF _ h).2; omega
        have hlead3 : Leads w3 w2.heap.size 0 is b' off' := hlead.keep fun p hp => hb3.cell (by simpa using hp)
        obtain ⟨s0, s1, s2, s3, s4, G, hfo⟩ := focus is d x w2.heap.size 0 _ _ _ _ _ F b' off' ⟨_, hbox3⟩ ⟨hbox3.cells.1, hbox3.cells.2.1, hbox3.cells.2.2.1, hbox3.cells.2.2.2.1, hbox3.cells.2.2.2.2⟩ hown3 HN.out hboxF hsub hlead3
        have HFO := Lib.hid hfo
        have hxs : soundB x = true := by
          have := partB_sub is d x (right_part HRT.out) hsub
          rw [partB_eq, Bool.and_eq_true] at this
          exact this.1
        have hw4g : Glob w3 := HG.out.below HBW4.out HG.out.size
        have HW4G := Lib.hid hw4g; have HXS := Lib.hid hxs; have HFX := Lib.hid hfx; have HLOC := Lib.hid hloc; have HSUB := Lib.hid hsub
        have hlast : Short (ps[ps.length - 1]'(by omega)) := HS.out _ (List.getElem_mem _)
        have HLAST := Lib.hid hlast
        clear hw4g hxs hfx hlead hlead3 hown3 hcx hdx hfo hb3 hloc hsub hlast
        go_wp2_with fail
        cases hst : stepD x (ps[ps.length - 1]'(by omega)) with
        | none =>
          have hneg : findI x (ps[ps.length - 1]'(by omega)) < 0 := by
            by_cases h : 0 ≤ findI x (ps[ps.length - 1]'(by omega))
            · rw [stepD_some h] at hst; cases hst
            · omega
          have E : Hid (dropV d ps = (D.zero, 3)) := by show dropV d ps = _; unfold dropV; rw [if_neg HNE.out, HLOC.out]; simp only; rw [HSUB.out]; simp only; rw [HDL.out, hst]
          clear hst
          refine (unset_none HFX.out HLAST.out HW4G.out HFO.out.cells HFO.out.own hneg).mono ?_
          rintro e w4 ⟨rfl, hb4⟩
          have hr4 := HR3.out.same (w' := w4) (hb4.block (w.heap.size + 1) (by omega))
          have hb5 : Below w.heap.size w w4 := HBW4.out.trans (hb4.mono (by omega))
          obtain ⟨r0, r1, r2, r3, r4⟩ := hr4.cells
          have r5 := hr4.frozen
          have HR4 := Lib.hid hr4; have HB5 := Lib.hid hb5
          clear hr4 hr3 hbox3 hb4 hb5
          go_wp2_with fail
          have hfin := ((((HR4.out.set0 (.int .i64 0)).set1 (.int .i64 0)).set2 (.string ⟨#[]⟩)).set3 (.slice none 0 0)).set4 (.slice none 0 0)
          refine ret_cell5_2 (u := .int .i64 3) rfl rfl rfl hfin.load rfl ?_
          rw [E.out]
          exact ⟨_, _, _, _, _, [], rfl, OwnIn.zero _ _, List.nodup_nil, ((((HB5.out.setCell (by show w.heap.size ≤ w.heap.size + 1; omega) _).setCell (by show w.heap.size ≤ w.heap.size + 1; omega) _).setCell (by show w.heap.size ≤ w.heap.size + 1; omega) _).setCell (by show w.heap.size ≤ w.heap.size + 1; omega) _).setCell (by show w.heap.size ≤ w.heap.size + 1; omega) _⟩
        | some i =>
          have E : Hid (dropV d ps = (D.repl d is (x.dropKid i), 0)) := by show dropV d ps = _; unfold dropV; rw [if_neg HNE.out, HLOC.out]; simp only; rw [HSUB.out]; simp only; rw [HDL.out, hst]
          refine (unset_there HFX.out HLAST.out HW4G.out HFO.out.cells HFO.out.own HFO.out.nodup HFO.out.out HFO.out.blkc hst (sound_keys HXS.out)).mono ?_
          rintro e w4 ⟨rfl, hset⟩
          obtain ⟨z0, z1, z2, z3, z4, F', zc, zo, zn, zf, zt⟩ := whole_turned HFO.out hset (fun k hk => by simp at hk) (fun k hk => by have := (hF k hk).2; omega) (by omega) hboxF
          have hz4 := zt.size
          have hr4 := HR3.out.same (w' := w4) (zt.block (w.heap.size + 1) (by omega) (fun h => by have := (hF _ h).1; omega) (by omega))
          have hb5 : Below w.heap.size w w4 := HBW4.out.trans (zt.below (fun k hk => by have := (hF k hk).1; omega) (by omega) (by omega))
          obtain ⟨Z3, g3, Z4, g4, rfl, rfl, rfl, rfl, rfl⟩ := zo.doc.forms
          obtain ⟨t0, t1, t2, t3, t4⟩ := zc
          obtain ⟨r0, r1, r2, r3, r4⟩ := hr4.cells
          have r5 := hr4.frozen
          have HR4 := Lib.hid hr4; have HB5 := Lib.hid hb5; have HZO := Lib.hid zo; have HZF := Lib.hid zf; have HZN := Lib.hid zn
          clear hr4 hr3 hbox3 hb5 zo zf zn zt hset hst
          go_wp2_with fail
          have hfin := ((((HR4.out.set0 (.int .i64 (D.repl d is (x.dropKid i)).kind)).set1 (.int .i64 (D.repl d is (x.dropKid i)).num)).set2 (.string (D.repl d is (x.dropKid i)).str)).set3 (.slice Z3 (D.repl d is (x.dropKid i)).keys.length g3)).set4 (.slice Z4 (D.repl d is (x.dropKid i)).kids.length g4)
          refine ret_cell5_2 (u := .int .i64 0) rfl rfl rfl hfin.load rfl ?_
          rw [E.out]
          refine ⟨_, _, _, _, _, F', rfl, HZO.out.same (by omega) fun k hk => ?_, HZN.out, ((((HB5.out.setCell (by show w.heap.size ≤ w.heap.size + 1; omega) _).setCell (by show w.heap.size ≤ w.heap.size + 1; omega) _).setCell (by show w.heap.size ≤ w.heap.size + 1; omega) _).setCell (by show w.heap.size ≤ w.heap.size + 1; omega) _).setCell (by show w.heap.size ≤ w.heap.size + 1; omega) _⟩
          have hk1 : k ≠ w.heap.size + 1 := by
            rcases HZF.out k hk with h | h | h
            · have := (hF k h).1; omega
            · simp at h
            · omega
          rw [Below.heap_setCell _ _ _ k hk1, Below.heap_setCell _ _ _ k hk1, Below.heap_setCell _ _ _ k hk1, Below.heap_setCell _ _ _ k hk1, Below.heap_setCell _ _ _ k hk1]
end Go.Proofs.YtdcempejdggkpaaGreatDoor
