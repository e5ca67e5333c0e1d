/-
  
-/
import Derived.Test.YtdcempejdggkpaaGreatDoorB22
import Derived.Test.YtdcempejdggkpaaGreatDoorB25
namespace Go.Proofs.YtdcempejdggkpaaGreatDoor
open Go.RowKit

theorem below_dr {B : Nat} {a w : World} (h : Below B a w) (n : Nat) : Below B a (w.drewN n) := ⟨h.os, h.tape, h.output, h.size, h.block⟩
def D.ins (d : D) (s : ByteArray) (y : D) : D :=
  let p := (d.keys.takeWhile fun k => decide (scmp k s = -1)).length
  .mk d.kind d.num d.str (d.keys.take p ++ s :: d.keys.drop p) (d.kids.take p ++ y :: d.kids.drop p)
def setD (x : D) (s : ByteArray) (y : D) : Option D :=
  match stepD x s with
  | some i => some (x.setKid i y)
  | none => if keyOfB x.kind s = true then some (x.ins s y) else if x.kind = 3 ∧ placeI s = x.kids.length then some (x.snoc y) else none
def SetTold (w : World) (base : Nat) (x y : D) (s : ByteArray) (b off : Nat) (G FY : List Nat) (e : Ending) (w' : World) : Prop :=
  (setD x s y = none ∧ e = .returned (.bool false) ∧ Below w.heap.size w w') ∨ ∃ x', setD x s y = some x' ∧ e = .returned (.bool true) ∧ SetOk w base x' b off G FY w'
/-- set, but for a key that is new. -/
theorem set_old {x y : D} {u0 u1 u2 u3 u4 y0 y1 y2 y3 y4 : Value} {s : ByteArray} {w : World} {base b off : Nat} {G FY : List Nat} (hf : x.Fit) (hs : Short s) (hg : Glob w) (hc : Cells5 w b off u0 u1 u2 u3 u4) (hx : OwnIn w base x u0 u1 u2 u3 u4 G) (hn : G.Nodup) (hb : b ∉ G)
    (hblk : ∃ cur : Array Value, w.heap[b]? = some (.cells cur 27 (0, 0))) (hy : OwnIn w base y y0 y1 y2 y3 y4 FY) (hyn : FY.Nodup) (hdis : ∀ k ∈ FY, k ∉ G ∧ k ≠ b) (hbase : base ≤ w.heap.size) (hni : stepD x s = none → keyOfB x.kind s = false) :
    Calls Tryz.prog 31 #[.pointer (some ⟨b, off, none⟩), .string s, .agg #[y0, y1, y2, y3, y4]] w (SetTold w base x y s b off G FY) := by
  cases hst : stepD x s with
  | some i =>
    refine (set_there hf hs hg hc hx hn hb hblk hy hyn hdis hst).mono ?_
    rintro e w' ⟨he, hok⟩
    exact .inr ⟨_, by simp only [setD, hst], he, hok⟩
  | none =>
    have hk := hni hst
    have hfi : findI x s = -1 := by
      have h1 := findI_range x s hf.keys
      by_cases h : 0 ≤ findI x s
      · rw [stepD_some h] at hst; cases hst
      · omega
    by_cases hp : x.kind = 3 ∧ placeI s = x.kids.length
    · refine (set_push hf hs hg hc hx hn hb hblk hy hyn hdis hfi hp.1 hp.2 hbase).mono ?_
      rintro e w' ⟨he, hok⟩
      refine .inr ⟨x.snoc y, ?_, he, hok⟩
      simp only [setD, hst, hk]
      rw [if_neg (by simp), if_pos hp]
    · refine (set_no hf hs hg hc hx hy hfi hk hp).mono ?_
      rintro e w' ⟨he, hok⟩
      refine .inl ⟨?_, he, hok⟩
      simp only [setD, hst, hk]
      rw [if_neg (by simp), if_neg hp]

/-- .. told as one. -/
def SetOne (w : World) (base : Nat) (x y : D) (s : ByteArray) (b off : Nat) (G FY : List Nat) (ok : Bool) (w' : World) : Prop :=
  (ok = false ∧ setD x s y = none) ∨ (ok = true ∧ ∃ x', setD x s y = some x' ∧ SetOk w base x' b off G FY w')
theorem set_one {w : World} {base : Nat} {x y : D} {s : ByteArray} {b off : Nat} {G FY : List Nat} {args : Array Value} (h : Calls Tryz.prog 31 args w (SetTold w base x y s b off G FY)) :
    Calls Tryz.prog 31 args w fun e w' => ∃ ok, e = .returned (.bool ok) ∧ SetOne w base x y s b off G FY ok w' ∧ Turned w w' G b := by
  refine h.mono ?_
  rintro e w' (⟨h1, he, hb⟩ | ⟨x', h1, he, hok⟩)
  · exact ⟨false, he, .inl ⟨rfl, h1⟩, Turned.of_below hb _ _⟩
  · have ht := hok
    obtain ⟨_, _, _, _, _, _, _, _, _, _, _, _, ht⟩ := ht
    exact ⟨true, he, .inr ⟨rfl, x', h1, hok⟩, ht⟩

/-- What Put tells. -/
def putV (d y : D) (ps : List ByteArray) : D × Int :=
  if rightB d = false ∨ rightB y = false then (D.zero, 1)
  else if ps = [] then (y, 0)
  else match D.locate d ps.dropLast with
    | none => (D.zero, 3)
    | some is => match D.subAt d is with
      | none => (D.zero, 3)
      | some x => match setD x (ps.getLastD ByteArray.empty) y with
        | none => (D.zero, 3)
        | some x' => (D.repl d is x', 0)
/-- No key is new on the way. -/
def OldKey (d : D) (ps : List ByteArray) : Prop := ∀ is x, D.locate d ps.dropLast = some is → D.subAt d is = some x → stepD x (ps.getLastD ByteArray.empty) = none → keyOfB x.kind (ps.getLastD ByteArray.empty) = false

theorem fr6 {w2 w3 w4 w5 w6 : World} {d x : D} {is : List Nat} {v0 v1 v2 v3 v4 s0 s1 s2 s3 s4 : Value} {F G : List Nat} {b off : Nat} (ht : Turned w5 w6 G b) (hf : Focus w5 w2.heap.size d is x w3.heap.size 0 v0 v1 v2 v3 v4 F b off s0 s1 s2 s3 s4 G) (hb : Below w4.heap.size w4 w5)
    (hF : ∀ k ∈ F, w2.heap.size ≤ k ∧ k < w3.heap.size) (hz : w3.heap.size < w4.heap.size) (h23 : w2.heap.size ≤ w3.heap.size) : ∀ k, k < w2.heap.size → w6.heap[k]? = w4.heap[k]? := fun k hk => by
  have hs := hb.size
  refine (ht.block k (by omega) (fun hm => by have := (hF k (hf.sub k hm)).1; omega) (fun h => ?_)).trans (hb.block k (by omega))
  rcases hf.place with ⟨_, h2, _⟩ | h2
  · omega
  · have := (hF b h2).1; omega

set_option maxHeartbeats 8000000 in
set_option maxRecDepth 100000 in
theorem put_old {d y : D} {v u pv : Value} {ps : List ByteArray} {w : World} {B : Nat} (hf : d.Fit) (hfy : y.Fit) (hps : ps.length ≤ 10000) (hs : ∀ s ∈ ps, Short s) (hg : Glob w) (hB : B ≤ w.heap.size) (hd : DocV w B d v) (hy : DocV w B y u) (hp : Strs w B pv ps) (hold : OldKey d ps) :
    Calls Tryz.prog 15 #[v, u, pv] w (MadeDoc2 w.heap.size w (putV d y ps).1 (.int .i64 (putV d y ps).2)) := by
  obtain ⟨v0, v1, v2, v3, v4, rfl, hd⟩ := hd
  obtain ⟨u0, u1, u2, u3, u4, rfl, hy⟩ := hy
  have HD := Lib.hid hd; have HY := Lib.hid hy; have HS := Lib.hid hs; have HG := Lib.hid hg; have HF := Lib.hid hf; have HFY := Lib.hid hfy; have HOLD := Lib.hid hold
  obtain ⟨A3, c3, A4, c4, rfl, rfl, rfl, rfl, rfl⟩ := hd.forms
  obtain ⟨B3, e3, B4, e4, rfl, rfl, rfl, rfl, rfl⟩ := hy.forms
  obtain ⟨A, c, rfl, hpc, hpcells⟩ := hp
  have HPC := Lib.hid hpcells
  clear hd hy hs hg hf hfy hpcells hold
  go_enter Tryz.func15, Tryz.ntmps15
  go_wp2_with fail
  have keep : ∀ p : Addr, p.block < B → (((w.alloc (.cells #[.int .i64 d.kind, .int .i64 d.num, .string d.str, .slice A3 d.keys.length c3, .slice A4 d.kids.length c4] 27)).alloc (.cells #[.int .i64 y.kind, .int .i64 y.num, .string y.str, .slice B3 y.keys.length e3, .slice B4 y.kids.length e4] 27)).alloc (.cells #[.int .i64 0, .int .i64 0, .string ⟨#[]⟩, .slice none 0 0, .slice none 0 0] 27)).cell? p = w.cell? p := fun p hp => (World.cell?_alloc_lt ((w.alloc _).alloc _) _ p (by simp; omega)).trans ((World.cell?_alloc_lt (w.alloc _) _ p (by simp; omega)).trans (World.cell?_alloc_lt w _ p (by omega)))
  have hx1 := ((Box5.new w (.int .i64 d.kind) (.int .i64 d.num) (.string d.str) (.slice A3 d.keys.length c3) (.slice A4 d.kids.length c4)).alloc (.cells #[.int .i64 y.kind, .int .i64 y.num, .string y.str, .slice B3 y.keys.length e3, .slice B4 y.kids.length e4] 27)).alloc (.cells #[.int .i64 0, .int .i64 0, .string ⟨#[]⟩, .slice none 0 0, .slice none 0 0] 27)
  have hy1 := (Box5.new' (w := w.alloc (.cells #[.int .i64 d.kind, .int .i64 d.num, .string d.str, .slice A3 d.keys.length c3, .slice A4 d.kids.length c4] 27)) (World.size_alloc _ _) (.int .i64 y.kind) (.int .i64 y.num) (.string y.str) (.slice B3 y.keys.length e3) (.slice B4 y.kids.length e4)).alloc (.cells #[.int .i64 0, .int .i64 0, .string ⟨#[]⟩, .slice none 0 0, .slice none 0 0] 27)
  have hr1 := Box5.new' (w := (w.alloc (.cells #[.int .i64 d.kind, .int .i64 d.num, .string d.str, .slice A3 d.keys.length c3, .slice A4 d.kids.length c4] 27)).alloc (.cells #[.int .i64 y.kind, .int .i64 y.num, .string y.str, .slice B3 y.keys.length e3, .slice B4 y.kids.length e4] 27)) (b := w.heap.size + 2) (by simp) (.int .i64 0) (.int .i64 0) (.string ⟨#[]⟩) (.slice none 0 0) (.slice none 0 0)
  refine (right_v (B := B) (d := d) HF.out (by simp; omega) ⟨_, _, _, _, _, rfl, HD.out.keep (Nat.le_refl _) keep⟩).mono ?_
  rintro e w1 ⟨rfl, hb1⟩
  simp only [World.size_alloc] at hb1
  have hz1 := hb1.size
  simp only [World.size_alloc] at hz1
  have hx2 := hx1.same (hb1.block w.heap.size (by omega))
  have hy2 := hy1.same (hb1.block (w.heap.size + 1) (by omega))
  have hr2 := hr1.same (hb1.block (w.heap.size + 2) (by omega))
  have hbw : Below w.heap.size w w1 := ((((Below.refl _ _).alloc (Nat.le_refl _) _).alloc (by simp) _).alloc (by simp; omega) _).trans (hb1.mono (by omega))
  have HX2 := Lib.hid hx2; have HY2 := Lib.hid hy2; have HR2 := Lib.hid hr2; have HBW := Lib.hid hbw
  have ha0 : ∀ e : Nat, e = 0 ∨ e = 1 ∨ 2 ≤ e := fun e => by omega
  clear ha0
  cases hr : rightB d with
  | false =>
    have E : Hid (putV d y ps = (D.zero, 1)) := by show putV d y ps = _; unfold putV; rw [if_pos (.inl hr)]
    obtain ⟨r0, r1, r2, r3, r4⟩ := hr2.cells
    have r5 := hr2.frozen
    clear hx1 hy1 hr1 keep hr2 hx2 hy2 hbw hb1
    go_wp2_with fail
    have hfin := ((((HR2.out.set0 (.int .i64 0)).set1 (.int .i64 0)).set2 (.string ⟨#[]⟩)).set3 (.slice none 0 0)).set4 (.slice none 0 0)
    refine ret_cell5_2 (u := .int .i64 1) rfl rfl rfl hfin.load rfl ?_
    rw [E.out]
    exact ⟨_, _, _, _, _, [], rfl, OwnIn.zero _ _, List.nodup_nil, (((((HBW.out).setCell (by show w.heap.size ≤ w.heap.size + 2; omega) _).setCell (by show w.heap.size ≤ w.heap.size + 2; omega) _).setCell (by show w.heap.size ≤ w.heap.size + 2; omega) _).setCell (by show w.heap.size ≤ w.heap.size + 2; omega) _).setCell (by show w.heap.size ≤ w.heap.size + 2; omega) _⟩
  | true =>
    obtain ⟨m0, m1, m2, m3, m4⟩ := hy2.cells
    have hyd1 : DocIn w1 B y (.int .i64 y.kind) (.int .i64 y.num) (.string y.str) (.slice B3 y.keys.length e3) (.slice B4 y.kids.length e4) := HY.out.keep (Nat.le_refl _) fun p hp => hbw.cell (p := p) (by omega)
    have hdd1 : DocIn w1 B d (.int .i64 d.kind) (.int .i64 d.num) (.string d.str) (.slice A3 d.keys.length c3) (.slice A4 d.kids.length c4) := HD.out.keep (Nat.le_refl _) fun p hp => hbw.cell (p := p) (by omega)
    have HYD1 := Lib.hid hyd1; have HDD1 := Lib.hid hdd1; have HRT := Lib.hid hr
    clear hx1 hy1 hr1 keep hr2 hx2 hy2 hbw hb1 hyd1 hdd1
    go_wp2_with fail
    refine (right_v (B := B) (d := y) HFY.out (by omega) ⟨_, _, _, _, _, rfl, HYD1.out⟩).mono ?_
    rintro e w2 ⟨rfl, hb2⟩
    have hz2 := hb2.size
    have hbw2 : Below w.heap.size w w2 := HBW.out.trans (hb2.mono (by omega))
    have hx3 := HX2.out.same (w' := w2) (hb2.block w.heap.size (by omega))
    have hy3 := HY2.out.same (w' := w2) (hb2.block (w.heap.size + 1) (by omega))
    have hr3 := HR2.out.same (w' := w2) (hb2.block (w.heap.size + 2) (by omega))
    have HX3 := Lib.hid hx3; have HY3 := Lib.hid hy3; have HR3 := Lib.hid hr3; have HBW2 := Lib.hid hbw2; have HB2 := Lib.hid hb2
    cases hry : rightB y with
    | false =>
      have E : Hid (putV d y ps = (D.zero, 1)) := by show putV d y ps = _; unfold putV; rw [if_pos (.inr hry)]
      obtain ⟨r0, r1, r2, r3, r4⟩ := hr3.cells
      have r5 := hr3.frozen
      clear hr3 hx3 hy3 hbw2 hb2
      go_wp2_with fail
      have hfin := ((((HR3.out.set0 (.int .i64 0)).set1 (.int .i64 0)).set2 (.string ⟨#[]⟩)).set3 (.slice none 0 0)).set4 (.slice none 0 0)
      refine ret_cell5_2 (u := .int .i64 1) rfl rfl rfl hfin.load rfl ?_
      rw [E.out]
      exact ⟨_, _, _, _, _, [], rfl, OwnIn.zero _ _, List.nodup_nil, (((((HBW2.out).setCell (by show w.heap.size ≤ w.heap.size + 2; omega) _).setCell (by show w.heap.size ≤ w.heap.size + 2; omega) _).setCell (by show w.heap.size ≤ w.heap.size + 2; omega) _).setCell (by show w.heap.size ≤ w.heap.size + 2; omega) _).setCell (by show w.heap.size ≤ w.heap.size + 2; omega) _⟩
    | true =>
      have HRY := Lib.hid hry
      have hne : ¬ (rightB d = false ∨ rightB y = false) := by rw [HRT.out, hry]; simp
      have HNE := Lib.hid hne; clear hne
      rcases Nat.eq_zero_or_pos ps.length with h0 | h0
      · have E : Hid (putV d y ps = (y, 0)) := by show putV d y ps = _; unfold putV; rw [if_neg HNE.out, if_pos (List.eq_nil_of_length_eq_zero h0)]
        have hl0 : ((ps.length : Int) == 0) = true := by simp [h0]
        obtain ⟨n0, n1, n2, n3, n4⟩ := hy3.cells
        clear hr3 hx3 hy3 hbw2 hb2 h0
        go_wp2_with fail
        refine (copy_v (B := B) (d := y) HFY.out (by omega) ⟨_, _, _, _, _, rfl, HYD1.out.below (HB2.out.mono (by omega))⟩).mono ?_
        rintro e w3 ⟨y0, y1, y2, y3, y4, F, rfl, hown, hnd, hb3⟩
        obtain ⟨Y3, f3, Y4, f4, rfl, rfl, rfl, rfl, rfl⟩ := hown.doc.forms
        have hr4 := HR3.out.same (hb3.block (w.heap.size + 2) (by omega))
        have hbw3 : Below w.heap.size w w3 := HBW2.out.trans (hb3.mono (by omega))
        obtain ⟨r0, r1, r2, r3, r4⟩ := hr4.cells
        have r5 := hr4.frozen
        have HR4 := Lib.hid hr4; have HO := Lib.hid hown; have HN := Lib.hid hnd; have HBW3 := Lib.hid hbw3
        clear hr4 hown hnd hb3 n0 n1 n2 n3 n4 hbw3
        go_wp2_with fail
        have hfin := ((((HR4.out.set0 (.int .i64 y.kind)).set1 (.int .i64 y.num)).set2 (.string y.str)).set3 (.slice Y3 y.keys.length f3)).set4 (.slice Y4 y.kids.length f4)
        refine ret_cell5_2 (u := .int .i64 0) rfl rfl rfl hfin.load rfl ?_
        rw [E.out]
        have hF := HO.out.lt
        refine ⟨_, _, _, _, _, F, rfl, HO.out.same (by omega) fun k hk => ?_, HN.out, (((((HBW3.out).setCell (by show w.heap.size ≤ w.heap.size + 2; omega) _).setCell (by show w.heap.size ≤ w.heap.size + 2; omega) _).setCell (by show w.heap.size ≤ w.heap.size + 2; omega) _).setCell (by show w.heap.size ≤ w.heap.size + 2; omega) _).setCell (by show w.heap.size ≤ w.heap.size + 2; omega) _⟩
        have hk1 : k ≠ w.heap.size + 2 := by have := (hF k hk).1; omega
        rw [Below.heap_setCell _ _ _ k hk1, Below.heap_setCell _ _ _ k hk1, Below.heap_setCell _ _ _ k hk1, Below.heap_setCell _ _ _ k hk1, Below.heap_setCell _ _ _ k hk1]
      · have hl0 : ((ps.length : Int) == 0) = false := beq_eq_false_iff_ne.2 (by omega)
        obtain ⟨pb, po, rfl, hpb, hpcells⟩ := HPC.out h0
        have HPCE := Lib.hid hpcells
        obtain ⟨q0, q1, q2, q3, q4⟩ := hx3.cells
        clear hr3 hx3 hy3 hbw2 hb2 hpcells m0 m1 m2 m3 m4
        go_wp2_with fail
        refine (copy_v (B := B) (d := d) HF.out (by omega) ⟨_, _, _, _, _, rfl, HDD1.out.below (HB2.out.mono (by omega))⟩).mono ?_
        rintro e w3 ⟨y0, y1, y2, y3, y4, F, rfl, hown, hnd, hb3⟩
        obtain ⟨Y3, f3, Y4, f4, rfl, rfl, rfl, rfl, rfl⟩ := hown.doc.forms
        have hz3 := hb3.size
        have hbw3 : Below w.heap.size w w3 := HBW2.out.trans (hb3.mono (by omega))
        have HO := Lib.hid hown; have HN := Lib.hid hnd; have HB3 := Lib.hid hb3; have HBW3 := Lib.hid hbw3
        have hpw3 : pb < w3.heap.size := by omega
        have hlc : ps.length ≤ c := hpc
        have ib0 : (0 : Int) ≤ (ps.length : Int) - 1 := by omega
        have ib1 : (ps.length : Int) - 1 ≤ (c : Int) := by omega
        have ib2 : (ps.length : Int) - 1 < (ps.length : Int) := by omega
        clear hown hnd hb3 hbw3 q0 q1 q2 q3 q4
        go_wp2_with fail
        have hboxn := Box5.new w3 (.int .i64 d.kind) (.int .i64 d.num) (.string d.str) (.slice Y3 d.keys.length f3) (.slice Y4 d.kids.length f4)
        have hbw4 : Below w.heap.size w (w3.alloc (.cells #[.int .i64 d.kind, .int .i64 d.num, .string d.str, .slice Y3 d.keys.length f3, .slice Y4 d.kids.length f4] 27)) := HBW3.out.alloc (by omega) _
        have hstr : Strs (w3.alloc (.cells #[.int .i64 d.kind, .int .i64 d.num, .string d.str, .slice Y3 d.keys.length f3, .slice Y4 d.kids.length f4] 27)) w3.heap.size (.slice (some ⟨pb, po, none⟩) (ps.length - 1) c) ps.dropLast :=
          ⟨some ⟨pb, po, none⟩, c, by rw [List.length_dropLast], by rw [List.length_dropLast]; omega, fun _ => ⟨pb, po, rfl, hpw3, fun i hi => by
            rw [List.length_dropLast] at hi
            rw [List.getElem_dropLast]
            exact (hbw4.cell (p := ⟨pb, po + i, none⟩) (by show pb < _; omega)).trans (HPCE.out i (by omega))⟩⟩
        refine (at_any (B := w3.heap.size) (d := d) (ps := ps.dropLast) HF.out (by rw [List.length_dropLast]; omega) (fun s hs => HS.out s (List.dropLast_subset _ hs)) (HG.out.below hbw4 HG.out.size) (by simp) ⟨hboxn.cells.1, hboxn.cells.2.1, hboxn.cells.2.2.1, hboxn.cells.2.2.2.1, hboxn.cells.2.2.2.2⟩
          (HO.out.doc.keep (Nat.le_refl _) fun p hp => World.cell?_alloc_lt w3 _ p hp) hstr).mono ?_
        rintro e w4 ⟨ht, hb4⟩
        simp only [World.size_alloc] at hb4
        have hz4 := hb4.size
        simp only [World.size_alloc] at hz4
        have hbox4 := hboxn.same (hb4.block w3.heap.size (by omega))
        have far4 : ∀ k, k < w3.heap.size → w4.heap[k]? = w3.heap[k]? := fun k hk => (hb4.block k (by omega)).trans (Below.heap_alloc w3 _ k hk)
        have hr4 := (HR3.out.same (HB3.out.block (w.heap.size + 2) (by omega))).same (w' := w4) (far4 (w.heap.size + 2) (by omega))
        have hy4 := (HY3.out.same (HB3.out.block (w.heap.size + 1) (by omega))).same (w' := w4) (far4 (w.heap.size + 1) (by omega))
        have hbw5 : Below w.heap.size w w4 := hbw4.trans (hb4.mono (by omega))
        have hgp4 : w4.cell? ⟨pb, po + (ps.length - 1), none⟩ = some (.string (ps[ps.length - 1]'(by omega))) := (hbw5.cell (p := ⟨pb, po + (ps.length - 1), none⟩) (by show pb < _; omega)).trans (HPCE.out (ps.length - 1) (by omega))
        have hdl : ps.getLastD ByteArray.empty = ps[ps.length - 1]'(by omega) := by
          rw [List.getLastD_eq_getLast?, List.getLast?_eq_getElem?, List.getElem?_eq_getElem (by omega)]; rfl
        have hnil : ¬ ps = [] := fun h => by rw [h] at h0; simp at h0
        have HR4 := Lib.hid hr4; have HBW5 := Lib.hid hbw5; have HBOX4 := Lib.hid hbox4; have HDL := Lib.hid hdl; have HNIL := Lib.hid hnil; have HY4 := Lib.hid hy4; have HFAR4 := Lib.hid far4; have HB4 := Lib.hid hb4
        clear hboxn hbw4 hstr hdl hnil hbw5 far4 hb4
        rcases ht with ⟨hloc, rfl⟩ | ⟨is, b', off', x, s0, s1, s2, s3, s4, hloc, rfl, hlead, hsub, hcx, hdx, hfx⟩
        · have E : Hid (putV d y ps = (D.zero, 3)) := by show putV d y ps = _; unfold putV; rw [if_neg HNE.out, if_neg HNIL.out, hloc]
          obtain ⟨r0, r1, r2, r3, r4⟩ := hr4.cells
          have r5 := hr4.frozen
          clear hloc hr4 hy4 hbox4
          go_wp2_with fail
          go_quiet (fail)
          go_wp2_with fail
          have hfin := ((((HR4.out.set0 (.int .i64 0)).set1 (.int .i64 0)).set2 (.string ⟨#[]⟩)).set3 (.slice none 0 0)).set4 (.slice none 0 0)
          refine ret_cell5_2 (u := .int .i64 3) rfl rfl rfl (Box5.load (hfin.same rfl)) rfl ?_
          rw [E.out]
          exact ⟨_, _, _, _, _, [], rfl, OwnIn.zero _ _, List.nodup_nil, below_dr ((((((HBW5.out).setCell (by show w.heap.size ≤ w.heap.size + 2; omega) _).setCell (by show w.heap.size ≤ w.heap.size + 2; omega) _).setCell (by show w.heap.size ≤ w.heap.size + 2; omega) _).setCell (by show w.heap.size ≤ w.heap.size + 2; omega) _).setCell (by show w.heap.size ≤ w.heap.size + 2; omega) _) _⟩
        · have hF := HO.out.lt
          have hown4 : OwnIn w4 w2.heap.size d (.int .i64 d.kind) (.int .i64 d.num) (.string d.str) (.slice Y3 d.keys.length f3) (.slice Y4 d.kids.length f4) F := HO.out.same (Nat.le_refl _) fun k hk => HFAR4.out k (hF k hk).2
          have hboxF : w3.heap.size ∉ F := fun h => by have := (hF _ h).2; omega
          have hlead4 : Leads w4 w3.heap.size 0 is b' off' := hlead.keep fun p hp => HB4.out.cell (by simpa using hp)
          have HO4 := Lib.hid hown4; have HL4 := Lib.hid hlead4; have HLOC := Lib.hid hloc; have HSUB := Lib.hid hsub; have HFX := Lib.hid hfx
          have hgl4 : Glob w4 := HG.out.below HBW5.out HG.out.size
          have HGL4 := Lib.hid hgl4
          have hyd4 : DocIn w4 B y (.int .i64 y.kind) (.int .i64 y.num) (.string y.str) (.slice B3 y.keys.length e3) (.slice B4 y.kids.length e4) := HY.out.keep (Nat.le_refl _) fun p hp => HBW5.out.cell (p := p) (by omega)
          have HYD4 : Hid (DocIn w4.drew B y (.int .i64 y.kind) (.int .i64 y.num) (.string y.str) (.slice B3 y.keys.length e3) (.slice B4 y.kids.length e4)) := DocIn.keep (w := w4) (w' := w4.drew) (Nat.le_refl _) (fun _ _ => rfl) hyd4
          have ib3 : (1 : Int) ≤ (ps.length : Int) := by omega
          have ib4 : 1 ≤ ps.length := h0
          have hlast : Short (ps[ps.length - 1]'(by omega)) := HS.out _ (List.getElem_mem _)
          have HLAST := Lib.hid hlast
          obtain ⟨m0, m1, m2, m3, m4⟩ := hy4.cells
          have hz4' : w3.heap.size < w4.heap.size := by omega
          have hzb' : B ≤ w4.drew.heap.size := show B ≤ w4.heap.size by omega
          clear hown4 hlead4 hloc hsub hfx hgl4 hyd4 hlast hlead hcx hdx hr4 hy4 hbox4
          go_wp2_with fail
          have hbox4 := HBOX4.out
          have hmid : ∀ (w5 : World), Below w4.heap.size w4 w5 → ∃ s0 s1 s2 s3 s4 G, Focus w5 w2.heap.size d is x w3.heap.size 0 (.int .i64 d.kind) (.int .i64 d.num) (.string d.str) (.slice Y3 d.keys.length f3) (.slice Y4 d.kids.length f4) F b' off' s0 s1 s2 s3 s4 G := fun w5 hb5 => by
            have hbox5 := hbox4.same (hb5.block w3.heap.size hz4')
            exact focus is d x w3.heap.size 0 _ _ _ _ _ F b' off' ⟨_, hbox5⟩ ⟨hbox5.cells.1, hbox5.cells.2.1, hbox5.cells.2.2.1, hbox5.cells.2.2.2.1, hbox5.cells.2.2.2.2⟩ (HO4.out.below hb5 (Nat.le_refl _)) HN.out hboxF HSUB.out (HL4.out.keep fun p hp => hb5.cell hp)
          have HMID := Lib.hid hmid; clear hmid hbox4
          have hsetc : ∀ (w5 : World) (z0 z1 z2 z3 z4 : Value) (FY : List Nat), Below w4.heap.size w4 w5 → OwnIn w5 w4.heap.size y z0 z1 z2 z3 z4 FY → FY.Nodup → ∃ s0 s1 s2 s3 s4 G, Focus w5 w2.heap.size d is x w3.heap.size 0 (.int .i64 d.kind) (.int .i64 d.num) (.string d.str) (.slice Y3 d.keys.length f3) (.slice Y4 d.kids.length f4) F b' off' s0 s1 s2 s3 s4 G ∧
              Calls Tryz.prog 31 #[.pointer (some ⟨b', off', none⟩), .string (ps[ps.length - 1]'(by omega)), .agg #[z0, z1, z2, z3, z4]] w5 fun e w' => ∃ ok, e = .returned (.bool ok) ∧ SetOne w5 w2.heap.size x y (ps[ps.length - 1]'(by omega)) b' off' G FY ok w' ∧ Turned w5 w' G b' := by
            intro w5 z0 z1 z2 z3 z4 FY hb5 hyo hyn
            obtain ⟨s0, s1, s2, s3, s4, G, hfo⟩ := HMID.out w5 hb5
            have hFYl := hyo.lt
            have hs5 := hb5.size
            refine ⟨s0, s1, s2, s3, s4, G, hfo, set_one (set_old HFX.out HLAST.out (HGL4.out.below hb5 (by have := HGL4.out.size; omega)) hfo.cells hfo.own hfo.nodup hfo.out hfo.blkc (hyo.same (by omega) fun _ _ => rfl) hyn (fun k hk => ?_) (by omega) (fun hst => ?_))⟩
            · have h1 := (hFYl k hk).1
              refine ⟨fun hm => by have := (hF k (hfo.sub k hm)).2; omega, fun h => ?_⟩
              rcases hfo.place with ⟨_, h2, _⟩ | h2
              · omega
              · have := (hF b' h2).2; omega
            · have h2 := HOLD.out is x HLOC.out HSUB.out
              rw [HDL.out] at h2
              exact h2 hst
          have HSETC := Lib.hid hsetc; clear hsetc
          go_region_held3 (fun w' => w'.cell? ⟨pb, po + (ps.length - 1), none⟩ = some (.string (ps[ps.length - 1]'(by omega))) ∧ w'.cell? ⟨w.heap.size + 1, 0, none⟩ = some (.int .i64 y.kind) ∧ w'.cell? ⟨w.heap.size + 1, 1, none⟩ = some (.int .i64 y.num) ∧ w'.cell? ⟨w.heap.size + 1, 2, none⟩ = some (.string y.str) ∧
              w'.cell? ⟨w.heap.size + 1, 3, none⟩ = some (.slice B3 y.keys.length e3) ∧ w'.cell? ⟨w.heap.size + 1, 4, none⟩ = some (.slice B4 y.kids.length e4))
            (first
              | go_keep
              | (exact ⟨(hb5.cell (p := ⟨pb, po + (ps.length - 1), none⟩) (by show pb < w4.heap.size; omega)).trans hgp4, (hb5.cell (p := ⟨w.heap.size + 1, 0, none⟩) (by show w.heap.size + 1 < w4.heap.size; omega)).trans m0, (hb5.cell (p := ⟨w.heap.size + 1, 1, none⟩) (by show w.heap.size + 1 < w4.heap.size; omega)).trans m1,
                  (hb5.cell (p := ⟨w.heap.size + 1, 2, none⟩) (by show w.heap.size + 1 < w4.heap.size; omega)).trans m2, (hb5.cell (p := ⟨w.heap.size + 1, 3, none⟩) (by show w.heap.size + 1 < w4.heap.size; omega)).trans m3, (hb5.cell (p := ⟨w.heap.size + 1, 4, none⟩) (by show w.heap.size + 1 < w4.heap.size; omega)).trans m4⟩)
              | (exact ⟨(World.cell?_of_block (a := ⟨pb, po + (ps.length - 1), none⟩) (hfr6 pb (by omega))).trans hgp4, (World.cell?_of_block (a := ⟨w.heap.size + 1, 0, none⟩) (hfr6 (w.heap.size + 1) (by omega))).trans m0, (World.cell?_of_block (a := ⟨w.heap.size + 1, 1, none⟩) (hfr6 (w.heap.size + 1) (by omega))).trans m1,
                  (World.cell?_of_block (a := ⟨w.heap.size + 1, 2, none⟩) (hfr6 (w.heap.size + 1) (by omega))).trans m2, (World.cell?_of_block (a := ⟨w.heap.size + 1, 3, none⟩) (hfr6 (w.heap.size + 1) (by omega))).trans m3, (World.cell?_of_block (a := ⟨w.heap.size + 1, 4, none⟩) (hfr6 (w.heap.size + 1) (by omega))).trans m4⟩))
            ((first
              | (go_at_call 21; (refine (copy_v (B := B) (d := y) HFY.out hzb' ⟨_, _, _, _, _, rfl, HYD4.out⟩).mono ?_); (rintro e w5 ⟨z0, z1, z2, z3, z4, FY, rfl, hyo, hyn, hb5'⟩); (have hb5 : Below w4.heap.size w4 w5 := (Below.refl _ _).drew.trans hb5'); (have HYO := Lib.hid hyo; have HYN := Lib.hid hyn; clear hyo hyn hb5'))
              | (go_at_call 31; (obtain ⟨s0, s1, s2, s3, s4, G, hfo, hcall⟩ := HSETC.out w5 z0 z1 z2 z3 z4 FY hb5 HYO.out HYN.out); (refine hcall.mono ?_); rintro e w6 ⟨ok, rfl, hone, hturn⟩; have HFO5 := Lib.hid hfo; have HONE := Lib.hid hone; have HTURN := Lib.hid hturn; have hfr6 := fr6 hturn hfo hb5 hF hz4' (show w2.heap.size ≤ w3.heap.size by omega); clear hfo hcall hone hturn)))
          have hs5 := hb5.size
          have hs6 := HTURN.out.size
          have hr6 := HR4.out.same (w' := w6) (hfr6 (w.heap.size + 2) (by omega))
          have hGF := HFO5.out.sub
          have hbF : b' = w3.heap.size ∨ b' ∈ F := by
            rcases HFO5.out.place with ⟨_, h2, _⟩ | h2
            · exact .inl h2
            · exact .inr h2
          have hbw6 : Below w.heap.size w w6 := (HBW5.out.trans (hb5.mono (by omega))).trans (HTURN.out.below (fun k hk => by have := (hF k (hGF k hk)).1; omega) (by
            rcases hbF with h | h
            · omega
            · have := (hF b' h).1; omega) (by omega))
          obtain ⟨r0, r1, r2, r3, r4⟩ := hr6.cells
          have r5 := hr6.frozen
          have HR6 := Lib.hid hr6; have HBW6 := Lib.hid hbw6
          clear hr6 hbw6 hfr6 hgp4 m0 m1 m2 m3 m4
          rcases HONE.out with ⟨rfl, hnone⟩ | ⟨rfl, x', hsome, hok⟩
          · have E : Hid (putV d y ps = (D.zero, 3)) := by show putV d y ps = _; unfold putV; rw [if_neg HNE.out, if_neg HNIL.out, HLOC.out]; simp only; rw [HSUB.out]; simp only; rw [HDL.out, hnone]
            clear hnone HONE
            go_wp2_with fail
            have hfin := ((((HR6.out.set0 (.int .i64 0)).set1 (.int .i64 0)).set2 (.string ⟨#[]⟩)).set3 (.slice none 0 0)).set4 (.slice none 0 0)
            refine ret_cell5_2 (u := .int .i64 3) rfl rfl rfl hfin.load rfl ?_
            rw [E.out]
            exact ⟨_, _, _, _, _, [], rfl, OwnIn.zero _ _, List.nodup_nil, (((((HBW6.out).setCell (by show w.heap.size ≤ w.heap.size + 2; omega) _).setCell (by show w.heap.size ≤ w.heap.size + 2; omega) _).setCell (by show w.heap.size ≤ w.heap.size + 2; omega) _).setCell (by show w.heap.size ≤ w.heap.size + 2; omega) _).setCell (by show w.heap.size ≤ w.heap.size + 2; omega) _⟩
          · have E : Hid (putV d y ps = (D.repl d is x', 0)) := by show putV d y ps = _; unfold putV; rw [if_neg HNE.out, if_neg HNIL.out, HLOC.out]; simp only; rw [HSUB.out]; simp only; rw [HDL.out, hsome]
            have hFYl : ∀ k ∈ FY, w4.heap.size ≤ k ∧ k < w5.heap.size := HYO.out.lt
            obtain ⟨c0, c1, c2, c3', c4', F', zc, zo, zn, zf, zt⟩ := whole_turned HFO5.out hok (fun k hk => ⟨fun h => by have h1 := (hFYl k hk).1; have h2 := (hF k h).2; omega, by have h1 := (hFYl k hk).1; omega⟩) (fun k hk => by have := (hF k hk).2; omega) (by omega) hboxF
            obtain ⟨Z3, g3, Z4, g4, rfl, rfl, rfl, rfl, rfl⟩ := zo.doc.forms
            obtain ⟨t0, t1, t2, t3, t4⟩ := zc
            have HZO := Lib.hid zo; have HZF := Lib.hid zf; have HZN := Lib.hid zn
            clear zo zf zn zt hok hsome HONE
            go_wp2_with fail
            have hfin := ((((HR6.out.set0 (.int .i64 (D.repl d is x').kind)).set1 (.int .i64 (D.repl d is x').num)).set2 (.string (D.repl d is x').str)).set3 (.slice Z3 (D.repl d is x').keys.length g3)).set4 (.slice Z4 (D.repl d is x').kids.length g4)
            refine ret_cell5_2 (u := .int .i64 0) rfl rfl rfl hfin.load rfl ?_
            rw [E.out]
            refine ⟨_, _, _, _, _, F', rfl, HZO.out.same (by omega) fun k hk => ?_, HZN.out, (((((HBW6.out).setCell (by show w.heap.size ≤ w.heap.size + 2; omega) _).setCell (by show w.heap.size ≤ w.heap.size + 2; omega) _).setCell (by show w.heap.size ≤ w.heap.size + 2; omega) _).setCell (by show w.heap.size ≤ w.heap.size + 2; omega) _).setCell (by show w.heap.size ≤ w.heap.size + 2; omega) _⟩
            have hk1 : k ≠ w.heap.size + 2 := by
              rcases HZF.out k hk with h | h | h
              · have := (hF k h).1; omega
              · have := (hFYl k h).1; omega
              · omega
            rw [Below.heap_setCell _ _ _ k hk1, Below.heap_setCell _ _ _ k hk1, Below.heap_setCell _ _ _ k hk1, Below.heap_setCell _ _ _ k hk1, Below.heap_setCell _ _ _ k hk1]
end Go.Proofs.YtdcempejdggkpaaGreatDoor
