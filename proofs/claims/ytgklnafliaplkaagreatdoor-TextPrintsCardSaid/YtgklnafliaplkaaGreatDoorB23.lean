/-
  text.Parse.
-/
import Derived.Test.YtgklnafliaplkaaGreatDoorB19
import Derived.Test.YtgklnafliaplkaaGreatDoorB22
namespace Go.Proofs.YtgklnafliaplkaaGreatDoor
open Go.RowKit

theorem reads_any {r : Nat} {s : ByteArray} (hs : s.size ≤ 1000000) : ∀ n, n ≤ 12 → DReads r s n
  | 0, _ => doc_zero hs
  | n + 1, h => doc_succ hs (by omega) (reads_any hs n (by omega))
def parseT (l : List UInt8) : Tk D := match docP 12 l 0 with
  | .bad a e => .bad a e
  | .ok d l' _ => .ok d (skipL l')
/-- A document in the variable b, of blocks made since B. -/
def DocBox (b B : Nat) (d : D) (w : World) : Prop := ∃ (v0 v1 v2 v3 v4 : Value) (F : List Nat), Box5 w b v0 v1 v2 v3 v4 ∧ OwnIn w B d v0 v1 v2 v3 v4 F ∧ F.Nodup
set_option maxHeartbeats 8000000 in
set_option maxRecDepth 100000 in
theorem Parse1_any {w : World} {r bb B : Nat} {s : ByteArray} (h : RdL w r s s.data.toList 0) (hs : s.size ≤ 1000000) (hb : Box5 w bb (.int .i64 0) (.int .i64 0) (.string ⟨#[]⟩) (.slice none 0 0) (.slice none 0 0)) (hbr : bb < r) (hgb : 1 < bb) (hB : B ≤ w.heap.size) :
    Calls Tryz.prog 35 #[.pointer (some ⟨r, 0, none⟩), .pointer (some ⟨bb, 0, none⟩)] w (BoxTo w r s bb (fun d w' => DocBox bb B d w') (parseT s.data.toList)) := by
  have HR := Lib.hid h; have HB := Lib.hid hb
  have hrb := h.block
  have hcall := reads_any (r := r) hs 12 (Nat.le_refl _) _ _ _ h (by omega)
  rw [show (13 : Int) - ((12 : Nat) : Int) = 1 from rfl] at hcall
  have HCALL := Lib.hid hcall
  clear h hb hcall
  go_enter Tryz.func35, Tryz.ntmps35
  go_wp2_with fail
  refine HCALL.out.mono ?_
  clear HCALL
  intro e w1 hto
  rcases hx : docP 12 s.data.toList 0 with ⟨d, l6, p6⟩ | ⟨a, q⟩
  rotate_left
  · rw [hx] at hto
    obtain ⟨hf, ht6⟩ := hto
    unfold Failed at hf
    subst hf
    exact ⟨rfl, by unfold parseT; rw [hx]; exact ⟨rfl, ht6⟩⟩
  have HX : Hid (parseT s.data.toList = .ok d (skipL l6)) := Lib.hid (by unfold parseT; rw [hx])
  rw [hx] at hto
  obtain ⟨y0, y1, y2, y3, y4, F, rfl, hO, hF, hr1, ht1⟩ := hto
  obtain ⟨A7, c7, A8, c8, rfl, rfl, rfl, rfl, rfl⟩ := hO.doc.forms
  have hb1 : Box5 w1 bb (.int .i64 0) (.int .i64 0) (.string ⟨#[]⟩) (.slice none 0 0) (.slice none 0 0) := HB.out.same (ht1.block bb (by omega) (by simp) (by omega))
  obtain ⟨f0, f1, f2, f3, f4⟩ := hb1.cells
  have ff := hb1.frozen
  have hFl := hO.lt
  have HR1 := Lib.hid hr1; have HT1 := Lib.hid ht1; have HB1 := Lib.hid hb1; have HO := Lib.hid hO; have HF := Lib.hid hF; have HFL := Lib.hid hFl
  clear hr1 ht1 hb1 hx hO hF hFl
  go_wp2_with fail
  obtain ⟨w2, hw2⟩ : ∃ w2, w2 = (((((w1.setCell ⟨bb, 0, none⟩ (.int .i64 d.kind)).setCell ⟨bb, 1, none⟩ (.int .i64 d.num)).setCell ⟨bb, 2, none⟩ (.string d.str)).setCell ⟨bb, 3, none⟩ (.slice A7 d.keys.length c7)).setCell ⟨bb, 4, none⟩ (.slice A8 d.kids.length c8)) := ⟨_, rfl⟩
  obtain ⟨g1, g2, g3⟩ := five_sets w1 bb (.int .i64 d.kind) (.int .i64 d.num) (.string d.str) (.slice A7 d.keys.length c7) (.slice A8 d.kids.length c8)
  rw [← hw2] at g1 g2 g3 ⊢
  have hbx2 : Box5 w2 bb (.int .i64 d.kind) (.int .i64 d.num) (.string d.str) (.slice A7 d.keys.length c7) (.slice A8 d.kids.length c8) := by
    rw [hw2]; exact ((((HB1.out.set0 _).set1 _).set2 _).set3 _).set4 _
  have hR2 : RdL w2 r s l6 p6 := by
    have h3 := HR1.out.rd
    obtain ⟨ev, e1, e2⟩ := HR1.out.eg
    have hgr := HR1.out.gr
    refine ⟨?_, HR1.out.suf, ⟨ev, (World.cell?_of_block (a := ⟨1, 0, none⟩) (g1 _ (by show 1 ≠ bb; omega))).trans e1, e2⟩, hgr⟩
    unfold Rdr at h3 ⊢; rw [g1 r (by omega)]; exact h3
  have HR2 := Lib.hid hR2; have HBX2 := Lib.hid hbx2; have HG := Lib.hid (And.intro g1 (And.intro g2 g3))
  clear hw2 hR2 hbx2 g1 g2 g3 f0 f1 f2 f3 f4 ff
  refine (blanks_l HR2.out (by omega)).mono ?_
  rintro e w3 ⟨rfl, hr3, ht3⟩
  have HR3 := Lib.hid hr3; have HT3 := Lib.hid ht3
  clear hr3 ht3
  go_wp2_with fail
  go_end0
  rw [HX.out]
  obtain ⟨g1, g2, g3⟩ := HG.out
  have ht1 := HT1.out; have ht3 := HT3.out
  have z1 := ht1.size; have z3 := ht3.size
  refine ⟨rfl, ⟨p6, HR3.out⟩, ⟨_, _, _, _, _, F, HBX2.out.same (ht3.block bb HBX2.out.lt (by simp) (by omega)), (HO.out.same hB fun k hk => ?_), HF.out⟩, ?_⟩
  · have h1 := HFL.out k hk
    exact (ht3.block k (by omega) (by simp) (by omega)).trans (g1 k (by omega))
  · refine ⟨ht3.os.trans (g3.1.trans ht1.os), ht3.tape.trans (g3.2.1.trans ht1.tape), ht3.output.trans (g3.2.2.trans ht1.output), by omega, fun k hk h1 h2 => ?_⟩
    exact (ht3.block k (by omega) (by simp) h2).trans ((g1 k (by simpa using h1)).trans (ht1.block k hk (by simp) h2))
theorem ret_cell5_3 {P : Program} {fn : Func} {R : Ending → World → Prop} {a : Act} {w : World} {b : Nat} {t t2 t3 : Tmp} {v0 v1 v2 v3 v4 u2 u3 : Value} {T : TypeId} (hres : fn.results = #[.cell t T, .tmp t2, .tmp t3]) (hslot : a.tmps.getD t undef = .pointer (some ⟨b, 0, none⟩)) (h2 : a.tmps.getD t2 undef = u2) (h3 : a.tmps.getD t3 undef = u3)
    (hload : (loadVar T ⟨b, 0, none⟩).run P w = .ok (.agg #[v0, v1, v2, v3, v4]) w) (hd : a.defers = []) (hR : R (.returned (.tuple #[.agg #[v0, v1, v2, v3, v4], u2, u3])) w) : bodyPost P fn R .ret a w :=
  bodyPost_ret (v := .tuple #[.agg #[v0, v1, v2, v3, v4], u2, u3]) (by rw [Array.getD_eq_getD_getElem?] at hslot h2 h3; simp [results, hres, hslot, h2, h3, asAddr, hload]) hd hR
/-- What Parse tells. -/
def ParseTo (w : World) (s : ByteArray) (t : Tk D) (e : Ending) (w' : World) : Prop := Below w.heap.size w w' ∧ match t with
  | .ok d _ => ∃ (v0 v1 v2 v3 v4 : Value) (F : List Nat), e = .returned (.tuple #[.agg #[v0, v1, v2, v3, v4], .int .i64 s.size, .int .i64 0]) ∧ OwnIn w' w.heap.size d v0 v1 v2 v3 v4 F ∧ F.Nodup
  | .bad l er => e = .returned (.tuple #[.agg #[.int .i64 0, .int .i64 0, .string ⟨#[]⟩, .slice none 0 0, .slice none 0 0], .int .i64 ((s.size - l.length : Nat) : Int), .int .i64 (er : Int)])
set_option maxHeartbeats 8000000 in
set_option maxRecDepth 100000 in
theorem Parse_any {w : World} (s : ByteArray) (hs : s.size ≤ 16384) (hg : TG w) :
    Calls Tryz.prog 18 #[.string s] w fun e w' => ParseTo w s (readP s.data.toList) e w' := by
  have hmf : ∀ (fn : Fn) (first cap : Array Value) (w : World), (Instr.makeFunc fn first cap).run Tryz.prog w = .ok (.func fn first cap) w := fun _ _ _ _ => rfl
  have HG := Lib.hid hg
  clear hg
  go_enter Tryz.func18, Tryz.ntmps18
  go_wp2_with fail
  obtain ⟨b, hb⟩ : ∃ b, b = w.heap.size := ⟨_, rfl⟩
  obtain ⟨w1, hw1⟩ : ∃ w1, w1 = (w.alloc (.cells #[.int .i64 0, .int .i64 0, .string ⟨#[]⟩, .slice none 0 0, .slice none 0 0] 25)).alloc (.cells #[.int .i64 0, .int .i64 0, .string ⟨#[]⟩, .slice none 0 0, .slice none 0 0] 25) := ⟨_, rfl⟩
  have hb0 : Box5 w1 b (.int .i64 0) (.int .i64 0) (.string ⟨#[]⟩) (.slice none 0 0) (.slice none 0 0) := by
    unfold Box5
    rw [hw1, Below.heap_alloc _ _ _ (by simp; omega)]
    exact heap_alloc_new' hb.symm _
  have hb1 : Box5 w1 (b + 1) (.int .i64 0) (.int .i64 0) (.string ⟨#[]⟩) (.slice none 0 0) (.slice none 0 0) := by
    unfold Box5
    rw [hw1]
    exact heap_alloc_new' (by simp; omega) _
  have hz1 : w1.heap.size = b + 2 := by rw [hw1, hb]; simp
  have hbw : Below w.heap.size w w1 := by rw [hw1]; exact ((Below.refl _ _).alloc (Nat.le_refl _) _).alloc (by simp) _
  have hg1 := HG.out.next hbw
  have hgr := HG.out.gr
  rw [← hw1, ← hb]
  have hread := read_box (α := D) (PB := fun d w' => DocBox (b + 1) (b + 5) d w') (t := parseT s.data.toList) (b := b + 1) (s := s) (w := w1) (by omega) (enters_of Tryz.func35 (by kernel_rfl) rfl)
    (fun v w2 w3 h1 h2 => by
      obtain ⟨v0, v1, v2, v3, v4, F, h3, h4, h5⟩ := h1
      exact ⟨v0, v1, v2, v3, v4, F, h3.same (h2 (b + 1) (by omega) (by omega)), h4.same (Nat.le_refl _) fun k hk => h2 k (by have := (h4.lt k hk).1; omega) (by have := (h4.lt k hk).1; omega), h5⟩)
    (fun w2 hb2 hR => by
      have hlt : w1.heap.size + 1 + 1 < w2.heap.size := by
        rcases Nat.lt_or_ge (w1.heap.size + 1 + 1) w2.heap.size with h1 | h1
        · exact h1
        · unfold Rdr at hR; simp [Array.getElem?_eq_none h1] at hR
      exact Parse1_any (RdL.begin hR (hg1.next hb2).eg (by omega)) (by omega) (hb1.same (hb2.block _ (by omega))) (by omega) (by omega) (by omega))
  have HBW := Lib.hid hbw
  have HB0 := Lib.hid hb0
  have hbl : w.heap.size ≤ b := by omega
  have hbl1 : b + 1 < w1.heap.size := by omega
  have hU : readP s.data.toList = match parseT s.data.toList with | .bad l e => .bad l e | .ok d l => if l = [] then .ok d [] else .bad l 4 := by
    unfold readP parseT
    cases docP 12 s.data.toList 0 <;> rfl
  have HU := Lib.hid hU
  have hss : ¬ (16384 : Int) < (s.size : Int) := by omega
  clear hU hb hw1 hb0 hb1 hz1 hbw hg1 hgr
  refine hread.mono ?_
  clear hread
  intro e w2 hto
  obtain ⟨ht, hto⟩ := hto
  have hbel : Below w.heap.size w w2 := HBW.out.trans (Turned.below ht (by simp) (by omega) HBW.out.size)
  have HBEL := Lib.hid hbel
  have hk0 := HB0.out.same (w' := w2) (ht.block b (by omega) (by simp) (by omega))
  obtain ⟨f0, f1, f2, f3, f4⟩ := hk0.cells
  have ff := hk0.frozen
  have HK0 := Lib.hid hk0
  clear hbel ht hk0
  rcases hx : parseT s.data.toList with ⟨d, l⟩ | ⟨a, er⟩
  · rw [hx] at hto HU
    simp only at hto HU
    by_cases hl : l = []
    · rw [if_pos hl] at hto HU
      obtain ⟨rfl, hbx⟩ := hto
      obtain ⟨y0, y1, y2, y3, y4, F, hb5, hO, hF⟩ := hbx
      obtain ⟨A7, c7, A8, c8, rfl, rfl, rfl, rfl, rfl⟩ := hO.doc.forms
      obtain ⟨d0, d1, d2, d3, d4⟩ := hb5.cells
      have HO := Lib.hid hO; have HF := Lib.hid hF
      clear hO hF hb5 hx hl
      go_wp2_with fail
      refine ret_cell5_3 rfl rfl rfl rfl (((((HK0.out.set0 _).set1 _).set2 _).set3 _).set4 _).load rfl ?_
      obtain ⟨g1, g2, g3⟩ := five_sets w2 b (.int .i64 d.kind) (.int .i64 d.num) (.string d.str) (.slice A7 d.keys.length c7) (.slice A8 d.kids.length c8)
      rw [HU.out]
      refine ⟨?_, _, _, _, _, _, F, rfl, HO.out.same (by omega) fun k hk => g1 k (by have := (HO.out.lt k hk).1; omega), HF.out⟩
      exact (((((HBEL.out.setCell (p := ⟨b, 0, none⟩) hbl _).setCell (p := ⟨b, 1, none⟩) hbl _).setCell (p := ⟨b, 2, none⟩) hbl _).setCell (p := ⟨b, 3, none⟩) hbl _).setCell (p := ⟨b, 4, none⟩) hbl _)
    · rw [if_neg hl] at hto HU
      subst hto
      clear hx hl
      go_wp2_with fail
      refine ret_cell5_3 rfl rfl rfl rfl (((((HK0.out.set0 _).set1 _).set2 _).set3 _).set4 _).load rfl ?_
      rw [HU.out]
      exact ⟨(((((HBEL.out.setCell (p := ⟨b, 0, none⟩) hbl _).setCell (p := ⟨b, 1, none⟩) hbl _).setCell (p := ⟨b, 2, none⟩) hbl _).setCell (p := ⟨b, 3, none⟩) hbl _).setCell (p := ⟨b, 4, none⟩) hbl _), rfl⟩
  · have her : er ≠ 0 := by
      unfold parseT at hx
      rcases hy : docP 12 s.data.toList 0 with ⟨d, l6, p6⟩ | ⟨a', q⟩
      · rw [hy] at hx; cases hx
      · rw [hy] at hx; injection hx with _ h1; rw [← h1]; exact docP_err 12 _ _ _ _ hy
    rw [hx] at hto HU
    simp only at hto HU
    subst hto
    have hne : ((er : Int) != 0) = true := by simp; omega
    clear hx her
    go_wp2_with fail
    refine ret_cell5_3 rfl rfl rfl rfl (((((HK0.out.set0 _).set1 _).set2 _).set3 _).set4 _).load rfl ?_
    rw [HU.out]
    exact ⟨(((((HBEL.out.setCell (p := ⟨b, 0, none⟩) hbl _).setCell (p := ⟨b, 1, none⟩) hbl _).setCell (p := ⟨b, 2, none⟩) hbl _).setCell (p := ⟨b, 3, none⟩) hbl _).setCell (p := ⟨b, 4, none⟩) hbl _), rfl⟩
end Go.Proofs.YtgklnafliaplkaaGreatDoor
