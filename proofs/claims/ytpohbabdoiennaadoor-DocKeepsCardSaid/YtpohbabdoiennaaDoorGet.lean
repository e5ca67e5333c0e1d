import Derived.Test.YtpohbabdoiennaaDoorAt
namespace Go.Proofs.YtpohbabdoiennaaDoor
open Go.RowKit

theorem ret_cell5_2 {P : Program} {fn : Func} {R : Ending → World → Prop} {a : Act} {w : World} {b : Nat} {t t' : Tmp} {v0 v1 v2 v3 v4 u : Value} {T : TypeId} (hres : fn.results = #[.cell t T, .tmp t']) (hslot : a.tmps.getD t undef = .pointer (some ⟨b, 0, none⟩)) (hslot' : a.tmps.getD t' undef = u)
    (hload : (loadVar T ⟨b, 0, none⟩).run P w = .ok (.agg #[v0, v1, v2, v3, v4]) w) (hd : a.defers = []) (hR : R (.returned (.tuple #[.agg #[v0, v1, v2, v3, v4], u])) w) : bodyPost P fn R .ret a w :=
  bodyPost_ret (v := .tuple #[.agg #[v0, v1, v2, v3, v4], u]) (by rw [Array.getD_eq_getD_getElem?] at hslot hslot'; simp [results, hres, hslot, hslot', asAddr, hload]) hd hR

/-- What a call tells that makes a document, and something beside it. -/
def MadeDoc2 (W0 : Nat) (w : World) (d : D) (u : Value) (e : Ending) (w' : World) : Prop :=
  ∃ (v0 v1 v2 v3 v4 : Value) (F : List Nat), e = .returned (.tuple #[.agg #[v0, v1, v2, v3, v4], u]) ∧ OwnIn w' W0 d v0 v1 v2 v3 v4 F ∧ F.Nodup ∧ Below W0 w w'
def D.zero : D := .mk 0 0 ⟨#[]⟩ [] []
theorem OwnIn.zero (w : World) (base : Nat) : OwnIn w base D.zero (.int .i64 0) (.int .i64 0) (.string ⟨#[]⟩) (.slice none 0 0) (.slice none 0 0) [] := by
  simp only [D.zero, OwnIn]
  exact ⟨trivial, trivial, trivial, World.ownsRow_nil _ _ _ _, [], [], World.ownsRow_nil _ _ _ _, by simp [OwnKids], rfl⟩
def D.get (d : D) (ps : List ByteArray) : Option D := (D.locate d ps).bind (D.subAt d)
def getV (d : D) (ps : List ByteArray) : D × Bool := match D.get d ps with
  | none => (D.zero, false)
  | some x => (x, true)

set_option maxHeartbeats 4000000 in
set_option maxRecDepth 100000 in
theorem get_v {d : D} {v pv : Value} {ps : List ByteArray} {w : World} {B : Nat} (hf : d.Fit) (hps : ps.length ≤ 10000) (hs : ∀ s ∈ ps, Short s) (hg : Glob w) (hB : B ≤ w.heap.size) (hd : DocV w B d v) (hp : Strs w B pv ps) :
    Calls Tryd.prog 7 #[v, pv] w (MadeDoc2 w.heap.size w (getV d ps).1 (.bool (getV d ps).2)) := by
  obtain ⟨v0, v1, v2, v3, v4, rfl, hd⟩ := hd
  have HD := Lib.hid hd; have HP := Lib.hid hp; have HS := Lib.hid hs; have HG := Lib.hid hg; have HF := Lib.hid hf
  obtain ⟨A3, c3, A4, c4, rfl, rfl, rfl, rfl, rfl⟩ := hd.forms
  obtain ⟨A, c, rfl, hpc, _⟩ := hp
  clear hd hs hg hf
  go_enter Tryd.func7, Tryd.ntmps7
  go_wp2_with fail
  have keep : ∀ o o' : Obj, ∀ p : Addr, p.block < B → ((w.alloc o).alloc o').cell? p = w.cell? p := fun o o' p hp => (World.cell?_alloc_lt (w.alloc _) _ p (by simp; omega)).trans (World.cell?_alloc_lt w _ p (by omega))
  have hx1 := (Box5.new w (.int .i64 d.kind) (.int .i64 d.num) (.string d.str) (.slice A3 d.keys.length c3) (.slice A4 d.kids.length c4)).alloc (.cells #[.int .i64 0, .int .i64 0, .string ⟨#[]⟩, .slice none 0 0, .slice none 0 0] 25)
  have hr1 := Box5.new' (w := w.alloc (.cells #[.int .i64 d.kind, .int .i64 d.num, .string d.str, .slice A3 d.keys.length c3, .slice A4 d.kids.length c4] 25)) (World.size_alloc _ _) (.int .i64 0) (.int .i64 0) (.string ⟨#[]⟩) (.slice none 0 0) (.slice none 0 0)
  refine (at_any (B := B) (d := d) HF.out hps HS.out ((HG.out.alloc _).alloc _) (by simp; omega) ⟨hx1.cells.1, hx1.cells.2.1, hx1.cells.2.2.1, hx1.cells.2.2.2.1, hx1.cells.2.2.2.2⟩ (HD.out.keep (Nat.le_refl _) (keep _ _)) (HP.out.keep (keep _ _))).mono ?_
  rintro e w1 ⟨ht, hb1⟩
  simp only [World.size_alloc] at hb1
  have hz1 := hb1.size
  simp only [World.size_alloc] at hz1
  have hr2 := hr1.same (hb1.block (w.heap.size + 1) (by omega))
  have hbw : Below w.heap.size w w1 := (((Below.refl _ _).alloc (Nat.le_refl _) _).alloc (by simp) _).trans (hb1.mono (by omega))
  have HR2 := Lib.hid hr2
  rcases ht with ⟨hloc, rfl⟩ | ⟨is, b', off', x, u0, u1, u2, u3, u4, hloc, rfl, _, hsub, hcx, hdx, hfx⟩
  · have E : Hid (getV d ps = (D.zero, false)) := by show getV d ps = _; simp [getV, D.get, hloc]
    obtain ⟨r0, r1, r2, r3, r4⟩ := hr2.cells
    have r5 := hr2.frozen
    clear hx1 hr1 keep hloc hr2
    go_wp2_with fail
    have hfin := ((((HR2.out.set0 (.int .i64 0)).set1 (.int .i64 0)).set2 (.string ⟨#[]⟩)).set3 (.slice none 0 0)).set4 (.slice none 0 0)
    refine ret_cell5_2 (u := .bool false) rfl rfl rfl hfin.load rfl ?_
    rw [E.out]
    exact ⟨_, _, _, _, _, [], rfl, OwnIn.zero _ _, List.nodup_nil, ((((hbw.setCell (by show w.heap.size ≤ w.heap.size + 1; omega) _).setCell (by show w.heap.size ≤ w.heap.size + 1; omega) _).setCell (by show w.heap.size ≤ w.heap.size + 1; omega) _).setCell (by show w.heap.size ≤ w.heap.size + 1; omega) _).setCell (by show w.heap.size ≤ w.heap.size + 1; omega) _⟩
  · have E : Hid (getV d ps = (x, true)) := by show getV d ps = _; simp [getV, D.get, hloc, hsub]
    have hcl := hcx.lt
    simp only [World.size_alloc] at hcl
    have hcx1 := hcx.keep (w' := w1) fun o => hb1.cell (p := ⟨b', o, none⟩) hcl
    have hdx1 : DocIn w1 B x u0 u1 u2 u3 u4 := hdx.keep (Nat.le_refl _) fun p hp => hb1.cell (by omega)
    obtain ⟨X3, e3, X4, e4, rfl, rfl, rfl, rfl, rfl⟩ := hdx1.forms
    obtain ⟨q0, q1, q2, q3, q4⟩ := hcx1
    have HDX := Lib.hid hdx1
    clear hx1 hr1 keep hloc hr2 hsub hcx hdx hdx1
    go_wp2_with fail
    refine (copy_v (B := B) (d := x) hfx (by omega) ⟨_, _, _, _, _, rfl, HDX.out⟩).mono ?_
    rintro e w2 ⟨y0, y1, y2, y3, y4, F, rfl, hown, hnd, hb2⟩
    obtain ⟨Y3, f3, Y4, f4, rfl, rfl, rfl, rfl, rfl⟩ := hown.doc.forms
    have hr3 := HR2.out.same (hb2.block (w.heap.size + 1) (by omega))
    obtain ⟨r0, r1, r2, r3, r4⟩ := hr3.cells
    have r5 := hr3.frozen
    have HR3 := Lib.hid hr3; have HO := Lib.hid hown; have HN := Lib.hid hnd; have HB2 := Lib.hid hb2
    clear hr3 hown hnd hb2 q0 q1 q2 q3 q4
    go_wp2_with fail
    have hfin := ((((HR3.out.set0 (.int .i64 x.kind)).set1 (.int .i64 x.num)).set2 (.string x.str)).set3 (.slice Y3 x.keys.length f3)).set4 (.slice Y4 x.kids.length f4)
    refine ret_cell5_2 (u := .bool true) rfl rfl rfl hfin.load rfl ?_
    rw [E.out]
    have hF := HO.out.lt
    refine ⟨_, _, _, _, _, F, rfl, HO.out.same (by omega) fun k hk => ?_, HN.out, (((((hbw.trans (HB2.out.mono (by omega))).setCell (by show w.heap.size ≤ w.heap.size + 1; omega) _).setCell (by show w.heap.size ≤ w.heap.size + 1; omega) _).setCell (by show w.heap.size ≤ w.heap.size + 1; omega) _).setCell (by show w.heap.size ≤ w.heap.size + 1; omega) _).setCell (by show w.heap.size ≤ w.heap.size + 1; omega) _⟩
    have hk1 := (hF k hk).1
    rw [Below.heap_setCell _ _ _ k (by show k ≠ w.heap.size + 1; omega), Below.heap_setCell _ _ _ k (by show k ≠ w.heap.size + 1; omega), Below.heap_setCell _ _ _ k (by show k ≠ w.heap.size + 1; omega), Below.heap_setCell _ _ _ k (by show k ≠ w.heap.size + 1; omega), Below.heap_setCell _ _ _ k (by show k ≠ w.heap.size + 1; omega)]
end Go.Proofs.YtpohbabdoiennaaDoor
