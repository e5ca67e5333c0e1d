/-
  schema.Copy.
-/
import Derived.Test.YtnjmknofojjlmaaDoorTCopyW
namespace Go.Proofs.YtnjmknofojjlmaaDoor
open Go.RowKit

theorem Copied.mono {w0 w0' : Nat} {w : World} {t : T} {x3 x4 x5 : Value} (h : Copied w0 w t x3 x4 x5) (hw : w0' ≤ w0) : Copied w0' w t x3 x4 x5 := by
  obtain ⟨cs, ds, h1, o3, o4, o5, r4, r5, r⟩ := h
  exact ⟨cs, ds, by omega, o3.mono hw, o4.mono hw, o5.mono hw, r4.keep (fun k hk => ⟨by have := hk.1; omega, hk.2⟩) fun _ _ => rfl, r5.keep (fun k hk => ⟨by have := hk.1; omega, hk.2⟩) fun _ _ => rfl, r⟩
theorem Copied.later {w0 : Nat} {w w' : World} {t : T} {x3 x4 x5 : Value} (h : Copied w0 w t x3 x4 x5) (hz : w.heap.size ≤ w'.heap.size) (hb : ∀ k, w0 ≤ k → k < w.heap.size → w'.heap[k]? = w.heap[k]?) : Copied w0 w' t x3 x4 x5 := by
  obtain ⟨cs, ds, h1, o3, o4, o5, r4, r5, n34, n35, n45⟩ := h
  refine ⟨cs, ds, by omega, t_ownsRow_same o3 fun k hk => hb k (o3.lt k hk).1 (o3.lt k hk).2, t_ownsRow_same o4 fun k hk => hb k (o4.lt k hk).1 (o4.lt k hk).2, t_ownsRow_same o5 fun k hk => hb k (o5.lt k hk).1 (o5.lt k hk).2, ?_, ?_, n34, n35, n45⟩
  · exact r4.keep (fun k hk => ⟨hk.1, by have := hk.2.1; omega, hk.2.2⟩) fun p hp => World.cell?_of_block (hb p.block hp.1 hp.2.1)
  · exact r5.keep (fun k hk => ⟨hk.1, by have := hk.2.1; omega, hk.2.2⟩) fun p hp => World.cell?_of_block (hb p.block hp.1 hp.2.1)
theorem Copied.forms {w0 : Nat} {w : World} {t : T} {x3 x4 x5 : Value} (h : Copied w0 w t x3 x4 x5) : ∃ A3 c3 A4 c4 A5 c5, x3 = .slice A3 t.names.length c3 ∧ x4 = .slice A4 t.fields.length c4 ∧ x5 = .slice A5 t.of.length c5 := by
  obtain ⟨A3, c3, A4, c4, A5, c5, _, _, _, h3, h4, h5⟩ := h.typeS.forms
  exact ⟨A3, c3, A4, c4, A5, c5, h3, h4, h5⟩
theorem Copied.typeIn {w0 : Nat} {w : World} {t : T} {x3 x4 x5 : Value} (h : Copied w0 w t x3 x4 x5) : TypeIn w w.heap.size t (.int .i64 t.kind) (.int .i64 t.lo) (.int .i64 t.hi) x3 x4 x5 := h.typeS.toIn fun _ hk => hk.2
set_option maxHeartbeats 2000000 in
set_option maxRecDepth 100000 in
theorem cover_any {t : T} {b o : Nat} {arr : Array Value} {ty : TypeId} {w : World} {S : Nat → Prop} {v0 v1 v2 v3 v4 v5 : Value} (hf : t.Fit) (hd : t.depth ≤ 900) (hb : w.heap[b]? = some (.cells arr ty (0, 0)))
    (a3 : arr[o + 3]? = some v3) (a4 : arr[o + 4]? = some v4) (a5 : arr[o + 5]? = some v5) (ht : TypeS w S t v0 v1 v2 v3 v4 v5) (hS : ∀ k, S k → k < w.heap.size ∧ k ≠ b) :
    Calls Tryd.prog 20 #[.pointer (some ⟨b, o, none⟩), .func (.func 56) #[] #[]] w fun e w' =>
      e = .returned (.bool true) ∧ ∃ x3 x4 x5, w'.heap[b]? = some (.cells (((arr.setIfInBounds (o + 3) x3).setIfInBounds (o + 3 + 1) x4).setIfInBounds (o + 3 + 2) x5) ty (0, 0)) ∧ Copied w.heap.size w' t x3 x4 x5 ∧ But b w w' := by
  have hbl := size_block hb
  have HV := Lib.hid fun (W : World) => cvisit_any (s := w.heap.size) (v := w.heap.size + 1) t.depth t 1 b o arr ty W S v0 v1 v2 v3 v4 v5 (Nat.le_refl _) hf (by omega)
  have hmf : ∀ (fn : Fn) (first cap : Array Value) (w : World), (Instr.makeFunc fn first cap).run Tryd.prog w = .ok (.func fn first cap) w := fun _ _ _ _ => rfl
  have HB := Lib.hid hb; have HT := Lib.hid ht; have HS := Lib.hid hS; have A3 := Lib.hid a3; have A4 := Lib.hid a4; have A5 := Lib.hid a5
  clear hb ht hS hf a3 a4 a5
  go_enter Tryd.func20, Tryd.ntmps20
  go_wp2_with fail
  have hbl2 : Below w.heap.size w ((w.alloc (.cells #[.func (.func 56) #[] #[]] 50)).alloc (.cells #[.func (.func 43) #[] #[.pointer (some ⟨w.heap.size, 0, none⟩), .pointer (some ⟨w.heap.size + 1, 0, none⟩)]] 50)) := ((Below.refl _ _).alloc (Nat.le_refl _) _).alloc (by simp) _
  have HBL := Lib.hid hbl2
  clear hbl2
  refine (HV.out _ ((HBL.out.block b hbl).trans HB.out) A3.out A4.out A5.out (HT.out.keep (fun _ h => h) fun p hp => HBL.out.cell (HS.out _ hp).1) (fun k hk => ⟨by have := HS.out k hk; simp; omega, (HS.out k hk).2⟩) (by simp; omega) (by simp) (by omega) (by omega) (by go_simp) (by go_simp)).mono ?_
  rintro e w1 ⟨rfl, x3, x4, x5, hbx, hcp, hbt⟩
  have HX : Hid (w1.heap[b]? = some (.cells (((arr.setIfInBounds (o + 3) x3).setIfInBounds (o + 3 + 1) x4).setIfInBounds (o + 3 + 2) x5) ty (0, 0)) ∧ Copied w.heap.size w1 t x3 x4 x5 ∧ But b w w1) := ⟨hbx, hcp.mono (by simp; omega), (But.of_below HBL.out).trans hbt⟩
  clear hbx hcp hbt HBL
  go_wp2_with fail
  go_ret
  exact ⟨rfl, x3, x4, x5, HX.out⟩
/-- What a call that makes a type tells. -/
def MadeT (W0 : Nat) (w : World) (t : T) (e : Ending) (w' : World) : Prop :=
  ∃ (x3 x4 x5 : Value), e = .returned (.agg #[.int .i64 t.kind, .int .i64 t.lo, .int .i64 t.hi, x3, x4, x5]) ∧ Copied W0 w' t x3 x4 x5 ∧ Below W0 w w'
set_option maxHeartbeats 2000000 in
set_option maxRecDepth 100000 in
theorem tcopy_any {t : T} {v : Value} {w : World} {B : Nat} (hf : t.Fit) (hd : t.depth ≤ 900) (hB : B ≤ w.heap.size) (ht : TypeV w B t v) :
    Calls Tryd.prog 30 #[v] w (MadeT w.heap.size w t) := by
  obtain ⟨v0, v1, v2, v3, v4, v5, rfl, hin⟩ := ht
  have HT := Lib.hid hin.toS
  obtain ⟨A3, d3, A4, d4, A5, d5, rfl, rfl, rfl, rfl, rfl, rfl⟩ := hin.forms
  have HF := Lib.hid hf
  clear hin hf
  go_enter Tryd.func30, Tryd.ntmps30
  go_wp2_with fail
  have hb0 : ((w.alloc (.cells #[.int .i64 t.kind, .int .i64 t.lo, .int .i64 t.hi, .slice A3 t.names.length d3, .slice A4 t.fields.length d4, .slice A5 t.of.length d5] 26)).alloc (.cells #[.int .i64 0, .int .i64 0, .int .i64 0, .slice none 0 0, .slice none 0 0, .slice none 0 0] 26)).heap[w.heap.size]? = some (.cells #[.int .i64 t.kind, .int .i64 t.lo, .int .i64 t.hi, .slice A3 t.names.length d3, .slice A4 t.fields.length d4, .slice A5 t.of.length d5] 26 (0, 0)) :=
    (Box6.new w _ _ _ _ _ _).alloc _
  have hr0 : Box6 ((w.alloc (.cells #[.int .i64 t.kind, .int .i64 t.lo, .int .i64 t.hi, .slice A3 t.names.length d3, .slice A4 t.fields.length d4, .slice A5 t.of.length d5] 26)).alloc (.cells #[.int .i64 0, .int .i64 0, .int .i64 0, .slice none 0 0, .slice none 0 0, .slice none 0 0] 26)) (w.heap.size + 1) (.int .i64 0) (.int .i64 0) (.int .i64 0) (.slice none 0 0) (.slice none 0 0) (.slice none 0 0) := Box6.new' (by simp) _ _ _ _ _ _
  have hbel : Below w.heap.size w ((w.alloc (.cells #[.int .i64 t.kind, .int .i64 t.lo, .int .i64 t.hi, .slice A3 t.names.length d3, .slice A4 t.fields.length d4, .slice A5 t.of.length d5] 26)).alloc (.cells #[.int .i64 0, .int .i64 0, .int .i64 0, .slice none 0 0, .slice none 0 0, .slice none 0 0] 26)) := ((Below.refl _ _).alloc (Nat.le_refl _) _).alloc (by simp) _
  have hsz : ((w.alloc (.cells #[.int .i64 t.kind, .int .i64 t.lo, .int .i64 t.hi, .slice A3 t.names.length d3, .slice A4 t.fields.length d4, .slice A5 t.of.length d5] 26)).alloc (.cells #[.int .i64 0, .int .i64 0, .int .i64 0, .slice none 0 0, .slice none 0 0, .slice none 0 0] 26)).heap.size = w.heap.size + 2 := by simp
  generalize ((w.alloc (.cells #[.int .i64 t.kind, .int .i64 t.lo, .int .i64 t.hi, .slice A3 t.names.length d3, .slice A4 t.fields.length d4, .slice A5 t.of.length d5] 26)).alloc (.cells #[.int .i64 0, .int .i64 0, .int .i64 0, .slice none 0 0, .slice none 0 0, .slice none 0 0] 26)) = W2 at hb0 hr0 hbel hsz ⊢
  have HR0 := Lib.hid hr0; have HBEL := Lib.hid hbel
  refine (cover_any (S := fun k => k < B) HF.out hd hb0 rfl rfl rfl (HT.out.keep (fun _ h => h) fun p hp => hbel.cell (by omega)) (fun k hk => ⟨by omega, by omega⟩)).mono ?_
  rintro e w1 ⟨rfl, x3, x4, x5, hbx, hcp, hbt⟩
  rw [hsz] at hcp
  have hz1 := hbt.size
  obtain ⟨B3, e3, B4, e4, B5, e5, rfl, rfl, rfl⟩ := hcp.forms
  have HP : Hid (Box6 w1 w.heap.size (.int .i64 t.kind) (.int .i64 t.lo) (.int .i64 t.hi) (.slice B3 t.names.length e3) (.slice B4 t.fields.length e4) (.slice B5 t.of.length e5)) := hbx
  have HR : Hid (Box6 w1 (w.heap.size + 1) (.int .i64 0) (.int .i64 0) (.int .i64 0) (.slice none 0 0) (.slice none 0 0) (.slice none 0 0)) := HR0.out.same (hbt.block _ (by omega) (by omega))
  have HBL : Hid (Below w.heap.size w w1) := HBEL.out.trans (hbt.below (Nat.le_refl _) (by omega))
  have HCP := Lib.hid hcp
  clear hbx hcp hbt hb0 hr0 hbel HR0 HBEL
  obtain ⟨p0, p1, p2, p3, p4, p5⟩ := HP.out.cells
  obtain ⟨r0, r1, r2, r3, r4, r5⟩ := HR.out.cells
  have r6 := HR.out.frozen
  go_wp2_with fail
  have hfin := (((((HR.out.set0 (.int .i64 t.kind)).set1 (.int .i64 t.lo)).set2 (.int .i64 t.hi)).set3 (.slice B3 t.names.length e3)).set4 (.slice B4 t.fields.length e4)).set5 (.slice B5 t.of.length e5)
  clear p0 p1 p2 p3 p4 p5 r0 r1 r2 r3 r4 r5 r6
  refine ret_cell6 rfl rfl hfin.load rfl ?_
  have le0 : w.heap.size ≤ w.heap.size + 1 := by omega
  refine ⟨_, _, _, rfl, (HCP.out.later (by simp [World.setCell]) fun k hk hk2 => ?_).mono (by omega), ?_⟩
  · rw [Below.heap_setCell _ _ _ k (by show k ≠ w.heap.size + 1; omega), Below.heap_setCell _ _ _ k (by show k ≠ w.heap.size + 1; omega), Below.heap_setCell _ _ _ k (by show k ≠ w.heap.size + 1; omega), Below.heap_setCell _ _ _ k (by show k ≠ w.heap.size + 1; omega), Below.heap_setCell _ _ _ k (by show k ≠ w.heap.size + 1; omega), Below.heap_setCell _ _ _ k (by show k ≠ w.heap.size + 1; omega)]
  · exact (((((HBL.out.setCell (by exact le0) _).setCell (by exact le0) _).setCell (by exact le0) _).setCell (by exact le0) _).setCell (by exact le0) _).setCell (by exact le0) _
end Go.Proofs.YtnjmknofojjlmaaDoor
