/-
  What the law's own document is made of: the record of two keys that come falling.
  What the law package's own document is.
-/
import Derived.Test.YtdcempejdggkpaaGreatDoorB30
namespace Go.Proofs.YtdcempejdggkpaaGreatDoor
open Go.RowKit

theorem rec_two (x y : ByteArray) (d0 d1 : D) (b off c : Nat) (v : Value) (w : World) (B : Nat) (hc : 2 ≤ c) (hf : D.Fits [d0, d1]) (hB : B ≤ w.heap.size) (hb : b < B) (hlt : scmp y x < 0) (hxy : (x.toList == y.toList) = false)
    (h0 : w.cell? ⟨b, off, none⟩ = some (.string x)) (h1 : w.cell? ⟨b, off + 1, none⟩ = some (.string y)) (hv : KidsV w B [d0, d1] v) :
    Calls Tryz.prog 8 #[.slice (some ⟨b, off, none⟩) 2 c, v] w (MadeDoc w.heap.size w (.mk 1 0 ⟨#[]⟩ [y, x] [d1, d0])) := by
  have hk : recKept [x, y] [1, 0] 2 = [1, 0] := by
    simp [recKept, recSkip, hxy]
  have h := rec_of [x, y] [d0, d1] [1, 0] (some ⟨b, off, none⟩) c v w B rfl (by simp) hf hB ⟨some ⟨b, off, none⟩, c, rfl, hc, fun _ => ⟨b, off, rfl, hb, fun i hi => ?_⟩⟩ hv rfl (fun i hi => ?_) (fun w1 hw1 => ?_)
  · show Calls Tryz.prog 8 _ w (MadeDoc w.heap.size w (.mk 1 0 ⟨#[]⟩ (recKeys [x, y] [1, 0]) (recKids [d0, d1] [1, 0])))
    rw [← hk]
    exact h
  · match i, hi with
    | 0, _ => exact h0
    | 1, _ => exact h1
  · match i, hi with
    | 0, _ => simp
    | 1, _ => simp
  · refine (rising_two x y b off c w1 (by have := hw1.size; omega) hlt ((hw1.cell (by show b < w.heap.size; omega)).trans h0) ((hw1.cell (by show b < w.heap.size; omega)).trans h1)).mono ?_
    rintro e w' ⟨rfl, o0, o1, hb1⟩
    refine ⟨w1.heap.size + 1, rfl, by omega, ?_, fun i hi => ?_, hb1⟩
    · rcases Nat.lt_or_ge (w1.heap.size + 1) w'.heap.size with h | h
      · exact h
      · simp [World.cell?, Array.getElem?_eq_none h] at o0
    · match i, hi with
      | 0, _ => exact o0
      | 1, _ => exact o1
end Go.Proofs.YtdcempejdggkpaaGreatDoor
namespace Go.Proofs.YtdcempejdggkpaaGreatDoor
open Go.RowKit
def leafV (kind num : Int) (str : ByteArray) : Value := .agg #[.int .i64 kind, .int .i64 num, .string str, .slice none 0 0, .slice none 0 0]
set_option maxRecDepth 100000 in
theorem int_x (n : Int) (w : World) : Calls Tryz.prog 10 #[.int .i64 n] w (fun e w' => e = .returned (.agg #[.int .i64 4, .int .i64 n, .string ⟨#[]⟩, .slice none 0 0, .slice none 0 0]) ∧ Below w.heap.size w w') := by
  go_enter Tryz.func10, Tryz.ntmps10
  go_wp2_with fail
  exact ret_cell5 rfl rfl (Box5.new w _ _ _ _ _).load rfl ⟨rfl, (Below.refl _ _).alloc (Nat.le_refl _) _⟩
set_option maxRecDepth 100000 in
theorem bytes_x (s : ByteArray) (w : World) : Calls Tryz.prog 11 #[.string s] w (fun e w' => e = .returned (.agg #[.int .i64 6, .int .i64 0, .string s, .slice none 0 0, .slice none 0 0]) ∧ Below w.heap.size w w') := by
  go_enter Tryz.func11, Tryz.ntmps11
  go_wp2_with fail
  exact ret_cell5 rfl rfl (Box5.new w _ _ _ _ _).load rfl ⟨rfl, (Below.refl _ _).alloc (Nat.le_refl _) _⟩
set_option maxRecDepth 100000 in
theorem yes_x (w : World) : Calls Tryz.prog 12 #[.bool true] w (fun e w' => e = .returned (.agg #[.int .i64 5, .int .i64 1, .string ⟨#[]⟩, .slice none 0 0, .slice none 0 0]) ∧ Below w.heap.size w w') := by
  go_enter Tryz.func12, Tryz.ntmps12
  go_wp2_with fail
  exact ret_cell5 rfl rfl ((Box5.new w _ _ _ _ _).alloc _).load rfl ⟨rfl, ((Below.refl _ _).alloc (Nat.le_refl _) _).alloc (by simp) _⟩
theorem leaf_in (w : World) (B : Nat) (kind num : Int) (str : ByteArray) : DocIn w B (.mk kind num str [] []) (.int .i64 kind) (.int .i64 num) (.string str) (.slice none 0 0) (.slice none 0 0) := by
  simp only [DocIn]
  exact ⟨trivial, trivial, trivial, ⟨none, 0, rfl, by simp, fun h => by simp at h⟩, none, 0, by simp, by simp, fun h => by simp at h⟩
theorem kids_row {w : World} {b B : Nat} {d e : D} {u0 u1 u2 u3 u4 z0 z1 z2 z3 z4 : Value} {t : TypeId} (hb : b < B) (h : w.heap[b]? = some (.cells #[u0, u1, u2, u3, u4, z0, z1, z2, z3, z4] t (0, 0))) (hd : DocIn w B d u0 u1 u2 u3 u4) (he : DocIn w B e z0 z1 z2 z3 z4) :
    KidsV w B [d, e] (.slice (some ⟨b, 0, none⟩) 2 2) := by
  refine ⟨some ⟨b, 0, none⟩, 2, rfl, by simp, fun _ => ⟨b, 0, rfl, hb, ?_⟩⟩
  simp only [KidsIn]
  exact ⟨⟨u0, u1, u2, u3, u4, cell_of_row _ _ 0 _ _ _ h, cell_of_row _ _ 1 _ _ _ h, cell_of_row _ _ 2 _ _ _ h, cell_of_row _ _ 3 _ _ _ h, cell_of_row _ _ 4 _ _ _ h, hd⟩,
    ⟨z0, z1, z2, z3, z4, cell_of_row _ _ 5 _ _ _ h, cell_of_row _ _ 6 _ _ _ h, cell_of_row _ _ 7 _ _ _ h, cell_of_row _ _ 8 _ _ _ h, cell_of_row _ _ 9 _ _ _ h, he⟩, trivial⟩
/-- The list and the dictionary, and the record of both. -/
def dList : D := .mk 3 0 ⟨#[]⟩ [] [.mk 4 5 ⟨#[]⟩ [] [], .mk 4 7 ⟨#[]⟩ [] []]
def dDict : D := .mk 2 0 ⟨#[]⟩ [⟨#[]⟩, ⟨#[120]⟩] [.mk 5 1 ⟨#[]⟩ [] [], .mk 6 0 ⟨#[115]⟩ [] []]
def dSome : D := .mk 1 0 ⟨#[]⟩ [⟨#[97]⟩, ⟨#[98]⟩] [dList, dDict]
theorem dSome_fit : dSome.Fit := by
  simp only [dSome, dList, dDict, D.Fit, D.Fits]
  decide
set_option maxRecDepth 100000 in
theorem some_v (w : World) : Calls Tryz.prog 13 #[] w (MadeDoc w.heap.size w dSome) := by
  go_enter Tryz.func13, Tryz.ntmps13
  go_wp2_with fail
  refine (yes_x _).mono ?_
  rintro e w1 ⟨rfl, hb1⟩
  have HB1 := Lib.hid hb1; clear hb1
  go_wp2_with fail
  refine (bytes_x _ _).mono ?_
  rintro e w2 ⟨rfl, hb2⟩
  have HB2 := Lib.hid hb2; clear hb2
  go_wp2_with fail
  refine (int_x _ _).mono ?_
  rintro e w3 ⟨rfl, hb3⟩
  have HB3 := Lib.hid hb3; clear hb3
  go_wp2_with fail
  refine (int_x _ _).mono ?_
  rintro e w4 ⟨rfl, hb4⟩
  have HB4 := Lib.hid hb4; clear hb4
  go_wp2_with fail
  have hb1 := HB1.out; have hb2 := HB2.out; have hb3 := HB3.out; have hb4 := HB4.out
  simp only [World.size_alloc] at hb1 hb2 hb3 hb4
  have s1 := hb1.size; have s2 := hb2.size; have s3 := hb3.size; have s4 := hb4.size
  simp only [World.size_alloc] at s1 s3
  clear HB1 HB2 HB3 HB4
  -- the blocks, at the call of List
  have r0 : w4.heap[w.heap.size]? = some (.cells #[.int .i64 0, .int .i64 0, .string ⟨#[]⟩, .slice none 0 0, .slice none 0 0] 27 (0, 0)) :=
    (hb4.block _ (by omega)).trans ((hb3.block _ (by omega)).trans ((Below.heap_alloc w2 _ _ (by omega)).trans ((hb2.block _ (by omega)).trans ((hb1.block _ (by omega)).trans ((Below.heap_alloc _ _ _ (by simp; omega)).trans ((Below.heap_alloc _ _ _ (by simp)).trans (heap_alloc_new w _)))))))
  have r1 : w4.heap[w.heap.size + 1]? = some (.cells #[.string ⟨#[98]⟩, .string ⟨#[97]⟩] 9 (0, 0)) :=
    (hb4.block _ (by omega)).trans ((hb3.block _ (by omega)).trans ((Below.heap_alloc w2 _ _ (by omega)).trans ((hb2.block _ (by omega)).trans ((hb1.block _ (by omega)).trans ((Below.heap_alloc _ _ _ (by simp)).trans (by simpa using heap_alloc_new (w.alloc _) (.cells #[.string ⟨#[98]⟩, .string ⟨#[97]⟩] 9)))))))
  have r2 : w4.heap[w.heap.size + 1 + 1]? = some (.cells #[.string ⟨#[]⟩, .string ⟨#[120]⟩] 9 (0, 0)) :=
    (hb4.block _ (by omega)).trans ((hb3.block _ (by omega)).trans ((Below.heap_alloc w2 _ _ (by omega)).trans ((hb2.block _ (by omega)).trans ((hb1.block _ (by omega)).trans (by simpa using heap_alloc_new ((w.alloc _).alloc _) (.cells #[.string ⟨#[]⟩, .string ⟨#[120]⟩] 9))))))
  have r3 : w4.heap[w2.heap.size]? = some (.cells #[.int .i64 5, .int .i64 1, .string ⟨#[]⟩, .slice none 0 0, .slice none 0 0, .int .i64 6, .int .i64 0, .string ⟨#[115]⟩, .slice none 0 0, .slice none 0 0] 27 (0, 0)) :=
    (hb4.block _ (by omega)).trans ((hb3.block _ (by omega)).trans (heap_alloc_new w2 _))
  have hbw : Below w.heap.size w w4 := ((((((((Below.refl _ _).alloc (Nat.le_refl _) _).alloc (by simp) _).alloc (by simp; omega) _).trans (hb1.mono (by omega))).trans (hb2.mono (by omega))).alloc (by omega) _).trans (hb3.mono (by omega))).trans (hb4.mono (by omega))
  have R0 := Lib.hid r0; have R1 := Lib.hid r1; have R2 := Lib.hid r2; have R3 := Lib.hid r3; have HBW := Lib.hid hbw
  clear r0 r1 r2 r3 hbw hb1 hb2 hb3 hb4
  refine (list_v [.mk 4 5 ⟨#[]⟩ [] [], .mk 4 7 ⟨#[]⟩ [] []] _ _ (w4.heap.size + 1) (by simp) (by simp only [D.Fit, D.Fits]; decide) (by simp) (kids_row (by omega) (heap_alloc_new w4 _) (leaf_in _ _ _ _ _) (leaf_in _ _ _ _ _))).mono ?_
  rintro e w5 ⟨y0, y1, y2, y3, y4, G, rfl, hG, hGn, hb5⟩
  obtain ⟨A7, c7, A8, c8, rfl, rfl, rfl, rfl, rfl⟩ := hG.doc.forms
  simp only [World.size_alloc] at hb5
  have hb45 : Below w4.heap.size w4 w5 := ((Below.refl _ _).alloc (Nat.le_refl _) _).trans (hb5.mono (by omega))
  have s5 := hb45.size
  have HD := Lib.hid hG.doc; have HB45 := Lib.hid hb45
  clear hG hGn hb5 hb45
  go_wp2_with fail
  have keep : ∀ k, k < w4.heap.size → ∀ o : Obj, (w5.alloc o).heap[k]? = w4.heap[k]? := fun k hk o => (Below.heap_alloc w5 o k (by omega)).trans (HB45.out.block k hk)
  refine (rec_two ⟨#[98]⟩ ⟨#[97]⟩ dDict dList (w.heap.size + 1) 0 2 _ _ (w5.heap.size + 1) (by omega) (by simp only [dDict, dList, D.Fit, D.Fits]; decide) (by simp) (by omega) (by decide) (scmp_ne (by decide)) (cell_of_row _ _ 0 _ _ _ ((keep _ (by omega) _).trans R1.out)) (cell_of_row _ _ 1 _ _ _ ((keep _ (by omega) _).trans R1.out))
    (kids_row (by omega) (heap_alloc_new w5 _) ?_ ?_)).mono ?_
  · simp only [dDict, DocIn]
    refine ⟨trivial, trivial, trivial, ⟨some ⟨w.heap.size + 1 + 1, 0, none⟩, 2, rfl, by simp, fun _ => ⟨_, 0, rfl, by omega, fun i hi => ?_⟩⟩, ?_⟩
    · match i, hi with
      | 0, _ => exact cell_of_row _ _ 0 _ _ _ ((keep _ (by omega) _).trans R2.out)
      | 1, _ => exact cell_of_row _ _ 1 _ _ _ ((keep _ (by omega) _).trans R2.out)
    · obtain ⟨A, c, e, h1, h2⟩ := kids_row (B := w5.heap.size + 1) (by omega) ((keep w2.heap.size (by omega) _).trans R3.out) (leaf_in _ _ _ _ _) (leaf_in _ _ _ _ _)
      exact ⟨A, c, e, h1, h2⟩
  · exact HD.out.keep (by omega) fun p hp => World.cell?_alloc_lt w5 _ p hp
  rintro e w7 ⟨z0, z1, z2, z3, z4, F, rfl, hF, hFn, hb7⟩
  simp only [World.size_alloc] at hF hb7
  have hb57 : Below w5.heap.size w5 w7 := ((Below.refl _ _).alloc (Nat.le_refl _) _).trans (hb7.mono (by omega))
  have s7 := hb57.size
  have hr : Box5 w7 w.heap.size (.int .i64 0) (.int .i64 0) (.string ⟨#[]⟩) (.slice none 0 0) (.slice none 0 0) := (hb57.block _ (by omega)).trans ((HB45.out.block _ (by omega)).trans R0.out)
  have HR := Lib.hid hr; have HF := Lib.hid hF; have HFN := Lib.hid hFn; have HB57 := Lib.hid hb57
  obtain ⟨q0, q1, q2, q3, q4⟩ := hr.cells
  have q5 := hr.frozen
  obtain ⟨A9, c9, A10, c10, rfl, rfl, rfl, rfl, rfl⟩ := hF.doc.forms
  clear hr hF hFn hb57 hb7 keep
  go_wp2_with fail
  have hfin := ((((HR.out.set0 (.int .i64 1)).set1 (.int .i64 0)).set2 (.string ⟨#[]⟩)).set3 (.slice A9 2 c9)).set4 (.slice A10 2 c10)
  clear q0 q1 q2 q3 q4 q5
  refine ret_cell5 rfl rfl hfin.load rfl ?_
  have l1 := HF.out.lt
  have le0 : w.heap.size ≤ w.heap.size := Nat.le_refl _
  refine ⟨_, _, _, _, _, F, rfl, HF.out.same (by omega) fun k hk => ?_, HFN.out, ?_⟩
  · have hne : k ≠ w.heap.size := by have := (l1 k hk).1; omega
    rw [Below.heap_setCell _ _ _ k hne, Below.heap_setCell _ _ _ k hne, Below.heap_setCell _ _ _ k hne, Below.heap_setCell _ _ _ k hne, Below.heap_setCell _ _ _ k hne]
  · exact ((((((HBW.out.trans (HB45.out.mono (by omega))).trans (HB57.out.mono (by omega))).setCell (by exact le0) _).setCell (by exact le0) _).setCell (by exact le0) _).setCell (by exact le0) _).setCell (by exact le0) _
end Go.Proofs.YtdcempejdggkpaaGreatDoor
