/-
  The law's small type; what Least tells of it.
-/
import Derived.Test.YtnjmknofojjlmaaDoorTFew
import Derived.Test.YtnjmknofojjlmaaDoorBox5
namespace Go.Proofs.YtnjmknofojjlmaaDoor
open Go.RowKit

def sn : ByteArray := ⟨#[110]⟩
def so : ByteArray := ⟨#[111]⟩
def tInt : T := .mk 4 3 9 [] [] []
def tBool : T := .mk 5 0 0 [] [] []
def tSome : T := .mk 1 0 0 [] [.mk sn false tInt, .mk so true tBool] []
theorem int_doc (n : Int) (w : World) : Calls Tryd.prog 49 #[.int .i64 n] w fun e w' => e = .returned (.agg #[.int .i64 4, .int .i64 n, .string ⟨#[]⟩, .slice none 0 0, .slice none 0 0]) ∧ Below w.heap.size w w' := by
  go_enter Tryd.func49, Tryd.ntmps49
  go_wp2_with fail
  exact ret_cell5 rfl rfl (Box5.new w _ _ _ _ _).load rfl ⟨rfl, (Below.refl _ _).alloc (Nat.le_refl _) _⟩
set_option maxHeartbeats 1000000 in
theorem root_int (w : World) : Calls Tryd.prog 26 #[.agg #[.int .i64 4, .int .i64 3, .int .i64 9, .slice none 0 0, .slice none 0 0, .slice none 0 0]] w fun e w' => e = .returned (.agg #[.int .i64 4, .int .i64 3, .string ⟨#[]⟩, .slice none 0 0, .slice none 0 0]) ∧ Below w.heap.size w w' := by
  go_enter Tryd.func26, Tryd.ntmps26
  go_wp2_with fail
  refine (int_doc _ _).mono ?_
  rintro e w1 ⟨rfl, hb1⟩
  have hz1 := hb1.size
  simp only [World.size_alloc] at hz1
  have HR : Hid (Box5 w1 (w.heap.size + 1) (.int .i64 0) (.int .i64 0) (.string ⟨#[]⟩) (.slice none 0 0) (.slice none 0 0)) := (Box5.new' (w := w.alloc (.cells #[.int .i64 4, .int .i64 3, .int .i64 9, .slice none 0 0, .slice none 0 0, .slice none 0 0] 26)) (by simp) _ _ _ _ _).same (hb1.block _ (by simp))
  have HB : Hid (Below w.heap.size w w1) := (((Below.refl _ _).alloc (Nat.le_refl _) _).alloc (by simp) _).trans (hb1.mono (by simp; omega))
  clear hb1
  rw [show max (3 : Int) (min 9 0) = 3 from by decide]
  obtain ⟨r0, r1, r2, r3, r4⟩ := HR.out.cells
  have r5 := HR.out.frozen
  go_wp2_with fail
  have hfin := ((((HR.out.set0 (.int .i64 4)).set1 (.int .i64 3)).set2 (.string ⟨#[]⟩)).set3 (.slice none 0 0)).set4 (.slice none 0 0)
  clear r0 r1 r2 r3 r4 r5
  have le0 : w.heap.size ≤ w.heap.size + 1 := by omega
  exact ret_cell5 rfl rfl hfin.load rfl ⟨rfl, ((((HB.out.setCell (by exact le0) _).setCell (by exact le0) _).setCell (by exact le0) _).setCell (by exact le0) _).setCell (by exact le0) _⟩
set_option maxHeartbeats 1000000 in
theorem root_rec (A : Option Addr) (n c : Nat) (w : World) : Calls Tryd.prog 26 #[.agg #[.int .i64 1, .int .i64 0, .int .i64 0, .slice none 0 0, .slice A n c, .slice none 0 0]] w fun e w' => e = .returned (.agg #[.int .i64 1, .int .i64 0, .string ⟨#[]⟩, .slice none 0 0, .slice none 0 0]) ∧ Below w.heap.size w w' := by
  go_enter Tryd.func26, Tryd.ntmps26
  go_wp2_with fail
  first
    | exact ret_cell5 rfl rfl (Box5.new' (w := w.alloc (.cells #[.int .i64 1, .int .i64 0, .int .i64 0, .slice none 0 0, .slice A n c, .slice none 0 0] 26)) (by simp) _ _ _ _ _).load rfl ⟨rfl, ((Below.refl _ _).alloc (Nat.le_refl _) _).alloc (by simp) _⟩
    | trace_state
set_option maxHeartbeats 2000000 in
set_option maxRecDepth 100000 in
theorem least_int (c : Nat) (w : World) : Calls Tryd.prog 25 #[.agg #[.int .i64 4, .int .i64 3, .int .i64 9, .slice none 0 0, .slice none 0 0, .slice none 0 0], .pointer (some ⟨c, 0, none⟩)] w fun e w' => e = .returned (.agg #[.int .i64 4, .int .i64 3, .string ⟨#[]⟩, .slice none 0 0, .slice none 0 0]) ∧ Below w.heap.size w w' := by
  go_enter Tryd.func25, Tryd.ntmps25
  go_wp2_with fail
  refine (root_int _).mono ?_
  rintro e w1 ⟨rfl, hb1⟩
  have hz1 := hb1.size
  simp only [World.size_alloc] at hz1
  have HT : Hid (Box6 w1 w.heap.size (.int .i64 4) (.int .i64 3) (.int .i64 9) (.slice none 0 0) (.slice none 0 0) (.slice none 0 0)) := ((Box6.new w _ _ _ _ _ _).alloc _).same (hb1.block _ (by simp; omega))
  have HR : Hid (Box5 w1 (w.heap.size + 1) (.int .i64 0) (.int .i64 0) (.string ⟨#[]⟩) (.slice none 0 0) (.slice none 0 0)) := (Box5.new' (w := w.alloc (.cells #[.int .i64 4, .int .i64 3, .int .i64 9, .slice none 0 0, .slice none 0 0, .slice none 0 0] 26)) (by simp) _ _ _ _ _).same (hb1.block _ (by simp))
  have HB : Hid (Below w.heap.size w w1) := (((Below.refl _ _).alloc (Nat.le_refl _) _).alloc (by simp) _).trans (hb1.mono (by simp; omega))
  clear hb1
  obtain ⟨t0, t1, t2, t3, t4, t5⟩ := HT.out.cells
  have htl := HT.out.lt; have hrl := HR.out.lt
  go_wp2_with fail
  obtain ⟨w2, hw2⟩ : ∃ w2, w2 = w1.alloc (.cells #[.int .i64 4, .int .i64 3, .string ⟨#[]⟩, .slice none 0 0, .slice none 0 0] 33) := ⟨_, rfl⟩
  have HT2 : Hid (Box6 w2 w.heap.size (.int .i64 4) (.int .i64 3) (.int .i64 9) (.slice none 0 0) (.slice none 0 0) (.slice none 0 0)) := by rw [hw2]; exact HT.out.alloc _
  have HR2 : Hid (Box5 w2 (w.heap.size + 1) (.int .i64 0) (.int .i64 0) (.string ⟨#[]⟩) (.slice none 0 0) (.slice none 0 0)) := by rw [hw2]; exact HR.out.alloc _
  have HD2 : Hid (Box5 w2 w1.heap.size (.int .i64 4) (.int .i64 3) (.string ⟨#[]⟩) (.slice none 0 0) (.slice none 0 0)) := by rw [hw2]; exact Box5.new w1 _ _ _ _ _
  have HB2 : Hid (Below w.heap.size w w2) := by rw [hw2]; exact HB.out.alloc HB.out.size _
  rw [← hw2]
  clear hw2 t0 t1 t2 t3 t4 t5
  obtain ⟨t0, t1, t2, t3, t4, t5⟩ := HT2.out.cells
  obtain ⟨r0, r1, r2, r3, r4⟩ := HR2.out.cells
  obtain ⟨d0, d1, d2, d3, d4⟩ := HD2.out.cells
  have r5 := HR2.out.frozen
  refine wp_loop_rounds 1 ?_
  rw [rounds_succ]
  go_wp2_with fail
  refine wp_loop_rounds 1 ?_
  rw [rounds_succ]
  go_wp2_with fail
  have hfin := ((((HR2.out.set0 (.int .i64 4)).set1 (.int .i64 3)).set2 (.string ⟨#[]⟩)).set3 (.slice none 0 0)).set4 (.slice none 0 0)
  clear r0 r1 r2 r3 r4 r5
  have le0 : w.heap.size ≤ w.heap.size + 1 := by omega
  exact ret_cell5 rfl rfl hfin.load rfl ⟨rfl, ((((HB2.out.setCell (by exact le0) _).setCell (by exact le0) _).setCell (by exact le0) _).setCell (by exact le0) _).setCell (by exact le0) _⟩
/-- Two fields of the small type. -/
def SomeIn (w : World) (b off : Nat) : Prop :=
  w.cell? ⟨b, off, none⟩ = some (.string sn) ∧ w.cell? ⟨b, off + 1, none⟩ = some (.bool false) ∧ w.cell? ⟨b, off + 2, none⟩ = some (.int .i64 4) ∧ w.cell? ⟨b, off + 3, none⟩ = some (.int .i64 3) ∧ w.cell? ⟨b, off + 4, none⟩ = some (.int .i64 9) ∧ w.cell? ⟨b, off + 5, none⟩ = some (.slice none 0 0) ∧ w.cell? ⟨b, off + 6, none⟩ = some (.slice none 0 0) ∧ w.cell? ⟨b, off + 7, none⟩ = some (.slice none 0 0) ∧
  w.cell? ⟨b, off + 8, none⟩ = some (.string so) ∧ w.cell? ⟨b, off + 9, none⟩ = some (.bool true) ∧ w.cell? ⟨b, off + 10, none⟩ = some (.int .i64 5) ∧ w.cell? ⟨b, off + 11, none⟩ = some (.int .i64 0) ∧ w.cell? ⟨b, off + 12, none⟩ = some (.int .i64 0) ∧ w.cell? ⟨b, off + 13, none⟩ = some (.slice none 0 0) ∧ w.cell? ⟨b, off + 14, none⟩ = some (.slice none 0 0) ∧ w.cell? ⟨b, off + 15, none⟩ = some (.slice none 0 0)
theorem SomeIn.keep {w w' : World} {b off : Nat} (h : ∀ p : Addr, p.block = b → w'.cell? p = w.cell? p) (hs : SomeIn w b off) : SomeIn w' b off := by
  obtain ⟨h0, h1, h2, h3, h4, h5, h6, h7, h8, h9, h10, h11, h12, h13, h14, h15⟩ := hs
  exact ⟨(h _ rfl).trans h0, (h _ rfl).trans h1, (h _ rfl).trans h2, (h _ rfl).trans h3, (h _ rfl).trans h4, (h _ rfl).trans h5, (h _ rfl).trans h6, (h _ rfl).trans h7, (h _ rfl).trans h8, (h _ rfl).trans h9, (h _ rfl).trans h10, (h _ rfl).trans h11, (h _ rfl).trans h12, (h _ rfl).trans h13, (h _ rfl).trans h14, (h _ rfl).trans h15⟩
/-- What the great statement of Least yields. -/
def LeastPhi (bd bf c : Nat) : Nat → Value → World → Prop
  | 0, v, _ => v = .pointer (some ⟨bd, 4, none⟩)
  | 1, v, _ => v = .slice none 0 0
  | 2, v, _ => v = .func (.func 25) #[] #[.pointer (some ⟨c, 0, none⟩)]
  | 3, v, _ => v = .pointer (some ⟨bf, 2, none⟩)
  | 4, v, _ => v = .agg #[.int .i64 4, .int .i64 3, .int .i64 9, .slice none 0 0, .slice none 0 0, .slice none 0 0]
  | 5, v, _ => v = .agg #[.int .i64 4, .int .i64 3, .string ⟨#[]⟩, .slice none 0 0, .slice none 0 0]
  | 6, v, w => ∃ g, v = .slice (some ⟨g, 0, none⟩) 1 1 ∧ w.heap[g]? = some (.cells #[.int .i64 4, .int .i64 3, .string ⟨#[]⟩, .slice none 0 0, .slice none 0 0] 33 (0, 0))
  | _, _, _ => True
theorem leastphi_stable (bd bf c : Nat) : ∀ i v w w', LeastPhi bd bf c i v w → Below w.heap.size w w' → LeastPhi bd bf c i v w' := by
  intro i v w w' h hb
  match i, h with
  | 0, h => exact h
  | 1, h => exact h
  | 2, h => exact h
  | 3, h => exact h
  | 4, h => exact h
  | 5, h => exact h
  | 6, ⟨g, e, h2⟩ => exact ⟨g, e, (hb.block g (size_block h2)).trans h2⟩
  | _ + 7, _ => exact trivial
theorem t_infoD : (Tryd.prog.info? 33).map (fun i => (i.zero, i.size, i.bytes)) = some (some (.agg #[.int .i64 0, .int .i64 0, .string ByteArray.empty, .slice none 0 0, .slice none 0 0]), 5, 80) := by kernel_rfl
set_option maxHeartbeats 8000000 in
set_option maxRecDepth 100000 in
theorem least_rec {b off c cc : Nat} {w : World} (hb : b < w.heap.size) (hc : c < w.heap.size) (hs : SomeIn w b off) (hcc : w.cell? ⟨c, 0, none⟩ = some (.func (.func 25) #[] #[.pointer (some ⟨c, 0, none⟩)])) :
    Calls Tryd.prog 25 #[.agg #[.int .i64 1, .int .i64 0, .int .i64 0, .slice none 0 0, .slice (some ⟨b, off, none⟩) 2 cc, .slice none 0 0], .pointer (some ⟨c, 0, none⟩)] w fun e w' =>
      ∃ (v3 : Value) (g cap : Nat), e = .returned (.agg #[.int .i64 1, .int .i64 0, .string ⟨#[]⟩, v3, .slice (some ⟨g, 0, none⟩) 1 cap]) ∧ (∃ A n c, v3 = .slice A n c) ∧ g < w'.heap.size ∧ w'.cell? ⟨g, 1, none⟩ = some (.int .i64 3) ∧ Below w.heap.size w w' := by
  have HS := Lib.hid hs; have HC := Lib.hid hcc
  clear hs hcc
  go_enter Tryd.func25, Tryd.ntmps25
  go_wp2_with fail
  refine (root_rec _ _ _ _).mono ?_
  rintro e w1 ⟨rfl, hb1⟩
  have hz1 := hb1.size
  simp only [World.size_alloc] at hz1
  have HT : Hid (Box6 w1 w.heap.size (.int .i64 1) (.int .i64 0) (.int .i64 0) (.slice none 0 0) (.slice (some ⟨b, off, none⟩) 2 cc) (.slice none 0 0)) := ((Box6.new w _ _ _ _ _ _).alloc _).same (hb1.block _ (by simp; omega))
  have HR : Hid (Box5 w1 (w.heap.size + 1) (.int .i64 0) (.int .i64 0) (.string ⟨#[]⟩) (.slice none 0 0) (.slice none 0 0)) := (Box5.new' (w := w.alloc (.cells #[.int .i64 1, .int .i64 0, .int .i64 0, .slice none 0 0, .slice (some ⟨b, off, none⟩) 2 cc, .slice none 0 0] 26)) (by simp) _ _ _ _ _).same (hb1.block _ (by simp))
  have HB : Hid (Below w.heap.size w w1) := (((Below.refl _ _).alloc (Nat.le_refl _) _).alloc (by simp) _).trans (hb1.mono (by simp; omega))
  clear hb1
  obtain ⟨t0, t1, t2, t3, t4, t5⟩ := HT.out.cells
  have htl := HT.out.lt; have hrl := HR.out.lt
  go_wp2_with fail
  obtain ⟨w2, hw2⟩ : ∃ w2, w2 = w1.alloc (.cells #[.int .i64 1, .int .i64 0, .string ⟨#[]⟩, .slice none 0 0, .slice none 0 0] 33) := ⟨_, rfl⟩
  have HT2 : Hid (Box6 w2 w.heap.size (.int .i64 1) (.int .i64 0) (.int .i64 0) (.slice none 0 0) (.slice (some ⟨b, off, none⟩) 2 cc) (.slice none 0 0)) := by rw [hw2]; exact HT.out.alloc _
  have HR2 : Hid (Box5 w2 (w.heap.size + 1) (.int .i64 0) (.int .i64 0) (.string ⟨#[]⟩) (.slice none 0 0) (.slice none 0 0)) := by rw [hw2]; exact HR.out.alloc _
  have HD2 : Hid (Box5 w2 w1.heap.size (.int .i64 1) (.int .i64 0) (.string ⟨#[]⟩) (.slice none 0 0) (.slice none 0 0)) := by rw [hw2]; exact Box5.new w1 _ _ _ _ _
  have HB2 : Hid (Below w.heap.size w w2) := by rw [hw2]; exact HB.out.alloc HB.out.size _
  have hz2 : w2.heap.size = w1.heap.size + 1 := by rw [hw2]; simp
  rw [← hw2]
  clear hw2 t0 t1 t2 t3 t4 t5
  obtain ⟨t0, t1, t2, t3, t4, t5⟩ := HT2.out.cells
  obtain ⟨d0, d1, d2, d3, d4⟩ := HD2.out.cells
  have d5 := HD2.out.frozen
  obtain ⟨s0, s1, s2, s3, s4, s5, s6, s7, s8, s9, s10, s11, s12, s13, s14, s15⟩ := HS.out.keep (w' := w2) fun p hp => HB2.out.cell (by omega)
  have hbl : b < w2.heap.size := by omega
  have hdl : w1.heap.size < w2.heap.size := by omega
  obtain ⟨i0, hi0, hz0, hz01, hz02⟩ := info_parts t_infoS
  have I0 := Lib.hid hi0; have I1 := Lib.hid hz0; have I2 := Lib.hid hz01; have I3 := Lib.hid hz02
  obtain ⟨j0, hj0, hy0, hy1, hy2⟩ := info_parts t_infoD
  have J0 := Lib.hid hj0; have J1 := Lib.hid hy0; have J2 := Lib.hid hy1; have J3 := Lib.hid hy2
  clear hi0 hz0 hz01 hz02 hj0 hy0 hy1 hy2
  refine wp_loop_rounds 3 ?_
  rw [rounds_succ]
  go_upto_region 6 with fail
  obtain ⟨W3, hW3⟩ : ∃ W3, W3 = w2.alloc (.cells #[.string sn, .bool false, .int .i64 4, .int .i64 3, .int .i64 9, .slice none 0 0, .slice none 0 0, .slice none 0 0] 40) := ⟨_, rfl⟩
  have hf3 : Box8 W3 (w1.heap.size + 1) sn false (.int .i64 4) (.int .i64 3) (.int .i64 9) (.slice none 0 0) (.slice none 0 0) (.slice none 0 0) := by rw [hW3, ← hz2]; exact heap_alloc_new w2 _
  have hb3 : Below w2.heap.size w2 W3 := by rw [hW3]; exact (Below.refl _ _).alloc (Nat.le_refl _) _
  have hz3 : W3.heap.size = w1.heap.size + 2 := by rw [hW3]; simp; omega
  have HF3 := Lib.hid hf3
  have HD3 := Lib.hid (HD2.out.same (hb3.block _ HD2.out.lt)); have HR3 := Lib.hid (HR2.out.same (hb3.block _ HR2.out.lt)); have HT3 := Lib.hid (HT2.out.same (hb3.block _ HT2.out.lt))
  have HB3 : Hid (Below w.heap.size w W3) := HB2.out.trans (hb3.mono (by omega))
  rw [← hW3]
  clear hW3 hf3 hb3 t0 t1 t2 t3 t4 t5 d0 d1 d2 d3 d4 d5 s0 s1 s2 s3 s4 s5 s6 s7 s8 s9 s10 s11 s12 s13 s14 s15 hbl hdl
  obtain ⟨d0, d1, d2, d3, d4⟩ := HD3.out.cells
  have d5 := HD3.out.frozen
  obtain ⟨f0, f1, f2, f3, f4, f5, f6, f7⟩ := HF3.out.cells
  have hdl : w1.heap.size < W3.heap.size := by omega
  have hfl : w1.heap.size + 1 < W3.heap.size := by omega
  have d3' := d3
  have HD9 := Lib.hid (d5 3)
  go_upto_region 7 with fail
  generalize (Question.appendCap 1 0 9).cut (W3.tape W3.drawn (Question.appendCap 1 0 9)) = K
  obtain ⟨W5, hW5⟩ : ∃ W5, W5 = (((W3.setCell ⟨w1.heap.size, 3, none⟩ (.slice (some ⟨w1.heap.size + 2 + 1, 0, none⟩) 1 K)).alloc (.cells #[.string sn] 9)).alloc (.cells (#[.string sn] ++ Builtin.zeroCells #[.string ⟨#[]⟩] (K - 1)) 9)).drew := ⟨_, rfl⟩
  have k5 : ∀ k, k < W3.heap.size → k ≠ w1.heap.size → W5.heap[k]? = W3.heap[k]? := fun k hk hk2 => by
    rw [hW5]
    exact (Below.heap_alloc _ _ _ (by simp; omega)).trans ((Below.heap_alloc _ _ _ (by rw [size_setCell]; exact hk)).trans (Below.heap_setCell _ _ _ k hk2))
  have hd5 : Box5 W5 w1.heap.size (.int .i64 1) (.int .i64 0) (.string ⟨#[]⟩) (.slice (some ⟨w1.heap.size + 2 + 1, 0, none⟩) 1 K) (.slice none 0 0) := by
    rw [hW5]
    exact (Below.heap_alloc _ _ _ (by simp; omega)).trans ((Below.heap_alloc _ _ _ (by rw [size_setCell]; exact hdl)).trans (HD3.out.set3 _))
  have hz5 : W5.heap.size = w1.heap.size + 4 := by
    rw [hW5]
    show (((W3.setCell ⟨w1.heap.size, 3, none⟩ (.slice (some ⟨w1.heap.size + 2 + 1, 0, none⟩) 1 K)).alloc (.cells #[.string sn] 9)).alloc (.cells (#[.string sn] ++ Builtin.zeroCells #[.string ⟨#[]⟩] (K - 1)) 9)).heap.size = _
    rw [World.size_alloc, World.size_alloc, size_setCell, hz3]
  have hbl5 : Below w.heap.size w W5 := by
    rw [hW5]
    exact (((HB3.out.setCell (by show w.heap.size ≤ w1.heap.size; omega) _).alloc (by rw [size_setCell]; omega) _).alloc (by rw [World.size_alloc, size_setCell]; omega) _).drew
  have HD5 := Lib.hid hd5; have HB5 := Lib.hid hbl5
  have HF5 := Lib.hid (HF3.out.same (k5 _ hfl (by omega))); have HR5 := Lib.hid (HR3.out.same (k5 _ (by omega) (by omega))); have HT5 := Lib.hid (HT3.out.same (k5 _ (by omega) (by omega)))
  rw [← hW5]
  clear hW5 k5 hd5 hbl5 d0 d1 d2 d3 d4 d5 d3' f0 f1 f2 f3 f4 f5 f6 f7 hdl hfl HD9
  have WQ : Hid (∀ wq : World, Below W5.drew.heap.size W5.drew wq → Below W5.heap.size W5 wq) := fun wq h => (Below.refl _ _).drew.trans h
  refine wp_region_grow2_calm 7 74 [false, false, false, false, false, false, false] (LeastPhi w1.heap.size (w1.heap.size + 1) c) (by kernel_rfl) (by kernel_rfl) (by simp) (leastphi_stable _ _ _) ?_ ?_
  · simp only [List.take_succ_cons, List.take_zero]
    refine ⟨?_, ?_, ?_, ?_, ?_, ?_, ?_, trivial⟩
    · intro vs wq hq hdep K' hK
      simp only [depFacts, putAll, Act.put, List.setIfInBounds_toArray, List.set_cons_zero, List.set_cons_succ, Nat.zero_add, Nat.reduceAdd] at hdep hK ⊢
      go_simp
      exact hK _ _ (Below.refl _ _) rfl
    · intro vs wq hq hdep K' hK
      simp only [depFacts, putAll, Act.put, List.setIfInBounds_toArray, List.set_cons_zero, List.set_cons_succ, Nat.zero_add, Nat.reduceAdd] at hdep hK ⊢
      have h0 : vs 0 = .pointer (some ⟨w1.heap.size, 4, none⟩) := hdep.1 rfl
      rw [h0] at hK ⊢
      have q4 := (HD5.out.same ((WQ.out wq hq).block _ HD5.out.lt)).cells.2.2.2.2
      go_simp
      exact hK _ _ (Below.refl _ _) rfl
    · intro vs wq hq hdep K' hK
      simp only [depFacts, putAll, Act.put, List.setIfInBounds_toArray, List.set_cons_zero, List.set_cons_succ, Nat.zero_add, Nat.reduceAdd] at hdep hK ⊢
      have qc := ((WQ.out wq hq).cell (p := ⟨c, 0, none⟩) (by show c < _; omega)).trans ((HB5.out.cell (p := ⟨c, 0, none⟩) hc).trans HC.out)
      go_simp
      exact hK _ _ (Below.refl _ _) rfl
    · intro vs wq hq hdep K' hK
      simp only [depFacts, putAll, Act.put, List.setIfInBounds_toArray, List.set_cons_zero, List.set_cons_succ, Nat.zero_add, Nat.reduceAdd] at hdep hK ⊢
      go_simp
      exact hK _ _ (Below.refl _ _) rfl
    · intro vs wq hq hdep K' hK
      simp only [depFacts, putAll, Act.put, List.setIfInBounds_toArray, List.set_cons_zero, List.set_cons_succ, Nat.zero_add, Nat.reduceAdd] at hdep hK ⊢
      have h0 : vs 3 = .pointer (some ⟨w1.heap.size + 1, 2, none⟩) := hdep.1 rfl
      rw [h0] at hK ⊢
      obtain ⟨q0, q1, q2, q3, q4, q5, q6, q7⟩ := (HF5.out.same ((WQ.out wq hq).block _ HF5.out.lt)).cells
      go_simp
      exact hK _ _ (Below.refl _ _) rfl
    · intro vs wq hq hdep K' hK
      simp only [depFacts, putAll, Act.put, List.setIfInBounds_toArray, List.set_cons_zero, List.set_cons_succ, Nat.zero_add, Nat.reduceAdd] at hdep hK ⊢
      have h2 : vs 2 = .func (.func 25) #[] #[.pointer (some ⟨c, 0, none⟩)] := hdep.1 rfl
      have h4 : vs 4 = .agg #[.int .i64 4, .int .i64 3, .int .i64 9, .slice none 0 0, .slice none 0 0, .slice none 0 0] := hdep.2.1 rfl
      rw [h2, h4] at hK ⊢
      go_simp
      go_at_call 25
      refine (least_int c wq).mono ?_
      rintro e w' ⟨rfl, hb⟩
      exact hK _ _ hb rfl
    · intro vs wq hq hdep K' hK
      simp only [depFacts, putAll, Act.put, List.setIfInBounds_toArray, List.set_cons_zero, List.set_cons_succ, Nat.zero_add, Nat.reduceAdd] at hdep hK ⊢
      have h5 : vs 5 = .agg #[.int .i64 4, .int .i64 3, .string ⟨#[]⟩, .slice none 0 0, .slice none 0 0] := hdep.1 rfl
      rw [h5] at hK ⊢
      go_simp
      exact hK _ _ ((Below.refl _ _).alloc (Nat.le_refl _) _) ⟨wq.heap.size, rfl, heap_alloc_new wq _⟩
  · intro vs wq hq hall
    simp only [putAll, Act.put, List.setIfInBounds_toArray, List.set_cons_zero, List.set_cons_succ, List.take_succ_cons, List.take_zero, List.drop_succ_cons, List.drop_zero, allFacts, Nat.zero_add, Nat.reduceAdd] at hall ⊢
    obtain ⟨_, e1, _, _, _, _, e6, _⟩ := hall
    have e1 : vs 1 = .slice none 0 0 := e1
    obtain ⟨vb, e6, hbx⟩ : ∃ g, vs 6 = .slice (some ⟨g, 0, none⟩) 1 1 ∧ wq.heap[g]? = some (.cells #[.int .i64 4, .int .i64 3, .string ⟨#[]⟩, .slice none 0 0, .slice none 0 0] 33 (0, 0)) := e6
    rw [e1, e6]
    have HQ := Lib.hid (WQ.out wq hq)
    have hzq := (WQ.out wq hq).size
    have HBX := Lib.hid hbx
    have hdq := HD5.out.same (HQ.out.block _ HD5.out.lt)
    have HDQ := Lib.hid hdq
    obtain ⟨d0, d1, d2, d3, d4⟩ := hdq.cells
    have d5 := hdq.frozen
    have n0 := cell_block hbx 0; have n1 := cell_block hbx 1; have n2 := cell_block hbx 2; have n3 := cell_block hbx 3; have n4 := cell_block hbx 4
    simp at n0 n1 n2 n3 n4
    have vbl := size_block hbx
    clear e1 e6 hbx hq hdq
    have hdlq : w1.heap.size < wq.heap.size := by omega
    have hdne : ¬ w1.heap.size = wq.heap.size := by omega
    go_wp2_with fail
    refine NoPanic.normal ?_
    generalize (Question.appendCap 1 0 33).cut (wq.tape wq.drawn (Question.appendCap 1 0 33)) = K2
    obtain ⟨W7, hW7⟩ : ∃ W7, W7 = ((wq.setCell ⟨w1.heap.size, 4, none⟩ (.slice (some ⟨wq.heap.size, 0, none⟩) 1 K2)).alloc (.cells (#[.int .i64 4, .int .i64 3, .string ⟨#[]⟩, .slice none 0 0, .slice none 0 0] ++ Builtin.zeroCells #[.int .i64 0, .int .i64 0, .string ⟨#[]⟩, .slice none 0 0, .slice none 0 0] (K2 - 1)) 33)).drew := ⟨_, rfl⟩
    have k7 : ∀ k, k < wq.heap.size → k ≠ w1.heap.size → W7.heap[k]? = wq.heap[k]? := fun k hk hk2 => by
      rw [hW7]
      exact (Below.heap_alloc _ _ _ (by rw [size_setCell]; exact hk)).trans (Below.heap_setCell _ _ _ k hk2)
    have hd7 : Box5 W7 w1.heap.size (.int .i64 1) (.int .i64 0) (.string ⟨#[]⟩) (.slice (some ⟨w1.heap.size + 2 + 1, 0, none⟩) 1 K) (.slice (some ⟨wq.heap.size, 0, none⟩) 1 K2) := by
      rw [hW7]
      exact (Below.heap_alloc _ _ _ (by rw [size_setCell]; exact hdlq)).trans (HDQ.out.set4 _)
    have hz7 : W7.heap.size = wq.heap.size + 1 := by
      rw [hW7]
      show ((wq.setCell ⟨w1.heap.size, 4, none⟩ (.slice (some ⟨wq.heap.size, 0, none⟩) 1 K2)).alloc (.cells (#[.int .i64 4, .int .i64 3, .string ⟨#[]⟩, .slice none 0 0, .slice none 0 0] ++ Builtin.zeroCells #[.int .i64 0, .int .i64 0, .string ⟨#[]⟩, .slice none 0 0, .slice none 0 0] (K2 - 1)) 33)).heap.size = _
      rw [World.size_alloc, size_setCell]
    have hc7 : W7.cell? ⟨wq.heap.size, 1, none⟩ = some (.int .i64 3) := by
      rw [hW7]
      have h := heap_alloc_new (wq.setCell ⟨w1.heap.size, 4, none⟩ (.slice (some ⟨wq.heap.size, 0, none⟩) 1 K2)) (.cells (#[.int .i64 4, .int .i64 3, .string ⟨#[]⟩, .slice none 0 0, .slice none 0 0] ++ Builtin.zeroCells #[.int .i64 0, .int .i64 0, .string ⟨#[]⟩, .slice none 0 0, .slice none 0 0] (K2 - 1)) 33)
      rw [size_setCell] at h
      refine (cell_block (w := ((wq.setCell ⟨w1.heap.size, 4, none⟩ (.slice (some ⟨wq.heap.size, 0, none⟩) 1 K2)).alloc (.cells (#[.int .i64 4, .int .i64 3, .string ⟨#[]⟩, .slice none 0 0, .slice none 0 0] ++ Builtin.zeroCells #[.int .i64 0, .int .i64 0, .string ⟨#[]⟩, .slice none 0 0, .slice none 0 0] (K2 - 1)) 33)).drew) h 1).trans ?_
      simp [Array.getElem?_append]
    have hbl7 : Below w.heap.size w W7 := by
      rw [hW7]
      exact (((HB5.out.trans (HQ.out.mono HB5.out.size)).setCell (by show w.heap.size ≤ w1.heap.size; omega) _).alloc (by rw [size_setCell]; omega) _).drew
    have HD7 := Lib.hid hd7; have HB7 := Lib.hid hbl7; have HC7 := Lib.hid hc7
    have HR7 := Lib.hid ((HR5.out.same (HQ.out.block _ HR5.out.lt)).same (k7 _ (by omega) (by omega))); have HT7 := Lib.hid ((HT5.out.same (HQ.out.block _ HT5.out.lt)).same (k7 _ (by omega) (by omega)))
    rw [← hW7]
    clear hW7 k7 hd7 hbl7 hc7 d0 d1 d2 d3 d4 d5 n0 n1 n2 n3 n4
    obtain ⟨d0, d1, d2, d3, d4⟩ := HD7.out.cells
    obtain ⟨t0, t1, t2, t3, t4, t5⟩ := HT7.out.cells
    have d5 := HD7.out.frozen
    obtain ⟨s0, s1, s2, s3, s4, s5, s6, s7, s8, s9, s10, s11, s12, s13, s14, s15⟩ := HS.out.keep (w' := W7) fun p hp => HB7.out.cell (by omega)
    have hbl : b < W7.heap.size := by omega
    have hdl : w1.heap.size < W7.heap.size := by omega
    go_wp2_with fail
    rw [rounds_succ]
    go_wp2_with fail
    clear d0 d1 d2 d3 d4 d5 t0 t1 t2 t3 t4 t5 s0 s1 s2 s3 s4 s5 s6 s7 s8 s9 s10 s11 s12 s13 s14 s15 hbl hdl
    obtain ⟨W8, hW8⟩ : ∃ W8, W8 = W7.alloc (.cells #[.string so, .bool true, .int .i64 5, .int .i64 0, .int .i64 0, .slice none 0 0, .slice none 0 0, .slice none 0 0] 40) := ⟨_, rfl⟩
    have HB8 : Hid (Below W7.heap.size W7 W8) := by rw [hW8]; exact (Below.refl _ _).alloc (Nat.le_refl _) _
    rw [← hW8]
    clear hW8
    have hz8 := HB8.out.size
    have HR8 := Lib.hid (HR7.out.same (HB8.out.block _ HR7.out.lt))
    have HBw : Hid (Below w.heap.size w W8) := HB7.out.trans (HB8.out.mono HB7.out.size)
    have HC8 : Hid (W8.cell? ⟨wq.heap.size, 1, none⟩ = some (.int .i64 3)) := (HB8.out.cell (by show wq.heap.size < _; omega)).trans HC7.out
    obtain ⟨d0, d1, d2, d3, d4⟩ := (HD7.out.same (HB8.out.block _ HD7.out.lt)).cells
    obtain ⟨t0, t1, t2, t3, t4, t5⟩ := (HT7.out.same (HB8.out.block _ HT7.out.lt)).cells
    obtain ⟨r0, r1, r2, r3, r4⟩ := HR8.out.cells
    have r5 := HR8.out.frozen
    have hdl : w1.heap.size < W8.heap.size := by omega
    have htl8 : w.heap.size < W8.heap.size := by omega
    have hrl8 : w.heap.size + 1 < W8.heap.size := by omega
    rw [rounds_succ]
    go_wp2_with fail
    refine wp_loop_rounds 1 ?_
    rw [rounds_succ]
    go_wp2_with fail
    have hfin : Box5 _ (w.heap.size + 1) (.int .i64 1) (.int .i64 0) (.string ⟨#[]⟩) (.slice (some ⟨w1.heap.size + 2 + 1, 0, none⟩) 1 K) (.slice (some ⟨wq.heap.size, 0, none⟩) 1 K2) := ((((HR8.out.set0 _).set1 _).set2 _).set3 _).set4 _
    refine ret_cell5 rfl rfl hfin.load rfl ⟨_, _, _, rfl, ⟨_, _, _, rfl⟩, ?_, ?_, ((((HBw.out.setCell (by show w.heap.size ≤ w.heap.size + 1; omega) _).setCell (by show w.heap.size ≤ w.heap.size + 1; omega) _).setCell (by show w.heap.size ≤ w.heap.size + 1; omega) _).setCell (by show w.heap.size ≤ w.heap.size + 1; omega) _).setCell (by show w.heap.size ≤ w.heap.size + 1; omega) _⟩
    · simp only [size_setCell]; omega
    · refine Eq.trans ?_ HC8.out
      refine World.cell?_of_block ?_
      have hne : wq.heap.size ≠ w.heap.size + 1 := by omega
      exact (Below.heap_setCell _ _ _ _ hne).trans ((Below.heap_setCell _ _ _ _ hne).trans ((Below.heap_setCell _ _ _ _ hne).trans ((Below.heap_setCell _ _ _ _ hne).trans (Below.heap_setCell _ _ _ _ hne))))
end Go.Proofs.YtnjmknofojjlmaaDoor
