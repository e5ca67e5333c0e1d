/-
  some, and Least of it.
-/
import Derived.Test.YtnjmknofojjlmaaDoorTLeast
import Derived.Test.YtnjmknofojjlmaaDoorTFew
namespace Go.Proofs.YtnjmknofojjlmaaDoor
open Go.RowKit

theorem strs_none {w : World} {B : Nat} : Strs w B (.slice none 0 0) [] := ⟨none, 0, rfl, by simp, fun h => absurd h (by simp)⟩
theorem fields_none {w : World} {B : Nat} : FieldsV w B (.slice none 0 0) [] := ⟨none, 0, rfl, by simp, fun h => absurd h (by simp)⟩
theorem types_none {w : World} {B : Nat} : TypesV w B (.slice none 0 0) [] := ⟨none, 0, rfl, by simp, fun h => absurd h (by simp)⟩
theorem t_leaf_in {w : World} {B : Nat} (k lo hi : Int) : TypeIn w B (.mk k lo hi [] [] []) (.int .i64 k) (.int .i64 lo) (.int .i64 hi) (.slice none 0 0) (.slice none 0 0) (.slice none 0 0) :=
  TypeIn.mk_ (d := .mk k lo hi [] [] []) strs_none fields_none types_none
theorem SomeIn.fields {w : World} {b off cc B : Nat} (h : SomeIn w b off) (hb : b < B) (hcc : 2 ≤ cc) : FieldsV w B (.slice (some ⟨b, off, none⟩) 2 cc) tSome.fields := by
  obtain ⟨h0, h1, h2, h3, h4, h5, h6, h7, h8, h9, h10, h11, h12, h13, h14, h15⟩ := h
  refine ⟨_, cc, rfl, hcc, fun _ => ⟨b, off, rfl, hb, ?_⟩⟩
  simp only [tSome, T.fields, FieldsIn, FieldIn, Nat.zero_mul, Nat.add_zero, Nat.add_assoc, Nat.reduceAdd, Nat.reduceMul]
  exact ⟨⟨h0, h1, _, _, _, _, _, _, h2, h3, h4, h5, h6, h7, t_leaf_in 4 3 9⟩, ⟨h8, h9, _, _, _, _, _, _, h10, h11, h12, h13, h14, h15, t_leaf_in 5 0 0⟩, trivial⟩
theorem SomeIn.type {w : World} {b off cc B : Nat} (h : SomeIn w b off) (hb : b < B) (hcc : 2 ≤ cc) : TypeV w B tSome (.agg #[.int .i64 1, .int .i64 0, .int .i64 0, .slice none 0 0, .slice (some ⟨b, off, none⟩) 2 cc, .slice none 0 0]) :=
  ⟨_, _, _, _, _, _, rfl, TypeIn.mk_ (d := tSome) strs_none (h.fields hb hcc) types_none⟩
theorem tSome_fit : tSome.Fit := by
  simp [tSome, tInt, tBool, T.Fit, T.FitsF, T.FitF, T.Fits, sn, so]
  decide
theorem tSome_size : tSome.size = 3 := by decide
theorem tSome_depth : tSome.depth = 2 := by decide
theorem tSome_right : rightT tSome = true := by decide
set_option maxHeartbeats 2000000 in
set_option maxRecDepth 100000 in
theorem least_some {b off cc : Nat} {w : World} (hb : b < w.heap.size) (hs : SomeIn w b off) (hcc : 2 ≤ cc) :
    Calls Tryd.prog 9 #[.agg #[.int .i64 1, .int .i64 0, .int .i64 0, .slice none 0 0, .slice (some ⟨b, off, none⟩) 2 cc, .slice none 0 0]] w fun e w' =>
      ∃ (v3 : Value) (g cap : Nat), e = .returned (.agg #[.int .i64 1, .int .i64 0, .string ⟨#[]⟩, v3, .slice (some ⟨g, 0, none⟩) 1 cap]) ∧ (∃ A n c, v3 = .slice A n c) ∧ g < w'.heap.size ∧ w'.cell? ⟨g, 1, none⟩ = some (.int .i64 3) ∧ Below w.heap.size w w' := by
  have HS := Lib.hid hs
  clear hs
  go_enter Tryd.func9, Tryd.ntmps9
  go_wp2_with fail
  have hbw : Below w.heap.size w ((w.alloc (.cells #[.int .i64 1, .int .i64 0, .int .i64 0, .slice none 0 0, .slice (some ⟨b, off, none⟩) 2 cc, .slice none 0 0] 26)).alloc (.cells #[.int .i64 0, .int .i64 0, .string ⟨#[]⟩, .slice none 0 0, .slice none 0 0] 33)) := ((Below.refl _ _).alloc (Nat.le_refl _) _).alloc (by simp) _
  have HT0 := Lib.hid (((Box6.new w (.int .i64 1) (.int .i64 0) (.int .i64 0) (.slice none 0 0) (.slice (some ⟨b, off, none⟩) 2 cc) (.slice none 0 0)).alloc (.cells #[.int .i64 0, .int .i64 0, .string ⟨#[]⟩, .slice none 0 0, .slice none 0 0] 33)))
  have HR0 : Hid (Box5 _ (w.heap.size + 1) (.int .i64 0) (.int .i64 0) (.string ⟨#[]⟩) (.slice none 0 0) (.slice none 0 0)) := Box5.new' (w := w.alloc (.cells #[.int .i64 1, .int .i64 0, .int .i64 0, .slice none 0 0, .slice (some ⟨b, off, none⟩) 2 cc, .slice none 0 0] 26)) (by simp) _ _ _ _ _
  have hsz : ((w.alloc (.cells #[.int .i64 1, .int .i64 0, .int .i64 0, .slice none 0 0, .slice (some ⟨b, off, none⟩) 2 cc, .slice none 0 0] 26)).alloc (.cells #[.int .i64 0, .int .i64 0, .string ⟨#[]⟩, .slice none 0 0, .slice none 0 0] 33)).heap.size = w.heap.size + 2 := by simp
  generalize ((w.alloc (.cells #[.int .i64 1, .int .i64 0, .int .i64 0, .slice none 0 0, .slice (some ⟨b, off, none⟩) 2 cc, .slice none 0 0] 26)).alloc (.cells #[.int .i64 0, .int .i64 0, .string ⟨#[]⟩, .slice none 0 0, .slice none 0 0] 33)) = w0 at hbw HT0 HR0 hsz ⊢
  have hs0 : SomeIn w0 b off := HS.out.keep fun p hp => hbw.cell (by omega)
  refine (tright_any (t := tSome) (by decide) (by decide) tSome_fit (Nat.le_refl _) (hs0.type (by omega) hcc)).mono ?_
  rintro e w1 ⟨rfl, hb1⟩
  rw [tSome_right]
  have hz1 := hb1.size
  have HT1 := Lib.hid (HT0.out.same (hb1.block _ (by omega)))
  have HR1 := Lib.hid (HR0.out.same (hb1.block _ (by omega)))
  have HB1 : Hid (Below w.heap.size w w1) := hbw.trans (hb1.mono hbw.size)
  have HS1 : Hid (SomeIn w1 b off) := HS.out.keep fun p hp => HB1.out.cell (by omega)
  clear hbw hs0 hb1 HT0 HR0
  obtain ⟨t0, t1, t2, t3, t4, t5⟩ := HT1.out.cells
  have htl : w.heap.size < w1.heap.size := by omega
  have hrl : w.heap.size + 1 < w1.heap.size := by omega
  go_wp2_with fail
  clear t0 t1 t2 t3 t4 t5
  have hn := heap_alloc_new w1 (.cells #[.func (.func 25) #[] #[.pointer (some ⟨w1.heap.size, 0, none⟩)]] 34)
  have hb2 : Below w1.heap.size w1 (w1.alloc (.cells #[.func (.func 25) #[] #[.pointer (some ⟨w1.heap.size, 0, none⟩)]] 34)) := (Below.refl _ _).alloc (Nat.le_refl _) _
  have hz2 : (w1.alloc (.cells #[.func (.func 25) #[] #[.pointer (some ⟨w1.heap.size, 0, none⟩)]] 34)).heap.size = w1.heap.size + 1 := by simp
  generalize w1.alloc (.cells #[.func (.func 25) #[] #[.pointer (some ⟨w1.heap.size, 0, none⟩)]] 34) = w2 at hn hb2 hz2 ⊢
  have hs2 : SomeIn w2 b off := HS1.out.keep fun p hp => hb2.cell (by omega)
  refine (least_rec (by omega) (by omega) hs2 (cell_block hn 0)).mono ?_
  rintro e w3 ⟨v3, g, cap, rfl, ⟨A3, n3, c3, rfl⟩, hg, hg1, hb3⟩
  have hz3 := hb3.size
  have HR3 := Lib.hid ((HR1.out.same (hb2.block _ (by omega))).same (hb3.block _ (by omega)))
  have HB3 : Hid (Below w.heap.size w w3) := (HB1.out.trans (hb2.mono (by omega))).trans (hb3.mono (by omega))
  have HG := Lib.hid hg1
  clear hg1 hb3 hb2 hn hs2
  obtain ⟨r0, r1, r2, r3, r4⟩ := HR3.out.cells
  have r5 := HR3.out.frozen
  have hrl3 : w.heap.size + 1 < w3.heap.size := by omega
  have hne : g ≠ w.heap.size + 1 := by
    intro h
    have h1 := HG.out
    rw [h, r1] at h1
    simp at h1
  go_wp2_with fail
  have hfin : Box5 _ (w.heap.size + 1) (.int .i64 1) (.int .i64 0) (.string ⟨#[]⟩) (.slice A3 n3 c3) (.slice (some ⟨g, 0, none⟩) 1 cap) := ((((HR3.out.set0 _).set1 _).set2 _).set3 _).set4 _
  refine ret_cell5 rfl rfl hfin.load rfl ⟨_, _, _, rfl, ⟨_, _, _, rfl⟩, ?_, ?_, ((((HB3.out.setCell (by show w.heap.size ≤ w.heap.size + 1; omega) _).setCell (by show w.heap.size ≤ w.heap.size + 1; omega) _).setCell (by show w.heap.size ≤ w.heap.size + 1; omega) _).setCell (by show w.heap.size ≤ w.heap.size + 1; omega) _).setCell (by show w.heap.size ≤ w.heap.size + 1; omega) _⟩
  · simp only [size_setCell]; exact hg
  · refine Eq.trans ?_ HG.out
    refine World.cell?_of_block ?_
    exact (Below.heap_setCell _ _ _ _ hne).trans ((Below.heap_setCell _ _ _ _ hne).trans ((Below.heap_setCell _ _ _ _ hne).trans ((Below.heap_setCell _ _ _ _ hne).trans (Below.heap_setCell _ _ _ _ hne))))
set_option maxHeartbeats 2000000 in
theorem some_any (w : World) : Calls Tryd.prog 11 #[] w fun e w' => ∃ b off cc, e = .returned (.agg #[.int .i64 1, .int .i64 0, .int .i64 0, .slice none 0 0, .slice (some ⟨b, off, none⟩) 2 cc, .slice none 0 0]) ∧ 2 ≤ cc ∧ b < w'.heap.size ∧ SomeIn w' b off ∧ Below w.heap.size w w' := by
  go_enter Tryd.func11, Tryd.ntmps11
  go_wp2_with fail
  have hn := heap_alloc_new (w.alloc (.cells #[.int .i64 1, .int .i64 0, .int .i64 0, .slice none 0 0, .slice (some ⟨w.heap.size + 1, 0, none⟩) 2 2, .slice none 0 0] 26)) (.cells #[.string sn, .bool false, .int .i64 4, .int .i64 3, .int .i64 9, .slice none 0 0, .slice none 0 0, .slice none 0 0, .string so, .bool true, .int .i64 5, .int .i64 0, .int .i64 0, .slice none 0 0, .slice none 0 0, .slice none 0 0] 40)
  rw [World.size_alloc] at hn
  refine ret_cell6 rfl rfl ((Box6.new w (.int .i64 1) (.int .i64 0) (.int .i64 0) (.slice none 0 0) (.slice (some ⟨w.heap.size + 1, 0, none⟩) 2 2) (.slice none 0 0)).alloc _).load rfl ⟨_, _, _, rfl, Nat.le_refl _, by simp, ?_, ((Below.refl _ _).alloc (Nat.le_refl _) _).alloc (by simp) _⟩
  refine ⟨?_, ?_, ?_, ?_, ?_, ?_, ?_, ?_, ?_, ?_, ?_, ?_, ?_, ?_, ?_, ?_⟩ <;> exact cell_block hn _
def sa : ByteArray := ⟨#[97]⟩
def sany : ByteArray := ⟨#[97, 110, 121]⟩
def tDict : T := .mk 2 0 4 [] [] [tSome]
def fDict : F := .mk sa false tDict
def fTwice : F := .mk sn false tSome
def tPut : T := .mk 1 0 0 [] [fDict, .mk sn false tInt, .mk so true tBool] []
theorem tPut_is : putT tSome fDict = tPut := by kernel_rfl
theorem tPut_v : t_putV tSome fDict = (tPut, 0) := by kernel_rfl
theorem tPut_at : goAt tPut [sa, sany, sn] = some tInt := by kernel_rfl
theorem tPut_drop : t_dropV tPut sa = (tSome, 0) := by kernel_rfl
theorem fTwice_fit : (putT tSome fTwice).Fit := fit_of_allP _ (by kernel_rfl)
theorem fTwice_v : t_putV tSome fTwice = (T.zero, 5) := by kernel_rfl
theorem fDict_fit : fDict.type.Fit := by
  simp [fDict, tDict, F.type, tSome, tInt, tBool, T.Fit, T.FitsF, T.FitF, T.Fits, sn, so]
  decide
theorem tPut_fit : tPut.Fit := by
  simp [tPut, fDict, tDict, tSome, tInt, tBool, T.Fit, T.FitsF, T.FitF, T.Fits, sn, so, sa]
  decide
set_option maxHeartbeats 2000000 in
set_option maxRecDepth 100000 in
theorem tsmall_any (w : World) : Calls Tryd.prog 4 #[] w fun e w' => e = .returned (.bool true) ∧ Below w.heap.size w w' := by
  go_enter Tryd.func4, Tryd.ntmps4
  go_wp2_with fail
  refine (some_any _).mono ?_
  rintro e w1 ⟨b, off, cc, rfl, hcc, hb, hs1, hb1⟩
  have HS := Lib.hid hs1
  have HB1 := Lib.hid hb1
  clear hs1 hb1
  go_wp2_with fail
  obtain ⟨w2, hw2⟩ : ∃ w2, w2 = (w1.alloc (.cells #[.int .i64 1, .int .i64 0, .int .i64 0, .slice none 0 0, .slice (some ⟨b, off, none⟩) 2 cc, .slice none 0 0] 26)).alloc (.cells #[.int .i64 1, .int .i64 0, .int .i64 0, .slice none 0 0, .slice (some ⟨b, off, none⟩) 2 cc, .slice none 0 0] 26) := ⟨_, rfl⟩
  have hz1 := HB1.out.size
  have hz2 : w2.heap.size = w1.heap.size + 2 := by rw [hw2]; simp
  have hb2 : Below w1.heap.size w1 w2 := by rw [hw2]; exact ((Below.refl _ _).alloc (Nat.le_refl _) _).alloc (by simp) _
  have HB2 : Hid (Below w.heap.size w w2) := HB1.out.trans (hb2.mono hz1)
  have HT2 : Hid (Box6 w2 w1.heap.size (.int .i64 1) (.int .i64 0) (.int .i64 0) (.slice none 0 0) (.slice (some ⟨b, off, none⟩) 2 cc) (.slice none 0 0)) := by rw [hw2]; exact (Box6.new w1 _ _ _ _ _ _).alloc _
  have hd2 : Box6 w2 (w1.heap.size + 1) (.int .i64 1) (.int .i64 0) (.int .i64 0) (.slice none 0 0) (.slice (some ⟨b, off, none⟩) 2 cc) (.slice none 0 0) := by rw [hw2]; exact Box6.new' (w := w1.alloc (.cells #[.int .i64 1, .int .i64 0, .int .i64 0, .slice none 0 0, .slice (some ⟨b, off, none⟩) 2 cc, .slice none 0 0] 26)) (by simp) _ _ _ _ _ _
  rw [← hw2]
  clear hw2
  have HS2 : Hid (SomeIn w2 b off) := HS.out.keep fun p hp => hb2.cell (by omega)
  have HV2 : Hid (TypeV w2 w2.heap.size tSome (.agg #[.int .i64 1, .int .i64 0, .int .i64 0, .slice none 0 0, .slice (some ⟨b, off, none⟩) 2 cc, .slice none 0 0])) := HS2.out.type (by omega) hcc
  have HF2 : Hid (FieldV w2 w2.heap.size fDict (.agg #[.string sa, .bool false, .int .i64 2, .int .i64 0, .int .i64 4, .slice none 0 0, .slice none 0 0, .slice (some ⟨w1.heap.size + 1, 0, none⟩) 1 1])) := by
    refine ⟨_, _, _, _, _, _, rfl, TypeIn.mk_ (d := tDict) strs_none fields_none ⟨_, 1, rfl, Nat.le_refl _, fun _ => ⟨_, _, rfl, by omega, ?_⟩⟩⟩
    obtain ⟨d0, d1, d2, d3, d4, d5⟩ := hd2.cells
    simp only [tDict, T.of, TypesIn, Nat.zero_mul, Nat.add_zero, Nat.reduceAdd]
    exact ⟨⟨_, _, _, _, _, _, d0, d1, d2, d3, d4, d5, TypeIn.mk_ (d := tSome) strs_none (HS2.out.fields (by omega) hcc) types_none⟩, trivial⟩
  refine (tput_any (t := tSome) (f := fDict) (by decide) (by decide) tSome_fit (by decide) (by decide) fDict_fit (fun _ => by rw [tPut_is]; exact tPut_fit) (Nat.le_refl _) HV2.out HF2.out).mono ?_
  rw [tPut_v]
  rintro e w3 ⟨p3, p4, p5, rfl, hcp, hb3⟩
  obtain ⟨A3, c3, A4, c4, A5, c5, rfl, rfl, rfl⟩ := hcp.forms
  rw [show tPut.kind = 1 from rfl, show tPut.lo = 0 from rfl, show tPut.hi = 0 from rfl]
  rw [show tPut.names.length = 0 from rfl, show tPut.fields.length = 3 from rfl, show tPut.of.length = 0 from rfl] at hcp ⊢
  have hz3 := hb3.size
  have HP3 := Lib.hid hcp
  have HB3 : Hid (Below w.heap.size w w3) := HB2.out.trans (hb3.mono (by omega))
  have HT3 := Lib.hid (HT2.out.same (hb3.block _ (by omega)))
  have HS3 : Hid (SomeIn w3 b off) := HS2.out.keep fun p hp => hb3.cell (by omega)
  clear hb2 hd2 hcp hb3 HS2 HV2 HF2 HT2 HB2 HS HB1
  obtain ⟨t0, t1, t2, t3, t4, t5⟩ := HT3.out.cells
  have htl : w1.heap.size < w3.heap.size := by omega
  go_wp2_with fail
  obtain ⟨vp, hvp⟩ : ∃ vp : Value, vp = .agg #[.int .i64 1, .int .i64 0, .int .i64 0, .slice A3 0 c3, .slice A4 3 c4, .slice A5 0 c5] := ⟨_, rfl⟩
  have HPV3 : Hid (TypeV w3 w3.heap.size tPut vp) := by rw [hvp]; exact ⟨_, _, _, _, _, _, rfl, HP3.out.typeIn⟩
  obtain ⟨w4, hw4⟩ : ∃ w4, w4 = (w3.alloc (.cells #[.int .i64 1, .int .i64 0, .int .i64 0, .slice A3 0 c3, .slice A4 3 c4, .slice A5 0 c5] 26)).alloc (.cells #[.string ⟨#[97]⟩, .string ⟨#[97, 110, 121]⟩, .string ⟨#[110]⟩] 9) := ⟨_, rfl⟩
  have hz4 : w4.heap.size = w3.heap.size + 2 := by rw [hw4]; simp
  have hb4 : Below w3.heap.size w3 w4 := by rw [hw4]; exact ((Below.refl _ _).alloc (Nat.le_refl _) _).alloc (by simp) _
  have HX4 : Hid (Box6 w4 w3.heap.size (.int .i64 1) (.int .i64 0) (.int .i64 0) (.slice A3 0 c3) (.slice A4 3 c4) (.slice A5 0 c5)) := by rw [hw4]; exact (Box6.new w3 _ _ _ _ _ _).alloc _
  have hpath : Strs w4 w4.heap.size (.slice (some ⟨w3.heap.size + 1, 0, none⟩) 3 3) [sa, sany, sn] := by
    have hn := heap_alloc_new (w3.alloc (.cells #[.int .i64 1, .int .i64 0, .int .i64 0, .slice A3 0 c3, .slice A4 3 c4, .slice A5 0 c5] 26)) (.cells #[.string ⟨#[97]⟩, .string ⟨#[97, 110, 121]⟩, .string ⟨#[110]⟩] 9)
    rw [← hw4, World.size_alloc] at hn
    refine ⟨_, 3, rfl, Nat.le_refl _, fun _ => ⟨_, _, rfl, by omega, fun i hi => ?_⟩⟩
    match i, hi with
    | 0, _ => exact cell_block hn 0
    | 1, _ => exact cell_block hn 1
    | 2, _ => exact cell_block hn 2
  rw [← hw4]
  have HB4 : Hid (Below w.heap.size w w4) := HB3.out.trans (hb4.mono (by omega))
  have HT4 := Lib.hid (HT3.out.same (hb4.block _ (by omega)))
  have HS4 : Hid (SomeIn w4 b off) := HS3.out.keep fun p hp => hb4.cell (by omega)
  have HPV4 : Hid (TypeV w4 w4.heap.size tPut vp) := HPV3.out.keep hb4.size fun p hp => hb4.cell hp
  clear hw4 hb4 t0 t1 t2 t3 t4 t5 HPV3 HP3 HT3 HS3 HB3 htl
  rw [← hvp]
  refine (tat_any (t := tPut) (ps := [sa, sany, sn]) tPut_fit (by decide) (by decide) (Nat.le_refl _) HPV4.out hpath).mono ?_
  rw [tPut_at]
  rintro e w5 ⟨x3, x4, x5, rfl, hcp, hb5⟩
  rw [show ((some tInt).getD T.zero) = tInt from rfl] at hcp ⊢
  obtain ⟨A6, c6, A7, c7, A8, c8, rfl, rfl, rfl⟩ := hcp.forms
  rw [show tInt.kind = 4 from rfl, show tInt.lo = 3 from rfl, show tInt.hi = 9 from rfl]
  rw [show tInt.names.length = 0 from rfl, show tInt.fields.length = 0 from rfl, show tInt.of.length = 0 from rfl] at hcp ⊢
  have hz5 := hb5.size
  have HXV5 : Hid (TypeV w5 w5.heap.size tInt (.agg #[.int .i64 4, .int .i64 3, .int .i64 9, .slice A6 0 c6, .slice A7 0 c7, .slice A8 0 c8])) := ⟨_, _, _, _, _, _, rfl, hcp.typeIn⟩
  have HB5 : Hid (Below w.heap.size w w5) := HB4.out.trans (hb5.mono (by omega))
  have HT5 := Lib.hid (HT4.out.same (hb5.block _ (by omega)))
  have HX5 := Lib.hid (HX4.out.same (hb5.block _ (by omega)))
  have HS5 : Hid (SomeIn w5 b off) := HS4.out.keep fun p hp => hb5.cell (by omega)
  have HPV5 : Hid (TypeV w5 w5.heap.size tPut vp) := HPV4.out.keep hb5.size fun p hp => hb5.cell hp
  clear hcp hb5 hpath HB4 HT4 HS4 HPV4 HX4
  rw [hvp]
  obtain ⟨t0, t1, t2, t3, t4, t5⟩ := HT5.out.cells
  obtain ⟨x0, x1, x2, x3, x4, x5⟩ := HX5.out.cells
  have htl : w1.heap.size < w5.heap.size := by omega
  have hxl : w3.heap.size < w5.heap.size := by omega
  go_wp2_with fail
  clear t0 t1 t2 t3 t4 t5 x0 x1 x2 x3 x4 x5 htl hxl
  obtain ⟨w6, hw6⟩ : ∃ w6, w6 = w5.alloc (.cells #[.int .i64 4, .int .i64 3, .int .i64 9, .slice A6 0 c6, .slice A7 0 c7, .slice A8 0 c8] 26) := ⟨_, rfl⟩
  have hz6 : w6.heap.size = w5.heap.size + 1 := by rw [hw6]; simp
  have hb6 : Below w5.heap.size w5 w6 := by rw [hw6]; exact (Below.refl _ _).alloc (Nat.le_refl _) _
  have HY6 : Hid (Box6 w6 w5.heap.size (.int .i64 4) (.int .i64 3) (.int .i64 9) (.slice A6 0 c6) (.slice A7 0 c7) (.slice A8 0 c8)) := by rw [hw6]; exact Box6.new w5 _ _ _ _ _ _
  rw [← hw6]
  have hpv6 : TypeV w6 w6.heap.size tPut vp := HPV5.out.keep hb6.size fun p hp => hb6.cell hp
  rw [← hvp]
  refine (tdrop_any (t := tPut) (s := sa) (by decide) (by decide) tPut_fit (Nat.le_refl _) hpv6).mono ?_
  rw [tPut_drop]
  rintro e w7 ⟨y3, y4, y5, rfl, hcp, hb7⟩
  obtain ⟨A9, c9, A10, c10, A11, c11, rfl, rfl, rfl⟩ := hcp.forms
  rw [show tSome.kind = 1 from rfl, show tSome.lo = 0 from rfl, show tSome.hi = 0 from rfl]
  rw [show tSome.names.length = 0 from rfl, show tSome.fields.length = 2 from rfl, show tSome.of.length = 0 from rfl] at hcp ⊢
  have hz7 := hb7.size
  have hbb : Below w5.heap.size w5 w7 := hb6.trans (hb7.mono (by omega))
  have HQV7 : Hid (TypeV w7 w7.heap.size tSome (.agg #[.int .i64 1, .int .i64 0, .int .i64 0, .slice A9 0 c9, .slice A10 2 c10, .slice A11 0 c11])) := ⟨_, _, _, _, _, _, rfl, hcp.typeIn⟩
  have HB7 : Hid (Below w.heap.size w w7) := HB5.out.trans (hbb.mono (by omega))
  have HT7 := Lib.hid (HT5.out.same (hbb.block _ (by omega)))
  have HX7 := Lib.hid (HX5.out.same (hbb.block _ (by omega)))
  have HY7 := Lib.hid (HY6.out.same (hb7.block _ (by omega)))
  have HS7 : Hid (SomeIn w7 b off) := HS5.out.keep fun p hp => hbb.cell (by omega)
  have HPV7 : Hid (TypeV w7 w7.heap.size tPut vp) := HPV5.out.keep hbb.size fun p hp => hbb.cell hp
  have HXV7 : Hid (TypeV w7 w7.heap.size tInt (.agg #[.int .i64 4, .int .i64 3, .int .i64 9, .slice A6 0 c6, .slice A7 0 c7, .slice A8 0 c8])) := HXV5.out.keep hbb.size fun p hp => hbb.cell hp
  clear hw6 hcp hb6 hb7 hbb hpv6 HY6 HB5 HT5 HX5 HS5 HPV5 HXV5
  rw [hvp]
  obtain ⟨t0, t1, t2, t3, t4, t5⟩ := HT7.out.cells
  have htl : w1.heap.size < w7.heap.size := by omega
  go_wp2_with fail
  clear t0 t1 t2 t3 t4 t5 htl
  obtain ⟨w8, hw8⟩ : ∃ w8, w8 = w7.alloc (.cells #[.int .i64 1, .int .i64 0, .int .i64 0, .slice A9 0 c9, .slice A10 2 c10, .slice A11 0 c11] 26) := ⟨_, rfl⟩
  have hz8 : w8.heap.size = w7.heap.size + 1 := by rw [hw8]; simp
  have hb8 : Below w7.heap.size w7 w8 := by rw [hw8]; exact (Below.refl _ _).alloc (Nat.le_refl _) _
  have HQ8 : Hid (Box6 w8 w7.heap.size (.int .i64 1) (.int .i64 0) (.int .i64 0) (.slice A9 0 c9) (.slice A10 2 c10) (.slice A11 0 c11)) := by rw [hw8]; exact Box6.new w7 _ _ _ _ _ _
  rw [← hw8]
  have hs8 : SomeIn w8 b off := HS7.out.keep fun p hp => hb8.cell (by omega)
  refine (tput_any (t := tSome) (f := fTwice) (B := w8.heap.size) (by decide) (by decide) tSome_fit (by decide) (by decide) tSome_fit (fun _ => fTwice_fit) (Nat.le_refl _) (hs8.type (by omega) hcc) ⟨_, _, _, _, _, _, rfl, TypeIn.mk_ (d := tSome) strs_none (hs8.fields (by omega) hcc) types_none⟩).mono ?_
  rw [fTwice_v]
  rintro e w9 ⟨z3, z4, z5, rfl, hcp, hb9⟩
  obtain ⟨A12, c12, A13, c13, A14, c14, rfl, rfl, rfl⟩ := hcp.forms
  rw [show T.zero.kind = 0 from rfl, show T.zero.lo = 0 from rfl, show T.zero.hi = 0 from rfl]
  have hz9 := hb9.size
  have hbb : Below w7.heap.size w7 w9 := hb8.trans (hb9.mono (by omega))
  have HQV9 : Hid (TypeV w9 w9.heap.size tSome (.agg #[.int .i64 1, .int .i64 0, .int .i64 0, .slice A9 0 c9, .slice A10 2 c10, .slice A11 0 c11])) := HQV7.out.keep hbb.size fun p hp => hbb.cell hp
  have HB9 : Hid (Below w.heap.size w w9) := HB7.out.trans (hbb.mono (by omega))
  have HT9 := Lib.hid (HT7.out.same (hbb.block _ (by omega)))
  have HX9 := Lib.hid (HX7.out.same (hbb.block _ (by omega)))
  have HY9 := Lib.hid (HY7.out.same (hbb.block _ (by omega)))
  have HQ9 := Lib.hid (HQ8.out.same (hb9.block _ (by omega)))
  have HS9 : Hid (SomeIn w9 b off) := HS7.out.keep fun p hp => hbb.cell (by omega)
  have HPV9 : Hid (TypeV w9 w9.heap.size tPut vp) := HPV7.out.keep hbb.size fun p hp => hbb.cell hp
  have HXV9 : Hid (TypeV w9 w9.heap.size tInt (.agg #[.int .i64 4, .int .i64 3, .int .i64 9, .slice A6 0 c6, .slice A7 0 c7, .slice A8 0 c8])) := HXV7.out.keep hbb.size fun p hp => hbb.cell hp
  clear hw8 hcp hb8 hb9 hbb hs8 HQ8 HB7 HT7 HX7 HY7 HS7 HPV7 HXV7 HQV7
  obtain ⟨t0, t1, t2, t3, t4, t5⟩ := HT9.out.cells
  have htl : w1.heap.size < w9.heap.size := by omega
  go_wp2_with fail
  clear t0 t1 t2 t3 t4 t5 htl
  obtain ⟨w10, hw10⟩ : ∃ w10, w10 = w9.alloc (.cells #[.int .i64 0, .int .i64 0, .int .i64 0, .slice A12 T.zero.names.length c12, .slice A13 T.zero.fields.length c13, .slice A14 T.zero.of.length c14] 26) := ⟨_, rfl⟩
  have hz10 : w10.heap.size = w9.heap.size + 1 := by rw [hw10]; simp
  have hb10 : Below w9.heap.size w9 w10 := by rw [hw10]; exact (Below.refl _ _).alloc (Nat.le_refl _) _
  rw [← hw10]
  have hs10 : SomeIn w10 b off := HS9.out.keep fun p hp => hb10.cell (by omega)
  refine (least_some (by omega) hs10 hcc).mono ?_
  rintro e w11 ⟨v3, g, cap, rfl, ⟨A15, n15, c15, rfl⟩, hg, hg1, hb11⟩
  have hz11 := hb11.size
  have hbb : Below w9.heap.size w9 w11 := hb10.trans (hb11.mono (by omega))
  have HQV11 : Hid (TypeV w11 w11.heap.size tSome (.agg #[.int .i64 1, .int .i64 0, .int .i64 0, .slice A9 0 c9, .slice A10 2 c10, .slice A11 0 c11])) := HQV9.out.keep hbb.size fun p hp => hbb.cell hp
  have HB11 : Hid (Below w.heap.size w w11) := HB9.out.trans (hbb.mono (by omega))
  have HT11 := Lib.hid (HT9.out.same (hbb.block _ (by omega)))
  have HX11 := Lib.hid (HX9.out.same (hbb.block _ (by omega)))
  have HY11 := Lib.hid (HY9.out.same (hbb.block _ (by omega)))
  have HQ11 := Lib.hid (HQ9.out.same (hbb.block _ (by omega)))
  have HS11 : Hid (SomeIn w11 b off) := HS9.out.keep fun p hp => hbb.cell (by omega)
  have HPV11 : Hid (TypeV w11 w11.heap.size tPut vp) := HPV9.out.keep hbb.size fun p hp => hbb.cell hp
  have HXV11 : Hid (TypeV w11 w11.heap.size tInt (.agg #[.int .i64 4, .int .i64 3, .int .i64 9, .slice A6 0 c6, .slice A7 0 c7, .slice A8 0 c8])) := HXV9.out.keep hbb.size fun p hp => hbb.cell hp
  have HG11 := Lib.hid hg1
  clear hw10 hb10 hb11 hbb hs10 HB9 HT9 HX9 HY9 HQ9 HS9 HPV9 HXV9 HQV9 hg1
  obtain ⟨t0, t1, t2, t3, t4, t5⟩ := HT11.out.cells
  have htl : w1.heap.size < w11.heap.size := by omega
  go_wp2_with fail
  clear t0 t1 t2 t3 t4 t5 htl
  obtain ⟨w12, hw12⟩ : ∃ w12, w12 = w11.alloc (.cells #[.int .i64 1, .int .i64 0, .string ⟨#[]⟩, .slice A15 n15 c15, .slice (some ⟨g, 0, none⟩) 1 cap] 33) := ⟨_, rfl⟩
  have hz12 : w12.heap.size = w11.heap.size + 1 := by rw [hw12]; simp
  have hbb : Below w11.heap.size w11 w12 := by rw [hw12]; exact (Below.refl _ _).alloc (Nat.le_refl _) _
  have HD12 : Hid (Box5 w12 w11.heap.size (.int .i64 1) (.int .i64 0) (.string ⟨#[]⟩) (.slice A15 n15 c15) (.slice (some ⟨g, 0, none⟩) 1 cap)) := by rw [hw12]; exact Box5.new w11 _ _ _ _ _
  rw [← hw12]
  have HQV12 : Hid (TypeV w12 w12.heap.size tSome (.agg #[.int .i64 1, .int .i64 0, .int .i64 0, .slice A9 0 c9, .slice A10 2 c10, .slice A11 0 c11])) := HQV11.out.keep hbb.size fun p hp => hbb.cell hp
  have HB12 : Hid (Below w.heap.size w w12) := HB11.out.trans (hbb.mono (by omega))
  have HT12 := Lib.hid (HT11.out.same (hbb.block _ (by omega)))
  have HX12 := Lib.hid (HX11.out.same (hbb.block _ (by omega)))
  have HY12 := Lib.hid (HY11.out.same (hbb.block _ (by omega)))
  have HQ12 := Lib.hid (HQ11.out.same (hbb.block _ (by omega)))
  have hs12 : SomeIn w12 b off := HS11.out.keep fun p hp => hbb.cell (by omega)
  have HTV12 : Hid (TypeV w12 w12.heap.size tSome (.agg #[.int .i64 1, .int .i64 0, .int .i64 0, .slice none 0 0, .slice (some ⟨b, off, none⟩) 2 cc, .slice none 0 0])) := hs12.type (by omega) hcc
  have HPV12 : Hid (TypeV w12 w12.heap.size tPut (.agg #[.int .i64 1, .int .i64 0, .int .i64 0, .slice A3 0 c3, .slice A4 3 c4, .slice A5 0 c5])) := by rw [← hvp]; exact HPV11.out.keep hbb.size fun p hp => hbb.cell hp
  have HXV12 : Hid (TypeV w12 w12.heap.size tInt (.agg #[.int .i64 4, .int .i64 3, .int .i64 9, .slice A6 0 c6, .slice A7 0 c7, .slice A8 0 c8])) := HXV11.out.keep hbb.size fun p hp => hbb.cell hp
  have HG12 : Hid (w12.cell? ⟨g, 1, none⟩ = some (.int .i64 3)) := (hbb.cell (p := ⟨g, 1, none⟩) hg).trans HG11.out
  have hgl : g < w12.heap.size := by omega
  clear hw12 hbb hs12 HB11 HT11 HX11 HY11 HQ11 HS11 HPV11 HXV11 HQV11 HG11 hvp
  refine (tright_any (t := tSome) (by decide) (by decide) tSome_fit (Nat.le_refl _) HTV12.out).mono ?_
  rw [tSome_right]
  rintro e w13 ⟨rfl, hb13⟩
  have HC13 : Hid (Below w12.heap.size w12 w13) := hb13
  clear hb13
  have hz13 := HC13.out.size
  obtain ⟨y0, y1, y2, y3, y4, y5⟩ := (HY12.out.same (HC13.out.block _ (by omega))).cells
  have ly : w5.heap.size < w13.heap.size := by omega
  obtain ⟨q0, q1, q2, q3, q4, q5⟩ := (HQ12.out.same (HC13.out.block _ (by omega))).cells
  have lq : w7.heap.size < w13.heap.size := by omega
  obtain ⟨t0, t1, t2, t3, t4, t5⟩ := (HT12.out.same (HC13.out.block _ (by omega))).cells
  have lt : w1.heap.size < w13.heap.size := by omega
  go_wp2_with fail
  clear y0 y1 y2 y3 y4 y5 ly q0 q1 q2 q3 q4 q5 lq t0 t1 t2 t3 t4 t5 lt
  refine (tsame_any (a := tSome) (b := tSome) tSome_fit tSome_fit (Nat.le_refl _) (HQV12.out.keep HC13.out.size fun p hp => HC13.out.cell hp) (HTV12.out.keep HC13.out.size fun p hp => HC13.out.cell hp)).mono ?_
  rw [sameT_self]
  rintro e w14 ⟨rfl, hb14⟩
  have HC14 : Hid (Below w12.heap.size w12 w14) := HC13.out.trans (hb14.mono HC13.out.size)
  clear hb14
  clear HC13
  have hz14 := HC14.out.size
  obtain ⟨x0, x1, x2, x3, x4, x5⟩ := (HX12.out.same (HC14.out.block _ (by omega))).cells
  have lx : w3.heap.size < w14.heap.size := by omega
  go_wp2_with fail
  clear x0 x1 x2 x3 x4 x5 lx
  refine (tsize_any (t := tPut) (by decide) (by decide) tPut_fit (Nat.le_refl _) (HPV12.out.keep HC14.out.size fun p hp => HC14.out.cell hp)).mono ?_
  rw [show tPut.size = 7 from by decide]
  rintro e w15 ⟨rfl, hb15⟩
  have HC15 : Hid (Below w12.heap.size w12 w15) := HC14.out.trans (hb15.mono HC14.out.size)
  clear hb15
  clear HC14
  have hz15 := HC15.out.size
  obtain ⟨x0, x1, x2, x3, x4, x5⟩ := (HX12.out.same (HC15.out.block _ (by omega))).cells
  have lx : w3.heap.size < w15.heap.size := by omega
  go_wp2_with fail
  clear x0 x1 x2 x3 x4 x5 lx
  refine (tdepth_any (t := tPut) (by decide) (by decide) tPut_fit (Nat.le_refl _) (HPV12.out.keep HC15.out.size fun p hp => HC15.out.cell hp)).mono ?_
  rw [show tPut.depth = 4 from by decide]
  rintro e w16 ⟨rfl, hb16⟩
  have HC16 : Hid (Below w12.heap.size w12 w16) := HC15.out.trans (hb16.mono HC15.out.size)
  clear hb16
  clear HC15
  have hz16 := HC16.out.size
  obtain ⟨d0, d1, d2, d3, d4⟩ := (HD12.out.same (HC16.out.block _ (by omega))).cells
  have g1 := (HC16.out.cell (p := ⟨g, 1, none⟩) hgl).trans HG12.out
  obtain ⟨y0, y1, y2, y3, y4, y5⟩ := (HY12.out.same (HC16.out.block _ (by omega))).cells
  have ly : w5.heap.size < w16.heap.size := by omega
  go_wp2_with fail
  clear d0 d1 d2 d3 d4 g1 y0 y1 y2 y3 y4 y5 ly
  refine (scalar_any (t := tInt) (B := w16.heap.size) (HXV12.out.keep HC16.out.size fun p hp => HC16.out.cell hp)).mono ?_
  rw [show scalarB tInt = true from by decide]
  rintro e w17 ⟨rfl, hb17⟩
  have HC17 : Hid (Below w12.heap.size w12 w17) := HC16.out.trans (hb17.mono HC16.out.size)
  clear hb17
  clear HC16
  have hz17 := HC17.out.size
  obtain ⟨t0, t1, t2, t3, t4, t5⟩ := (HT12.out.same (HC17.out.block _ (by omega))).cells
  have lt : w1.heap.size < w17.heap.size := by omega
  go_wp2_with fail
  clear t0 t1 t2 t3 t4 t5 lt
  refine (scalar_any (t := tSome) (B := w17.heap.size) (HTV12.out.keep HC17.out.size fun p hp => HC17.out.cell hp)).mono ?_
  rw [show scalarB tSome = false from by decide]
  rintro e w18 ⟨rfl, hb18⟩
  have HC18 : Hid (Below w12.heap.size w12 w18) := HC17.out.trans (hb18.mono HC17.out.size)
  clear hb18
  clear HC17
  have hz18 := HC18.out.size
  obtain ⟨x0, x1, x2, x3, x4, x5⟩ := (HX12.out.same (HC18.out.block _ (by omega))).cells
  have lx : w3.heap.size < w18.heap.size := by omega
  go_wp2_with fail
  clear x0 x1 x2 x3 x4 x5 lx
  refine (tfield_any (t := tPut) (s := sn) tPut_fit (Nat.le_refl _) (HPV12.out.keep HC18.out.size fun p hp => HC18.out.cell hp)).mono ?_
  rw [show fieldOf tPut sn = 1 from by kernel_rfl]
  rintro e w19 ⟨rfl, hb19⟩
  have HC19 : Hid (Below w12.heap.size w12 w19) := HC18.out.trans (hb19.mono HC18.out.size)
  clear hb19
  clear HC18
  have hz19 := HC19.out.size
  go_wp2_with fail
  go_ret
  exact ⟨rfl, HB12.out.trans (HC19.out.mono (by omega))⟩
end Go.Proofs.YtnjmknofojjlmaaDoor
