/-
  THE LAW'S OWN CASE OF LAYER 5 IS TRUE.
-/
import Derived.Test.YteecdmceleanjaaGreatDoorB24
import Derived.Test.YteecdmceleanjaaGreatDoorB40
import Derived.Test.YteecdmceleanjaaGreatDoorB32
namespace Go.Proofs.YteecdmceleanjaaGreatDoor
open Go.RowKit

set_option maxHeartbeats 8000000 in
set_option maxRecDepth 100000 in
theorem vsmall_any (w : World) (htab : Lib.TabIs Tryz.prog w "internal/strconv.uint64pow10" .u64 Lib.pow10Tab) (htc : 1 < w.heap.size) :
    Calls Tryz.prog 9 #[] w fun e w' => e = .returned (.bool true) ∧ Below w.heap.size w w' := by
  have HTAB := Lib.hid htab
  clear htab
  go_enter Tryz.func9, Tryz.ntmps9
  go_wp2_with fail
  refine (some_any _).mono ?_
  rintro e w1 ⟨b, off, cc, rfl, hcc, hb, hs1, hb1⟩
  have HS1 := Lib.hid hs1; have HB1 := Lib.hid hb1
  have hz1 := hb1.size
  clear hs1 hb1
  go_wp2_with fail
  obtain ⟨w2, hw2⟩ : ∃ w2, w2 = (w1.alloc (.cells #[.int .i64 1, .int .i64 0, .int .i64 0, .slice none 0 0, .slice (some ⟨b, off, none⟩) 2 cc, .slice none 0 0] 26)).alloc (.cells #[.string sn, .string sx] 9) := ⟨_, rfl⟩
  have HB2 : Hid (Below w1.heap.size w1 w2) := by rw [hw2]; exact ((Below.refl _ _).alloc (Nat.le_refl _) _).alloc (by simp) _
  have HT2 : Hid (Box6 w2 w1.heap.size (.int .i64 1) (.int .i64 0) (.int .i64 0) (.slice none 0 0) (.slice (some ⟨b, off, none⟩) 2 cc) (.slice none 0 0)) := by rw [hw2]; exact (Box6.new w1 _ _ _ _ _ _).alloc _
  have HK2 : Hid (w2.heap[w1.heap.size + 1]? = some (.cells #[.string sn, .string sx] 9 (0, 0))) := by rw [hw2]; exact heap_alloc_new' (by simp) _
  have hz2 : w2.heap.size = w1.heap.size + 2 := by rw [hw2]; simp
  have hw2' := hw2.symm
  unfold sn sx at hw2'
  rw [hw2']
  clear hw2 hw2'
  refine (rint_v 1 w2).mono ?_
  rintro e w3 ⟨rfl, hb3⟩
  have HB3 := Lib.hid hb3
  have hz3 := hb3.size
  clear hb3
  go_wp2_with fail
  refine (rint_v 2 w3).mono ?_
  rintro e w4 ⟨rfl, hb4⟩
  have HB4 := Lib.hid hb4
  have hz4 := hb4.size
  clear hb4
  go_wp2_with fail
  obtain ⟨w5, hw5⟩ : ∃ w5, w5 = w4.alloc (.cells #[.int .i64 4, .int .i64 1, .string ⟨#[]⟩, .slice none 0 0, .slice none 0 0, .int .i64 4, .int .i64 2, .string ⟨#[]⟩, .slice none 0 0, .slice none 0 0] 29) := ⟨_, rfl⟩
  have HB5 : Hid (Below w4.heap.size w4 w5) := by rw [hw5]; exact (Below.refl _ _).alloc (Nat.le_refl _) _
  have HD5 : Hid (w5.heap[w4.heap.size]? = some (.cells #[.int .i64 4, .int .i64 1, .string ⟨#[]⟩, .slice none 0 0, .slice none 0 0, .int .i64 4, .int .i64 2, .string ⟨#[]⟩, .slice none 0 0, .slice none 0 0] 29 (0, 0))) := by rw [hw5]; exact heap_alloc_new w4 _
  have hz5 : w5.heap.size = w4.heap.size + 1 := by rw [hw5]; simp
  rw [← hw5]
  clear hw5
  have HB25 : Hid (Below w2.heap.size w2 w5) := Lib.hid ((HB3.out.trans (HB4.out.mono hz3)).trans (HB5.out.mono (by omega)))
  have hkk := (HB25.out.block (w1.heap.size + 1) (by omega)).trans HK2.out
  have HLEAF : Hid (∀ n : Int, DocIn w5 w5.heap.size (.mk 4 n ⟨#[]⟩ [] []) (.int .i64 4) (.int .i64 n) (.string ⟨#[]⟩) (.slice none 0 0) (.slice none 0 0)) := Lib.hid (fun n => by
    simp only [DocIn]
    exact ⟨trivial, trivial, trivial, strs_none, none, 0, rfl, by simp, fun h => absurd h (by simp)⟩)
  refine (rec_up sn sx (.mk 4 1 ⟨#[]⟩ [] []) (.mk 4 2 ⟨#[]⟩ [] []) (w1.heap.size + 1) 0 2 (.slice (some ⟨w4.heap.size, 0, none⟩) 2 2) w5 w5.heap.size (by omega) (by simp [D.Fits, D.Fit]; decide) (Nat.le_refl _) (by omega) (by decide) (by kernel_rfl) (cell_block hkk 0) (cell_block hkk 1)
    ⟨_, 2, rfl, Nat.le_refl _, fun _ => ⟨_, 0, rfl, by omega, by
      have h5 := HD5.out
      simp only [KidsIn, Nat.zero_mul, Nat.zero_add, Nat.one_mul]
      exact ⟨⟨_, _, _, _, _, cell_block h5 0, cell_block h5 1, cell_block h5 2, cell_block h5 3, cell_block h5 4, HLEAF.out 1⟩, ⟨_, _, _, _, _, cell_block h5 5, cell_block h5 6, cell_block h5 7, cell_block h5 8, cell_block h5 9, HLEAF.out 2⟩, trivial⟩⟩⟩).mono ?_
  rintro e w6 ⟨z0, z1, z2, z3, z4, G6, rfl, hG6, hGn6, hb6⟩
  obtain ⟨A3, c3, A4, c4, rfl, rfl, rfl, rfl, rfl⟩ := hG6.doc.forms
  have HG6 : Hid (OwnIn w6 w5.heap.size dBad (.int .i64 1) (.int .i64 0) (.string ⟨#[]⟩) (.slice A3 2 c3) (.slice A4 2 c4) G6) := Lib.hid hG6
  have HB6 := Lib.hid hb6
  have hz6 := hb6.size
  clear hG6 hGn6 hb6 hkk
  simp only [D.kind, D.num, D.str, D.keys, D.kids, List.length_cons, List.length_nil, Nat.zero_add, Nat.reduceAdd]
  go_upto_region 3 with fail
  obtain ⟨w7, hw7⟩ : ∃ w7, w7 = w6.alloc (.cells #[.int .i64 1, .int .i64 0, .string ⟨#[]⟩, .slice A3 2 c3, .slice A4 2 c4] 29) := ⟨_, rfl⟩
  have HB7 : Hid (Below w6.heap.size w6 w7) := by rw [hw7]; exact (Below.refl _ _).alloc (Nat.le_refl _) _
  have HD7 : Hid (Box5 w7 w6.heap.size (.int .i64 1) (.int .i64 0) (.string ⟨#[]⟩) (.slice A3 2 c3) (.slice A4 2 c4)) := by rw [hw7]; exact Box5.new w6 _ _ _ _ _
  have hz7 : w7.heap.size = w6.heap.size + 1 := by rw [hw7]; simp
  rw [← hw7]
  clear hw7
  have HB27 : Hid (Below w2.heap.size w2 w7) := Lib.hid (HB25.out.trans ((HB6.out.trans (HB7.out.mono hz6)).mono (by omega)))
  have HT7 := Lib.hid (HT2.out.same (HB27.out.block _ (by omega)))
  have HS7 : Hid (SomeIn w7 b off) := Lib.hid ((HS1.out.keep fun p hp => HB2.out.cell (by omega)).keep fun p hp => HB27.out.cell (by omega))
  have HTV7 : Hid (TypeV w7 w7.heap.size tSome (.agg #[.int .i64 1, .int .i64 0, .int .i64 0, .slice none 0 0, .slice (some ⟨b, off, none⟩) 2 cc, .slice none 0 0])) := Lib.hid (HS7.out.type (by omega) hcc)
  have HDV7 : Hid (DocV w7 w7.heap.size dBad (.agg #[.int .i64 1, .int .i64 0, .string ⟨#[]⟩, .slice A3 2 c3, .slice A4 2 c4])) := Lib.hid (⟨_, _, _, _, _, rfl, HG6.out.doc.keep (by omega) fun q hq => HB7.out.cell (p := q) hq⟩)
  have HB17 : Hid (Below w.heap.size w w7) := Lib.hid (HB1.out.trans ((HB2.out.trans (HB27.out.mono (by omega))).mono (by omega)))
  have HTAB7 := Lib.hid (tab_same HTAB.out (HB17.out.block _ htc))
  obtain ⟨t0, t1, t2, t3, t4, t5⟩ := HT7.out.cells
  obtain ⟨d0, d1, d2, d3, d4⟩ := HD7.out.cells
  go_wp2_with fail
  refine (vall_any (t := tSome) (d := dBad) (by decide) (by decide) tSome_fit dBad_fit (Nat.le_refl _) (by omega) HTAB7.out HTV7.out HDV7.out).mono ?_
  rintro e w8 ⟨vf, cs, Ff, rfl, hof, hff, hb8⟩
  rw [bad_all] at hof hff
  obtain ⟨Af, cf, rfl⟩ := ownsRow_slice hof
  have HOF := Lib.hid hof; have HFF := Lib.hid hff; have HB8 := Lib.hid hb8
  have hz8 := hb8.size
  clear hof hff t0 t1 t2 t3 t4 t5 d0 d1 d2 d3 d4
  simp only [List.length_cons, List.length_nil, Nat.zero_add, Nat.reduceAdd]
  have HT8 := Lib.hid (HT7.out.same (hb8.block _ (by omega)))
  have HD8 := Lib.hid (HD7.out.same (hb8.block _ (by omega)))
  have HTV8 := Lib.hid (HTV7.out.keep (w' := w8) (Nat.le_refl _) fun q hq => hb8.cell (p := q) hq)
  have HDV8 := Lib.hid (HDV7.out.keep (w' := w8) (Nat.le_refl _) fun q hq => hb8.cell (p := q) hq)
  have HTAB8 := Lib.hid (tab_same HTAB7.out (hb8.block _ (by omega)))
  clear hb8
  obtain ⟨t0, t1, t2, t3, t4, t5⟩ := HT8.out.cells
  obtain ⟨d0, d1, d2, d3, d4⟩ := HD8.out.cells
  go_wp2_with fail
  refine (mendV_any (t := tSome) (d := dBad) (B := w7.heap.size) (by decide) (by decide) tSome_fit dBad_fit hz8 HTV8.out HDV8.out).mono ?_
  rw [bad_mend]
  rintro e w9 ⟨z0, z1, z2, z3, z4, G9, rfl, hG9, hGn9, hb9⟩
  obtain ⟨A5, c5, A6, c6, rfl, rfl, rfl, rfl, rfl⟩ := hG9.doc.forms
  have HG9 : Hid (OwnIn w9 w8.heap.size dMended (.int .i64 1) (.int .i64 0) (.string ⟨#[]⟩) (.slice A5 1 c5) (.slice A6 1 c6) G9) := Lib.hid hG9
  have HB9 := Lib.hid hb9
  have hz9 := hb9.size
  clear hG9 hGn9 hb9 t0 t1 t2 t3 t4 t5 d0 d1 d2 d3 d4
  simp only [dMended, D.kind, D.num, D.str, D.keys, D.kids, List.length_cons, List.length_nil, Nat.zero_add]
  go_upto_region 7 with fail
  obtain ⟨wR, hwR⟩ : ∃ wR, wR = w9.alloc (.cells #[.int .i64 1, .int .i64 0, .string ⟨#[]⟩, .slice A5 1 c5, .slice A6 1 c6] 29) := ⟨_, rfl⟩
  have HBR : Hid (Below w9.heap.size w9 wR) := by rw [hwR]; exact (Below.refl _ _).alloc (Nat.le_refl _) _
  have HMR : Hid (Box5 wR w9.heap.size (.int .i64 1) (.int .i64 0) (.string ⟨#[]⟩) (.slice A5 1 c5) (.slice A6 1 c6)) := by rw [hwR]; exact Box5.new w9 _ _ _ _ _
  have hzR : w9.heap.size + 1 ≤ wR.heap.size := by rw [hwR]; simp
  rw [← hwR]
  clear hwR
  have HB8R : Hid (Below w8.heap.size w8 wR) := Lib.hid (HB9.out.trans (HBR.out.mono hz9))
  have HB7R : Hid (Below w7.heap.size w7 wR) := Lib.hid (HB8.out.trans (HB8R.out.mono hz8))
  obtain ⟨gf, hgf⟩ : ∃ gf, Af = some ⟨gf, 0, none⟩ := by
    rcases HOF.out.2 with ⟨h, h0⟩ | ⟨g', cap', cur', h, _⟩
    · simp at h0
    · injection h with h1 h2 h3; exact ⟨g', h1⟩
  subst hgf
  have hff := HFF.out
  simp only [FltIn] at hff
  obtain ⟨v0, cs', F', rfl, hp0, ⟨v1, cs'', F'', rfl, hp1, ⟨rfl, rfl⟩, rfl⟩, rfl⟩ := hff
  obtain ⟨P0, p0, rfl⟩ := ownsRow_slice hp0
  have HP0 : Hid (Strs w8 w8.heap.size (.slice P0 1 p0) [sn]) := Lib.hid (Strs_of_own hp0)
  have hgl := (HOF.out.lt gf rfl).2
  have hcell : ∀ (j : Nat) u, ([Value.slice P0 1 p0, .int .i64 8, v1, .int .i64 10] : List Value)[j]? = some u → w8.cell? ⟨gf, j, none⟩ = some u := fun j u hj => by
    have h := HOF.out.cells rfl j u hj
    have e : (⟨gf, 0, none⟩ : Addr).add j = ⟨gf, j, none⟩ := by unfold Addr.add; split <;> simp_all
    rwa [e] at h
  have kR : ∀ b o, b < w8.heap.size → wR.cell? ⟨b, o, none⟩ = w8.cell? ⟨b, o, none⟩ := fun b o h => HB8R.out.cell (p := ⟨b, o, none⟩) h
  have f0 := (kR gf 0 hgl).trans (hcell 0 _ rfl)
  have f1 := (kR gf 1 hgl).trans (hcell 1 _ rfl)
  have f3 := (kR gf 3 hgl).trans (hcell 3 _ rfl)
  obtain ⟨t0, t1, t2, t3, t4, t5⟩ := (HT8.out.same (HB8R.out.block _ (by omega))).cells
  obtain ⟨d0, d1, d2, d3, d4⟩ := (HD8.out.same (HB8R.out.block _ (by omega))).cells
  obtain ⟨m0, m1, m2, m3, m4⟩ := HMR.out.cells
  have hl1 : w1.heap.size < wR.heap.size := by omega
  have hl6 : w6.heap.size < wR.heap.size := by omega
  have hl9 : w9.heap.size < wR.heap.size := by omega
  have hlf : gf < wR.heap.size := by omega
  have hS : ∀ X : World, Below wR.heap.size wR X → X.cell? ⟨w1.heap.size, 0, none⟩ = some (.int .i64 1) ∧ X.cell? ⟨w1.heap.size, 1, none⟩ = some (.int .i64 0) ∧ X.cell? ⟨w1.heap.size, 2, none⟩ = some (.int .i64 0) ∧ X.cell? ⟨w1.heap.size, 3, none⟩ = some (.slice none 0 0) ∧ X.cell? ⟨w1.heap.size, 4, none⟩ = some (.slice (some ⟨b, off, none⟩) 2 cc) ∧ X.cell? ⟨w1.heap.size, 5, none⟩ = some (.slice none 0 0) ∧ X.cell? ⟨w6.heap.size, 0, none⟩ = some (.int .i64 1) ∧ X.cell? ⟨w6.heap.size, 1, none⟩ = some (.int .i64 0) ∧ X.cell? ⟨w6.heap.size, 2, none⟩ = some (.string ⟨#[]⟩) ∧ X.cell? ⟨w6.heap.size, 3, none⟩ = some (.slice A3 2 c3) ∧ X.cell? ⟨w6.heap.size, 4, none⟩ = some (.slice A4 2 c4) ∧ X.cell? ⟨w9.heap.size, 0, none⟩ = some (.int .i64 1) ∧ X.cell? ⟨w9.heap.size, 1, none⟩ = some (.int .i64 0) ∧ X.cell? ⟨w9.heap.size, 2, none⟩ = some (.string ⟨#[]⟩) ∧ X.cell? ⟨w9.heap.size, 3, none⟩ = some (.slice A5 1 c5) ∧ X.cell? ⟨w9.heap.size, 4, none⟩ = some (.slice A6 1 c6) ∧ X.cell? ⟨gf, 0, none⟩ = some (.slice P0 1 p0) ∧ X.cell? ⟨gf, 1, none⟩ = some (.int .i64 8) ∧ X.cell? ⟨gf, 3, none⟩ = some (.int .i64 10) := fun X h => by
    have hX : ∀ b o, b < wR.heap.size → X.cell? ⟨b, o, none⟩ = wR.cell? ⟨b, o, none⟩ := fun b o hb => h.cell (p := ⟨b, o, none⟩) hb
    exact ⟨(hX _ _ hl1).trans t0, (hX _ _ hl1).trans t1, (hX _ _ hl1).trans t2, (hX _ _ hl1).trans t3, (hX _ _ hl1).trans t4, (hX _ _ hl1).trans t5, (hX _ _ hl6).trans d0, (hX _ _ hl6).trans d1, (hX _ _ hl6).trans d2, (hX _ _ hl6).trans d3, (hX _ _ hl6).trans d4, (hX _ _ hl9).trans m0, (hX _ _ hl9).trans m1, (hX _ _ hl9).trans m2, (hX _ _ hl9).trans m3, (hX _ _ hl9).trans m4, (hX _ _ hlf).trans f0, (hX _ _ hlf).trans f1, (hX _ _ hlf).trans f3⟩
  have HS := Lib.hid hS
  have HTX : Hid (∀ X, Below wR.heap.size wR X → TypeV X wR.heap.size tSome (.agg #[.int .i64 1, .int .i64 0, .int .i64 0, .slice none 0 0, .slice (some ⟨b, off, none⟩) 2 cc, .slice none 0 0])) := Lib.hid (fun X h => (HTV7.out.keep (w' := wR) (B' := wR.heap.size) (by omega) fun q hq => HB7R.out.cell (p := q) hq).keep (Nat.le_refl _) fun q hq => h.cell (p := q) hq)
  have HDX : Hid (∀ X, Below wR.heap.size wR X → DocV X wR.heap.size dBad (.agg #[.int .i64 1, .int .i64 0, .string ⟨#[]⟩, .slice A3 2 c3, .slice A4 2 c4])) := Lib.hid (fun X h => (HDV7.out.keep (w' := wR) (B' := wR.heap.size) (by omega) fun q hq => HB7R.out.cell (p := q) hq).keep (Nat.le_refl _) fun q hq => h.cell (p := q) hq)
  have HMX : Hid (∀ X, Below wR.heap.size wR X → DocV X wR.heap.size dMended (.agg #[.int .i64 1, .int .i64 0, .string ⟨#[]⟩, .slice A5 1 c5, .slice A6 1 c6])) := Lib.hid (fun X h => ⟨_, _, _, _, _, rfl, (HG9.out.doc.keep (w' := wR) (B' := wR.heap.size) (by omega) fun q hq => HBR.out.cell (p := q) hq).keep (Nat.le_refl _) fun q hq => h.cell (p := q) hq⟩)
  have HTABX : Hid (∀ X, Below wR.heap.size wR X → Lib.TabIs Tryz.prog X "internal/strconv.uint64pow10" .u64 Lib.pow10Tab) := Lib.hid (fun X h => tab_same HTAB8.out ((h.block _ (by omega)).trans (HB8R.out.block _ (by omega))))
  have HCB : Hid (∀ X, Below wR.heap.size wR X → Calls Tryz.prog 11 #[.agg #[.int .i64 1, .int .i64 0, .int .i64 0, .slice none 0 0, .slice (some ⟨b, off, none⟩) 2 cc, .slice none 0 0], .agg #[.int .i64 1, .int .i64 0, .string ⟨#[]⟩, .slice A3 2 c3, .slice A4 2 c4]] X fun e w' => ∃ A c, e = .returned (.agg #[.slice A 1 c, .int .i64 8]) ∧ Below wR.heap.size wR w') := Lib.hid (fun X h => by
    refine (check_any (t := tSome) (d := dBad) (by decide) (by decide) tSome_fit dBad_fit h.size (by have := h.size; omega) (HTABX.out X h) (HTX.out X h) (HDX.out X h)).mono ?_
    rw [bad_first]
    rintro e w' ⟨v, rfl, ho, hb⟩
    obtain ⟨A, c, rfl⟩ := ownsRow_slice ho
    exact ⟨A, c, rfl, h.trans (hb.mono h.size)⟩)
  have HCN : Hid (∀ X (A A' : Option Addr) (c c' : Nat), Below wR.heap.size wR X → DocV X X.heap.size dNone (.agg #[.int .i64 1, .int .i64 0, .string ⟨#[]⟩, .slice A 0 c, .slice A' 0 c']) → Calls Tryz.prog 11 #[.agg #[.int .i64 1, .int .i64 0, .int .i64 0, .slice none 0 0, .slice (some ⟨b, off, none⟩) 2 cc, .slice none 0 0], .agg #[.int .i64 1, .int .i64 0, .string ⟨#[]⟩, .slice A 0 c, .slice A' 0 c']] X fun e w' => ∃ A c, e = .returned (.agg #[.slice A 1 c, .int .i64 9]) ∧ Below wR.heap.size wR w') := Lib.hid (fun X A A' c c' h hd => by
    refine (check_any (t := tSome) (d := dNone) (B := X.heap.size) (by decide) (by decide) tSome_fit dNone_fit (Nat.le_refl _) (by have := h.size; omega) (HTABX.out X h) ((HTX.out X h).keep h.size fun _ _ => rfl) hd).mono ?_
    rw [none_first]
    rintro e w' ⟨v, rfl, ho, hb⟩
    obtain ⟨A, c, rfl⟩ := ownsRow_slice ho
    exact ⟨A, c, rfl, h.trans (hb.mono h.size)⟩)
  have HIM : Hid (∀ X, Below wR.heap.size wR X → Calls Tryz.prog 16 #[.agg #[.int .i64 1, .int .i64 0, .int .i64 0, .slice none 0 0, .slice (some ⟨b, off, none⟩) 2 cc, .slice none 0 0], .agg #[.int .i64 1, .int .i64 0, .string ⟨#[]⟩, .slice A5 1 c5, .slice A6 1 c6]] X fun e w' => e = .returned (.bool true) ∧ Below wR.heap.size wR w') := Lib.hid (fun X h => by
    refine (is_any (t := tSome) (d := dMended) (by decide) (by decide) tSome_fit dMended_fit h.size (by have := h.size; omega) (HTABX.out X h) (HTX.out X h) (HMX.out X h)).mono ?_
    rw [mended_is]
    rintro e w' ⟨rfl, hb⟩
    exact ⟨rfl, h.trans (hb.mono h.size)⟩)
  have HIB : Hid (∀ X, Below wR.heap.size wR X → Calls Tryz.prog 16 #[.agg #[.int .i64 1, .int .i64 0, .int .i64 0, .slice none 0 0, .slice (some ⟨b, off, none⟩) 2 cc, .slice none 0 0], .agg #[.int .i64 1, .int .i64 0, .string ⟨#[]⟩, .slice A3 2 c3, .slice A4 2 c4]] X fun e w' => e = .returned (.bool false) ∧ Below wR.heap.size wR w') := Lib.hid (fun X h => by
    refine (is_any (t := tSome) (d := dBad) (by decide) (by decide) tSome_fit dBad_fit h.size (by have := h.size; omega) (HTABX.out X h) (HTX.out X h) (HDX.out X h)).mono ?_
    rw [bad_is]
    rintro e w' ⟨rfl, hb⟩
    exact ⟨rfl, h.trans (hb.mono h.size)⟩)
  have HFB : Hid (∀ X, Below wR.heap.size wR X → Calls Tryz.prog 18 #[.agg #[.int .i64 1, .int .i64 0, .int .i64 0, .slice none 0 0, .slice (some ⟨b, off, none⟩) 2 cc, .slice none 0 0], .agg #[.int .i64 1, .int .i64 0, .string ⟨#[]⟩, .slice A3 2 c3, .slice A4 2 c4]] X fun e w' => e = .returned (.int .i64 0) ∧ Below wR.heap.size wR w') := Lib.hid (fun X h => by
    refine (fitsA_any (t := tSome) (d := dBad) (by decide) (by decide) tSome_fit dBad_fit h.size (HTX.out X h) (HDX.out X h)).mono ?_
    rw [bad_fits]
    rintro e w' ⟨rfl, hb⟩
    exact ⟨rfl, h.trans (hb.mono h.size)⟩)
  have HRN : Hid (∀ X, Below wR.heap.size wR X → Calls Tryz.prog 35 #[.slice none 0 0, .slice none 0 0] X fun e w' => ∃ A A' c c', e = .returned (.agg #[.int .i64 1, .int .i64 0, .string ⟨#[]⟩, .slice A 0 c, .slice A' 0 c']) ∧ DocV w' w'.heap.size dNone (.agg #[.int .i64 1, .int .i64 0, .string ⟨#[]⟩, .slice A 0 c, .slice A' 0 c']) ∧ Below wR.heap.size wR w') := Lib.hid (fun X h => by
    refine (rec_none X).mono ?_
    rintro e w' ⟨z0, z1, z2, z3, z4, G, rfl, hG, _, hb⟩
    obtain ⟨A, c, A', c', rfl, rfl, rfl, rfl, rfl⟩ := hG.doc.forms
    exact ⟨A, A', c, c', rfl, ⟨_, _, _, _, _, rfl, hG.doc⟩, h.trans (hb.mono h.size)⟩)
  have HRW : Hid (Calls Tryz.prog 37 #[.slice P0 1 p0, .slice (some ⟨wR.heap.size, 0, none⟩) 1 1] (wR.alloc (.cells #[.string ⟨#[110]⟩] 9)).drew fun e w' => e = .returned (.bool true) ∧ Below wR.heap.size wR w') := Lib.hid (by
    have hx : Below wR.heap.size wR (wR.alloc (.cells #[.string ⟨#[110]⟩] 9)).drew := ((Below.refl wR.heap.size wR).alloc (Nat.le_refl _) _).drew
    have hxs : wR.heap.size < ((wR.alloc (.cells #[.string ⟨#[110]⟩] 9)).drew).heap.size := by show _ < (World.alloc _ _).heap.size; simp
    refine (rrows_any (a := [sn]) (b := [sn]) (B := ((wR.alloc (.cells #[.string ⟨#[110]⟩] 9)).drew).heap.size) (Nat.le_refl _) ((HP0.out.keep fun q hq => (hx.cell (p := q) (by omega)).trans (HB8R.out.cell (p := q) hq)).more (by omega)) ⟨_, 1, rfl, Nat.le_refl _, fun _ => ⟨wR.heap.size, 0, rfl, hxs, fun i hi => ?_⟩⟩ (by simp) (by simp)).mono ?_
    · match i, hi with
      | 0, _ => exact cell_block (heap_alloc_new wR _) 0
    · rintro e w' ⟨rfl, hb⟩
      exact ⟨by simp, hx.trans (hb.mono (by omega))⟩)
  have hfd8 : ∀ A c w, (Instr.field 34 (.agg #[.slice A 1 c, .int .i64 8]) 1).run Tryz.prog w = .ok (.int .i64 8) w := fun A c w => err_field A 1 c 8 w
  have hfd9 : ∀ A c w, (Instr.field 34 (.agg #[.slice A 1 c, .int .i64 9]) 1).run Tryz.prog w = .ok (.int .i64 9) w := fun A c w => err_field A 1 c 9 w
  have HBWR : Hid (Below w.heap.size w wR) := Lib.hid (HB17.out.trans (HB7R.out.mono (by omega)))
  clear hS hcell kR f0 f1 f3 t0 t1 t2 t3 t4 t5 d0 d1 d2 d3 d4 m0 m1 m2 m3 m4 hp0 hp1
  go_region_held3 (fun w' => w'.cell? ⟨w1.heap.size, 0, none⟩ = some (.int .i64 1) ∧ w'.cell? ⟨w1.heap.size, 1, none⟩ = some (.int .i64 0) ∧ w'.cell? ⟨w1.heap.size, 2, none⟩ = some (.int .i64 0) ∧ w'.cell? ⟨w1.heap.size, 3, none⟩ = some (.slice none 0 0) ∧ w'.cell? ⟨w1.heap.size, 4, none⟩ = some (.slice (some ⟨b, off, none⟩) 2 cc) ∧ w'.cell? ⟨w1.heap.size, 5, none⟩ = some (.slice none 0 0) ∧ w'.cell? ⟨w6.heap.size, 0, none⟩ = some (.int .i64 1) ∧ w'.cell? ⟨w6.heap.size, 1, none⟩ = some (.int .i64 0) ∧ w'.cell? ⟨w6.heap.size, 2, none⟩ = some (.string ⟨#[]⟩) ∧ w'.cell? ⟨w6.heap.size, 3, none⟩ = some (.slice A3 2 c3) ∧ w'.cell? ⟨w6.heap.size, 4, none⟩ = some (.slice A4 2 c4) ∧ w'.cell? ⟨w9.heap.size, 0, none⟩ = some (.int .i64 1) ∧ w'.cell? ⟨w9.heap.size, 1, none⟩ = some (.int .i64 0) ∧ w'.cell? ⟨w9.heap.size, 2, none⟩ = some (.string ⟨#[]⟩) ∧ w'.cell? ⟨w9.heap.size, 3, none⟩ = some (.slice A5 1 c5) ∧ w'.cell? ⟨w9.heap.size, 4, none⟩ = some (.slice A6 1 c6) ∧ w'.cell? ⟨gf, 0, none⟩ = some (.slice P0 1 p0) ∧ w'.cell? ⟨gf, 1, none⟩ = some (.int .i64 8) ∧ w'.cell? ⟨gf, 3, none⟩ = some (.int .i64 10))
    (first | with_reducible exact HS.out _ ((Below.refl wR.heap.size wR).drew) | with_reducible exact HS.out _ (((Below.refl wR.heap.size wR).alloc (Nat.le_refl _) _).drew) | with_reducible exact HS.out _ h10 | with_reducible exact HS.out _ h11 | with_reducible exact HS.out _ h12 | with_reducible exact HS.out _ h13 | with_reducible exact HS.out _ h14 | with_reducible exact HS.out _ h15 | with_reducible exact HS.out _ h16)
    ((first
      | (go_at_call 37; with_reducible refine HRW.out.mono ?_; rintro e w10 ⟨rfl, h10⟩)
      | (go_at_call 11; with_reducible refine (HCB.out w10 h10).mono ?_; rintro e w11 ⟨E1, e1, rfl, h11⟩)
      | (go_at_call 16; with_reducible refine (HIM.out w11 h11).mono ?_; rintro e w12 ⟨rfl, h12⟩)
      | (go_at_call 16; with_reducible refine (HIB.out w12 h12).mono ?_; rintro e w13 ⟨rfl, h13⟩)
      | (go_at_call 18; with_reducible refine (HFB.out w13 h13).mono ?_; rintro e w14 ⟨rfl, h14⟩)
      | (go_at_call 35; with_reducible refine (HRN.out w14 h14).mono ?_; rintro e w15 ⟨N1, N2, n1, n2, rfl, hdn, h15⟩; have HDN := Lib.hid hdn; clear hdn)
      | (go_at_call 11; with_reducible refine (HCN.out w15 N1 N2 n1 n2 h15 HDN.out).mono ?_; rintro e w16 ⟨E2, e2, rfl, h16⟩)))
  all_goals (go_wp2_with fail)
  all_goals go_ret
  all_goals exact ⟨rfl, HBWR.out.trans (h16.mono HBWR.out.size)⟩
end Go.Proofs.YteecdmceleanjaaGreatDoor
