/-
  The law's own case of layer 3: its document.
-/
import Derived.Test.YtdgnengfcabgjaaB35
import Derived.Test.YtdgnengfcabgjaaB33
import Derived.Test.YtdgnengfcabgjaaB39
import Derived.Test.YtdgnengfcabgjaaB40
namespace Go.Proofs.Ytdgnengfcabgjaa
open Go.RowKit

set_option maxRecDepth 100000 in
theorem lint_x (n : Int) (w : World) : Calls Try.prog 30 #[.int .i64 n] w (fun e w' => e = .returned (.agg #[.int .i64 4, .int .i64 n, .string ⟨#[]⟩, .slice none 0 0, .slice none 0 0]) ∧ Below w.heap.size w w') := by
  go_enter Try.func30, Try.ntmps30
  go_wp2_with fail
  exact ret_cell5 rfl rfl (Box5.new w _ _ _ _ _).load rfl ⟨rfl, (Below.refl _ _).alloc (Nat.le_refl _) _⟩
theorem lleaf_in (w : World) (B : Nat) (kind num : Int) (str : ByteArray) : DocIn w B (.mk kind num str [] []) (.int .i64 kind) (.int .i64 num) (.string str) (.slice none 0 0) (.slice none 0 0) := by
  simp only [DocIn]
  exact ⟨trivial, trivial, trivial, ⟨none, 0, rfl, by simp, fun h => by simp at h⟩, none, 0, by simp, by simp, fun h => by simp at h⟩
theorem lkids1 {w : World} {b B : Nat} {d : D} {u0 u1 u2 u3 u4 : Value} {t : TypeId} (hb : b < B) (h : w.heap[b]? = some (.cells #[u0, u1, u2, u3, u4] t (0, 0))) (hd : DocIn w B d u0 u1 u2 u3 u4) : KidsV w B [d] (.slice (some ⟨b, 0, none⟩) 1 1) := by
  refine ⟨some ⟨b, 0, none⟩, 1, rfl, by simp, fun _ => ⟨b, 0, rfl, hb, ?_⟩⟩
  simp only [KidsIn]
  exact ⟨⟨u0, u1, u2, u3, u4, cell_of_row _ _ 0 _ _ _ h, cell_of_row _ _ 1 _ _ _ h, cell_of_row _ _ 2 _ _ _ h, cell_of_row _ _ 3 _ _ _ h, cell_of_row _ _ 4 _ _ _ h, hd⟩, trivial⟩
theorem lkids2 {w : World} {b B : Nat} {d e : D} {u0 u1 u2 u3 u4 z0 z1 z2 z3 z4 : Value} {t : TypeId} (hb : b < B) (h : w.heap[b]? = some (.cells #[u0, u1, u2, u3, u4, z0, z1, z2, z3, z4] t (0, 0))) (hd : DocIn w B d u0 u1 u2 u3 u4) (he : DocIn w B e z0 z1 z2 z3 z4) :
    KidsV w B [d, e] (.slice (some ⟨b, 0, none⟩) 2 2) := by
  refine ⟨some ⟨b, 0, none⟩, 2, rfl, by simp, fun _ => ⟨b, 0, rfl, hb, ?_⟩⟩
  simp only [KidsIn]
  exact ⟨⟨u0, u1, u2, u3, u4, cell_of_row _ _ 0 _ _ _ h, cell_of_row _ _ 1 _ _ _ h, cell_of_row _ _ 2 _ _ _ h, cell_of_row _ _ 3 _ _ _ h, cell_of_row _ _ 4 _ _ _ h, hd⟩,
    ⟨z0, z1, z2, z3, z4, cell_of_row _ _ 5 _ _ _ h, cell_of_row _ _ 6 _ _ _ h, cell_of_row _ _ 7 _ _ _ h, cell_of_row _ _ 8 _ _ _ h, cell_of_row _ _ 9 _ _ _ h, he⟩, trivial⟩
theorem strs1 {w : World} {b B : Nat} {x : ByteArray} {t : TypeId} (hb : b < B) (h : w.heap[b]? = some (.cells #[.string x] t (0, 0))) : Strs w B (.slice (some ⟨b, 0, none⟩) 1 1) [x] :=
  ⟨some ⟨b, 0, none⟩, 1, rfl, by simp, fun _ => ⟨b, 0, rfl, hb, fun i hi => by
    match i, hi with
    | 0, _ => exact cell_of_row _ _ 0 _ _ _ h⟩⟩
theorem strs2 {w : World} {b B : Nat} {x y : ByteArray} {t : TypeId} (hb : b < B) (h : w.heap[b]? = some (.cells #[.string x, .string y] t (0, 0))) : Strs w B (.slice (some ⟨b, 0, none⟩) 2 2) [x, y] :=
  ⟨some ⟨b, 0, none⟩, 2, rfl, by simp, fun _ => ⟨b, 0, rfl, hb, fun i hi => by
    match i, hi with
    | 0, _ => exact cell_of_row _ _ 0 _ _ _ h
    | 1, _ => exact cell_of_row _ _ 1 _ _ _ h⟩⟩
theorem strs3 {w : World} {b B : Nat} {x y z : ByteArray} {t : TypeId} (hb : b < B) (h : w.heap[b]? = some (.cells #[.string x, .string y, .string z] t (0, 0))) : Strs w B (.slice (some ⟨b, 0, none⟩) 3 3) [x, y, z] :=
  ⟨some ⟨b, 0, none⟩, 3, rfl, by simp, fun _ => ⟨b, 0, rfl, hb, fun i hi => by
    match i, hi with
    | 0, _ => exact cell_of_row _ _ 0 _ _ _ h
    | 1, _ => exact cell_of_row _ _ 1 _ _ _ h
    | 2, _ => exact cell_of_row _ _ 2 _ _ _ h⟩⟩
theorem LvsIn.wide {w : World} {B B' : Nat} {v : Value} {l : List Lf} (hb : B ≤ B') (h : LvsIn w B v l) : LvsIn w B' v l := by
  obtain ⟨A, c, e, hl, h1⟩ := h
  refine ⟨A, c, e, hl, fun h0 => ?_⟩
  obtain ⟨b, off, eA, hbB, hk⟩ := h1 h0
  refine ⟨b, off, eA, by omega, fun k hlt => ?_⟩
  obtain ⟨v0, v1, v2, v3, v4, v5, c0, c1, c2, c3, c4, c5, hp, hd⟩ := hk k hlt
  exact ⟨v0, v1, v2, v3, v4, v5, c0, c1, c2, c3, c4, c5, strs_wide hb hp, hd.keep hb fun _ _ => rfl⟩
set_option maxRecDepth 100000 in
set_option maxHeartbeats 8000000 in
theorem lsmall_any (w : World) : Calls Try.prog 7 #[] w fun e w' => e = .returned (.bool true) ∧ Below w.heap.size w w' := by
  go_enter Try.func7, Try.ntmps7
  go_wp2_with fail
  refine (lint_x _ _).mono ?_
  rintro e w1 ⟨rfl, hb1⟩
  have HB1 := Lib.hid hb1; clear hb1
  go_wp2_with fail
  refine (list_v [dOne] _ _ (w1.heap.size + 1) (by simp) (by simp only [dOne, D.Fit, D.Fits]; decide) (by simp) (lkids1 (by omega) (heap_alloc_new w1 _) (lleaf_in _ _ _ _ _))).mono ?_
  rintro e w2 ⟨y0, y1, y2, y3, y4, G, rfl, hG, hGn, hb2⟩
  have hG : OwnIn w2 _ dLst y0 y1 y2 y3 y4 G := hG
  obtain ⟨A7, c7, A8, c8, rfl, rfl, rfl, rfl, rfl⟩ := hG.doc.forms
  have HG2 := Lib.hid hG.doc; have HB2 := Lib.hid hb2
  clear hG hGn hb2
  go_wp2_with fail
  refine (lint_x _ _).mono ?_
  rintro e w3 ⟨rfl, hb3⟩
  have HB3 := Lib.hid hb3; clear hb3
  go_wp2_with fail
  have hb1 := HB1.out; have hb2 := HB2.out; have hb3 := HB3.out
  simp only [World.size_alloc] at hb1 hb2 hb3
  have s1 := hb1.size; have s2 := hb2.size; have s3 := hb3.size
  simp only [World.size_alloc] at s1 s2 s3
  have r1 : w3.heap[w.heap.size]? = some (.cells #[.string ⟨#[97]⟩, .string ⟨#[98]⟩] 9 (0, 0)) :=
    (hb3.block _ (by omega)).trans ((Below.heap_alloc w2 _ _ (by omega)).trans ((hb2.block _ (by omega)).trans ((Below.heap_alloc w1 _ _ (by omega)).trans ((hb1.block _ (by omega)).trans (heap_alloc_new w _)))))
  have r2 : w3.heap[w2.heap.size]? = some (.cells #[.string ⟨#[120]⟩] 9 (0, 0)) := (hb3.block _ (by omega)).trans (heap_alloc_new w2 _)
  have hbw : Below w.heap.size w w3 := (((((Below.refl _ _).alloc (Nat.le_refl _) _).trans (hb1.mono (by omega))).alloc (by omega) _).trans (hb2.mono (by omega))).alloc (by omega) _ |>.trans (hb3.mono (by omega))
  have hd3 : DocIn w3 w3.heap.size dLst _ _ _ _ _ := HG2.out.keep (by omega) fun p hp => (hb3.cell (p := p) (by omega)).trans (World.cell?_alloc_lt w2 _ p hp)
  have R1 := Lib.hid r1; have R2 := Lib.hid r2; have HBW := Lib.hid hbw; have HD3 := Lib.hid hd3
  clear r1 r2 hbw hd3 hb1 hb2 hb3 HB1 HB2 HB3 HG2
  have keep : ∀ k, k < w3.heap.size → ∀ o o' : Obj, ((w3.alloc o).alloc o').heap[k]? = w3.heap[k]? := fun k hk o o' => (Below.heap_alloc _ o' k (by simp; omega)).trans (Below.heap_alloc w3 o k hk)
  refine (rec_up sA sB dLst dDct w.heap.size 0 2 _ _ (w3.heap.size + 2) (by omega) (by simp only [dDct, dLst, dOne, dTwo, sX, D.Fit, D.Fits]; decide) (by simp) (by omega) (by decide) (by kernel_rfl) (cell_of_row _ _ 0 _ _ _ ((keep _ (by omega) _ _).trans R1.out)) (cell_of_row _ _ 1 _ _ _ ((keep _ (by omega) _ _).trans R1.out))
    (lkids2 (by omega) (by have := heap_alloc_new (w3.alloc (.cells #[.int .i64 4, .int .i64 2, .string ⟨#[]⟩, .slice none 0 0, .slice none 0 0] 25)); simp only [World.size_alloc] at this; exact this _) ?_ ?_)).mono ?_
  · exact HD3.out.keep (by omega) fun p hp => World.cell?_of_block (keep _ hp _ _)
  · simp only [dDct, DocIn]
    refine ⟨trivial, trivial, trivial, strs1 (by omega) ((keep _ (by omega) _ _).trans R2.out), ?_⟩
    obtain ⟨A, c, e, h1, h2⟩ := lkids1 (B := w3.heap.size + 2) (d := dTwo) (by omega) ((Below.heap_alloc _ _ w3.heap.size (by simp)).trans (heap_alloc_new w3 (.cells #[.int .i64 4, .int .i64 2, .string ⟨#[]⟩, .slice none 0 0, .slice none 0 0] 25))) (lleaf_in _ _ _ _ _)
    exact ⟨A, c, e, h1, h2⟩
  rintro e w4 ⟨z0, z1, z2, z3, z4, F, rfl, hF, hFn, hb4⟩
  simp only [World.size_alloc] at hF hb4
  have hb34 : Below w3.heap.size w3 w4 := (((Below.refl _ _).alloc (Nat.le_refl _) _).alloc (by simp) _).trans (hb4.mono (by omega))
  have hF : OwnIn w4 _ dLaw z0 z1 z2 z3 z4 F := hF
  obtain ⟨A1, c1, A2, c2, rfl, rfl, rfl, rfl, rfl⟩ := hF.doc.forms
  have HB4 : Hid (Below w.heap.size w w4) := Lib.hid (HBW.out.trans (hb34.mono (by omega)))
  have HD4 : Hid (DocIn w4 w4.heap.size dLaw _ _ _ _ _) := Lib.hid hF.doc
  clear hF hFn hb4 hb34 keep HBW R1 R2 HD3 s1 s2 s3
  go_upto_region 2 with fail
  obtain ⟨w5, hw5⟩ : ∃ w5, w5 = w4.alloc (.cells #[.int .i64 dLaw.kind, .int .i64 dLaw.num, .string dLaw.str, .slice A1 dLaw.keys.length c1, .slice A2 dLaw.kids.length c2] 25) := ⟨_, rfl⟩
  have HB5 : Hid (Below w.heap.size w w5) := by rw [hw5]; exact Lib.hid (HB4.out.alloc HB4.out.size _)
  have HX5 : Hid (Box5 w5 w4.heap.size (.int .i64 dLaw.kind) (.int .i64 dLaw.num) (.string dLaw.str) (.slice A1 dLaw.keys.length c1) (.slice A2 dLaw.kids.length c2)) := by rw [hw5]; exact Lib.hid (Box5.new w4 _ _ _ _ _)
  have HD5 : Hid (DocV w5 w5.heap.size dLaw (.agg #[.int .i64 dLaw.kind, .int .i64 dLaw.num, .string dLaw.str, .slice A1 dLaw.keys.length c1, .slice A2 dLaw.kids.length c2])) := by
    rw [hw5]; exact Lib.hid ⟨_, _, _, _, _, rfl, HD4.out.keep (by simp) fun p hp => World.cell?_alloc_lt w4 _ p hp⟩
  rw [← hw5]
  clear hw5 HB4 HD4
  -- Flat
  have HFL := Lib.hid (lflat_any (Nat.le_refl _) HD5.out dLaw_fit depth_law vis_law)
  obtain ⟨q0, q1, q2, q3, q4⟩ := HX5.out.cells
  go_upto_region 3 with (go_at_call 14; refine HFL.out.mono ?_
                         rintro e w6 ⟨v6, ys, rfl, hmap, hown, hb6⟩
                         rw [flat_law] at hmap
                         have HMAP := Lib.hid hmap; have HOWN := Lib.hid hown; have HB6 := Lib.hid hb6
                         clear hmap hown hb6 HFL q0 q1 q2 q3 q4)
  have HL6 : Hid (LvsIn w6 w6.heap.size v6 lvLaw) := Lib.hid (by have := HOWN.out.lvs; rwa [HMAP.out] at this)
  have HLEN : Hid (lvLaw.length = 4) := Lib.hid rfl
  obtain ⟨A6, c6, hv6, _⟩ := id HL6.out
  rw [HLEN.out] at hv6
  subst hv6
  have HX6 := Lib.hid (HX5.out.same (HB6.out.block _ HX5.out.lt))
  have HD6 := Lib.hid (HD5.out.keep HB6.out.size fun p hp => HB6.out.cell hp)
  have HBW6 := Lib.hid (HB5.out.trans (HB6.out.mono HB5.out.size))
  clear HX5 HD5 HB5 HB6
  -- Tree
  have HTR := Lib.hid (tree_any (Nat.le_refl _) HL6.out (by rw [HLEN.out]; omega) (fun x hx => by have := (small_law x (List.mem_append_left _ hx)).2; omega) (fun x hx => (small_law x (List.mem_append_left _ hx)).1))
  rw [tree_law] at HTR
  go_upto_region 4 with (go_at_call 11; refine HTR.out.mono ?_
                         rintro e w7 ⟨dv, rfl, hdv, hb7⟩
                         have HDV7 := Lib.hid hdv; have HB7 := Lib.hid hb7
                         obtain ⟨t0, t1, t2, t3, t4, rfl, hdi⟩ := hdv
                         obtain ⟨A3, c3, A4, c4, rfl, rfl, rfl, rfl, rfl⟩ := hdi.forms
                         clear hdi hb7 HTR)
  obtain ⟨w8, hw8⟩ : ∃ w8, w8 = w7.alloc (.cells #[.int .i64 dLaw.kind, .int .i64 dLaw.num, .string dLaw.str, .slice A3 dLaw.keys.length c3, .slice A4 dLaw.kids.length c4] 25) := ⟨_, rfl⟩
  have HB68 : Hid (Below w6.heap.size w6 w8) := by rw [hw8]; exact Lib.hid (HB7.out.alloc HB7.out.size _)
  have HT8 : Hid (Box5 w8 w7.heap.size (.int .i64 dLaw.kind) (.int .i64 dLaw.num) (.string dLaw.str) (.slice A3 dLaw.keys.length c3) (.slice A4 dLaw.kids.length c4)) := by rw [hw8]; exact Lib.hid (Box5.new w7 _ _ _ _ _)
  have HDT8 : Hid (DocV w8 w8.heap.size dLaw (.agg #[.int .i64 dLaw.kind, .int .i64 dLaw.num, .string dLaw.str, .slice A3 dLaw.keys.length c3, .slice A4 dLaw.kids.length c4])) := by
    rw [hw8]; exact Lib.hid (HDV7.out.keep (by simp) fun p hp => World.cell?_alloc_lt w7 _ p hp)
  rw [← hw8]
  clear hw8 HB7 HDV7
  -- Tree(nil)
  have HTN := Lib.hid (tree_any (ls := []) (v := .slice none 0 0) (B := 0) (w := w8) (Nat.zero_le _) ⟨none, 0, rfl, Nat.le_refl _, fun h => absurd h (by simp)⟩ (by simp) (by simp) (by simp))
  rw [tree_nil] at HTN
  go_upto_region 5 with (go_at_call 11; refine HTN.out.mono ?_
                         rintro e w9 ⟨dv, rfl, hdv, hb9⟩
                         have HB9 := Lib.hid hb9
                         obtain ⟨n0, n1, n2, n3, n4, rfl, hdi⟩ := hdv
                         obtain ⟨A9, c9, A10, c10, rfl, rfl, rfl, rfl, rfl⟩ := hdi.forms
                         clear hdi hb9 HTN)
  obtain ⟨w10, hw10⟩ : ∃ w10, w10 = w9.alloc (.cells #[.int .i64 D.zero.kind, .int .i64 D.zero.num, .string D.zero.str, .slice A9 D.zero.keys.length c9, .slice A10 D.zero.kids.length c10] 25) := ⟨_, rfl⟩
  have HB810 : Hid (Below w8.heap.size w8 w10) := by rw [hw10]; exact Lib.hid (HB9.out.alloc HB9.out.size _)
  rw [← hw10]
  clear hw10 HB9
  have HB610 := Lib.hid (HB68.out.trans (HB810.out.mono HB68.out.size))
  have hz10 : w6.heap.size ≤ w10.heap.size := HB610.out.size
  -- Moved
  have hm := lmoved_any lvLaw [sB] [sC, sD] (.slice A6 4 c6) (.slice (some ⟨w10.heap.size, 0, none⟩) 1 1) (.slice (some ⟨w10.heap.size + 1, 0, none⟩) 2 2) (w10.heap.size + 2) ((w10.alloc (.cells #[.string ⟨#[98]⟩] 9)).alloc (.cells #[.string ⟨#[99]⟩, .string ⟨#[100]⟩] 9)) (by simp) ?hl ?hf ?ht
    (by rw [HLEN.out]; omega) (fun x hx => (small_law x (List.mem_append_left _ hx)).2) (fun x hx => (small_law x (List.mem_append_left _ hx)).1.1) (by simp) (by simp)
  case hl =>
    refine (HL6.out.keep (w' := _) fun p hp => ?_).wide (by omega)
    exact (World.cell?_of_block (a := p) ((Below.heap_alloc _ _ p.block (by simp; omega)).trans (Below.heap_alloc w10 _ p.block (by omega)))).trans (HB610.out.cell hp)
  case hf => exact strs1 (by omega) ((Below.heap_alloc _ _ _ (by simp)).trans (heap_alloc_new w10 _))
  case ht => exact strs2 (by omega) (by have := heap_alloc_new (w10.alloc (.cells #[.string ⟨#[98]⟩] 9)) (.cells #[.string ⟨#[99]⟩, .string ⟨#[100]⟩] 9); rwa [World.size_alloc] at this)
  rw [mvd_law] at hm
  have HMV := Lib.hid hm
  clear hm
  go_upto_region 6 with (go_at_call 21; refine HMV.out.mono ?_
                         rintro e w11 ⟨v11, zs, rfl, hmap, hown, hb11⟩
                         have HMAP11 := Lib.hid hmap; have HOWN11 := Lib.hid hown; have HB11 := Lib.hid hb11
                         clear hmap hown hb11 HMV)
  have HL11 : Hid (LvsIn w11 w11.heap.size v11 mvLaw) := Lib.hid (by have := HOWN11.out.lvs; rwa [HMAP11.out] at this)
  have HLEN2 : Hid (mvLaw.length = 4) := Lib.hid rfl
  obtain ⟨A11, c11, hv11, _⟩ := id HL11.out
  rw [HLEN2.out] at hv11
  subst hv11
  have HB811 : Hid (Below w8.heap.size w8 w11) := Lib.hid (HB810.out.trans ((((Below.refl w10.heap.size w10).alloc (Nat.le_refl _) _).alloc (by simp) _ |>.trans (HB11.out.mono (by simp; omega))).mono HB810.out.size))
  have HB611 : Hid (Below w6.heap.size w6 w11) := Lib.hid (HB68.out.trans (HB811.out.mono HB68.out.size))
  clear HB11 HB810 HB610 hz10
  have HL6' : Hid (LvsIn w11 w6.heap.size (.slice A6 4 c6) lvLaw) := Lib.hid (HL6.out.keep fun p hp => HB611.out.cell hp)
  have HX11 := Lib.hid (HX6.out.same (HB611.out.block _ (by have := HX6.out.lt; omega)))
  have HD11 := Lib.hid (HD6.out.keep HB611.out.size fun p hp => HB611.out.cell hp)
  have HT11 := Lib.hid (HT8.out.same (HB811.out.block _ HT8.out.lt))
  have HDT11 := Lib.hid (HDT8.out.keep HB811.out.size fun p hp => HB811.out.cell hp)
  have HBW11 := Lib.hid (HBW6.out.trans (HB611.out.mono HBW6.out.size))
  have HOWN6' := Lib.hid (HOWN.out.below HB611.out)
  clear HX6 HD6 HT8 HDT8 HBW6 HB68 HB811 HL6
  go_upto_region 8 with fail
  go_cut [9] from 122 (fun s9 wx => s9 = .int .i64 5 ∧ Hid (Below w11.heap.size w11 wx))
  case first =>
    have hylen : ys.length = 4 := by have := congrArg List.length HMAP.out; rw [HLEN.out] at this; simpa using this
    obtain ⟨y1, yr, rfl⟩ : ∃ y1 yr, ys = y1 :: yr := by
      cases ys with
      | nil => simp at hylen
      | cons y1 yr => exact ⟨y1, yr, rfl⟩
    have hrow := HOWN6'.out.row
    rw [hylen] at hrow
    obtain ⟨g6, cap6, e6, _, hg6⟩ := hrow.form (by omega)
    injection e6 with e61 e62 e63
    subst e61; subst e63
    have hcel : ∀ j u, ((y1 :: yr).flatMap Mk.enc)[j]? = some u → w11.cell? ⟨g6, 0 + j, none⟩ = some u := fun j u hu => by have := hrow.cells (g := g6) rfl j u hu; rwa [e_add_at] at this
    have hmk1 := HOWN6'.out.each y1 (by simp)
    have hone1 := hmk1.1.one
    have hl24 : ((y1 :: yr).flatMap Mk.enc).length = 4 * 6 := hrow.1
    have hone24 : ∀ u ∈ (y1 :: yr).flatMap Mk.enc, u.oneCell' = true := fun u hu => by
      obtain ⟨y, hy, hu⟩ := List.mem_flatMap.1 hu
      exact (HOWN6'.out.each y hy).1.one u hu
    have hget : ∀ j u, y1.enc[j]? = some u → w11.cell? ⟨g6, 0 + j, none⟩ = some u := fun j u hu => hcel j u (by
      rw [List.flatMap_cons, List.getElem?_append_left (by obtain ⟨h, _⟩ := List.getElem?_eq_some_iff.1 hu; exact h)]; exact hu)
    have p0 : w11.cell? ⟨g6, 0, none⟩ = some y1.v0 := hget 0 _ rfl
    have p1 : w11.cell? ⟨g6, 1, none⟩ = some y1.v1 := hget 1 _ rfl
    have p2 : w11.cell? ⟨g6, 2, none⟩ = some y1.v2 := hget 2 _ rfl
    have p3 : w11.cell? ⟨g6, 3, none⟩ = some y1.v3 := hget 3 _ rfl
    have p4 : w11.cell? ⟨g6, 4, none⟩ = some y1.v4 := hget 4 _ rfl
    have p5 : w11.cell? ⟨g6, 5, none⟩ = some y1.v5 := hget 5 _ rfl
    have HC := Lib.hid hcel; have HO24 := Lib.hid hone24; have HO1 := Lib.hid hone1; have HL24 := Lib.hid hl24
    have HTW : Hid (∀ (W : World) (g cap : Nat), Below w11.heap.size w11 W → W.ownsRow w11.heap.size 42 6 (.slice (some ⟨g, 0, none⟩) 5 cap) 5 ((y1 :: yr).flatMap Mk.enc ++ y1.enc) → Calls Try.prog 11 #[.slice (some ⟨g, 0, none⟩) 5 cap] W (TreeTo W D.zero 5)) := Lib.hid fun W g cap hb ho => by
      have hl := row_lvs (zs := (y1 :: yr) ++ [y1]) (n := 5) (by simpa [List.flatMap_append] using ho) (by simp; simpa using hylen.symm) (fun y hy => by
        have hy2 : y ∈ y1 :: yr := by rcases List.mem_append.1 hy with h | h
                                      · exact h
                                      · simp only [List.mem_singleton] at h; subst h; simp
        exact ((HOWN6'.out.each y hy2).1).below hb (Nat.le_refl _))
      have hmp : ((y1 :: yr) ++ [y1]).map (·.lf) = lvLaw ++ [⟨[], .mk 1 0 ⟨#[]⟩ [] []⟩] := by
        have h1 := HMAP.out
        have h2 : y1.lf = ⟨[], .mk 1 0 ⟨#[]⟩ [] []⟩ := by rw [List.map_cons] at h1; exact (List.cons.inj h1).1
        rw [List.map_append, h1, List.map_singleton, h2]
      rw [hmp] at hl
      have ht := tree_any (Nat.le_refl _) hl (by simp [HLEN.out]) (fun x hx => by have := (small_law x hx).2; omega) (fun x hx => (small_law x hx).1)
      rwa [tree_two] at ht
    clear hcel hone24 hone1 hl24 hget hrow hmk1 hylen
    go_region_law (first
      | (refine step_app1 (by rfl) _ _ (by rfl) (B := w11.heap.size) (xs := (y1 :: yr).flatMap Mk.enc) (by rfl) (by rfl) (by first | exact Nat.le_refl _ | omega | (simp; done) | (simp; omega))
          ⟨_, rfl, (by first | exact Nat.le_refl _ | omega | (simp; done) | (simp; omega)), (by repeat (first | ((with_reducible refine la_new ?_); (focus (first | rfl | omega | (simp; done) | (simp; omega)))) | ((with_reducible refine la_old ?_ ?_); (focus (first | omega | (simp; done) | (simp; omega)))) | with_reducible refine la_drew ?_))⟩
          HL24.out (by omega) (fun j u hu => ((show Below w11.heap.size w11 _ from (by repeat (first | (with_reducible exact Below.refl _ _) | with_reducible apply lb_alloc | with_reducible apply lb_drew))).cell (p := ⟨g6, 0 + j, none⟩) hg6).trans (HC.out j u hu)) HO24.out (by omega) ?_
         intro v12 w12 ho12 hb12 hlow12
         have hB12 : Below w11.heap.size w11 w12 := Below.trans (show Below w11.heap.size w11 _ from (by repeat (first | (with_reducible exact Below.refl _ _) | with_reducible apply lb_alloc | with_reducible apply lb_drew))) (hb12.mono (by first | exact Nat.le_refl _ | omega | (simp; done) | (simp; omega)))
         have hz12 := hb12.size
         try simp at hz12
         have hg12 : g6 < w12.heap.size := Nat.lt_of_lt_of_le hg6 hB12.size
         have p0' := (hB12.cell (p := ⟨g6, 0, none⟩) hg6).trans p0; have p1' := (hB12.cell (p := ⟨g6, 1, none⟩) hg6).trans p1; have p2' := (hB12.cell (p := ⟨g6, 2, none⟩) hg6).trans p2
         have p3' := (hB12.cell (p := ⟨g6, 3, none⟩) hg6).trans p3; have p4' := (hB12.cell (p := ⟨g6, 4, none⟩) hg6).trans p4; have p5' := (hB12.cell (p := ⟨g6, 5, none⟩) hg6).trans p5)
      | (refine step_app2 (v := v12) (by rfl) _ _ (by rfl) (B := w11.heap.size) (n := 4) (xs := (y1 :: yr).flatMap Mk.enc) (news := y1.enc) (by rfl) (by rfl) (by have := hB12.size; first | exact this | (simp; done) | (simp; omega))
          (by repeat (first | (with_reducible exact ho12) | with_reducible apply World.ownsRow.drew | with_reducible apply World.ownsRow.alloc)) rfl (by omega)
          (World.news_of_block (cs := #[y1.v0, y1.v1, y1.v2, y1.v3, y1.v4, y1.v5]) (t := 42) (fr := (0, 0)) (by repeat (first | ((with_reducible refine la_new ?_); (focus (first | rfl | omega | (simp; done) | (simp; omega)))) | ((with_reducible refine la_next hb12 ?_ ?_); (focus (first | omega | (simp; done) | (simp; omega)))) | ((with_reducible refine la_old ?_ ?_); (focus (first | omega | (simp; done) | (simp; omega)))) | with_reducible refine la_drew ?_))) HO1.out ?_
         intro g13 cap13 w13 ho13 hb13 hgr13
         have hB13 : Below w11.heap.size w11 w13 := Below.trans (show Below w11.heap.size w11 _ from (by repeat (first | (with_reducible exact hB12) | with_reducible apply lb_alloc | with_reducible apply lb_drew))) hb13)
      | (go_wp2_with fail
         go_at_call 11
         refine (HTW.out _ _ _ (by repeat (first | (with_reducible exact hB13) | with_reducible apply lb_alloc | with_reducible apply lb_drew)) (by repeat (first | (with_reducible exact ho13) | with_reducible apply World.ownsRow.drew | with_reducible apply World.ownsRow.alloc))).mono ?_
         rintro e w14 ⟨dv, rfl, hdv, hb14⟩
         obtain ⟨n0, n1, n2, n3, n4, rfl, hdi⟩ := hdv
         obtain ⟨A13, c13, A14, c14, rfl, rfl, rfl, rfl, rfl⟩ := hdi.forms
         clear hdi
         have hs12 := hB12.size; have hs13 := hB13.size
         have hB14 : Below w11.heap.size w11 w14 := Below.trans (show Below w11.heap.size w11 _ from (by repeat (first | (with_reducible exact hB13) | with_reducible apply lb_alloc | with_reducible apply lb_drew))) (hb14.mono (by first | omega | (simp; done) | (simp; omega)))
         have hs14 := hB14.size
         have hz13 := hgr13.size; have hz14 := hb14.size
         try simp at hz13
         try simp at hz14
         try (refine (show (Box5 w14 (w11.heap.size) (.int .i64 0) (.int .i64 0) (.string ⟨#[]⟩) (.slice none 0 0) (.slice none 0 0) → _) from fun z14 => ?_) ?_; rotate_left; focus (unfold Box5; (repeat (first | ((with_reducible refine la_new ?_); (focus (first | rfl | (simp; done) | (simp; omega)))) | ((with_reducible refine la_next hb14 ?_ ?_); (focus (first | omega | (simp; done) | (simp; omega)))) | ((with_reducible refine la_grown hgr13 ?_ ?_ ?_); (focus (first | omega | (simp; done) | (simp; omega))); (focus (first | exact (fun e => by have h1 := (ho12.lt _ e).2; omega) | exact (fun e => by have h1 := hlow12 _ e; simp at h1; omega)))) | ((with_reducible refine la_next hb12 ?_ ?_); (focus (first | omega | (simp; done) | (simp; omega)))) | ((with_reducible refine la_old ?_ ?_); (focus (first | omega | (simp; done) | (simp; omega)))) | with_reducible refine la_drew ?_)); done)
              obtain ⟨b0, b1, b2, b3, b4⟩ := z14.cells
              have b5 := z14.frozen)
         try (refine (show (Box5 w14 (w11.heap.size + 1) (.int .i64 0) (.int .i64 0) (.string ⟨#[]⟩) (.slice none 0 0) (.slice none 0 0) → _) from fun z14 => ?_) ?_; rotate_left; focus (unfold Box5; (repeat (first | ((with_reducible refine la_new ?_); (focus (first | rfl | (simp; done) | (simp; omega)))) | ((with_reducible refine la_next hb14 ?_ ?_); (focus (first | omega | (simp; done) | (simp; omega)))) | ((with_reducible refine la_grown hgr13 ?_ ?_ ?_); (focus (first | omega | (simp; done) | (simp; omega))); (focus (first | exact (fun e => by have h1 := (ho12.lt _ e).2; omega) | exact (fun e => by have h1 := hlow12 _ e; simp at h1; omega)))) | ((with_reducible refine la_next hb12 ?_ ?_); (focus (first | omega | (simp; done) | (simp; omega)))) | ((with_reducible refine la_old ?_ ?_); (focus (first | omega | (simp; done) | (simp; omega)))) | with_reducible refine la_drew ?_)); done)
              obtain ⟨b0, b1, b2, b3, b4⟩ := z14.cells
              have b5 := z14.frozen)
         try (refine (show (Box5 w14 (w11.heap.size + 2) (.int .i64 0) (.int .i64 0) (.string ⟨#[]⟩) (.slice none 0 0) (.slice none 0 0) → _) from fun z14 => ?_) ?_; rotate_left; focus (unfold Box5; (repeat (first | ((with_reducible refine la_new ?_); (focus (first | rfl | (simp; done) | (simp; omega)))) | ((with_reducible refine la_next hb14 ?_ ?_); (focus (first | omega | (simp; done) | (simp; omega)))) | ((with_reducible refine la_grown hgr13 ?_ ?_ ?_); (focus (first | omega | (simp; done) | (simp; omega))); (focus (first | exact (fun e => by have h1 := (ho12.lt _ e).2; omega) | exact (fun e => by have h1 := hlow12 _ e; simp at h1; omega)))) | ((with_reducible refine la_next hb12 ?_ ?_); (focus (first | omega | (simp; done) | (simp; omega)))) | ((with_reducible refine la_old ?_ ?_); (focus (first | omega | (simp; done) | (simp; omega)))) | with_reducible refine la_drew ?_)); done)
              obtain ⟨b0, b1, b2, b3, b4⟩ := z14.cells
              have b5 := z14.frozen)
         try (refine (show (Box5 w14 (w12.heap.size) (.int .i64 0) (.int .i64 0) (.string ⟨#[]⟩) (.slice none 0 0) (.slice none 0 0) → _) from fun z14 => ?_) ?_; rotate_left; focus (unfold Box5; (repeat (first | ((with_reducible refine la_new ?_); (focus (first | rfl | (simp; done) | (simp; omega)))) | ((with_reducible refine la_next hb14 ?_ ?_); (focus (first | omega | (simp; done) | (simp; omega)))) | ((with_reducible refine la_grown hgr13 ?_ ?_ ?_); (focus (first | omega | (simp; done) | (simp; omega))); (focus (first | exact (fun e => by have h1 := (ho12.lt _ e).2; omega) | exact (fun e => by have h1 := hlow12 _ e; simp at h1; omega)))) | ((with_reducible refine la_next hb12 ?_ ?_); (focus (first | omega | (simp; done) | (simp; omega)))) | ((with_reducible refine la_old ?_ ?_); (focus (first | omega | (simp; done) | (simp; omega)))) | with_reducible refine la_drew ?_)); done)
              obtain ⟨b0, b1, b2, b3, b4⟩ := z14.cells
              have b5 := z14.frozen)
         try (refine (show (Box5 w14 (w12.heap.size + 1) (.int .i64 0) (.int .i64 0) (.string ⟨#[]⟩) (.slice none 0 0) (.slice none 0 0) → _) from fun z14 => ?_) ?_; rotate_left; focus (unfold Box5; (repeat (first | ((with_reducible refine la_new ?_); (focus (first | rfl | (simp; done) | (simp; omega)))) | ((with_reducible refine la_next hb14 ?_ ?_); (focus (first | omega | (simp; done) | (simp; omega)))) | ((with_reducible refine la_grown hgr13 ?_ ?_ ?_); (focus (first | omega | (simp; done) | (simp; omega))); (focus (first | exact (fun e => by have h1 := (ho12.lt _ e).2; omega) | exact (fun e => by have h1 := hlow12 _ e; simp at h1; omega)))) | ((with_reducible refine la_next hb12 ?_ ?_); (focus (first | omega | (simp; done) | (simp; omega)))) | ((with_reducible refine la_old ?_ ?_); (focus (first | omega | (simp; done) | (simp; omega)))) | with_reducible refine la_drew ?_)); done)
              obtain ⟨b0, b1, b2, b3, b4⟩ := z14.cells
              have b5 := z14.frozen)
         try (refine (show (Box5 w14 (w13.heap.size) (.int .i64 0) (.int .i64 0) (.string ⟨#[]⟩) (.slice none 0 0) (.slice none 0 0) → _) from fun z14 => ?_) ?_; rotate_left; focus (unfold Box5; (repeat (first | ((with_reducible refine la_new ?_); (focus (first | rfl | (simp; done) | (simp; omega)))) | ((with_reducible refine la_next hb14 ?_ ?_); (focus (first | omega | (simp; done) | (simp; omega)))) | ((with_reducible refine la_grown hgr13 ?_ ?_ ?_); (focus (first | omega | (simp; done) | (simp; omega))); (focus (first | exact (fun e => by have h1 := (ho12.lt _ e).2; omega) | exact (fun e => by have h1 := hlow12 _ e; simp at h1; omega)))) | ((with_reducible refine la_next hb12 ?_ ?_); (focus (first | omega | (simp; done) | (simp; omega)))) | ((with_reducible refine la_old ?_ ?_); (focus (first | omega | (simp; done) | (simp; omega)))) | with_reducible refine la_drew ?_)); done)
              obtain ⟨b0, b1, b2, b3, b4⟩ := z14.cells
              have b5 := z14.frozen)))
    all_goals go_wp2_with fail
    all_goals go_meet
    all_goals exact ⟨rfl, Lib.hid (by repeat (first | (with_reducible exact hB14) | with_reducible apply lb_alloc | with_reducible apply lb_drew | ((with_reducible refine lb_set ?_ ?_ _); rotate_left; (focus (first | omega | (simp; done) | (simp; omega))))))⟩
  case rest =>
    obtain ⟨rfl, HB11c⟩ := hcut
    have hsc := HB11c.out.size
    have HLc : Hid (LvsIn wc w11.heap.size (.slice A6 4 c6) lvLaw) := Lib.hid (((HL6'.out.wide HB611.out.size)).keep fun p hp => HB11c.out.cell hp)
    have HMc : Hid (LvsIn wc w11.heap.size (.slice A11 4 c11) mvLaw) := Lib.hid (HL11.out.keep fun p hp => HB11c.out.cell hp)
    have HXc := Lib.hid (HX11.out.same (HB11c.out.block _ HX11.out.lt))
    have HDc := Lib.hid (HD11.out.keep (Nat.le_refl _) fun p hp => HB11c.out.cell hp)
    have HTc := Lib.hid (HT11.out.same (HB11c.out.block _ HT11.out.lt))
    have HDTc := Lib.hid (HDT11.out.keep (Nat.le_refl _) fun p hp => HB11c.out.cell hp)
    have HBWc := Lib.hid (HBW11.out.trans (HB11c.out.mono HBW11.out.size))
    clear HL6' HX11 HD11 HT11 HDT11 HBW11 HOWN6' HL11
    obtain ⟨_, _, eL, _, hL⟩ := id HLc.out
    injection eL with eL1 eL2 eL3
    clear eL2
    subst eL1; subst eL3
    obtain ⟨bl, ol, rfl, hbl, hLk⟩ := hL (by rw [HLEN.out]; omega)
    obtain ⟨x0, x1, x2, x3, x4, x5, cx0, _, _, _, _, _, hxp, _⟩ := hLk 0 (by rw [HLEN.out]; omega)
    obtain ⟨y0, y1, y2, y3, y4, y5, _, cy1, _, _, _, _, _, hyd⟩ := hLk 1 (by rw [HLEN.out]; omega)
    obtain ⟨z0, z1, z2, z3, z4, z5, cz0, _, cz2, _, _, _, hzp, hzd⟩ := hLk 3 (by rw [HLEN.out]; omega)
    obtain ⟨_, _, eM, _, hM⟩ := id HMc.out
    injection eM with eM1 eM2 eM3
    clear eM2
    subst eM1; subst eM3
    obtain ⟨bm, om, rfl, hbm, hMk⟩ := hM (by rw [HLEN2.out]; omega)
    obtain ⟨m0, m1, m2, m3, m4, m5, cm0, _, _, _, _, _, hmp, _⟩ := hMk 3 (by rw [HLEN2.out]; omega)
    have hxp : Strs wc w11.heap.size x0 [] := hxp
    have hzp : Strs wc w11.heap.size z0 [sB, sX] := hzp
    have hmp : Strs wc w11.heap.size m0 [sC, sD, sX] := hmp
    have hyd : DocIn wc w11.heap.size dLst y1 y2 y3 y4 y5 := hyd
    have hzd : DocIn wc w11.heap.size dTwo z1 z2 z3 z4 z5 := hzd
    simp only [dLst, DocIn] at hyd
    simp only [dTwo, DocIn] at hzd
    obtain ⟨rfl, _⟩ := hyd
    obtain ⟨_, rfl, _⟩ := hzd
    obtain ⟨Ax, nx, rfl, _, _⟩ := id hxp
    obtain ⟨Az, nz, rfl, _, _⟩ := id hzp
    obtain ⟨Am, nm, rfl, _, _⟩ := id hmp
    have HZP := Lib.hid hzp; have HMP := Lib.hid hmp
    have c00 : wc.cell? ⟨bl, ol, none⟩ = some (.slice Ax 0 nx) := by simpa using cx0
    have c11' : wc.cell? ⟨bl, ol + 6 + 1, none⟩ = some (.int .i64 3) := by simpa using cy1
    have c30 : wc.cell? ⟨bl, ol + 18, none⟩ = some (.slice Az 2 nz) := by simpa using cz0
    have c32 : wc.cell? ⟨bl, ol + 18 + 2, none⟩ = some (.int .i64 2) := by simpa using cz2
    have d30 : wc.cell? ⟨bm, om + 18, none⟩ = some (.slice Am 3 nm) := by simpa using cm0
    obtain ⟨q0, q1, q2, q3, q4⟩ := HXc.out.cells
    obtain ⟨t0, t1, t2, t3, t4⟩ := HTc.out.cells
    clear cx0 cy1 cz0 cz2 cm0 hxp hzp hmp hL hLk hM hMk
    go_upto_region 9 with fail
    dsimp only [List.append]
    go_wp2_with fail
    have hsz11 : w11.heap.size ≤ wc.heap.size := hsc
    refine (rrows_any (a := [sB, sX]) (b := [sB, sX]) (B := wc.heap.size + 1) (by simp) (strs_wide (by omega) (HZP.out.keep fun p hp => World.cell?_alloc_lt wc _ p (by omega))) (strs2 (by omega) (heap_alloc_new wc _)) (by simp) (by simp)).mono ?_
    rw [decide_eq_true (rfl : [sB, sX] = [sB, sX])]
    rintro e wA ⟨rfl, hbA⟩
    have hbA' : Below wc.heap.size wc wA := ((Below.refl _ _).alloc (Nat.le_refl _) _).trans (hbA.mono (by simp))
    have HBA := Lib.hid hbA'
    have hsA := hbA'.size
    have hlb : bl < wc.heap.size := by omega
    have hlm : bm < wc.heap.size := by omega
    have a11 := (hbA'.cell (p := ⟨bl, ol + 6 + 1, none⟩) hlb).trans c11'; have a32 := (hbA'.cell (p := ⟨bl, ol + 18 + 2, none⟩) hlb).trans c32; have a30 := (hbA'.cell (p := ⟨bm, om + 18, none⟩) hlm).trans d30
    obtain ⟨qa0, qa1, qa2, qa3, qa4⟩ := (HXc.out.same (hbA'.block _ HXc.out.lt)).cells
    obtain ⟨ta0, ta1, ta2, ta3, ta4⟩ := (HTc.out.same (hbA'.block _ HTc.out.lt)).cells
    clear hbA hbA' q0 q1 q2 q3 q4 t0 t1 t2 t3 t4 c00 c11' c30 c32 d30
    go_wp2_with fail
    refine (same_v dLaw_fit dLaw_fit (B := w11.heap.size) (by omega) (HDTc.out.keep (Nat.le_refl _) fun p hp => HBA.out.cell (by omega)) (HDc.out.keep (Nat.le_refl _) fun p hp => HBA.out.cell (by omega))).mono ?_
    rw [same_law]
    rintro e wB ⟨rfl, hbB⟩
    have hbB' : Below wc.heap.size wc wB := HBA.out.trans (hbB.mono hsA)
    have HBB := Lib.hid hbB'
    have hsB := hbB'.size
    have b30 := (hbB.cell (p := ⟨bm, om + 18, none⟩) (by show bm < _; omega)).trans a30
    clear hbB hbB' qa0 qa1 qa2 qa3 qa4 ta0 ta1 ta2 ta3 ta4 a11 a32 a30
    go_wp2_with fail
    refine (rrows_any (a := [sC, sD, sX]) (b := [sC, sD, sX]) (B := wB.heap.size + 1) (by simp) (strs_wide (by omega) (HMP.out.keep fun p hp => (World.cell?_alloc_lt wB _ p (by omega)).trans (HBB.out.cell (by omega)))) (strs3 (by omega) (heap_alloc_new wB _)) (by simp) (by simp)).mono ?_
    rw [decide_eq_true (rfl : [sC, sD, sX] = [sC, sD, sX])]
    rintro e wC ⟨rfl, hbC⟩
    have hbC' : Below wc.heap.size wc wC := HBB.out.trans ((((Below.refl _ _).alloc (Nat.le_refl _) _).trans (hbC.mono (by simp))).mono hsB)
    have HBC := Lib.hid hbC'
    have hsC := hbC'.size
    clear hbC hbC' b30
    go_wp2_with fail
    refine (lfind_any (ls := lvLaw) (path := [sB]) (B := wC.heap.size + 1) (by simp) ((HLc.out.keep fun p hp => (World.cell?_alloc_lt wC _ p (by omega)).trans (HBC.out.cell (by omega))).wide (by omega)) (strs1 (by omega) (heap_alloc_new wC _)) (by rw [HLEN.out]; omega) (fun x hx => by have := (small_law x (List.mem_append_left _ hx)).2; omega)).mono ?_
    rw [find_law]
    rintro e wD ⟨rfl, hbD⟩
    have hbD' : Below wc.heap.size wc wD := HBC.out.trans ((((Below.refl _ _).alloc (Nat.le_refl _) _).trans (hbD.mono (by simp))).mono hsC)
    have HBD := Lib.hid hbD'
    have hsD := hbD'.size
    clear hbD hbD'
    go_wp2_with fail
    refine (lless_any [sA] [sA, sB] _ _ (wD.heap.size + 2) _ (strs1 (by omega) ((Below.heap_alloc _ _ wD.heap.size (by simp)).trans (heap_alloc_new wD _))) (strs2 (by omega) (by have := heap_alloc_new (wD.alloc (.cells #[.string ⟨#[97]⟩] 9)) (.cells #[.string ⟨#[97]⟩, .string ⟨#[98]⟩] 9); rwa [World.size_alloc] at this)) (by simp) (by simp)).mono ?_
    rw [less_law]
    rintro e wE ⟨rfl, rfl⟩
    go_wp2_with fail
    go_ret
    exact ⟨rfl, (HBWc.out.trans (HBD.out.mono HBWc.out.size)).trans ((((Below.refl wD.heap.size wD).alloc (Nat.le_refl _) _).alloc (by simp) _).mono (Nat.le_trans HBWc.out.size hsD))⟩
end Go.Proofs.Ytdgnengfcabgjaa
