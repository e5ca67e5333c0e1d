/-
  leaves.Tree.
  Rows of leaves that are put together of others.
-/
import Derived.Test.YtdgnengfcabgjaaB29
import Derived.Test.YtdgnengfcabgjaaB30
import Derived.Test.YtdgnengfcabgjaaB31
import Derived.Test.YtdgnengfcabgjaaB32
import Derived.Test.YtdgnengfcabgjaaB15
import Derived.Deep.RegionLaw
namespace Go.Proofs.Ytdgnengfcabgjaa
open Go.RowKit

/-- What a call tells that hands over a document that can be read, and an error. -/
def TreeTo (w : World) (d : D) (er : Int) (e : Ending) (w' : World) : Prop := ∃ dv, e = .returned (.tuple #[dv, .int .i64 er]) ∧ DocV w' w'.heap.size d dv ∧ Below w.heap.size w w'
theorem OwnLvs.below {w w' : World} {base : Nat} {v : Value} {ys : List Mk} (h : OwnLvs w base v ys) (hb : Below w.heap.size w w') : OwnLvs w' base v ys :=
  ⟨ownsRow_same h.row fun k hk => hb.block k (h.row.lt k (blk_mem.1 hk)).2, fun y hy => ⟨(h.each y hy).1.below hb (Nat.le_refl _), (h.each y hy).2⟩, h.apart⟩
theorem OwnLvs.all {w : World} {base : Nat} {v : Value} {ys : List Mk} (h : OwnLvs w base v ys) (h0 : 0 < ys.length) (hlen : ys.length ≤ 100000) (hbw : base ≤ w.heap.size) (hfit : ∀ y ∈ ys, y.lf.doc.Fit ∧ y.lf.path.length ≤ 10000) : ∃ g, AllLv base g ys w ∧ RowAt w g v ys ∧ ∃ cs, w.heap[g]? = some (.cells cs 42 (0, 0)) := by
  rcases h.row.2 with ⟨rfl, e⟩ | ⟨g, cap, cur, rfl, hbg, hg, hn, hcm, hcs, htk⟩
  · omega
  · have hobj : ∀ y ∈ ys, g ∉ blk y.v0 ++ y.F := fun y hy hk => by
      have hm := (h.each y hy).1
      rcases List.mem_append.1 hk with hk | hk
      · obtain ⟨cs, hc⟩ := ownsRow_obj hm.path hk
        rw [hg] at hc; cases hc
      · obtain ⟨o, ho, cs, fz, e⟩ := hm.doc.obj g hk
        rw [hg] at ho; cases ho
        rcases e with e | e <;> cases e
    refine ⟨g, ⟨fun y hy => (h.each y hy).1, fun y hy => (h.each y hy).2, h.apart, hobj, hfit, hlen, heap_lt hg, hbw⟩, ⟨some ⟨g, 0, none⟩, cap, rfl, hn, fun _ => ⟨0, rfl, fun k hk j u hu => ?_⟩⟩, ⟨_, hg⟩⟩
    have hj : j < 6 := by
      rcases Nat.lt_or_ge j 6 with h | h
      · exact h
      · rw [List.getElem?_eq_none (by simpa [Mk.enc] using h)] at hu; cases hu
    have hlt : k * 6 + j < ys.length * 6 := by omega
    have e2 : (cur.toList.take (ys.length * 6))[k * 6 + j]? = (ys.flatMap Mk.enc)[k * 6 + j]? := by rw [htk]
    rw [List.getElem?_take_of_lt hlt, Array.getElem?_toList, flatMap_get (enc := Mk.enc) (k := 6) (fun _ => rfl) (by omega) ys _ hlt, show (k * 6 + j) / 6 = k by omega, show (k * 6 + j) % 6 = j by omega, getElem!_pos ys k hk] at e2
    rw [cell_of_row w g (0 + k * 6 + j) _ _ _ hg, Nat.zero_add, e2]
    obtain ⟨hj2, e3⟩ := List.getElem?_eq_some_iff.1 hu
    rw [getElem!_pos _ j hj2, e3]
theorem docV_zero (w : World) (B : Nat) : DocV w B D.zero (.agg #[.int .i64 0, .int .i64 0, .string ⟨#[]⟩, .slice none 0 0, .slice none 0 0]) :=
  ⟨_, _, _, _, _, rfl, by simp only [D.zero, DocIn]; exact ⟨trivial, trivial, trivial, ⟨none, 0, rfl, Nat.le_refl _, fun h => by simp at h⟩, none, 0, rfl, Nat.le_refl _, fun h => by simp at h⟩⟩
mutual
theorem vis_fit (p : List ByteArray) : ∀ d : D, d.Fit → ∀ x ∈ vis p d, x.doc.Fit
  | .mk kind num str keys kids, h, x, hx => by
    simp only [D.Fit] at h
    rw [vis] at hx
    split at hx
    · rcases List.mem_cons.1 hx with rfl | hx
      · simp only [D.Fit]; exact ⟨h.1, by simp, by simp, by simp, by simp [D.Fits]⟩
      · exact visK_fit p kids keys h.2.2.2.2 x hx
    · simp only [List.mem_singleton] at hx
      subst hx
      simp only [D.Fit]; exact h
theorem visK_fit (p : List ByteArray) : ∀ (ds : List D) (ks : List ByteArray), D.Fits ds → ∀ x ∈ visK p ds ks, x.doc.Fit
  | [], _, _, x, hx => by simp [visK] at hx
  | _ :: _, [], _, x, hx => by simp [visK] at hx
  | d :: ds, k :: ks, h, x, hx => by
    simp only [D.Fits] at h
    rw [visK] at hx
    rcases List.mem_append.1 hx with hx | hx
    · exact vis_fit _ d h.1 x hx
    · exact visK_fit p ds ks h.2 x hx
end
set_option maxRecDepth 100000 in
set_option maxHeartbeats 8000000 in
theorem tree_any {ls : List Lf} {v : Value} {B : Nat} {w : World} (hB : B ≤ w.heap.size) (hls : LvsIn w B v ls) (hlen : ls.length ≤ 5000) (hp : ∀ x ∈ ls, x.path.length ≤ 10000) (hs : ∀ x ∈ ls, SmallL x) :
    Calls Try.prog 11 #[v] w (TreeTo w (treeV ls).1 (treeV ls).2) := by
  obtain ⟨A, c, rfl, _⟩ := id hls
  obtain ⟨wA, hwA⟩ : ∃ wA, wA = w.alloc (.cells #[.int .i64 0, .int .i64 0, .string ⟨#[]⟩, .slice none 0 0, .slice none 0 0] 25) := ⟨_, rfl⟩
  have HBA : Hid (Below w.heap.size w wA) := by rw [hwA]; exact Lib.hid ((Below.refl _ _).alloc (Nat.le_refl _) _)
  have HRA : Hid (Box5 wA w.heap.size (.int .i64 0) (.int .i64 0) (.string ⟨#[]⟩) (.slice none 0 0) (.slice none 0 0)) := by rw [hwA]; exact Lib.hid (Box5.new w _ _ _ _ _)
  have HSA : Hid (wA.heap.size = w.heap.size + 1) := by rw [hwA]; exact Lib.hid (World.size_alloc _ _)
  have HSORT := Lib.hid (lsort_any ls (.slice A ls.length c) B wA (by have := HSA.out; omega) (hls.keep fun p h => HBA.out.cell (Nat.lt_of_lt_of_le h hB)) (by omega) hp (fun x hx => (hs x hx).1))
  have hperm := lsrt_perm ls
  have HP : Hid (∀ x ∈ lsrt ls, x.path.length ≤ 10000) := Lib.hid fun x hx => hp x (hperm.subset hx)
  have HS : Hid (∀ x ∈ lsrt ls, SmallL x) := Lib.hid fun x hx => hs x (hperm.subset hx)
  have HL : Hid ((lsrt ls).length ≤ 5000) := Lib.hid (by rw [hperm.length_eq]; exact hlen)
  have HSRT := Lib.hid (lsrt_sorted ls)
  have HV : Hid (∃ s, s = lsrt ls) := Lib.hid ⟨_, rfl⟩
  have HT : Hid (treeV ls = if twiceL (lsrt ls) then (D.zero, 5) else if missL (lsrt ls) then (D.zero, 9) else if !rightB (grownD (lsrt ls)) || !sameLs (lsrt (vis [] (grownD (lsrt ls)))) (lsrt ls) then (D.zero, 1) else (grownD (lsrt ls), 0)) := Lib.hid rfl
  generalize treeV ls = T at *
  obtain ⟨d, er⟩ := T
  generalize lsrt ls = s at *
  clear hls hp hs hperm HV
  go_enter Try.func11, Try.ntmps11
  go_upto_region 1 with fail
  rw [← hwA]
  clear hwA
  go_upto_region 2 with (go_at_call 17; refine HSORT.out.mono ?_
                         rintro e w1 ⟨v1, ys, rfl, hmap, hown, hb1⟩
                         have HMAP := Lib.hid hmap; have HOWN := Lib.hid hown; have HB1 := Lib.hid (HBA.out.trans (hb1.mono (by have := HSA.out; omega))); have HBW1 := Lib.hid hb1
                         clear hmap hown hb1 HSORT)
  have hs1 := HBW1.out.size
  have hs0 := HSA.out
  have HRES1 : Hid (Box5 w1 w.heap.size (.int .i64 0) (.int .i64 0) (.string ⟨#[]⟩) (.slice none 0 0) (.slice none 0 0)) := Lib.hid (HRA.out.same (HBW1.out.block _ (by omega)))
  have hlv1 := HOWN.out.lvs
  rw [HMAP.out] at hlv1
  have HTW := Lib.hid (twice_any (Nat.le_refl _) hlv1 (by have := HL.out; omega) HP.out)
  obtain ⟨A1, c1, rfl, _⟩ := id hlv1
  have HLV1 := Lib.hid hlv1
  have HS01 : Hid (w.heap.size < w1.heap.size) := Lib.hid (by omega)
  clear hlv1 hs1 hs0
  by_cases htw : twiceL s = true
  · have ht := HT.out
    rw [htw] at ht HTW
    simp only [if_true, Prod.mk.injEq] at ht
    obtain ⟨rfl, rfl⟩ := ht
    clear htw
    go_wp2_with (go_at_call 33; refine HTW.out.mono ?_; rintro e w2 ⟨rfl, hb2⟩
                 have HB2 := Lib.hid hb2
                 have hres := HRES1.out.same (hb2.block _ HS01.out)
                 have HRES := Lib.hid hres
                 obtain ⟨r0, r1, r2, r3, r4⟩ := hres.cells
                 have r5 := hres.frozen
                 clear hres hb2)
    have h5 := five_stores w2 w.heap.size (.int .i64 0) (.int .i64 0) (.string ⟨#[]⟩) (.slice none 0 0) (.slice none 0 0)
    have hfin := ((((HRES.out.set0 (.int .i64 0)).set1 (.int .i64 0)).set2 (.string ⟨#[]⟩)).set3 (.slice none 0 0)).set4 (.slice none 0 0)
    refine ret_cell5_2 rfl rfl rfl hfin.load rfl ?_
    exact ⟨_, rfl, docV_zero _ _, HB1.out.trans ((HB2.out.mono (Nat.le_of_lt HS01.out)).trans (h5.2 _ (Nat.le_refl _)))⟩
  · have htw' : twiceL s = false := by simpa using htw
    have ht := HT.out
    rw [htw'] at ht HTW
    simp only [Bool.false_eq_true, if_false] at ht
    have HT2 := Lib.hid ht
    have HRF : Hid (∀ (h : 0 < s.length), (s[0]).path.length = 0 → ∀ k, (h : k + 1 < s.length) → 0 < (s[k + 1]).path.length) := Lib.hid fun h0 hr => root_first HSRT.out htw' h0 hr
    have HPOS : Hid (missL s = false → 0 < s.length) := Lib.hid fun hm => by
      cases s with
      | nil => simp [missL] at hm
      | cons x r => simp
    clear ht HT htw htw' HSRT
    go_upto_region 4 with (go_at_call 33; refine HTW.out.mono ?_; rintro e w2 ⟨rfl, hb2⟩
                           have HB2 := Lib.hid hb2
                           clear hb2 HTW)
    have hs12 := HB2.out.size
    have HOWN2 := Lib.hid (HOWN.out.below HB2.out)
    have hlv2 := HOWN2.out.lvs
    rw [HMAP.out] at hlv2
    have HMS := Lib.hid (miss_any (Nat.le_refl _) hlv2 (by have := HL.out; omega) HP.out HRF.out)
    have HRES2 := Lib.hid (HRES1.out.same (HB2.out.block _ HS01.out))
    have HBW2 := Lib.hid (HB1.out.trans (HB2.out.mono (Nat.le_of_lt HS01.out)))
    have HS02 : Hid (w.heap.size < w2.heap.size) := Lib.hid (by have := HS01.out; omega)
    clear hlv2 HLV1 HRES1 hs12
    by_cases hms : missL s = true
    · have ht := HT2.out
      rw [hms] at ht HMS
      simp only [if_true, Prod.mk.injEq] at ht
      obtain ⟨rfl, rfl⟩ := ht
      clear hms
      go_wp2_with (go_at_call 34; refine HMS.out.mono ?_; rintro e w3 ⟨rfl, hb3⟩
                   have HB3 := Lib.hid hb3
                   have hres := HRES2.out.same (hb3.block _ HS02.out)
                   have HRES := Lib.hid hres
                   obtain ⟨r0, r1, r2, r3, r4⟩ := hres.cells
                   have r5 := hres.frozen
                   clear hres hb3)
      have h5 := five_stores w3 w.heap.size (.int .i64 0) (.int .i64 0) (.string ⟨#[]⟩) (.slice none 0 0) (.slice none 0 0)
      have hfin := ((((HRES.out.set0 (.int .i64 0)).set1 (.int .i64 0)).set2 (.string ⟨#[]⟩)).set3 (.slice none 0 0)).set4 (.slice none 0 0)
      refine ret_cell5_2 rfl rfl rfl hfin.load rfl ?_
      exact ⟨_, rfl, docV_zero _ _, HBW2.out.trans ((HB3.out.mono (Nat.le_of_lt HS02.out)).trans (h5.2 _ (Nat.le_refl _)))⟩
    · have hms' : missL s = false := by simpa using hms
      have ht := HT2.out
      rw [hms'] at ht HMS
      simp only [Bool.false_eq_true, if_false] at ht
      have HT3 := Lib.hid ht
      have h0s := HPOS.out hms'
      clear ht HT2 hms hms' HPOS HRF
      go_upto_region 6 with (go_at_call 34; refine HMS.out.mono ?_; rintro e w3 ⟨rfl, hb3⟩
                             have HB3 := Lib.hid hb3
                             clear hb3 HMS)
      have hs23 := HB3.out.size
      have hown3 := HOWN2.out.below HB3.out
      have hylen : ys.length = s.length := by have := congrArg List.length HMAP.out; simpa using this
      have hyin : ∀ y ∈ ys, y.lf ∈ s := fun y hy => by rw [← HMAP.out]; exact List.mem_map.2 ⟨y, hy, rfl⟩
      have hsz3 : wA.heap.size ≤ w3.heap.size := by have := HBW1.out.size; have := HB2.out.size; omega
      obtain ⟨g, hall, hrow, gcs, hgo⟩ := hown3.all (by omega) (by have := HL.out; omega) hsz3 fun y hy => ⟨(HS.out _ (hyin y hy)).1, HP.out _ (hyin y hy)⟩
      have HGR := Lib.hid (grown_all wA.heap.size g ys.length ys [] ys _ w3 (Nat.le_refl _) (by omega) rfl hall hrow)
      have HOWN3 := Lib.hid hown3; have HALL := Lib.hid hall; have HGO := Lib.hid hgo
      have HRES3 := Lib.hid (HRES2.out.same (HB3.out.block _ HS02.out))
      have HBW3 := Lib.hid (HBW2.out.trans (HB3.out.mono (Nat.le_of_lt HS02.out)))
      clear hown3 hall hrow hgo hsz3 hs23
      go_upto_region 7 with (go_at_call 35; refine HGR.out.mono ?_
                             rintro e w4 ⟨y0, us, rest, ks, ds, rv, u0, u1, u2, u3, u4, F, hz, hgr, hst, rfl, hrow4, hown4, hnd4, hat4, hb4, hsm4, hmk4⟩
                             obtain ⟨kd, hkd⟩ : ∃ kd, kd = y0.lf.doc.plus ks ds := ⟨_, rfl⟩
                             rw [← hkd] at hown4
                             have hgd : kd = grownD s := by rw [hkd, ← HMAP.out, hz, List.map_cons, grownD_of hgr hst]
                             have hfit : kd.Fit := by
                               have hl := hgr.len
                               have hin : ∀ x ∈ (us ++ rest).map (·.lf), SmallL x := fun x hx => by obtain ⟨y, hy, rfl⟩ := List.mem_map.1 hx; exact HS.out _ (hyin y (by rw [hz]; simp only [List.mem_cons]; exact .inr hy))
                               have hln : ((us ++ rest).map (·.lf)).length ≤ 5000 := by have := HL.out; rw [List.length_map]; rw [hz] at hylen; simp only [List.length_cons] at hylen; omega
                               have hf := hgr.fit hin hln
                               rw [hkd]
                               exact fit_plus (HS.out _ (hyin y0 (by rw [hz]; simp))) (by omega) (by omega) hf.1 hf.2
                             obtain ⟨A7, c7, A8, c8, rfl, rfl, rfl, rfl, rfl⟩ := hown4.doc.forms
                             have HKD := Lib.hid hgd; have HFIT := Lib.hid hfit; have HOWN4 := Lib.hid hown4; have HB4 := Lib.hid hb4
                             have hnin : ∀ k, (∀ y ∈ ys, k ∉ blk y.v0 ++ y.F) → k < w3.heap.size → w4.heap[k]? = w3.heap[k]? := fun k hk hlt => hsm4 k hlt fun y hy hky => hk y (by rw [hz]; rcases List.mem_cons.1 hy with rfl | hy <;> simp [*]) (List.mem_append_right _ hky)
                             have HROW4 : Hid (OwnLvs w4 wA.heap.size (.slice A1 s.length c1) ys) := Lib.hid ⟨ownsRow_same HOWN3.out.row fun k hk => hnin k (by
                                 obtain ⟨cs', hc'⟩ := ownsRow_obj HOWN3.out.row hk
                                 intro y hy hky
                                 rcases List.mem_append.1 hky with hky | hky
                                 · obtain ⟨cs2, hc2⟩ := ownsRow_obj (HALL.out.each y hy).path hky
                                   rw [hc'] at hc2; cases hc2
                                 · obtain ⟨o, ho, cs2, fz, e⟩ := (HALL.out.each y hy).doc.obj k hky
                                   rw [hc'] at ho; cases ho
                                   rcases e with e | e <;> cases e) (HOWN3.out.row.lt k (blk_mem.1 hk)).2, fun y hy => ⟨hmk4 y hy, (HOWN3.out.each y hy).2⟩, HOWN3.out.apart⟩
                             have HRES4 := Lib.hid (HRES3.out.same (hnin w.heap.size (fun y hy hk => by have := (HALL.out.each y hy).lt _ hk; have := HALL.out.lo y hy; have := HSA.out; omega) (by have := HS02.out; have := HB3.out.size; omega)))
                             clear hkd hgd hfit hz hgr hst hrow4 hown4 hnd4 hat4 hb4 hsm4 hmk4 hnin)
      obtain ⟨w5, hw5⟩ : ∃ w5, w5 = w4.alloc (.cells #[.int .i64 kd.kind, .int .i64 kd.num, .string kd.str, .slice A7 kd.keys.length c7, .slice A8 kd.kids.length c8] 25) := ⟨_, rfl⟩
      have HB5 : Hid (Below w4.heap.size w4 w5) := by rw [hw5]; exact Lib.hid ((Below.refl _ _).alloc (Nat.le_refl _) _)
      have HBX5 : Hid (Box5 w5 w4.heap.size (.int .i64 kd.kind) (.int .i64 kd.num) (.string kd.str) (.slice A7 kd.keys.length c7) (.slice A8 kd.kids.length c8)) := by rw [hw5]; exact Lib.hid (Box5.new w4 _ _ _ _ _)
      rw [← hw5]
      clear hw5
      have hsz4 : w3.heap.size ≤ w4.heap.size := HB4.out.size
      have HS04 : Hid (w.heap.size < w4.heap.size) := Lib.hid (by have := HS02.out; have := HB3.out.size; omega)
      have HS45 : Hid (w4.heap.size < w5.heap.size) := Lib.hid HBX5.out.lt
      have HDV5 : Hid (DocV w5 w5.heap.size kd (.agg #[.int .i64 kd.kind, .int .i64 kd.num, .string kd.str, .slice A7 kd.keys.length c7, .slice A8 kd.kids.length c8])) := Lib.hid ⟨_, _, _, _, _, rfl, HOWN4.out.doc.keep HB5.out.size fun p hp => HB5.out.cell hp⟩
      have HRT := Lib.hid (right_v HFIT.out (Nat.le_refl _) HDV5.out)
      have HBW5 : Hid (Below w.heap.size w w5) := Lib.hid (HBW3.out.trans ((HB4.out.mono (by have := HSA.out; omega)).trans (HB5.out.mono (Nat.le_of_lt HS04.out))))
      have HRES5 := Lib.hid (HRES4.out.same (HB5.out.block _ HS04.out))
      have hkd := HKD.out
      have ht := HT3.out
      rw [← hkd] at ht
      obtain ⟨b0, b1, b2, b3, b4⟩ := HBX5.out.cells
      clear hsz4 hkd HT3 HKD
      by_cases hr : rightB kd = true
      · rw [hr] at ht HRT
        simp only [Bool.not_true, Bool.false_or] at ht
        have hok := okB_iff.1 hr
        have hvl := vis_len [] kd
        have hlvn : (lsrt (vis [] kd)).length ≤ 512 := by rw [(lsrt_perm _).length_eq]; omega
        have hlvp : ∀ x ∈ lsrt (vis [] kd), x.path.length ≤ 10000 := fun x hx => vis_path (n := 10000) kd.depth kd [] (Nat.le_refl _) (by simp; omega) x ((lsrt_perm _).subset hx)
        have hlvf : ∀ x ∈ lsrt (vis [] kd), x.doc.Fit := fun x hx => vis_fit [] kd HFIT.out x ((lsrt_perm _).subset hx)
        have HSAME : Hid (∀ w6, Below w5.heap.size w5 w6 → Calls Try.prog 14 #[.agg #[.int .i64 kd.kind, .int .i64 kd.num, .string kd.str, .slice A7 kd.keys.length c7, .slice A8 kd.kids.length c8]] w6 (fun e w7 => ∃ v7, e = .returned v7 ∧ Below w6.heap.size w6 w7 ∧ Calls Try.prog 23 #[v7, .slice A1 s.length c1] w7 (fun e w8 => e = .returned (.bool (sameLs (lsrt (vis [] kd)) s)) ∧ Below w7.heap.size w7 w8))) := Lib.hid fun w6 hb6 => by
          have hdv6 : DocV w6 w6.heap.size kd _ := HDV5.out.keep hb6.size fun p hp => hb6.cell hp
          refine (lflat_any (Nat.le_refl _) hdv6 HFIT.out (by omega) (by omega)).mono ?_
          rintro e w7 ⟨v7, zs, rfl, hm7, ho7, hb7⟩
          have hl7 := ho7.lvs
          rw [hm7] at hl7
          have hs7 := (((HROW4.out.below HB5.out).below hb6).below hb7).lvs
          rw [HMAP.out] at hs7
          exact ⟨v7, rfl, hb7, lsame_any (Nat.le_refl _) hl7 hs7 (by omega) hlvp hlvf fun x hx => (HS.out x hx).1⟩
        clear hok hvl hlvn hlvp hlvf hr
        cases hsm : sameLs (lsrt (vis [] kd)) s with
        | true =>
          rw [hsm] at ht HSAME
          simp only [Bool.not_true, Bool.false_eq_true, if_false, Prod.mk.injEq] at ht
          obtain ⟨rfl, rfl⟩ := ht
          clear hsm
          go_wp2_with (first
            | (go_at_call 26; refine HRT.out.mono ?_; rintro e w6 ⟨rfl, hb6⟩
               have HB6 := Lib.hid hb6
               have HSM6 := Lib.hid (HSAME.out w6 hb6)
               obtain ⟨k0, k1, k2, k3, k4⟩ := (HBX5.out.same (hb6.block _ HS45.out)).cells
               clear hb6 HSAME HRT b0 b1 b2 b3 b4)
            | (go_at_call 14; refine HSM6.out.mono ?_; rintro e w7 ⟨v7, rfl, hb7, h7⟩
               have HB7 := Lib.hid hb7; have HSM7 := Lib.hid h7
               clear hb7 h7 HSM6 k0 k1 k2 k3 k4)
            | (go_at_call 23; refine HSM7.out.mono ?_; rintro e w8 ⟨rfl, hb8⟩
               have hb58 : Below w5.heap.size w5 w8 := HB6.out.trans ((HB7.out.mono HB6.out.size).trans (hb8.mono (Nat.le_trans HB6.out.size HB7.out.size)))
               have HB58 := Lib.hid hb58
               have hres := HRES5.out.same (hb58.block _ (Nat.lt_trans HS04.out HS45.out))
               have HRES := Lib.hid hres
               obtain ⟨r0, r1, r2, r3, r4⟩ := hres.cells
               have r5 := hres.frozen
               obtain ⟨k0, k1, k2, k3, k4⟩ := (HBX5.out.same (hb58.block _ HS45.out)).cells
               clear hb8 hb58 hres HSM7))
          have h5 := five_stores w8 w.heap.size (.int .i64 d.kind) (.int .i64 d.num) (.string d.str) (.slice A7 d.keys.length c7) (.slice A8 d.kids.length c8)
          have hfin := ((((HRES.out.set0 (.int .i64 d.kind)).set1 (.int .i64 d.num)).set2 (.string d.str)).set3 (.slice A7 d.keys.length c7)).set4 (.slice A8 d.kids.length c8)
          refine ret_cell5_2 rfl rfl rfl hfin.load rfl ?_
          have hb48 : Below w4.heap.size w4 w8 := HB5.out.trans (HB58.out.mono (Nat.le_of_lt HS45.out))
          have hown : OwnIn _ wA.heap.size d (.int .i64 d.kind) (.int .i64 d.num) (.string d.str) (.slice A7 d.keys.length c7) (.slice A8 d.kids.length c8) F := (HOWN4.out.below hb48 (Nat.le_refl _)).same (Nat.le_refl _) fun k hk => h5.1 k (by have := (HOWN4.out.lt k hk).1; have := HSA.out; omega)
          exact ⟨_, rfl, ⟨_, _, _, _, _, rfl, hown.doc⟩, HBW5.out.trans ((HB58.out.mono (Nat.le_of_lt (Nat.lt_trans HS04.out HS45.out))).trans (h5.2 _ (Nat.le_refl _)))⟩
        | false =>
          rw [hsm] at ht HSAME
          simp only [Bool.not_false, if_true, Prod.mk.injEq] at ht
          obtain ⟨rfl, rfl⟩ := ht
          clear hsm
          go_wp2_with (first
            | (go_at_call 26; refine HRT.out.mono ?_; rintro e w6 ⟨rfl, hb6⟩
               have HB6 := Lib.hid hb6
               have HSM6 := Lib.hid (HSAME.out w6 hb6)
               obtain ⟨k0, k1, k2, k3, k4⟩ := (HBX5.out.same (hb6.block _ HS45.out)).cells
               clear hb6 HSAME HRT b0 b1 b2 b3 b4)
            | (go_at_call 14; refine HSM6.out.mono ?_; rintro e w7 ⟨v7, rfl, hb7, h7⟩
               have HB7 := Lib.hid hb7; have HSM7 := Lib.hid h7
               clear hb7 h7 HSM6 k0 k1 k2 k3 k4)
            | (go_at_call 23; refine HSM7.out.mono ?_; rintro e w8 ⟨rfl, hb8⟩
               have hb58 : Below w5.heap.size w5 w8 := HB6.out.trans ((HB7.out.mono HB6.out.size).trans (hb8.mono (Nat.le_trans HB6.out.size HB7.out.size)))
               have HB58 := Lib.hid hb58
               have hres := HRES5.out.same (hb58.block _ (Nat.lt_trans HS04.out HS45.out))
               have HRES := Lib.hid hres
               obtain ⟨r0, r1, r2, r3, r4⟩ := hres.cells
               have r5 := hres.frozen
               clear hb8 hb58 hres HSM7))
          have h5 := five_stores w8 w.heap.size (.int .i64 0) (.int .i64 0) (.string ⟨#[]⟩) (.slice none 0 0) (.slice none 0 0)
          have hfin := ((((HRES.out.set0 (.int .i64 0)).set1 (.int .i64 0)).set2 (.string ⟨#[]⟩)).set3 (.slice none 0 0)).set4 (.slice none 0 0)
          refine ret_cell5_2 rfl rfl rfl hfin.load rfl ?_
          exact ⟨_, rfl, docV_zero _ _, HBW5.out.trans ((HB58.out.mono (Nat.le_of_lt (Nat.lt_trans HS04.out HS45.out))).trans (h5.2 _ (Nat.le_refl _)))⟩
      · have hr' : rightB kd = false := by simpa using hr
        rw [hr'] at ht HRT
        simp only [Bool.not_false, Bool.true_or, if_true, Prod.mk.injEq] at ht
        obtain ⟨rfl, rfl⟩ := ht
        clear hr hr'
        go_wp2_with (go_at_call 26; refine HRT.out.mono ?_; rintro e w6 ⟨rfl, hb6⟩
                     have HB6 := Lib.hid hb6
                     have hres := HRES5.out.same (hb6.block _ (Nat.lt_trans HS04.out HS45.out))
                     have HRES := Lib.hid hres
                     obtain ⟨r0, r1, r2, r3, r4⟩ := hres.cells
                     have r5 := hres.frozen
                     clear hb6 hres HRT b0 b1 b2 b3 b4)
        have h5 := five_stores w6 w.heap.size (.int .i64 0) (.int .i64 0) (.string ⟨#[]⟩) (.slice none 0 0) (.slice none 0 0)
        have hfin := ((((HRES.out.set0 (.int .i64 0)).set1 (.int .i64 0)).set2 (.string ⟨#[]⟩)).set3 (.slice none 0 0)).set4 (.slice none 0 0)
        refine ret_cell5_2 rfl rfl rfl hfin.load rfl ?_
        exact ⟨_, rfl, docV_zero _ _, HBW5.out.trans ((HB6.out.mono (Nat.le_of_lt (Nat.lt_trans HS04.out HS45.out))).trans (h5.2 _ (Nat.le_refl _)))⟩
end Go.Proofs.Ytdgnengfcabgjaa
namespace Go.Proofs.Ytdgnengfcabgjaa
open Go.RowKit

/-- A row of leaves, each of memory of its own, can be read (the same leaf may stand in it twice). -/
theorem row_lvs {w : World} {base n : Nat} {v : Value} {zs : List Mk} (hr : w.ownsRow base 42 6 v n (zs.flatMap Mk.enc)) (hn : n = zs.length) (hz : ∀ y ∈ zs, MkIn y w) : LvsIn w w.heap.size v (zs.map (·.lf)) := by
  subst hn
  rcases hr.2 with ⟨rfl, h0⟩ | ⟨g, cap, cur, rfl, _, hg, hn, _, _, htk⟩
  · exact ⟨none, 0, by rw [List.length_map, h0], by rw [List.length_map]; omega, fun h => by rw [List.length_map] at h; omega⟩
  · refine ⟨some ⟨g, 0, none⟩, cap, by rw [List.length_map], by rw [List.length_map]; exact hn, fun _ => ⟨g, 0, rfl, heap_lt hg, fun k hk => ?_⟩⟩
    rw [List.length_map] at hk
    have hcell : ∀ j, j < 6 → w.cell? ⟨g, 0 + k * 6 + j, none⟩ = some ((Mk.enc zs[k])[j]!) := fun j hj => by
      have hlt : k * 6 + j < zs.length * 6 := by omega
      have e2 : (cur.toList.take (zs.length * 6))[k * 6 + j]? = (zs.flatMap Mk.enc)[k * 6 + j]? := by rw [htk]
      rw [List.getElem?_take_of_lt hlt, Array.getElem?_toList, flatMap_get (enc := Mk.enc) (k := 6) (fun _ => rfl) (by omega) zs _ hlt, show (k * 6 + j) / 6 = k by omega, show (k * 6 + j) % 6 = j by omega, getElem!_pos zs k hk] at e2
      rw [cell_of_row w g (0 + k * 6 + j) _ _ _ hg, Nat.zero_add]
      exact e2
    have hm := hz zs[k] (List.getElem_mem hk)
    refine ⟨_, _, _, _, _, _, hcell 0 (by omega), hcell 1 (by omega), hcell 2 (by omega), hcell 3 (by omega), hcell 4 (by omega), hcell 5 (by omega), ?_, ?_⟩
    · rw [List.getElem_map]; exact Strs_of_own hm.path
    · rw [List.getElem_map]; exact hm.doc.doc
theorem infoL : (Try.prog.info? 42).map (fun i => (i.zero, i.size, i.bytes)) = some (some (.agg #[.slice none 0 0, .int .i64 0, .int .i64 0, .string ByteArray.empty, .slice none 0 0, .slice none 0 0]), 6, 104) := by kernel_rfl
/-- An empty row that has no room. -/
def EmptyAt (B : Nat) (W : World) (v : Value) : Prop := ∃ b, v = .slice (some ⟨b, 0, none⟩) 0 0 ∧ B ≤ b ∧ W.heap[b]? = some (.cells #[] 42 (0, 0))
theorem step_app1 {ops : Array Oper} {o : Oper} {a : Act} {K : Act → World → Prop} {Q : Exit → Act → World → Prop} {E : Prop} (hgd : o.guard = none) (s x : Operand) (ho : o.op = .call { callee := .builtin .append, args := #[s, x], argTypes := #[26, 26] }) {W : World} {B g n c : Nat} {xs : List Value} {v : Value} (hs : a.eval s = v) (hx : a.eval x = .slice (some ⟨g, 0, none⟩) n c)
    (hB : B ≤ W.heap.size) (hv : EmptyAt B W v) (hl : xs.length = n * 6) (hn : n ≤ 1000000) (hc : ∀ j u, xs[j]? = some u → W.cell? ⟨g, 0 + j, none⟩ = some u) (h1 : ∀ u ∈ xs, u.oneCell' = true) (hn0 : 0 < n)
    (h : ∀ v' w', w'.ownsRow B 42 6 v' n xs → Below W.heap.size W w' → (∀ k, v'.ownBlock = some k → W.heap.size ≤ k) → K (a.put o.dst v') w') : if Region.wanted o (yielded ops a.tmps) = true then Oper.wp Try.prog o a W K Q else E := by
  have hw : Region.wanted o (yielded ops a.tmps) = true := by simp [Region.wanted, hgd]
  rw [if_pos hw]
  obtain ⟨b, rfl, hb, hg⟩ := hv
  obtain ⟨i0, hi, hz0, hz1, hz2⟩ := info_parts infoL
  have hown : W.ownsRow B 42 6 (.slice (some ⟨b, 0, none⟩) 0 0) 0 [] := ⟨rfl, .inr ⟨b, 0, #[], rfl, hb, hg, Nat.le_refl _, by unfold maxLen; omega, rfl, rfl⟩⟩
  obtain ⟨v', w', hr, h2, h3, h4, h5⟩ := run_append_own2 (P := Try.prog) B 26 o.type 42 i0 (.agg #[.slice none 0 0, .int .i64 0, .int .i64 0, .string ByteArray.empty, .slice none 0 0, .slice none 0 0]) 6 104 Try.underlying26 hi hz0 hz1 hz2 (by rfl) (by decide) _ 0 [] hown ⟨g, 0, none⟩ n c xs hl
    (fun j u hu => by rw [e_add_at]; exact hc j u hu) h1 (by unfold maxLen; omega) (by omega) hB
  rw [Nat.zero_add, List.nil_append] at h2
  have hgb : w'.heap[b]? = some (.cells #[] 42 (0, 0)) := by
    rcases h5.2 with ⟨e1, _⟩ | ⟨g', cap, cur, e1, _, hg', _, _, hcs, _⟩
    · cases e1
    · injection e1 with e1 e2 e3
      injection e1 with e1; injection e1 with e1
      subst e1; subst e3
      have : cur = #[] := Array.eq_empty_of_size_eq_zero (by omega)
      rw [hg', this]
  refine op_appendE s x 26 ho hs hx hr (h v' w' h2 ⟨h3.os, h3.tape, h3.output, h3.size, fun k hk => ?_⟩ fun k hk => ?_)
  · by_cases e : b = k
    · subst e; rw [hgb, hg]
    · exact h3.block k hk (fun e2 => e (by simpa [Value.ownBlock] using e2.symm))
  · rcases h4 with e | e
    · exfalso
      rw [hk] at e
      have e' : k = b := by simpa [Value.ownBlock] using e
      subst e'
      rcases h2.2 with ⟨e1, _⟩ | ⟨g', cap, cur, e1, _, hg', hnc, _, hcs, _⟩
      · rw [e1] at hk; simp [Value.ownBlock] at hk
      · rw [e1] at hk
        have e2 : g' = k := by simpa [Value.ownBlock] using hk
        subst e2
        rw [hgb] at hg'
        cases hg'
        simp at hcs
        omega
    · rw [hk] at e; cases e; exact Nat.le_refl _
theorem step_app2 {ops : Array Oper} {o : Oper} {a : Act} {K : Act → World → Prop} {Q : Exit → Act → World → Prop} {E : Prop} (hgd : o.guard = none) (s x : Operand) (ho : o.op = .call { callee := .builtin .append, args := #[s, x], argTypes := #[26, 26] }) {W : World} {B b n c : Nat} {xs news : List Value} {v : Value} (hs : a.eval s = v) (hx : a.eval x = .slice (some ⟨b, 0, none⟩) 1 c)
    (hB : B ≤ W.heap.size) (hv : W.ownsRow B 42 6 v n xs) (hl : news.length = 6) (hn : n ≤ 1000000) (hc : ∀ j u, news[j]? = some u → W.cell? ((⟨b, 0, none⟩ : Addr).add j) = some u) (h1 : ∀ u ∈ news, u.oneCell' = true)
    (h : ∀ g cap w', w'.ownsRow B 42 6 (.slice (some ⟨g, 0, none⟩) (n + 1) cap) (n + 1) (xs ++ news) → Below B W w' → W.grownBy w' v.ownBlock → K (a.put o.dst (.slice (some ⟨g, 0, none⟩) (n + 1) cap)) w') : if Region.wanted o (yielded ops a.tmps) = true then Oper.wp Try.prog o a W K Q else E := by
  have hw : Region.wanted o (yielded ops a.tmps) = true := by simp [Region.wanted, hgd]
  rw [if_pos hw]
  obtain ⟨i0, hi, hz0, hz1, hz2⟩ := info_parts infoL
  obtain ⟨v', w', hr, h2, h3, h4, h5⟩ := run_append_own2 (P := Try.prog) B 26 o.type 42 i0 (.agg #[.slice none 0 0, .int .i64 0, .int .i64 0, .string ByteArray.empty, .slice none 0 0, .slice none 0 0]) 6 104 Try.underlying26 hi hz0 hz1 hz2 (by rfl) (by decide) v n xs hv ⟨b, 0, none⟩ 1 c news (by rw [hl])
    hc h1 (by unfold maxLen; omega) (by omega) hB
  obtain ⟨g, cap, rfl, _, _⟩ := h2.form (by omega)
  exact op_appendE s x 26 ho hs hx hr (h g cap w' h2 ((Below.refl B W).grown h3 hB fun j e => (hv.lt j e).1) h3)
theorem lb_alloc {W X : World} (h : Below W.heap.size W X) (o : Obj) : Below W.heap.size W (X.alloc o) := h.alloc h.size o
theorem lb_drew {W X : World} (h : Below W.heap.size W X) : Below W.heap.size W X.drew := h.drew
theorem la_new {X : World} {b : Nat} {cs : Array Value} {t : TypeId} (hb : b = X.heap.size) : (X.alloc (.cells cs t)).heap[b]? = some (.cells cs t (0, 0)) := by subst hb; exact heap_alloc_new X _
theorem la_old {X : World} {o : Obj} {b : Nat} {r : Option Obj} (hb : b < X.heap.size) (h : X.heap[b]? = r) : (X.alloc o).heap[b]? = r := (Below.heap_alloc _ _ _ hb).trans h
theorem la_drew {X : World} {b : Nat} {r : Option Obj} (h : X.heap[b]? = r) : X.drew.heap[b]? = r := h
theorem la_grown {X w : World} {b : Nat} {r : Option Obj} {row : Option Nat} (hb : X.grownBy w row) (hlt : b < X.heap.size) (hne : row ≠ some b) (h : X.heap[b]? = r) : w.heap[b]? = r := (hb.block _ hlt (Ne.symm hne)).trans h
theorem lb_set {W X : World} (h : Below W.heap.size W X) {p : Addr} (hp : W.heap.size ≤ p.block) (u : Value) : Below W.heap.size W (X.setCell p u) := h.setCell hp u
theorem la_next {X w : World} {b : Nat} {r : Option Obj} (hb : Below X.heap.size X w) (hlt : b < X.heap.size) (h : X.heap[b]? = r) : w.heap[b]? = r := (hb.block _ hlt).trans h
end Go.Proofs.Ytdgnengfcabgjaa
