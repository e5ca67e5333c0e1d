/-
  The document's own Least: of a dictionary or a list.
-/
import Derived.Test.YtnjmknofojjlmaaDoorRLeastF
import Derived.Deep.RegionLaw
import Derived.IntWalk
import Derived.Deep.CutRange
import Derived.BigRegion
namespace Go.Proofs.YtnjmknofojjlmaaDoor
open Go.RowKit

theorem heap_alloc_new' {w : World} {b : Nat} (hb : w.heap.size = b) (o : Obj) : (w.alloc o).heap[b]? = some o := hb ▸ heap_alloc_new w o
theorem conv_dig1 {m : Nat} (hm : m ≤ 9) (Y : World) (g : Nat) (hc : Y.cell? ⟨g, 0, none⟩ = some (.int .u8 (48 + (m : Int)))) :
    (convert 53 9 (.slice (some ⟨g, 0, none⟩) 1 1)).run Tryd.prog Y = .ok (.string ⟨#[UInt8.ofNat (48 + m)]⟩) Y := by
  have hn : (UInt8.ofNat (48 + m)).toNat = 48 + m := by simp [UInt8.toNat_ofNat]; omega
  exact run_convert_bytes_back Y 53 9 5 ⟨g, 0, none⟩ 1 [UInt8.ofNat (48 + m)] Tryd.underlying53 Tryd.underlying5 Tryd.underlying9 fun j hj => by
    obtain rfl : j = 0 := by simpa using hj
    rw [show (Addr.mk g 0 none).add 0 = ⟨g, 0, none⟩ from rfl, hc]
    simp only [List.getElem_cons_zero, hn]
    rfl
set_option maxHeartbeats 8000000 in
set_option maxRecDepth 100000 in
theorem rleast_dict {t : T} {v : Value} {w : World} {B m : Nat} (hk : t.kind = 2) (hok : LeastOk t) (hm : t.depth ≤ m + 1) (hall : allT t = true) (hf : t.Fit) (hB : B ≤ w.heap.size) (ht : TypeV w B t v) (ih : RLeastsTo m) :
    Calls Tryd.prog 10 #[v] w (MadeDoc w.heap.size w t.least) := by
  have hf0 := hok.fs (by omega)
  obtain ⟨x, ho1⟩ := hok.of1 (by omega)
  have hlo := hok.lo (by omega)
  obtain ⟨N, hN⟩ : ∃ N : Nat, min t.lo 8 = (N : Int) := ⟨(min t.lo 8).toNat, by omega⟩
  have hN8 : N ≤ 8 := by omega
  have hl : t.least = .mk 2 0 ⟨#[]⟩ (kKeys N) (List.replicate N x.least) := by
    rw [least_eq, hf0, ho1]
    have : leastN t.lo = N := by unfold leastN; omega
    simp [keysF, keysO, leastF, leastO, this, hk, leastKind, leastNum, leastStr]
  have HL := Lib.hid hl; have HALL := Lib.hid hall; have HF := Lib.hid hf; have IH := Lib.hid ih
  have HO1 := Lib.hid ho1
  obtain ⟨v0, v1, v2, v3, v4, v5, rfl, hd⟩ := ht
  have HOF := Lib.hid hd.of_
  obtain ⟨A3, c3, A4, c4, A5, c5, rfl, rfl, rfl, rfl, rfl, rfl⟩ := hd.forms
  rw [hk, ho1]
  rw [ho1] at HOF
  clear hd hl hok hall hf ih hk hf0 ho1
  go_enter Tryd.func10, Tryd.ntmps10
  go_wp2_with fail
  obtain ⟨w2, hw2⟩ : ∃ w2, w2 = ((w.alloc (.cells #[.int .i64 2, .int .i64 t.lo, .int .i64 t.hi, .slice A3 t.names.length c3, .slice A4 t.fields.length c4, .slice A5 1 c5] 26)).alloc (.cells #[.int .i64 0, .int .i64 0, .string ⟨#[]⟩, .slice none 0 0, .slice none 0 0] 33)).alloc (.cells #[.int .i64 2, .int .i64 0, .string ⟨#[]⟩, .slice none 0 0, .slice none 0 0] 33) := ⟨_, rfl⟩
  have HT2 : Hid (Box6 w2 w.heap.size (.int .i64 2) (.int .i64 t.lo) (.int .i64 t.hi) (.slice A3 t.names.length c3) (.slice A4 t.fields.length c4) (.slice A5 1 c5)) := by rw [hw2]; exact ((Box6.new w _ _ _ _ _ _).alloc _).alloc _
  have HR2 : Hid (Box5 w2 (w.heap.size + 1) (.int .i64 0) (.int .i64 0) (.string ⟨#[]⟩) (.slice none 0 0) (.slice none 0 0)) := by rw [hw2]; exact (Box5.new' (by simp) _ _ _ _ _).alloc _
  have HD2 : Hid (Box5 w2 (w.heap.size + 2) (.int .i64 2) (.int .i64 0) (.string ⟨#[]⟩) (.slice none 0 0) (.slice none 0 0)) := by rw [hw2]; exact Box5.new' (by simp) _ _ _ _ _
  have HB2 : Hid (Below w.heap.size w w2) := by rw [hw2]; exact (((Below.refl _ _).alloc (Nat.le_refl _) _).alloc (by simp) _).alloc (by simp; omega) _
  have hz20 : w.heap.size + 3 ≤ w2.heap.size := by rw [hw2]; simp
  rw [← hw2]
  clear hw2
  obtain ⟨A5', c5', e5, _, hof⟩ := HOF.out
  injection e5 with e5 _ e6
  subst e5; subst e6
  obtain ⟨b, off, rfl, hbB, hof⟩ := hof (by simp)
  obtain ⟨y0, y1, y2, y3, y4, y5, g0, g1, g2, g3, g4, g5, hti⟩ := hof.at_ 0 (by simp)
  simp only [Nat.zero_mul, Nat.add_zero, List.getElem_cons_zero] at g0 g1 g2 g3 g4 g5 hti
  have HTI := Lib.hid hti
  obtain ⟨X3, x3, X4, x4, X5, x5, rfl, rfl, rfl, rfl, rfl, rfl⟩ := hti.forms
  have HCE : Hid (_ ∧ _ ∧ _ ∧ _ ∧ _ ∧ _) := Lib.hid ⟨g0, g1, g2, g3, g4, g5⟩
  clear hti hof g0 g1 g2 g3 g4 g5
  have hdep : x.depth ≤ m := by have := T.of_depth (t := t) (i := 0) (by rw [HO1.out]; simp); simp only [HO1.out, List.getElem_cons_zero] at this; omega
  have HAT : Hid (allT x = true) := by
    have h := HALL.out
    rw [allT_eq, Bool.and_eq_true] at h
    have h2 := h.2
    rw [T.kids, allL_append, Bool.and_eq_true, HO1.out] at h2
    exact Lib.hid (by simpa [allL] using h2.2)
  have HFT : Hid x.Fit := by
    have h := HF.out.parts.2.2.2.2.2
    rw [HO1.out] at h
    exact h.at_ (i := 0) (by simp)
  have HHN := Lib.hid hN
  clear hN
  go_loopw [6] (fun i wr => ∃ (k : Nat) (v3 v4 : Value) (cs : List Value) (F : List Nat), k ≤ N ∧ i = .int .i64 k ∧ DocSt w2 wr (w.heap.size + 2) 2 0 ⟨#[]⟩ (kKeys k) (List.replicate k x.least) v3 v4 cs F) (fun i _ => N - (intOf i).toNat)
  case atStart => exact ⟨0, _, _, [], [], Nat.zero_le _, rfl, HD2.out, by simpa [kKeys] using World.ownsRow_nil _ _ _ _, World.ownsRow_nil _ _ _ _, by simp [OwnKids], by simp [blk, Value.ownBlock], Turned.of_below (Below.refl _ _) _ _⟩
  case round =>
    obtain ⟨k, v3, v4, cs, F, hk0, rfl, hst⟩ := hrel
    have HST := Lib.hid hst
    have hzr := hst.t.size
    clear hst
    have HTR := Lib.hid (HT2.out.same (HST.out.t.block _ (by omega) (by simp) (by omega)))
    obtain ⟨t0, t1, t2, t3, t4, t5⟩ := HTR.out.cells
    have htl : w.heap.size < wr.heap.size := by omega
    by_cases hlt : k < N
    · have hkl : (k : Int) < t.lo := by have := HHN.out; omega
      have hk8 : (k : Int) < 8 := by omega
      have HLS : Hid (List.replicate (k + 1) x.least = List.replicate k x.least ++ [x.least]) := Lib.hid List.replicate_succ'
      have HLSN : Hid ((List.replicate k x.least).length ≤ 10000) := Lib.hid (by rw [List.length_replicate]; omega)
      generalize List.replicate k x.least = LS at *
      have HKSN : Hid ((kKeys k).length ≤ 10000) := Lib.hid (by rw [kKeys_len]; omega)
      obtain ⟨dg, hdg⟩ : ∃ dg, dg = UInt8.ofNat (48 + k) := ⟨_, rfl⟩
      have hkk : kKey k = ⟨#[107]⟩ ++ ⟨#[dg]⟩ := by rw [hdg]; rfl
      have HKEY : Hid (kKeys (k + 1) = kKeys k ++ [⟨#[107]⟩ ++ ⟨#[dg]⟩]) := Lib.hid (by rw [kKeys_succ, hkk])
      generalize kKeys k = KS at *
      go_upto_region 18 with fail
      obtain ⟨q0, q1, q2, q3, q4⟩ := HST.out.bx.cells
      have q5 := HST.out.bx.frozen
      have hdl : w.heap.size + 2 < wr.heap.size := by omega
      have hpl : KS.length ≤ 10000 := HKSN.out
      have ag : v3.ownBlock ≠ some (w.heap.size + 2) := fun h => by have := (HST.out.o3.lt _ h).1; omega
      have hwi : IntKind.i64.wrap (48 + (k : Int)) = 48 + (k : Int) := IntWalk.i64_in _ (by omega)
      have hwu : IntKind.u8.wrap (48 + (k : Int)) = 48 + (k : Int) := IntWalk.u8_in _ (by omega)
      have hcv : (convert 53 9 (.slice (some ⟨wr.heap.size, 0, none⟩) 1 1)).run Tryd.prog (wr.alloc (.cells #[.int .u8 (48 + (k : Int))] 5)) = .ok (.string ⟨#[dg]⟩) (wr.alloc (.cells #[.int .u8 (48 + (k : Int))] 5)) := by
        rw [hdg]; exact conv_dig1 (by omega) _ _ (cell_block (heap_alloc_new wr _) 0)
      clear hdg hkk
      obtain ⟨i0, hi, hz0, hz1', hz2⟩ := info_parts infoS
      have HI := Lib.hid hi; have HZ0 := Lib.hid hz0; have HZ1 := Lib.hid hz1'; have HZ2 := Lib.hid hz2
      clear hi hz0 hz1' hz2
      have HST4 := Lib.hid (HST.out.alloc (.cells #[.int .u8 (48 + (k : Int))] 5))
      have hdl4 : w.heap.size + 2 < (wr.alloc (.cells #[.int .u8 (48 + (k : Int))] 5)).heap.size := by simp; omega
      go_wp2_with (at_builtin; refine wpList_append_lies _ rfl _ _ 22 rfl w2.heap.size 9 i0 (.string ByteArray.empty) 1 16 Tryd.underlying22 HI.out HZ0.out HZ1.out HZ2.out (by rfl) (by omega) v3 KS.length _ rfl (HST4.out.o3.alloc _) ⟨wr.heap.size + 1, 0, none⟩ 1 _ [.string (⟨#[107]⟩ ++ ⟨#[dg]⟩)] rfl rfl (World.news_of_block (heap_alloc_new' (by simp) _)) (by simp [Value.oneCell']) (by omega) (by unfold maxLen; omega) (by omega) (by simp; omega) (wr.heap.size + 1 + 1) (by simp) ?_; intro g5 cap5 w5 hown5 hgrow5 hat5 hlt5; have mf5 : w5.frozen? ⟨w.heap.size + 2, 3, none⟩ = false := ((hgrow5.frozen_far ⟨w.heap.size + 2, 3, none⟩ (by simp; omega) (Ne.symm ag)).trans ((frozen_alloc_lt hdl4 _ 3).trans ((frozen_alloc_lt hdl _ 3).trans (q5 3)))); have m45 := (hgrow5.cell_far ⟨w.heap.size + 2, 3, none⟩ (by simp; omega) (Ne.symm ag)).trans ((cell_alloc_lt' hdl4 _ 3).trans ((cell_alloc_lt' hdl _ 3).trans q3)))
      have hst6 := HST4.out.key0 (by omega) hown5 _ hgrow5 (by simpa using hat5)
      generalize w5.setCell ⟨w.heap.size + 2, 3, none⟩ (.slice (some ⟨g5, 0, none⟩) (KS.length + 1) cap5) = w6 at hst6 ⊢
      generalize Value.slice (some ⟨g5, 0, none⟩) (KS.length + 1) cap5 = v3' at hst6 ⊢
      have HST6 := Lib.hid hst6
      clear hst6 hown5 hgrow5 hat5 hlt5 mf5 m45 q0 q1 q2 q3 q4 q5 t0 t1 t2 t3 t4 t5 hwi hwu hcv
      have hz6 := HST6.out.t.size
      have HTR6 := Lib.hid (HT2.out.same (HST6.out.t.block _ (by omega) (by simp) (by omega)))
      obtain ⟨t0, t1, t2, t3, t4, t5⟩ := HTR6.out.cells
      have hlow : ∀ p : Addr, p.block < w.heap.size → w6.cell? p = w.cell? p := fun p hp => World.cell?_of_block (a := p) ((HST6.out.t.block p.block (by omega) (by simp) (by omega)).trans (HB2.out.block p.block (by omega)))
      have HTI6 := Lib.hid (HTI.out.keep (w' := w6) (Nat.le_refl B) fun p hp => hlow p (by omega))
      obtain ⟨g0, g1, g2, g3, g4, g5⟩ := HCE.out
      rw [← hlow ⟨b, _, none⟩ (by show b < _; omega)] at g0 g1 g2 g3 g4 g5
      clear hlow
      have hbr6 : b < w6.heap.size := by omega
      have htl6 : w.heap.size < w6.heap.size := by omega
      obtain ⟨q0, q1, q2, q3, q4⟩ := HST6.out.bx.cells
      have q5 := HST6.out.bx.frozen
      have ag4 : v4.ownBlock ≠ some (w.heap.size + 2) := fun h => by have := (HST6.out.o4.lt _ h).1; omega
      have hpd : LS.length ≤ 10000 := HLSN.out
      obtain ⟨j0, hj, hy0, hy1, hy2⟩ := info_parts infoD
      have HJ := Lib.hid hj; have HJ0 := Lib.hid hy0; have HJ1 := Lib.hid hy1; have HJ2 := Lib.hid hy2
      clear hj hy0 hy1 hy2
      go_region_law (first
        | (refine step_append_lies _ (by rfl) _ _ _ (by rfl) w2.heap.size 33 j0 (.agg #[.int .i64 0, .int .i64 0, .string ByteArray.empty, .slice none 0 0, .slice none 0 0]) 5 80 Tryd.underlying31 HJ.out HJ0.out HJ1.out HJ2.out (by rfl) (by omega) v4 LS.length cs (by rfl) (HO47.out.alloc _) ⟨w7.heap.size, 0, none⟩ 1 1
             [.int .i64 x.least.kind, .int .i64 x.least.num, .string x.least.str, .slice A7 x.least.keys.length c7, .slice A8 x.least.kids.length c8] (by rfl) (by rfl) (World.news_of_block (cs := #[.int .i64 x.least.kind, .int .i64 x.least.num, .string x.least.str, .slice A7 x.least.keys.length c7, .slice A8 x.least.kids.length c8]) (t := 33) (fr := (0, 0)) (heap_alloc_new w7 _)) (by simp [Value.oneCell']) (by omega) (by unfold maxLen; omega) (by omega) (by simp; omega) (w7.heap.size + 1) (by simp) ?_
           intro g8 cap8 w8 hown8 hgrow8 hat8 hlt8
           have mf8 : w8.frozen? ⟨w.heap.size + 2, 4, none⟩ = false := ((hgrow8.frozen_far ⟨w.heap.size + 2, 4, none⟩ (by simp; omega) (Ne.symm ag4)).trans ((frozen_alloc_lt hbl7 _ 4).trans (mf7 4)))
           have m48 := (hgrow8.cell_far ⟨w.heap.size + 2, 4, none⟩ (by simp; omega) (Ne.symm ag4)).trans ((cell_alloc_lt' hbl7 _ 4).trans m47))
        | (go_wp2_with fail
           go_at_call 10
           refine (IH.out x _ w6.drew B hdep HAT.out HFT.out (by show B ≤ w6.heap.size; omega) ⟨_, _, _, _, _, _, rfl, TypeIn.keep (w := w6) (w' := w6.drew) (Nat.le_refl _) (fun _ _ => rfl) HTI6.out⟩).mono ?_
           rintro e w7 ⟨z0, z1, z2, z3, z4, G, rfl, hG, hGn, hb7⟩
           obtain ⟨A7, c7, A8, c8, rfl, rfl, rfl, rfl, rfl⟩ := hG.doc.forms
           have hb67 : Below w6.heap.size w6 w7 := (Below.refl _ _).drew.trans hb7
           have HG7 := Lib.hid hG; have HGN := Lib.hid hGn
           have hz7 : w6.heap.size ≤ w7.heap.size := hb67.size
           have HO47 : Hid (w7.ownsRow w2.heap.size 33 5 v4 LS.length cs) := ownsRow_same HST6.out.o4 fun j hj => hb67.block j (HST6.out.o4.lt j (blk_mem.1 hj)).2
           have hbl7 : w.heap.size + 2 < w7.heap.size := by omega
           have m47 : w7.cell? ⟨w.heap.size + 2, 4, none⟩ = some v4 := (hb67.cell (p := ⟨w.heap.size + 2, 4, none⟩) (by show w.heap.size + 2 < w6.heap.size; omega)).trans q4
           have mf7 : ∀ i, w7.frozen? ⟨w.heap.size + 2, i, none⟩ = false := fun i => (World.frozen?_of_block (a := ⟨w.heap.size + 2, i, none⟩) (hb67.block (w.heap.size + 2) (by omega))).trans (q5 i)
           have HB67 := Lib.hid hb67
           clear hG hGn hb7 hb67))
      all_goals (go_wp2_with fail)
      all_goals go_roundw
      all_goals first
        | (exact ⟨k + 1, _, _, _, _, by omega, by go_num, by rw [HKEY.out, HLS.out]; exact HST6.out.kid (by omega) HB67.out HG7.out HGN.out hown8 _ hgrow8 hat8⟩)
        | (simp [intOf]; omega)
    · have hkl : k = N := by omega
      subst hkl
      have hrr : Box5 wr (w.heap.size + 1) (.int .i64 0) (.int .i64 0) (.string ⟨#[]⟩) (.slice none 0 0) (.slice none 0 0) := HR2.out.same (HST.out.t.block _ (by omega) (by simp) (by omega))
      have HRR := Lib.hid hrr
      clear hrr
      obtain ⟨q0, q1, q2, q3, q4⟩ := HST.out.bx.cells
      obtain ⟨r0, r1, r2, r3, r4⟩ := HRR.out.cells
      have r5 := HRR.out.frozen
      obtain ⟨A6, c6, rfl⟩ := ownsRow_slice HST.out.o3
      obtain ⟨A7, c7, rfl⟩ := ownsRow_slice HST.out.o4
      have hmin := HHN.out
      generalize hKS : (kKeys k) = KS at *
      generalize List.replicate k x.least = LS at *
      clear hKS
      by_cases hlo2 : (k : Int) < t.lo
      · have h8 : ¬ (k : Int) < 8 := by omega
        clear hmin
        go_wp2_with fail
        have hfin := ((((HRR.out.set0 (.int .i64 2)).set1 (.int .i64 0)).set2 (.string ⟨#[]⟩)).set3 (.slice A6 KS.length c6)).set4 (.slice A7 LS.length c7)
        clear q0 q1 q2 q3 q4 r0 r1 r2 r3 r4 r5 t0 t1 t2 t3 t4 t5
        refine ret_cell5 rfl rfl hfin.load rfl ?_
        exact doc_out HST.out HL.out (by omega) (by omega) (by omega) HB2.out
      · clear hmin
        go_wp2_with fail
        have hfin := ((((HRR.out.set0 (.int .i64 2)).set1 (.int .i64 0)).set2 (.string ⟨#[]⟩)).set3 (.slice A6 KS.length c6)).set4 (.slice A7 LS.length c7)
        clear q0 q1 q2 q3 q4 r0 r1 r2 r3 r4 r5 t0 t1 t2 t3 t4 t5
        refine ret_cell5 rfl rfl hfin.load rfl ?_
        exact doc_out HST.out HL.out (by omega) (by omega) (by omega) HB2.out
end Go.Proofs.YtnjmknofojjlmaaDoor
