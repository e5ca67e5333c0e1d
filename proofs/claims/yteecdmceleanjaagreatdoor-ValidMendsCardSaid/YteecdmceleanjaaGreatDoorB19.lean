/-
  Least of a dictionary or a list.
-/
import Derived.Test.YteecdmceleanjaaGreatDoorB17
import Derived.Deep.RegionLaw
import Derived.Deep.CutRange
import Derived.BigRegion
namespace Go.Proofs.YteecdmceleanjaaGreatDoor
open Go.RowKit

set_option maxHeartbeats 8000000 in
set_option maxRecDepth 100000 in
theorem least_dict {t : T} {v : Value} {w : World} {B c m : Nat} (hk : t.kind = 2) (hok : LeastOk t) (hm : t.depth ≤ m + 1) (hall : allT t = true) (hf : t.Fit) (hB : B ≤ w.heap.size) (ht : TypeV w B t v) (hc : c < w.heap.size) (hcc : w.cell? ⟨c, 0, none⟩ = some (LeastFn c)) (ih : LeastsTo m c w) :
    Calls Tryz.prog 54 #[v, .pointer (some ⟨c, 0, none⟩)] w (MadeDoc w.heap.size w t.least) := by
  have hf0 := hok.fs (by omega)
  obtain ⟨x, ho1⟩ := hok.of1 (by omega)
  have hlo := hok.lo (by omega)
  obtain ⟨N, hN⟩ : ∃ N : Nat, min t.lo 8 = (N : Int) := ⟨(min t.lo 8).toNat, by omega⟩
  have hN8 : N ≤ 8 := by omega
  have hl : t.least = .mk (leastKind t.kind) (leastNum t.kind t.lo t.hi) (leastStr t.kind t.lo t.names) (kKeys N) (List.replicate N x.least) := by
    rw [least_eq, hf0, ho1]
    have : leastN t.lo = N := by unfold leastN; omega
    simp [keysF, keysO, leastF, leastO, this, hk]
  have HL := Lib.hid hl; have HOK := Lib.hid hok; have HALL := Lib.hid hall; have HF := Lib.hid hf; have IH := Lib.hid ih; have HC := Lib.hid hcc
  have HO1 := Lib.hid ho1
  have e2 : (t.kind == 2) = true := by simp [hk]
  have HV := Lib.hid ht
  obtain ⟨v0, v1, v2, v3, v4, v5, rfl, hd⟩ := ht
  have HOF := Lib.hid hd.of_
  obtain ⟨A3, c3, A4, c4, A5, c5, rfl, rfl, rfl, rfl, rfl, rfl⟩ := hd.forms
  clear hd hl hok hall hf ih hcc hk
  rw [hf0, ho1]
  rw [hf0, ho1] at HV
  rw [ho1] at HOF
  clear hf0 ho1
  go_enter Tryz.func54, Tryz.ntmps54
  go_wp2_with fail
  refine (root_any HOK.out (B := B) (by simp; omega) (HV.out.keep (Nat.le_refl _) fun p hp => (World.cell?_alloc_lt (w.alloc _) _ p (by simp; omega)).trans (World.cell?_alloc_lt w _ p (by omega)))).mono ?_
  rintro e w1 ⟨rfl, hb1⟩
  generalize leastKind t.kind = kd at *
  generalize leastNum t.kind t.lo t.hi = nm at *
  generalize leastStr t.kind t.lo t.names = st at *
  have hz1 := hb1.size
  simp only [World.size_alloc] at hz1
  have HT : Hid (Box6 w1 w.heap.size (.int .i64 t.kind) (.int .i64 t.lo) (.int .i64 t.hi) (.slice A3 t.names.length c3) (.slice A4 0 c4) (.slice A5 1 c5)) := ((Box6.new w _ _ _ _ _ _).alloc _).same (hb1.block _ (by simp; omega))
  have HR : Hid (Box5 w1 (w.heap.size + 1) (.int .i64 0) (.int .i64 0) (.string ⟨#[]⟩) (.slice none 0 0) (.slice none 0 0)) := (Box5.new' (w := w.alloc (.cells #[.int .i64 t.kind, .int .i64 t.lo, .int .i64 t.hi, .slice A3 t.names.length c3, .slice A4 0 c4, .slice A5 1 c5] 26)) (by simp) _ _ _ _ _).same (hb1.block _ (by simp))
  have HB : Hid (Below w.heap.size w w1) := (((Below.refl _ _).alloc (Nat.le_refl _) _).alloc (by simp) _).trans (hb1.mono (by simp; omega))
  clear hb1
  obtain ⟨t0, t1, t2, t3, t4, t5⟩ := HT.out.cells
  have htl := HT.out.lt; have hrl := HR.out.lt
  go_wp2_with fail
  obtain ⟨w2, hw2⟩ : ∃ w2, w2 = w1.alloc (.cells #[.int .i64 kd, .int .i64 nm, .string st, .slice none 0 0, .slice none 0 0] 29) := ⟨_, rfl⟩
  have HT2 : Hid (Box6 w2 w.heap.size (.int .i64 t.kind) (.int .i64 t.lo) (.int .i64 t.hi) (.slice A3 t.names.length c3) (.slice A4 0 c4) (.slice A5 1 c5)) := by rw [hw2]; exact HT.out.alloc _
  have HR2 : Hid (Box5 w2 (w.heap.size + 1) (.int .i64 0) (.int .i64 0) (.string ⟨#[]⟩) (.slice none 0 0) (.slice none 0 0)) := by rw [hw2]; exact HR.out.alloc _
  have HD2 : Hid (Box5 w2 w1.heap.size (.int .i64 kd) (.int .i64 nm) (.string st) (.slice none 0 0) (.slice none 0 0)) := by rw [hw2]; exact Box5.new w1 _ _ _ _ _
  have HB2 : Hid (Below w.heap.size w w2) := by rw [hw2]; exact HB.out.alloc HB.out.size _
  have hz2 : w2.heap.size = w1.heap.size + 1 := by rw [hw2]; simp
  rw [← hw2]
  clear hw2 t0 t1 t2 t3 t4 t5
  obtain ⟨t0, t1, t2, t3, t4, t5⟩ := HT2.out.cells
  have hz20 : w1.heap.size + 1 ≤ w2.heap.size := by omega
  clear hz2
  refine wp_loop_rounds 1 ?_
  rw [rounds_succ]
  go_wp2_with fail
  refine wp_loop_rounds 2 ?_
  rw [rounds_succ]
  obtain ⟨A5', c5', e5, _, hof⟩ := HOF.out
  injection e5 with e5 _ e6
  subst e5; subst e6
  obtain ⟨b, off, rfl, hbB, hof⟩ := hof (by simp)
  obtain ⟨y0, y1, y2, y3, y4, y5, g0, g1, g2, g3, g4, g5, hti⟩ := hof.at_ 0 (by simp)
  simp only [Nat.zero_mul, Nat.add_zero, List.getElem_cons_zero] at g0 g1 g2 g3 g4 g5 hti
  have keep : ∀ p : Addr, p.block < w.heap.size → w2.cell? p = w.cell? p := fun p hp => HB2.out.cell (p := p) hp
  rw [← keep ⟨b, _, none⟩ (by show b < _; omega)] at g0 g1 g2 g3 g4 g5
  have HTI := Lib.hid (hti.keep (Nat.le_refl _) fun p hp => keep p (by omega))
  obtain ⟨X3, x3, X4, x4, X5, x5, rfl, rfl, rfl, rfl, rfl, rfl⟩ := hti.forms
  have HC2 : Hid (w2.cell? ⟨c, 0, none⟩ = some (LeastFn c)) := (keep ⟨c, 0, none⟩ hc).trans HC.out
  clear hti hof keep
  have hbr : b < w2.heap.size := by omega
  go_upto_region 12 with fail
  obtain ⟨w3, hw3⟩ : ∃ w3, w3 = w2.alloc (.cells #[.int .i64 x.kind, .int .i64 x.lo, .int .i64 x.hi, .slice X3 x.names.length x3, .slice X4 x.fields.length x4, .slice X5 x.of.length x5] 26) := ⟨_, rfl⟩
  have HB3 : Hid (Below w2.heap.size w2 w3) := by rw [hw3]; exact (Below.refl _ _).alloc (Nat.le_refl _) _
  have HX3 : Hid (Box6 w3 w2.heap.size (.int .i64 x.kind) (.int .i64 x.lo) (.int .i64 x.hi) (.slice X3 x.names.length x3) (.slice X4 x.fields.length x4) (.slice X5 x.of.length x5)) := by rw [hw3]; exact Box6.new w2 _ _ _ _ _ _
  have hz3 : w2.heap.size + 1 ≤ w3.heap.size := by rw [hw3]; simp
  rw [← hw3]
  clear hw3 g0 g1 g2 g3 g4 g5 t0 t1 t2 t3 t4 t5
  have HT3 := Lib.hid (HT2.out.same (HB3.out.block _ HT2.out.lt))
  have HR3 := Lib.hid (HR2.out.same (HB3.out.block _ HR2.out.lt))
  have HD3 := Lib.hid (HD2.out.same (HB3.out.block _ HD2.out.lt))
  have HBW3 : Hid (Below w.heap.size w w3) := HB2.out.trans (HB3.out.mono HB2.out.size)
  have HTI3 := Lib.hid (HTI.out.keep (Nat.le_refl B) fun p hp => HB3.out.cell (p := p) (by omega))
  have HC3 : Hid (w3.cell? ⟨c, 0, none⟩ = some (LeastFn c)) := (HB3.out.cell (p := ⟨c, 0, none⟩) (by show c < _; omega)).trans HC2.out
  obtain ⟨t0, t1, t2, t3, t4, t5⟩ := HT3.out.cells
  have hdep : x.depth ≤ m := by have := T.of_depth (t := t) (i := 0) (by rw [HO1.out]; simp); simp only [HO1.out, List.getElem_cons_zero] at this; omega
  have HAT : Hid (allT x = true) := by
    have h := HALL.out
    rw [allT_eq, Bool.and_eq_true] at h
    have h2 := h.2
    rw [T.kids, allL_append, Bool.and_eq_true, HO1.out] at h2
    exact Lib.hid (by simpa [allL] using h2.2)
  have HFT : Hid x.Fit := by
    have h := HF.out.parts.2.2.2.2.2
    rw [HO1.out] at h
    exact h.at_ (i := 0) (by simp)
  have HN := hN
  go_wp2_with fail
  clear t0 t1 t2 t3 t4 t5
  have HHN := Lib.hid hN
  clear hN HN
  go_loopw [49] (fun i wr => ∃ (k : Nat) (v3 v4 : Value) (cs : List Value) (F : List Nat), k ≤ N ∧ i = .int .i64 k ∧ DocSt w3 wr w1.heap.size kd nm st (kKeys k) (List.replicate k x.least) v3 v4 cs F) (fun i _ => N - (intOf i).toNat)
  case atStart => exact ⟨0, _, _, [], [], Nat.zero_le _, rfl, HD3.out, by simpa [kKeys] using World.ownsRow_nil _ _ _ _, World.ownsRow_nil _ _ _ _, by simp [OwnKids], by simp [blk, Value.ownBlock], Turned.of_below (Below.refl _ _) _ _⟩
  case round =>
    obtain ⟨k, v3, v4, cs, F, hk0, rfl, hst⟩ := hrel
    have HST := Lib.hid hst
    have hzr := hst.t.size
    clear hst
    have HTR := Lib.hid (HT3.out.same (HST.out.t.block _ (by omega) (by simp) (by omega)))
    obtain ⟨t0, t1, t2, t3, t4, t5⟩ := HTR.out.cells
    by_cases hlt : k < N
    · have HLS : Hid (List.replicate (k + 1) x.least = List.replicate k x.least ++ [x.least]) := Lib.hid List.replicate_succ'
      have HLSN : Hid ((List.replicate k x.least).length ≤ 10000) := Lib.hid (by rw [List.length_replicate]; omega)
      generalize List.replicate k x.least = LS at *
      have hik : (k : Int) < (N : Int) := by omega
      have HKSN : Hid ((kKeys k).length ≤ 10000) := Lib.hid (by rw [kKeys_len]; omega)
      obtain ⟨dg, hdg⟩ : ∃ dg, dg = UInt8.ofNat (48 + k) := ⟨_, rfl⟩
      have HDIG := Lib.hid (decDigits_one k (by omega))
      have hkk : kKey k = ⟨#[107]⟩ ++ ⟨#[dg]⟩ := by rw [hdg]; rfl
      rw [← hdg] at HDIG
      have HKEY : Hid (kKeys (k + 1) = kKeys k ++ [⟨#[107]⟩ ++ ⟨#[dg]⟩]) := Lib.hid (by rw [kKeys_succ, hkk])
      clear hdg hkk
      generalize kKeys k = KS at *
      go_upto_region 16 with fail
      go_cut [61] from 50 to 71 (fun _ wx => ∃ (x3 x4 : Value) (cs' : List Value) (F' : List Nat), DocSt w3 wx w1.heap.size kd nm st (KS ++ [⟨#[107]⟩ ++ ⟨#[dg]⟩]) LS x3 x4 cs' F')
      case first =>
        obtain ⟨q0, q1, q2, q3, q4⟩ := HST.out.bx.cells
        have q5 := HST.out.bx.frozen
        clear t0 t1 t2 t3 t4 t5
        have hdl : w1.heap.size < wr.heap.size := by omega
        have hpl : KS.length ≤ 10000 := HKSN.out
        have ag : v3.ownBlock ≠ some w1.heap.size := fun h => by have := (HST.out.o3.lt _ h).1; omega
        obtain ⟨i0, hi, hz0, hz1', hz2⟩ := info_parts infoS
        have HI := Lib.hid hi; have HZ0 := Lib.hid hz0; have HZ1 := Lib.hid hz1'; have HZ2 := Lib.hid hz2
        clear hi hz0 hz1' hz2
        go_region_law (first
          | (refine step_append_lies _ (by rfl) _ _ _ (by rfl) w3.heap.size 9 i0 (.string ByteArray.empty) 1 16 Tryz.underlying22 HI.out HZ0.out HZ1.out HZ2.out (by rfl) (by omega) v3 KS.length _ (by rfl) ((HST.out.o3.alloc _).drew) ⟨wr.heap.size, 0, none⟩ 1 1 [.string (⟨#[107]⟩ ++ ⟨#[dg]⟩)] (by rfl) (by rfl) (World.news_of_block (cs := #[.string (⟨#[107]⟩ ++ ⟨#[dg]⟩)]) (t := 9) (fr := (0, 0)) (heap_alloc_new wr _)) (by simp [Value.oneCell']) (by omega) (by unfold maxLen; omega) (by omega) (by simp; omega) (wr.heap.size + 1) (by simp) ?_
             intro g5 cap5 w5 hown5 hgrow5 hat5 hlt5
             have mf5 : w5.frozen? ⟨w1.heap.size, 3, none⟩ = false := ((hgrow5.frozen_far ⟨w1.heap.size, 3, none⟩ (by simp; omega) (Ne.symm ag)).trans ((frozen_alloc_drew hdl _ 3).trans (q5 3)))
             have m45 := (hgrow5.cell_far ⟨w1.heap.size, 3, none⟩ (by simp; omega) (Ne.symm ag)).trans ((cell_alloc_drew hdl _ 3).trans q3))
          | (go_wp2_with fail
             go_at_call 56
             refine (Tryz.strconv_Itoa_small k (by omega) _).mono ?_
             rintro e w7 ⟨rfl, rfl⟩
             rw [HDIG.out]))
        all_goals go_wp2_with fail
        all_goals go_meet
        all_goals exact ⟨_, _, _, _, HST.out.key (by omega) hown5 _ hgrow5 hat5⟩
      case rest =>
        obtain ⟨v3, v4, cs, F, hst6⟩ := hcut
        have HST6 := Lib.hid hst6
        clear hst6 t0 t1 t2 t3 t4 t5
        generalize wc = w6 at *
        go_upto_region 17 with fail
        have hz6 := HST6.out.t.size
        have hlow : ∀ j, j < w3.heap.size → j ≠ w1.heap.size → w6.heap[j]? = w3.heap[j]? := fun j hj hne => HST6.out.t.block j hj (by simp) hne
        have HX6 := Lib.hid (HX3.out.same (hlow _ HX3.out.lt (by omega)))
        have HTI6 := Lib.hid (HTI3.out.keep (w' := w6) (Nat.le_refl B) fun p hp => World.cell?_of_block (a := p) (hlow p.block (by omega) (by omega)))
        have hcc6 : w6.cell? ⟨c, 0, none⟩ = some (.func (.func 54) #[] #[.pointer (some ⟨c, 0, none⟩)]) := (World.cell?_of_block (a := ⟨c, 0, none⟩) (hlow c (by omega) (by omega))).trans HC3.out
        have HCC6 := Lib.hid hcc6
        clear hlow
        obtain ⟨f0, f1, f2, f3, f4, f5⟩ := HX6.out.cells
        obtain ⟨q0, q1, q2, q3, q4⟩ := HST6.out.bx.cells
        have q5 := HST6.out.bx.frozen
        have ag4 : v4.ownBlock ≠ some w1.heap.size := fun h => by have := (HST6.out.o4.lt _ h).1; omega
        have hpd : LS.length ≤ 10000 := HLSN.out
        obtain ⟨j0, hj, hy0, hy1, hy2⟩ := info_parts infoD
        have HJ := Lib.hid hj; have HJ0 := Lib.hid hy0; have HJ1 := Lib.hid hy1; have HJ2 := Lib.hid hy2
        clear hj hy0 hy1 hy2
        have hxl : w2.heap.size < w6.heap.size := by omega
        go_region_law (first
          | (refine step_append_lies _ (by rfl) _ _ _ (by rfl) w3.heap.size 29 j0 (.agg #[.int .i64 0, .int .i64 0, .string ByteArray.empty, .slice none 0 0, .slice none 0 0]) 5 80 Tryz.underlying27 HJ.out HJ0.out HJ1.out HJ2.out (by rfl) (by omega) v4 LS.length cs (by rfl) (HO47.out.alloc _) ⟨w7.heap.size, 0, none⟩ 1 1
               [.int .i64 x.least.kind, .int .i64 x.least.num, .string x.least.str, .slice A7 x.least.keys.length c7, .slice A8 x.least.kids.length c8] (by rfl) (by rfl) (World.news_of_block (cs := #[.int .i64 x.least.kind, .int .i64 x.least.num, .string x.least.str, .slice A7 x.least.keys.length c7, .slice A8 x.least.kids.length c8]) (t := 29) (fr := (0, 0)) (heap_alloc_new w7 _)) (by simp [Value.oneCell']) (by omega) (by unfold maxLen; omega) (by omega) (by simp; omega) (w7.heap.size + 1) (by simp) ?_
             intro g8 cap8 w8 hown8 hgrow8 hat8 hlt8
             have mf8 : w8.frozen? ⟨w1.heap.size, 4, none⟩ = false := ((hgrow8.frozen_far ⟨w1.heap.size, 4, none⟩ (by simp; omega) (Ne.symm ag4)).trans ((frozen_alloc_lt hbl7 _ 4).trans (mf7 4)))
             have m48 := (hgrow8.cell_far ⟨w1.heap.size, 4, none⟩ (by simp; omega) (Ne.symm ag4)).trans ((cell_alloc_lt' hbl7 _ 4).trans m47))
          | (go_wp2_with fail
             go_at_call 54
             refine (IH.out x _ w6.drew B hdep HAT.out HFT.out (by show B ≤ w6.heap.size; omega) ⟨_, _, _, _, _, _, rfl, TypeIn.keep (w := w6) (w' := w6.drew) (Nat.le_refl _) (fun _ _ => rfl) HTI6.out⟩ HCC6.out (by show w.heap.size ≤ w6.heap.size; omega)).mono ?_
             rintro e w7 ⟨z0, z1, z2, z3, z4, G, rfl, hG, hGn, hb7⟩
             obtain ⟨A7, c7, A8, c8, rfl, rfl, rfl, rfl, rfl⟩ := hG.doc.forms
             have hb67 : Below w6.heap.size w6 w7 := (Below.refl _ _).drew.trans hb7
             have HG7 := Lib.hid hG; have HGN := Lib.hid hGn
             have hz7 : w6.heap.size ≤ w7.heap.size := hb67.size
             have HO47 : Hid (w7.ownsRow w3.heap.size 29 5 v4 LS.length cs) := ownsRow_same HST6.out.o4 fun j hj => hb67.block j (HST6.out.o4.lt j (blk_mem.1 hj)).2
             have hbl7 : w1.heap.size < w7.heap.size := by omega
             have m47 : w7.cell? ⟨w1.heap.size, 4, none⟩ = some v4 := (hb67.cell (p := ⟨w1.heap.size, 4, none⟩) (by show w1.heap.size < w6.heap.size; omega)).trans q4
             have mf7 : ∀ i, w7.frozen? ⟨w1.heap.size, i, none⟩ = false := fun i => (World.frozen?_of_block (a := ⟨w1.heap.size, i, none⟩) (hb67.block w1.heap.size (by omega))).trans (q5 i)
             have HB67 := Lib.hid hb67
             clear hG hGn hb7 hb67))
        all_goals (go_wp2_with fail)
        all_goals (
          refine ⟨⟨k + 1, _, _, _, _, by omega, by go_num, by rw [HKEY.out, HLS.out]; exact HST6.out.kid (by omega) HB67.out HG7.out HGN.out hown8 _ hgrow8 hat8⟩, ?_⟩
          simp [intOf]; omega)
    · have hkl : k = N := by omega
      subst hkl
      have HST2 := HST
      have hrr : Box5 wr (w.heap.size + 1) (.int .i64 0) (.int .i64 0) (.string ⟨#[]⟩) (.slice none 0 0) (.slice none 0 0) := HR3.out.same (HST.out.t.block _ (by omega) (by simp) (by omega))
      have HRR := Lib.hid hrr
      clear hrr
      obtain ⟨q0, q1, q2, q3, q4⟩ := HST2.out.bx.cells
      obtain ⟨r0, r1, r2, r3, r4⟩ := HRR.out.cells
      have r5 := HRR.out.frozen
      obtain ⟨A6, c6, rfl⟩ := ownsRow_slice HST2.out.o3
      obtain ⟨A7, c7, rfl⟩ := ownsRow_slice HST2.out.o4
      have HHL := HL
      generalize kKeys k = KS at *
      generalize List.replicate k x.least = LS at *
      go_wp2_with fail
      rw [rounds_succ]
      go_wp2_with fail
      have hfin := ((((HRR.out.set0 (.int .i64 kd)).set1 (.int .i64 nm)).set2 (.string st)).set3 (.slice A6 KS.length c6)).set4 (.slice A7 LS.length c7)
      clear q0 q1 q2 q3 q4 r0 r1 r2 r3 r4 r5 t0 t1 t2 t3 t4 t5
      refine ret_cell5 rfl rfl hfin.load rfl ?_
      exact doc_out HST2.out HHL.out (by omega) (by omega) (by omega) HBW3.out
end Go.Proofs.YteecdmceleanjaaGreatDoor
