/-
  Least of a record.
-/
import Derived.Test.YteecdmceleanjaaGreatDoorB12
import Derived.Deep.RegionLaw
import Derived.BigRegion
namespace Go.Proofs.YteecdmceleanjaaGreatDoor
open Go.RowKit

/-- What Least tells of the kids. -/
def LeastsTo (m c : Nat) (w0 : World) : Prop := ∀ (t : T) (v : Value) (w : World) (B : Nat), t.depth ≤ m → allT t = true → t.Fit → B ≤ w.heap.size → TypeV w B t v → w.cell? ⟨c, 0, none⟩ = some (LeastFn c) → w0.heap.size ≤ w.heap.size →
    Calls Tryz.prog 54 #[v, .pointer (some ⟨c, 0, none⟩)] w (MadeDoc w.heap.size w t.least)
set_option maxHeartbeats 8000000 in
set_option maxRecDepth 100000 in
theorem least_fields {t : T} {v : Value} {w : World} {B c m : Nat} (hk : t.kind = 1) (hok : LeastOk t) (hm : t.depth ≤ m + 1) (hall : allT t = true) (hf : t.Fit) (hB : B ≤ w.heap.size) (ht : TypeV w B t v) (hc : c < w.heap.size) (hcc : w.cell? ⟨c, 0, none⟩ = some (LeastFn c)) (ih : LeastsTo m c w) :
    Calls Tryz.prog 54 #[v, .pointer (some ⟨c, 0, none⟩)] w (MadeDoc w.heap.size w t.least) := by
  have ho0 := hok.of0 (by omega) (by omega)
  have hlen : t.fields.length ≤ 10000 := hf.parts.2.1
  have hl : t.least = .mk (leastKind t.kind) (leastNum t.kind t.lo t.hi) (leastStr t.kind t.lo t.names) (keysF t.fields) (leastF t.fields) := by
    rw [least_eq, ho0]
    simp [keysO, leastO]
  have HL := Lib.hid hl; have HOK := Lib.hid hok; have HALL := Lib.hid hall; have HF := Lib.hid hf; have IH := Lib.hid ih; have HC := Lib.hid hcc
  have HV := Lib.hid ht
  obtain ⟨v0, v1, v2, v3, v4, v5, rfl, hd⟩ := ht
  have HFS := Lib.hid hd.fields_
  obtain ⟨A3, c3, A4, c4, A5, c5, rfl, rfl, rfl, rfl, rfl, rfl⟩ := hd.forms
  clear hd hl hok hall hf ih hcc hk
  rw [ho0]
  rw [ho0] at HV
  clear ho0
  have e0 : (([] : List T).length) = 0 := rfl
  go_enter Tryz.func54, Tryz.ntmps54
  go_wp2_with fail
  refine (root_any HOK.out (B := B) (by simp; omega) (HV.out.keep (Nat.le_refl _) fun p hp => (World.cell?_alloc_lt (w.alloc _) _ p (by simp; omega)).trans (World.cell?_alloc_lt w _ p (by omega)))).mono ?_
  rintro e w1 ⟨rfl, hb1⟩
  clear e0
  generalize leastKind t.kind = kd at *
  generalize leastNum t.kind t.lo t.hi = nm at *
  generalize leastStr t.kind t.lo t.names = st at *
  have hz1 := hb1.size
  simp only [World.size_alloc] at hz1
  have HT : Hid (Box6 w1 w.heap.size (.int .i64 t.kind) (.int .i64 t.lo) (.int .i64 t.hi) (.slice A3 t.names.length c3) (.slice A4 t.fields.length c4) (.slice A5 0 c5)) := ((Box6.new w _ _ _ _ _ _).alloc _).same (hb1.block _ (by simp; omega))
  have HR : Hid (Box5 w1 (w.heap.size + 1) (.int .i64 0) (.int .i64 0) (.string ⟨#[]⟩) (.slice none 0 0) (.slice none 0 0)) := (Box5.new' (w := w.alloc (.cells #[.int .i64 t.kind, .int .i64 t.lo, .int .i64 t.hi, .slice A3 t.names.length c3, .slice A4 t.fields.length c4, .slice A5 0 c5] 26)) (by simp) _ _ _ _ _).same (hb1.block _ (by simp))
  have HB : Hid (Below w.heap.size w w1) := (((Below.refl _ _).alloc (Nat.le_refl _) _).alloc (by simp) _).trans (hb1.mono (by simp; omega))
  clear hb1
  obtain ⟨t0, t1, t2, t3, t4, t5⟩ := HT.out.cells
  have htl := HT.out.lt; have hrl := HR.out.lt
  go_wp2_with fail
  obtain ⟨w2, hw2⟩ : ∃ w2, w2 = w1.alloc (.cells #[.int .i64 kd, .int .i64 nm, .string st, .slice none 0 0, .slice none 0 0] 29) := ⟨_, rfl⟩
  have HT2 : Hid (Box6 w2 w.heap.size (.int .i64 t.kind) (.int .i64 t.lo) (.int .i64 t.hi) (.slice A3 t.names.length c3) (.slice A4 t.fields.length c4) (.slice A5 0 c5)) := by rw [hw2]; exact HT.out.alloc _
  have HR2 : Hid (Box5 w2 (w.heap.size + 1) (.int .i64 0) (.int .i64 0) (.string ⟨#[]⟩) (.slice none 0 0) (.slice none 0 0)) := by rw [hw2]; exact HR.out.alloc _
  have HD2 : Hid (Box5 w2 w1.heap.size (.int .i64 kd) (.int .i64 nm) (.string st) (.slice none 0 0) (.slice none 0 0)) := by rw [hw2]; exact Box5.new w1 _ _ _ _ _
  have HB2 : Hid (Below w.heap.size w w2) := by rw [hw2]; exact HB.out.alloc HB.out.size _
  have hz2 : w2.heap.size = w1.heap.size + 1 := by rw [hw2]; simp
  rw [← hw2]
  clear hw2 t0 t1 t2 t3 t4 t5
  obtain ⟨t0, t1, t2, t3, t4, t5⟩ := HT2.out.cells
  have hz20 : w1.heap.size + 1 ≤ w2.heap.size := by omega
  clear hz2
  go_wp2_with fail
  clear t0 t1 t2 t3 t4 t5
  go_loopw [15] (fun i wr => ∃ (k : Nat) (v3 v4 : Value) (cs : List Value) (F : List Nat), k ≤ t.fields.length ∧ i = .int .i64 k ∧ DocSt w2 wr w1.heap.size kd nm st (keysF (t.fields.take k)) (leastF (t.fields.take k)) v3 v4 cs F) (fun i _ => t.fields.length - (intOf i).toNat)
  case atStart => exact ⟨0, _, _, [], [], Nat.zero_le _, rfl, HD2.out, World.ownsRow_nil _ _ _ _, World.ownsRow_nil _ _ _ _, by simp [OwnKids, leastF], by simp [blk, Value.ownBlock], Turned.of_below (Below.refl _ _) _ _⟩
  case round =>
    obtain ⟨k, v3, v4, cs, F, hk0, rfl, hst⟩ := hrel
    have HST := Lib.hid hst
    have hzr := hst.t.size
    clear hst
    by_cases hlt : k < t.fields.length
    · obtain ⟨A4', c4', e4, _, hfi⟩ := HFS.out
      injection e4 with e4 _ e5
      subst e4; subst e5
      obtain ⟨b, off, rfl, hbB, hfi⟩ := hfi (by omega)
      obtain ⟨fn, fo, y0, y1, y2, y3, y4, y5, g0, g1, g2, g3, g4, g5, hti⟩ := hfi.at_ k hlt
      rw [Nat.zero_add] at fn fo g0 g1 g2 g3 g4 g5
      have keep : ∀ p : Addr, p.block < w.heap.size → wr.cell? p = w.cell? p := fun p hp => World.cell?_of_block (a := p) ((HST.out.t.block p.block (by omega) (by simp) (by omega)).trans (HB2.out.block p.block (by omega)))
      rw [← keep ⟨b, _, none⟩ (by show b < _; omega)] at fn fo g0 g1 g2 g3 g4 g5
      have HTI := Lib.hid (hti.keep (Nat.le_refl _) fun p hp => keep p (by omega))
      obtain ⟨X3, x3, X4, x4, X5, x5, rfl, rfl, rfl, rfl, rfl, rfl⟩ := hti.forms
      have HCK : Hid (wr.cell? ⟨c, 0, none⟩ = some (LeastFn c)) := (keep ⟨c, 0, none⟩ hc).trans HC.out
      clear hti hfi keep
      obtain ⟨f, hfe⟩ : ∃ f, f = t.fields[k] := ⟨_, rfl⟩
      have hkt := keysF_take t.fields k hlt
      have hlt2 := leastF_take t.fields k hlt
      rw [← hfe] at fn fo g0 g1 g2 g3 g4 g5 HTI hkt hlt2
      have hdep : f.type.depth ≤ m := by have := T.field_depth (t := t) hlt; rw [← hfe] at this; omega
      have HFE := Lib.hid hfe; have HKT := Lib.hid hkt; have HLT := Lib.hid hlt2
      clear hfe hkt hlt2
      have hik0 : (0 : Int) ≤ (k : Int) := by omega
      have hik : (k : Int) < (t.fields.length : Int) := by omega
      have hbr : b < wr.heap.size := by omega
      by_cases ho : f.opt = true
      · rw [ho] at fo
        have HO := Lib.hid ho; clear ho
        go_wp2_with fail
        refine ⟨⟨k + 1, v3, v4, cs, F, by omega, by go_num, ?_⟩, by simp [intOf]; omega⟩
        rw [HKT.out, HLT.out, HO.out]
        simpa using HST.out.alloc _
      · have ho' : f.opt = false := by simpa using ho
        rw [ho'] at fo
        have HO := Lib.hid ho'; clear ho ho'
        go_upto_region 6 with fail
        obtain ⟨w4, hw4⟩ : ∃ w4, w4 = wr.alloc (.cells #[.string f.name, .bool false, .int .i64 f.type.kind, .int .i64 f.type.lo, .int .i64 f.type.hi, .slice X3 f.type.names.length x3, .slice X4 f.type.fields.length x4, .slice X5 f.type.of.length x5] 48) := ⟨_, rfl⟩
        have HB4 : Hid (Below wr.heap.size wr w4) := by rw [hw4]; exact (Below.refl _ _).alloc (Nat.le_refl _) _
        have HX4 : Hid (Box8 w4 wr.heap.size f.name false (.int .i64 f.type.kind) (.int .i64 f.type.lo) (.int .i64 f.type.hi) (.slice X3 f.type.names.length x3) (.slice X4 f.type.fields.length x4) (.slice X5 f.type.of.length x5)) := by rw [hw4]; exact heap_alloc_new wr _
        have hz4 : w4.heap.size = wr.heap.size + 1 := by rw [hw4]; simp
        rw [← hw4]
        clear hw4 fn fo g0 g1 g2 g3 g4 g5
        have HST4 := Lib.hid (HST.out.past HB4.out)
        have HTI4 := Lib.hid (HTI.out.keep (Nat.le_refl B) fun p hp => HB4.out.cell (p := p) (by omega))
        have HCK4 : Hid (w4.cell? ⟨c, 0, none⟩ = some (LeastFn c)) := (HB4.out.cell (p := ⟨c, 0, none⟩) (by show c < _; omega)).trans HCK.out
        obtain ⟨f0, f1, f2, f3, f4, f5, f6, f7⟩ := HX4.out.cells
        obtain ⟨q0, q1, q2, q3, q4⟩ := HST4.out.bx.cells
        have q5 := HST4.out.bx.frozen
        have hdl : w1.heap.size < w4.heap.size := by omega
        have hpl : (keysF (t.fields.take k)).length ≤ 10000 := by have := keysF_len (t.fields.take k); have := List.length_take_le k t.fields; omega
        have ag : v3.ownBlock ≠ some w1.heap.size := fun h => by have := (HST4.out.o3.lt _ h).1; omega
        have hz4' : w2.heap.size ≤ w4.heap.size := by omega
        clear hz4
        obtain ⟨i0, hi, hz0, hz1', hz2⟩ := info_parts infoS
        have HI := Lib.hid hi; have HZ0 := Lib.hid hz0; have HZ1 := Lib.hid hz1'; have HZ2 := Lib.hid hz2
        clear hi hz0 hz1' hz2
        go_wp2_with (at_builtin; refine wpList_append_lies _ rfl _ _ 22 rfl w2.heap.size 9 i0 (.string ByteArray.empty) 1 16 Tryz.underlying22 HI.out HZ0.out HZ1.out HZ2.out (by rfl) (by omega) v3 (keysF (t.fields.take k)).length _ rfl (HST4.out.o3.alloc _) ⟨w4.heap.size, 0, none⟩ 1 _ [.string f.name] rfl rfl (World.news_of_block (heap_alloc_new w4 _)) (by simp [Value.oneCell']) (by omega) (by unfold maxLen; omega) (by omega) (by simp; omega) (w4.heap.size + 1) (by simp) ?_; intro g5 cap5 w5 hown5 hgrow5 hat5 hlt5; have mf5 : w5.frozen? ⟨w1.heap.size, 3, none⟩ = false := ((hgrow5.frozen_far ⟨w1.heap.size, 3, none⟩ (by simp; omega) (Ne.symm ag)).trans ((frozen_alloc_lt hdl _ 3).trans (q5 3))); have m45 := (hgrow5.cell_far ⟨w1.heap.size, 3, none⟩ (by simp; omega) (Ne.symm ag)).trans ((cell_alloc_lt' hdl _ 3).trans q3))
        have hst6 := HST4.out.key0 (by omega) hown5 _ hgrow5 hat5
        have hb46 : ∀ j, j < w4.heap.size → j ≠ w1.heap.size → v3.ownBlock ≠ some j → (w5.setCell ⟨w1.heap.size, 3, none⟩ (.slice (some ⟨g5, 0, none⟩) ((keysF (t.fields.take k)).length + 1) cap5)).heap[j]? = w4.heap[j]? := fun j hj hne hno =>
          (Below.heap_setCell _ _ _ j hne).trans ((hgrow5.block j (by simp; omega) (Ne.symm hno)).trans (Below.heap_alloc w4 _ j hj))
        generalize w5.setCell ⟨w1.heap.size, 3, none⟩ (.slice (some ⟨g5, 0, none⟩) ((keysF (t.fields.take k)).length + 1) cap5) = w6 at hst6 hb46 ⊢
        generalize Value.slice (some ⟨g5, 0, none⟩) ((keysF (t.fields.take k)).length + 1) cap5 = v3' at hst6 ⊢
        have HST6 := Lib.hid hst6
        have hz6 := hst6.t.size
        clear hown5 hgrow5 hat5 hlt5 mf5 m45 q0 q1 q2 q3 q4 q5 f0 f1 f2 f3 f4 f5 f6 f7
        have hlow : ∀ p : Addr, p.block < w.heap.size → w6.cell? p = w.cell? p := fun p hp => World.cell?_of_block (a := p) ((HST6.out.t.block p.block (by omega) (by simp) (by omega)).trans (HB2.out.block p.block (by omega)))
        have HX6 : Hid (Box8 w6 wr.heap.size f.name false (.int .i64 f.type.kind) (.int .i64 f.type.lo) (.int .i64 f.type.hi) (.slice X3 f.type.names.length x3) (.slice X4 f.type.fields.length x4) (.slice X5 f.type.of.length x5)) := HX4.out.same (hb46 _ HX4.out.lt (by omega) fun h => by have := (HST.out.o3.lt _ h).2; omega)
        have HTI6 := Lib.hid (HTI4.out.keep (w' := w6) (Nat.le_refl B) fun p hp => (hlow p (by omega)).trans (((HST4.out.t.block p.block (by omega) (by simp) (by omega)).trans (HB2.out.block p.block (by omega))) |> World.cell?_of_block (a := p)).symm)
        have hcc6 : w6.cell? ⟨c, 0, none⟩ = some (.func (.func 54) #[] #[.pointer (some ⟨c, 0, none⟩)]) := (hlow ⟨c, 0, none⟩ hc).trans HC.out
        have HCC6 := Lib.hid hcc6
        clear hb46 hlow
        obtain ⟨f0, f1, f2, f3, f4, f5, f6, f7⟩ := HX6.out.cells
        obtain ⟨q0, q1, q2, q3, q4⟩ := hst6.bx.cells
        have q5 := hst6.bx.frozen
        clear hst6
        have ag4 : v4.ownBlock ≠ some w1.heap.size := fun h => by have := (HST6.out.o4.lt _ h).1; omega
        have hpd : (leastF (t.fields.take k)).length ≤ 10000 := by rw [leastF_len]; exact hpl
        obtain ⟨j0, hj, hy0, hy1, hy2⟩ := info_parts infoD
        have HJ := Lib.hid hj; have HJ0 := Lib.hid hy0; have HJ1 := Lib.hid hy1; have HJ2 := Lib.hid hy2
        clear hj hy0 hy1 hy2
        have hatf : allT f.type = true := by
          have h := HALL.out
          rw [allT_eq, Bool.and_eq_true] at h
          have h2 := h.2
          rw [T.kids, allL_append, Bool.and_eq_true, ← allF_eq] at h2
          rw [HFE.out]
          exact allF_at h2.1 hlt
        have HAT := Lib.hid hatf
        have HFT : Hid f.type.Fit := by rw [HFE.out]; exact (HF.out.parts.2.2.2.2.1.at_ hlt).type
        clear hatf
        go_region_law (first
          | (refine step_append_lies _ (by rfl) _ _ _ (by rfl) w2.heap.size 29 j0 (.agg #[.int .i64 0, .int .i64 0, .string ByteArray.empty, .slice none 0 0, .slice none 0 0]) 5 80 Tryz.underlying27 HJ.out HJ0.out HJ1.out HJ2.out (by rfl) (by omega) v4 (leastF (t.fields.take k)).length cs (by rfl) (HO47.out.alloc _) ⟨w7.heap.size, 0, none⟩ 1 1
               [.int .i64 f.type.least.kind, .int .i64 f.type.least.num, .string f.type.least.str, .slice A7 f.type.least.keys.length c7, .slice A8 f.type.least.kids.length c8] (by rfl) (by rfl) (World.news_of_block (cs := #[.int .i64 f.type.least.kind, .int .i64 f.type.least.num, .string f.type.least.str, .slice A7 f.type.least.keys.length c7, .slice A8 f.type.least.kids.length c8]) (t := 29) (fr := (0, 0)) (heap_alloc_new w7 _)) (by simp [Value.oneCell']) (by omega) (by unfold maxLen; omega) (by omega) (by simp; omega) (w7.heap.size + 1) (by simp) ?_
             intro g8 cap8 w8 hown8 hgrow8 hat8 hlt8
             have mf8 : w8.frozen? ⟨w1.heap.size, 4, none⟩ = false := ((hgrow8.frozen_far ⟨w1.heap.size, 4, none⟩ (by simp; omega) (Ne.symm ag4)).trans ((frozen_alloc_lt hbl7 _ 4).trans (mf7 4)))
             have m48 := (hgrow8.cell_far ⟨w1.heap.size, 4, none⟩ (by simp; omega) (Ne.symm ag4)).trans ((cell_alloc_lt' hbl7 _ 4).trans m47))
          | (go_wp2_with fail
             go_at_call 54
             refine (IH.out f.type _ w6.drew B hdep HAT.out HFT.out (by show B ≤ w6.heap.size; omega) ⟨_, _, _, _, _, _, rfl, TypeIn.keep (w := w6) (w' := w6.drew) (Nat.le_refl _) (fun _ _ => rfl) HTI6.out⟩ HCC6.out (by show w.heap.size ≤ w6.heap.size; omega)).mono ?_
             rintro e w7 ⟨y0, y1, y2, y3, y4, G, rfl, hG, hGn, hb7⟩
             obtain ⟨A7, c7, A8, c8, rfl, rfl, rfl, rfl, rfl⟩ := hG.doc.forms
             have hb67 : Below w6.heap.size w6 w7 := (Below.refl _ _).drew.trans hb7
             have HG7 := Lib.hid hG; have HGN := Lib.hid hGn
             have hz7 : w6.heap.size ≤ w7.heap.size := hb67.size
             have HO47 : Hid (w7.ownsRow w2.heap.size 29 5 v4 (leastF (t.fields.take k)).length cs) := ownsRow_same HST6.out.o4 fun j hj => hb67.block j (HST6.out.o4.lt j (blk_mem.1 hj)).2
             have hbl7 : w1.heap.size < w7.heap.size := by omega
             have m47 : w7.cell? ⟨w1.heap.size, 4, none⟩ = some v4 := (hb67.cell (p := ⟨w1.heap.size, 4, none⟩) (by show w1.heap.size < w6.heap.size; omega)).trans q4
             have mf7 : ∀ i, w7.frozen? ⟨w1.heap.size, i, none⟩ = false := fun i => (World.frozen?_of_block (a := ⟨w1.heap.size, i, none⟩) (hb67.block w1.heap.size (by omega))).trans (q5 i)
             have HB67 := Lib.hid hb67
             clear hG hGn hb7 hb67))
        all_goals (go_wp2_with fail)
        all_goals (
          refine ⟨⟨k + 1, _, _, _, _, by omega, by go_num, by rw [HKT.out, HLT.out, HO.out]; exact HST6.out.kid (by omega) HB67.out HG7.out HGN.out hown8 _ hgrow8 hat8⟩, ?_⟩
          simp [intOf]; omega)
    · have hkl : k = t.fields.length := by omega
      subst hkl
      have hst2 := HST.out
      rw [List.take_length] at hst2
      have HST2 := Lib.hid hst2
      clear hst2
      have hrr : Box5 wr (w.heap.size + 1) (.int .i64 0) (.int .i64 0) (.string ⟨#[]⟩) (.slice none 0 0) (.slice none 0 0) := HR2.out.same (HST.out.t.block _ (by omega) (by simp) (by omega))
      have HRR := Lib.hid hrr
      have HTR := Lib.hid (HT2.out.same (HST.out.t.block _ (by omega) (by simp) (by omega)))
      obtain ⟨t0, t1, t2, t3, t4, t5⟩ := HTR.out.cells
      clear hrr
      go_wp2_with fail
      refine wp_loop_rounds 1 ?_
      rw [rounds_succ]
      obtain ⟨q0, q1, q2, q3, q4⟩ := HST2.out.bx.cells
      obtain ⟨r0, r1, r2, r3, r4⟩ := HRR.out.cells
      have r5 := HRR.out.frozen
      obtain ⟨A6, c6, rfl⟩ := ownsRow_slice HST2.out.o3
      obtain ⟨A7, c7, rfl⟩ := ownsRow_slice HST2.out.o4
      go_wp2_with fail
      have hfin := ((((HRR.out.set0 (.int .i64 kd)).set1 (.int .i64 nm)).set2 (.string st)).set3 (.slice A6 (keysF t.fields).length c6)).set4 (.slice A7 (leastF t.fields).length c7)
      clear q0 q1 q2 q3 q4 r0 r1 r2 r3 r4 r5 t0 t1 t2 t3 t4 t5
      refine ret_cell5 rfl rfl hfin.load rfl ?_
      exact doc_out HST2.out HL.out (by omega) (by omega) (by omega) HB2.out
end Go.Proofs.YteecdmceleanjaaGreatDoor
