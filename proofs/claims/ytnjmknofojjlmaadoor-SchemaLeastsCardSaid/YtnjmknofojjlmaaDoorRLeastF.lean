/-
  The document's own Least: of a type without kids.
-/
import Derived.Test.YtnjmknofojjlmaaDoorLeastR
import Derived.IntWalk
import Derived.Deep.RegionLaw
import Derived.Deep.CutRange
import Derived.BigRegion
namespace Go.Proofs.YtnjmknofojjlmaaDoor
open Go.RowKit

theorem aStr_succ (n : Nat) : aStr (n + 1) = aStr n ++ ⟨#[97]⟩ := by
  unfold aStr
  rw [List.replicate_succ']
  apply ByteArray.ext
  simp
  rw [← List.toArray_replicate, List.push_toArray]
theorem aStr_size (n : Nat) : (aStr n).size = n := by simp [aStr, ByteArray.size]
set_option maxHeartbeats 4000000 in
set_option maxRecDepth 100000 in
theorem rleast_leaf {t : T} {v : Value} {w : World} {B : Nat} (hk : 4 ≤ t.kind) (hok : LeastOk t) (hB : B ≤ w.heap.size) (ht : TypeV w B t v) :
    Calls Tryd.prog 10 #[v] w (MadeDoc w.heap.size w t.least) := by
  have hf0 := hok.fs (by omega)
  have ho0 := hok.of0 (by omega) (by omega)
  have hl : t.least = .mk (leastKind t.kind) (leastNum t.kind t.lo t.hi) (leastStr t.kind t.lo t.names) [] [] := by
    rw [least_eq, hf0, ho0]
    simp [keysF, keysO, leastF, leastO]
  have HL := Lib.hid hl
  obtain ⟨v0, v1, v2, v3, v4, v5, rfl, hd⟩ := ht
  have hns := hd.names_
  obtain ⟨A3, c3, A4, c4, A5, c5, rfl, rfl, rfl, rfl, rfl, rfl⟩ := hd.forms
  clear hd hl hf0 ho0
  obtain ⟨k, lo, hi, ns, fs, of⟩ := t
  simp only [T.kind, T.lo, T.hi, T.names, T.fields, T.of] at *
  obtain ⟨hk2, _, _, _, hlo, hlo6, hn⟩ := hok
  simp only [T.kind, T.lo, T.names] at hk2 hlo hlo6 hn
  have h7 : k = 4 ∨ k = 5 ∨ k = 6 ∨ k = 7 := by omega
  have HN := Lib.hid hns; have HLO := Lib.hid hlo; have HLO6 := Lib.hid hlo6; have HNL := Lib.hid hn
  clear hns hlo hlo6 hn hk hk2
  have le0 : w.heap.size ≤ w.heap.size + 1 := by omega
  rcases h7 with rfl | rfl | rfl | rfl
  · go_enter Tryd.func10, Tryd.ntmps10
    go_wp2_with fail
    refine ret_cell5 rfl rfl (Box5.new' (w := w.alloc (.cells #[.int .i64 4, .int .i64 lo, .int .i64 hi, .slice A3 ns.length c3, .slice A4 fs.length c4, .slice A5 of.length c5] 26)) (by simp) _ _ _ _ _).load rfl ?_
    rw [HL.out]
    exact ⟨_, _, _, _, _, [], rfl, own_leaf _ _ _, by simp, ((Below.refl _ _).alloc (Nat.le_refl _) _).alloc (by simp) _⟩
  · go_enter Tryd.func10, Tryd.ntmps10
    go_wp2_with fail
    refine ret_cell5 rfl rfl (Box5.new' (w := w.alloc (.cells #[.int .i64 5, .int .i64 lo, .int .i64 hi, .slice A3 ns.length c3, .slice A4 fs.length c4, .slice A5 of.length c5] 26)) (by simp) _ _ _ _ _).load rfl ?_
    rw [HL.out]
    exact ⟨_, _, _, _, _, [], rfl, own_leaf _ _ _, by simp, ((Below.refl _ _).alloc (Nat.le_refl _) _).alloc (by simp) _⟩
  · obtain ⟨n, rfl⟩ : ∃ n : Nat, lo = (n : Int) := ⟨lo.toNat, by have := HLO.out (by omega); omega⟩
    have hn : n ≤ 256 := by have := HLO6.out rfl; omega
    go_enter Tryd.func10, Tryd.ntmps10
    go_wp2_with fail
    obtain ⟨w2, hw2⟩ : ∃ w2, w2 = (w.alloc (.cells #[.int .i64 6, .int .i64 n, .int .i64 hi, .slice A3 ns.length c3, .slice A4 fs.length c4, .slice A5 of.length c5] 26)).alloc (.cells #[.int .i64 0, .int .i64 0, .string ⟨#[]⟩, .slice none 0 0, .slice none 0 0] 33) := ⟨_, rfl⟩
    have HT2 : Hid (Box6 w2 w.heap.size (.int .i64 6) (.int .i64 n) (.int .i64 hi) (.slice A3 ns.length c3) (.slice A4 fs.length c4) (.slice A5 of.length c5)) := by rw [hw2]; exact (Box6.new w _ _ _ _ _ _).alloc _
    have HR2 : Hid (Box5 w2 (w.heap.size + 1) (.int .i64 0) (.int .i64 0) (.string ⟨#[]⟩) (.slice none 0 0) (.slice none 0 0)) := by rw [hw2]; exact Box5.new' (by simp) _ _ _ _ _
    have HB2 : Hid (Below w.heap.size w w2) := by rw [hw2]; exact ((Below.refl _ _).alloc (Nat.le_refl _) _).alloc (by simp) _
    have hz20 : w.heap.size + 2 ≤ w2.heap.size := by rw [hw2]; simp
    rw [← hw2]
    clear hw2
    go_loopw [7, 8] (fun s i wr => ∃ k : Nat, k ≤ n ∧ s = .string (aStr k) ∧ i = .int .i64 k ∧ wr = w2) (fun _ i _ => n - (intOf i).toNat)
    case atStart => exact ⟨0, Nat.zero_le _, rfl, rfl, rfl⟩
    case round =>
      obtain ⟨k, hk0, rfl, rfl, rfl⟩ := hrel
      obtain ⟨t0, t1, t2, t3, t4, t5⟩ := HT2.out.cells
      by_cases hlt : k < n
      · have h1 : (k : Int) < (n : Int) := by omega
        have h2 : (k : Int) < 256 := by omega
        have HS := Lib.hid (aStr_succ k)
        have hsz : (aStr k).size = k := aStr_size k
        generalize aStr k = S at *
        go_wp2_with fail
        go_roundw
        case rel => exact ⟨k + 1, by omega, by rw [HS.out], by go_num, by first | rfl | trivial⟩
        case measure => simp [intOf]; omega
      · have hkn : k = n := by omega
        subst hkn
        obtain ⟨r0, r1, r2, r3, r4⟩ := HR2.out.cells
        have r5 := HR2.out.frozen
        go_wp2_with fail
        have hfin := ((((HR2.out.set0 (.int .i64 6)).set1 (.int .i64 0)).set2 (.string (aStr k))).set3 (.slice none 0 0)).set4 (.slice none 0 0)
        clear r0 r1 r2 r3 r4 r5
        refine ret_cell5 rfl rfl hfin.load rfl ?_
        rw [HL.out]
        exact ⟨_, _, _, _, _, [], rfl, own_leaf _ _ _, by simp, ((((HB2.out.setCell (by exact le0) _).setCell (by exact le0) _).setCell (by exact le0) _).setCell (by exact le0) _).setCell (by exact le0) _⟩
  · obtain ⟨S, hS⟩ : ∃ S, S = ns.headD ⟨#[]⟩ := ⟨_, rfl⟩
    have HS := Lib.hid hS; clear hS
    obtain ⟨h1, h2⟩ : ∃ b off, A3 = some ⟨b, off, none⟩ ∧ b < B ∧ w.cell? ⟨b, off, none⟩ = some (.string S) := by
      have hl := HNL.out rfl
      obtain ⟨A', c', e, _, h⟩ := HN.out
      injection e with e _ _
      subst e
      obtain ⟨b, off, rfl, hb, hc⟩ := h hl
      refine ⟨b, off, rfl, hb, ?_⟩
      have := hc 0 hl
      obtain ⟨x, r, rfl⟩ := List.exists_cons_of_length_pos hl
      rw [HS.out]
      exact this
    obtain ⟨off, rfl, hb, hc⟩ := h2
    have hl := HNL.out rfl
    have hli : (0 : Int) < (ns.length : Int) := by omega
    have hbl : h1 < w.heap.size := by omega
    go_enter Tryd.func10, Tryd.ntmps10
    go_wp2_with fail
    refine ret_cell5 rfl rfl (Box5.new' (w := w.alloc (.cells #[.int .i64 7, .int .i64 lo, .int .i64 hi, .slice (some ⟨h1, off, none⟩) ns.length c3, .slice A4 fs.length c4, .slice A5 of.length c5] 26)) (by simp) _ _ _ _ _).load rfl ?_
    rw [HL.out]
    refine ⟨_, _, _, _, _, [], rfl, ?_, by simp, ((Below.refl _ _).alloc (Nat.le_refl _) _).alloc (by simp) _⟩
    have e : leastStr 7 lo ns = S := by rw [HS.out]; rfl
    rw [e]
    exact own_leaf _ _ _
end Go.Proofs.YtnjmknofojjlmaaDoor

namespace Go.Proofs.YtnjmknofojjlmaaDoor
open Go.RowKit

/-- What the document's Least tells of the kids. -/
def RLeastsTo (m : Nat) : Prop := ∀ (t : T) (v : Value) (w : World) (B : Nat), t.depth ≤ m → allT t = true → t.Fit → B ≤ w.heap.size → TypeV w B t v →
    Calls Tryd.prog 10 #[v] w (MadeDoc w.heap.size w t.least)
set_option maxHeartbeats 8000000 in
set_option maxRecDepth 100000 in
theorem rleast_fields {t : T} {v : Value} {w : World} {B m : Nat} (hk : t.kind = 1) (hok : LeastOk t) (hm : t.depth ≤ m + 1) (hall : allT t = true) (hf : t.Fit) (hB : B ≤ w.heap.size) (ht : TypeV w B t v) (ih : RLeastsTo m) :
    Calls Tryd.prog 10 #[v] w (MadeDoc w.heap.size w t.least) := by
  have ho0 := hok.of0 (by omega) (by omega)
  have hlen : t.fields.length ≤ 10000 := hf.parts.2.1
  have hl : t.least = .mk 1 0 ⟨#[]⟩ (keysF t.fields) (leastF t.fields) := by
    rw [least_eq, ho0, hk]
    simp [keysO, leastO, leastKind, leastNum, leastStr]
  have HL := Lib.hid hl; have HALL := Lib.hid hall; have HF := Lib.hid hf; have IH := Lib.hid ih
  obtain ⟨v0, v1, v2, v3, v4, v5, rfl, hd⟩ := ht
  have HFS := Lib.hid hd.fields_
  obtain ⟨A3, c3, A4, c4, A5, c5, rfl, rfl, rfl, rfl, rfl, rfl⟩ := hd.forms
  rw [hk]
  clear hd hl hok hall hf ih hk ho0
  go_enter Tryd.func10, Tryd.ntmps10
  go_wp2_with fail
  obtain ⟨w2, hw2⟩ : ∃ w2, w2 = ((w.alloc (.cells #[.int .i64 1, .int .i64 t.lo, .int .i64 t.hi, .slice A3 t.names.length c3, .slice A4 t.fields.length c4, .slice A5 t.of.length c5] 26)).alloc (.cells #[.int .i64 0, .int .i64 0, .string ⟨#[]⟩, .slice none 0 0, .slice none 0 0] 33)).alloc (.cells #[.int .i64 1, .int .i64 0, .string ⟨#[]⟩, .slice none 0 0, .slice none 0 0] 33) := ⟨_, rfl⟩
  have HT2 : Hid (Box6 w2 w.heap.size (.int .i64 1) (.int .i64 t.lo) (.int .i64 t.hi) (.slice A3 t.names.length c3) (.slice A4 t.fields.length c4) (.slice A5 t.of.length c5)) := by rw [hw2]; exact ((Box6.new w _ _ _ _ _ _).alloc _).alloc _
  have HR2 : Hid (Box5 w2 (w.heap.size + 1) (.int .i64 0) (.int .i64 0) (.string ⟨#[]⟩) (.slice none 0 0) (.slice none 0 0)) := by rw [hw2]; exact (Box5.new' (by simp) _ _ _ _ _).alloc _
  have HD2 : Hid (Box5 w2 (w.heap.size + 2) (.int .i64 1) (.int .i64 0) (.string ⟨#[]⟩) (.slice none 0 0) (.slice none 0 0)) := by rw [hw2]; exact Box5.new' (by simp) _ _ _ _ _
  have HB2 : Hid (Below w.heap.size w w2) := by rw [hw2]; exact (((Below.refl _ _).alloc (Nat.le_refl _) _).alloc (by simp) _).alloc (by simp; omega) _
  have hz20 : w.heap.size + 3 ≤ w2.heap.size := by rw [hw2]; simp
  rw [← hw2]
  clear hw2
  go_loopw [4] (fun i wr => ∃ (k : Nat) (v3 v4 : Value) (cs : List Value) (F : List Nat), k ≤ t.fields.length ∧ i = .int .i64 k ∧ DocSt w2 wr (w.heap.size + 2) 1 0 ⟨#[]⟩ (keysF (t.fields.take k)) (leastF (t.fields.take k)) v3 v4 cs F) (fun i _ => t.fields.length - (intOf i).toNat)
  case atStart => exact ⟨0, _, _, [], [], Nat.zero_le _, rfl, HD2.out, World.ownsRow_nil _ _ _ _, World.ownsRow_nil _ _ _ _, by simp [OwnKids, leastF], by simp [blk, Value.ownBlock], Turned.of_below (Below.refl _ _) _ _⟩
  case round =>
    obtain ⟨k, v3, v4, cs, F, hk0, rfl, hst⟩ := hrel
    have HST := Lib.hid hst
    have hzr := hst.t.size
    clear hst
    have HTR := Lib.hid (HT2.out.same (HST.out.t.block _ (by omega) (by simp) (by omega)))
    obtain ⟨t0, t1, t2, t3, t4, t5⟩ := HTR.out.cells
    have htl : w.heap.size < wr.heap.size := by omega
    by_cases hlt : k < t.fields.length
    · obtain ⟨A4', c4', e4, _, hfi⟩ := HFS.out
      injection e4 with e4 _ e5
      subst e4; subst e5
      obtain ⟨b, off, rfl, hbB, hfi⟩ := hfi (by omega)
      obtain ⟨fn, fo, y0, y1, y2, y3, y4, y5, g0, g1, g2, g3, g4, g5, hti⟩ := hfi.at_ k hlt
      rw [Nat.zero_add] at fn fo g0 g1 g2 g3 g4 g5
      have keep : ∀ p : Addr, p.block < w.heap.size → wr.cell? p = w.cell? p := fun p hp => World.cell?_of_block (a := p) ((HST.out.t.block p.block (by omega) (by simp) (by omega)).trans (HB2.out.block p.block (by omega)))
      have fn := (keep ⟨b, _, none⟩ (by show b < _; omega)).trans fn
      have fo := (keep ⟨b, _, none⟩ (by show b < _; omega)).trans fo
      obtain ⟨X3, x3, X4, x4, X5, x5, rfl, rfl, rfl, rfl, rfl, rfl⟩ := hti.forms
      have HCE : Hid (_ ∧ _ ∧ _ ∧ _ ∧ _ ∧ _) := Lib.hid ⟨g0, g1, g2, g3, g4, g5⟩
      have HTI := Lib.hid hti
      clear hti hfi keep g0 g1 g2 g3 g4 g5
      obtain ⟨f, hfe⟩ : ∃ f, f = t.fields[k] := ⟨_, rfl⟩
      have hkt := keysF_take t.fields k hlt
      have hlt2 := leastF_take t.fields k hlt
      rw [← hfe] at fn fo HCE HTI hkt hlt2
      have hdep : f.type.depth ≤ m := by have := T.field_depth (t := t) hlt; rw [← hfe] at this; omega
      have HFE := Lib.hid hfe; have HKT := Lib.hid hkt; have HLT := Lib.hid hlt2
      clear hfe hkt hlt2
      have hik0 : (0 : Int) ≤ (k : Int) := by omega
      have hik : (k : Int) < (t.fields.length : Int) := by omega
      have hbr : b < wr.heap.size := by omega
      by_cases ho : f.opt = true
      · rw [ho] at fo
        have HO := Lib.hid ho; clear ho
        go_wp2_with fail
        go_roundw
        case rel => exact ⟨k + 1, v3, v4, cs, F, by omega, by go_num, by rw [HKT.out, HLT.out, HO.out]; simpa using HST.out⟩
        case measure => simp [intOf]; omega
      · have ho' : f.opt = false := by simpa using ho
        rw [ho'] at fo
        have HO := Lib.hid ho'; clear ho ho'
        go_upto_region 8 with fail
        go_cut [38] from 14 to 50 (fun _ wx => ∃ (x3 x4 : Value) (cs' : List Value) (F' : List Nat), DocSt w2 wx (w.heap.size + 2) 1 0 ⟨#[]⟩ (keysF (t.fields.take k) ++ [f.name]) (leastF (t.fields.take k)) x3 x4 cs' F')
        case first =>
          obtain ⟨q0, q1, q2, q3, q4⟩ := HST.out.bx.cells
          have q5 := HST.out.bx.frozen
          have hdl : w.heap.size + 2 < wr.heap.size := by omega
          have hpl : (keysF (t.fields.take k)).length ≤ 10000 := by have := keysF_len (t.fields.take k); have := List.length_take_le k t.fields; omega
          have ag : v3.ownBlock ≠ some (w.heap.size + 2) := fun h => by have := (HST.out.o3.lt _ h).1; omega
          obtain ⟨i0, hi, hz0, hz1', hz2⟩ := info_parts infoS
          have HI := Lib.hid hi; have HZ0 := Lib.hid hz0; have HZ1 := Lib.hid hz1'; have HZ2 := Lib.hid hz2
          clear hi hz0 hz1' hz2
          go_region_law (refine step_append_lies _ (by rfl) _ _ _ (by rfl) w2.heap.size 9 i0 (.string ByteArray.empty) 1 16 Tryd.underlying22 HI.out HZ0.out HZ1.out HZ2.out (by rfl) (by omega) v3 (keysF (t.fields.take k)).length _ (by rfl) ((HST.out.o3.alloc _).drew) ⟨wr.heap.size, 0, none⟩ 1 1 [.string f.name] (by rfl) (by rfl) (World.news_of_block (cs := #[.string f.name]) (t := 9) (fr := (0, 0)) (heap_alloc_new wr _)) (by simp [Value.oneCell']) (by omega) (by unfold maxLen; omega) (by omega) (by simp; omega) (wr.heap.size + 1) (by simp) ?_; intro g5 cap5 w5 hown5 hgrow5 hat5 hlt5; have mf5 : w5.frozen? ⟨w.heap.size + 2, 3, none⟩ = false := ((hgrow5.frozen_far ⟨w.heap.size + 2, 3, none⟩ (by simp; omega) (Ne.symm ag)).trans ((frozen_alloc_drew hdl _ 3).trans (q5 3))); have m45 := (hgrow5.cell_far ⟨w.heap.size + 2, 3, none⟩ (by simp; omega) (Ne.symm ag)).trans ((cell_alloc_drew hdl _ 3).trans q3))
          all_goals go_wp2_with fail
          all_goals go_meet
          all_goals exact ⟨_, _, _, _, HST.out.key (by omega) hown5 _ hgrow5 hat5⟩
        case rest =>
          obtain ⟨v3', v4', cs', F', hst6⟩ := hcut
          have HST6 := Lib.hid hst6
          have hz6 := hst6.t.size
          clear hst6 t0 t1 t2 t3 t4 t5 fn fo
          generalize wc = w6 at *
          go_upto_region 9 with fail
          have HTR6 := Lib.hid (HT2.out.same (HST6.out.t.block _ (by omega) (by simp) (by omega)))
          obtain ⟨t0, t1, t2, t3, t4, t5⟩ := HTR6.out.cells
          have hlow : ∀ p : Addr, p.block < w.heap.size → w6.cell? p = w.cell? p := fun p hp => World.cell?_of_block (a := p) ((HST6.out.t.block p.block (by omega) (by simp) (by omega)).trans (HB2.out.block p.block (by omega)))
          have HTI6 := Lib.hid (HTI.out.keep (w' := w6) (Nat.le_refl B) fun p hp => hlow p (by omega))
          obtain ⟨g0, g1, g2, g3, g4, g5⟩ := HCE.out
          rw [← hlow ⟨b, _, none⟩ (by show b < _; omega)] at g0 g1 g2 g3 g4 g5
          clear hlow
          have hbr6 : b < w6.heap.size := by omega
          have htl6 : w.heap.size < w6.heap.size := by omega
          obtain ⟨q0, q1, q2, q3, q4⟩ := HST6.out.bx.cells
          have q5 := HST6.out.bx.frozen
          have ag4 : v4'.ownBlock ≠ some (w.heap.size + 2) := fun h => by have := (HST6.out.o4.lt _ h).1; omega
          have hpd : (leastF (t.fields.take k)).length ≤ 10000 := by rw [leastF_len]; have := keysF_len (t.fields.take k); have := List.length_take_le k t.fields; omega
          obtain ⟨j0, hj, hy0, hy1, hy2⟩ := info_parts infoD
          have HJ := Lib.hid hj; have HJ0 := Lib.hid hy0; have HJ1 := Lib.hid hy1; have HJ2 := Lib.hid hy2
          clear hj hy0 hy1 hy2
          have HAT : Hid (allT f.type = true) := by
            have h := HALL.out
            rw [allT_eq, Bool.and_eq_true] at h
            have h2 := h.2
            rw [T.kids, allL_append, Bool.and_eq_true, ← allF_eq] at h2
            rw [HFE.out]
            exact allF_at h2.1 hlt
          have HFT : Hid f.type.Fit := by rw [HFE.out]; exact (HF.out.parts.2.2.2.2.1.at_ hlt).type
          go_region_law (first
            | (refine step_append_lies _ (by rfl) _ _ _ (by rfl) w2.heap.size 33 j0 (.agg #[.int .i64 0, .int .i64 0, .string ByteArray.empty, .slice none 0 0, .slice none 0 0]) 5 80 Tryd.underlying31 HJ.out HJ0.out HJ1.out HJ2.out (by rfl) (by omega) v4' (leastF (t.fields.take k)).length cs' (by rfl) (HO47.out.alloc _) ⟨w7.heap.size, 0, none⟩ 1 1
                 [.int .i64 f.type.least.kind, .int .i64 f.type.least.num, .string f.type.least.str, .slice A7 f.type.least.keys.length c7, .slice A8 f.type.least.kids.length c8] (by rfl) (by rfl) (World.news_of_block (cs := #[.int .i64 f.type.least.kind, .int .i64 f.type.least.num, .string f.type.least.str, .slice A7 f.type.least.keys.length c7, .slice A8 f.type.least.kids.length c8]) (t := 33) (fr := (0, 0)) (heap_alloc_new w7 _)) (by simp [Value.oneCell']) (by omega) (by unfold maxLen; omega) (by omega) (by simp; omega) (w7.heap.size + 1) (by simp) ?_
               intro g8 cap8 w8 hown8 hgrow8 hat8 hlt8
               have mf8 : w8.frozen? ⟨w.heap.size + 2, 4, none⟩ = false := ((hgrow8.frozen_far ⟨w.heap.size + 2, 4, none⟩ (by simp; omega) (Ne.symm ag4)).trans ((frozen_alloc_lt hbl7 _ 4).trans (mf7 4)))
               have m48 := (hgrow8.cell_far ⟨w.heap.size + 2, 4, none⟩ (by simp; omega) (Ne.symm ag4)).trans ((cell_alloc_lt' hbl7 _ 4).trans m47))
            | (go_wp2_with fail
               go_at_call 10
               refine (IH.out f.type _ w6.drew B hdep HAT.out HFT.out (by show B ≤ w6.heap.size; omega) ⟨_, _, _, _, _, _, rfl, TypeIn.keep (w := w6) (w' := w6.drew) (Nat.le_refl _) (fun _ _ => rfl) HTI6.out⟩).mono ?_
               rintro e w7 ⟨y0, y1, y2, y3, y4, G, rfl, hG, hGn, hb7⟩
               obtain ⟨A7, c7, A8, c8, rfl, rfl, rfl, rfl, rfl⟩ := hG.doc.forms
               have hb67 : Below w6.heap.size w6 w7 := (Below.refl _ _).drew.trans hb7
               have HG7 := Lib.hid hG; have HGN := Lib.hid hGn
               have hz7 : w6.heap.size ≤ w7.heap.size := hb67.size
               have HO47 : Hid (w7.ownsRow w2.heap.size 33 5 v4' (leastF (t.fields.take k)).length cs') := ownsRow_same HST6.out.o4 fun j hj => hb67.block j (HST6.out.o4.lt j (blk_mem.1 hj)).2
               have hbl7 : w.heap.size + 2 < w7.heap.size := by omega
               have m47 : w7.cell? ⟨w.heap.size + 2, 4, none⟩ = some v4' := (hb67.cell (p := ⟨w.heap.size + 2, 4, none⟩) (by show w.heap.size + 2 < w6.heap.size; omega)).trans q4
               have mf7 : ∀ i, w7.frozen? ⟨w.heap.size + 2, i, none⟩ = false := fun i => (World.frozen?_of_block (a := ⟨w.heap.size + 2, i, none⟩) (hb67.block (w.heap.size + 2) (by omega))).trans (q5 i)
               have HB67 := Lib.hid hb67
               clear hG hGn hb7 hb67))
          all_goals (go_wp2_with fail)
          all_goals go_roundw
          all_goals first
            | (exact ⟨k + 1, _, _, _, _, by omega, by go_num, by rw [HKT.out, HLT.out, HO.out]; exact HST6.out.kid (by omega) HB67.out HG7.out HGN.out hown8 _ hgrow8 hat8⟩)
            | (simp [intOf]; omega)
    · have hkl : k = t.fields.length := by omega
      subst hkl
      have hst2 := HST.out
      rw [List.take_length] at hst2
      have HST2 := Lib.hid hst2
      clear hst2
      have hrr : Box5 wr (w.heap.size + 1) (.int .i64 0) (.int .i64 0) (.string ⟨#[]⟩) (.slice none 0 0) (.slice none 0 0) := HR2.out.same (HST.out.t.block _ (by omega) (by simp) (by omega))
      have HRR := Lib.hid hrr
      clear hrr
      obtain ⟨q0, q1, q2, q3, q4⟩ := HST2.out.bx.cells
      obtain ⟨r0, r1, r2, r3, r4⟩ := HRR.out.cells
      have r5 := HRR.out.frozen
      obtain ⟨A6, c6, rfl⟩ := ownsRow_slice HST2.out.o3
      obtain ⟨A7, c7, rfl⟩ := ownsRow_slice HST2.out.o4
      go_wp2_with fail
      have hfin := ((((HRR.out.set0 (.int .i64 1)).set1 (.int .i64 0)).set2 (.string ⟨#[]⟩)).set3 (.slice A6 (keysF t.fields).length c6)).set4 (.slice A7 (leastF t.fields).length c7)
      clear q0 q1 q2 q3 q4 r0 r1 r2 r3 r4 r5 t0 t1 t2 t3 t4 t5
      refine ret_cell5 rfl rfl hfin.load rfl ?_
      exact doc_out HST2.out HL.out (by omega) (by omega) (by omega) HB2.out
end Go.Proofs.YtnjmknofojjlmaaDoor
