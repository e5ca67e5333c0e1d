/-
  text.write, text.Print.
  text.Print.
-/
import Derived.Test.YtgklnafliaplkaaGreatDoorB26
import Derived.Lib.SmallJoins
import Derived.Lib.AppendIntMem
namespace Go.Proofs.YtgklnafliaplkaaGreatDoor
open Go.RowKit

set_option maxHeartbeats 1000000 in
theorem keyedW_any {d : D} {v0 v1 v2 v3 v4 : Value} {B : Nat} (w : World) (hd : DocIn w B d v0 v1 v2 v3 v4) :
    Calls Tryz.prog 49 #[.agg #[v0, v1, v2, v3, v4]] w fun e w' => e = .returned (.int .i64 ((min d.keys.length d.kids.length : Nat) : Int)) ∧ Below w.heap.size w w' ∧ ∃ o, w' = w.alloc o := by
  obtain ⟨A3, c3, A4, c4, rfl, rfl, rfl, rfl, rfl⟩ := hd.forms
  clear hd
  go_enter Tryz.func49, Tryz.ntmps49
  go_wp2_with fail
  go_ret
  refine ⟨?_, (Below.refl _ _).alloc (Nat.le_refl _) _, _, rfl⟩
  first | rfl | (congr 2; simp [Nat.cast_min]; omega) | (simp; omega)
theorem PW.past {B b BB xb xd : Nat} {d : D} {v0 v1 v2 v3 v4 : Value} {w w' : World} (h : PW B b BB xb xd d v0 v1 v2 v3 v4 w) (hb : Below w.heap.size w w') (hBB : BB ≤ w.heap.size) (hg : 3 < w.heap.size) : PW B b BB xb xd d v0 v1 v2 v3 v4 w' := by
  have h1 : xb < w.heap.size := by
    rcases Nat.lt_or_ge xb w.heap.size with h1 | h1
    · exact h1
    · have := h.pb; simp [Array.getElem?_eq_none h1] at this
  exact ⟨(hb.block _ h1).trans h.pb, h.pd.same (hb.block _ h.pd.lt), h.doc.keep (Nat.le_refl _) (fun p hp => hb.cell (by omega)), tx_tab_same h.tab (hb.block _ hg)⟩
theorem Bld.past {B b : Nat} {l : List UInt8} {w w' : World} (h : Bld B b l w) (hb : Below w.heap.size w w') (hB : 0 < B) : Bld B b l w' := h.turned (r := 0) (Turned.of_below hb _ _) hB
theorem Bld.lt {B b : Nat} {l : List UInt8} {w : World} (h : Bld B b l w) : B ≤ b ∧ b < w.heap.size := by
  rcases h with h | h
  · exact ⟨h.1, h.lt⟩
  · exact ⟨h.1, h.lt⟩
theorem recK_at {keys : List ByteArray} {kids : List D} {k : Nat} (h : k < (recK keys (printsD kids)).length) (h1 : k < keys.length) (h2 : k < kids.length) : (recK keys (printsD kids))[k] = keys[k].data.toList ++ ([32, 61, 32] ++ printD kids[k]) := by
  simp only [recK, List.getElem_zipWith, printsD_at kids k h2]
theorem dictK_at {keys : List ByteArray} {kids : List D} {k : Nat} (h : k < (dictK keys (printsD kids)).length) (h1 : k < keys.length) (h2 : k < kids.length) : (dictK keys (printsD kids))[k] = quoteL keys[k].data.toList ++ ([58, 32] ++ printD kids[k]) := by
  simp only [dictK, List.getElem_zipWith, printsD_at kids k h2]
theorem recK_len (keys : List ByteArray) (kids : List D) : (recK keys (printsD kids)).length = min keys.length kids.length := by simp [recK, printsD_len]
theorem dictK_len (keys : List ByteArray) (kids : List D) : (dictK keys (printsD kids)).length = min keys.length kids.length := by simp [dictK, printsD_len]
theorem formatBool_eq (n : Int) : Lib.formatBool (decide (n = 1)) = boolL n := by
  unfold boolL
  by_cases h : n = 1
  · subst h; rfl
  · rw [if_neg h, decide_eq_false h]; rfl
set_option maxHeartbeats 16000000 in
set_option maxRecDepth 100000 in
theorem write_succ {B b BB m : Nat} (hBB : BB ≤ B) (hg : 3 < B) (IH : DWrites B b BB m) : DWrites B b BB (m + 1) := by
  intro d v0 v1 v2 v3 v4 l w hdp hf hnu hdoc hb hBw htab hlen
  have hmf : ∀ (fn : Fn) (first cap : Array Value) (w : World), (Instr.makeFunc fn first cap).run Tryz.prog w = .ok (.func fn first cap) w := fun _ _ _ _ => rfl
  obtain ⟨A3, c3, A4, c4, rfl, rfl, rfl, rfl, rfl⟩ := hdoc.forms
  obtain ⟨hbB, hbw⟩ := hb.lt
  have HIH := Lib.hid IH
  have hkeys := hf.keys; have hkids := hf.kids; have hstr := hf.str; have hnum := hnu.num
  go_enter Tryz.func29, Tryz.ntmps29
  obtain ⟨xb, hxb⟩ : ∃ xb, xb = w.heap.size := ⟨_, rfl⟩
  obtain ⟨xd, hxd⟩ : ∃ xd, xd = w.heap.size + 1 := ⟨_, rfl⟩
  obtain ⟨w1, hw1⟩ : ∃ w1, w1 = (w.alloc (.cells #[.pointer (some ⟨b, 0, none⟩)] 54)).alloc (.cells #[.int .i64 d.kind, .int .i64 d.num, .string d.str, .slice A3 d.keys.length c3, .slice A4 d.kids.length c4] 25) := ⟨_, rfl⟩
  have hbw1 : Below w.heap.size w w1 := by rw [hw1]; exact ((Below.refl _ _).alloc (Nat.le_refl _) _).alloc (by simp) _
  have hok1 : Lib.OthersKept 5 (some b) w w1 := by
    intro k o hk _ _
    have hkl : k < w.heap.size := by
      rcases Nat.lt_or_ge k w.heap.size with h1 | h1
      · exact h1
      · simp [Array.getElem?_eq_none h1] at hk
    exact (hbw1.block k hkl).trans hk
  have hz1 : w1.heap.size = w.heap.size + 2 := by rw [hw1]; simp
  have hp1 : PW B b BB xb xd d (.int .i64 d.kind) (.int .i64 d.num) (.string d.str) (.slice A3 d.keys.length c3) (.slice A4 d.kids.length c4) w1 := by
    refine ⟨?_, ?_, hdoc.keep (Nat.le_refl _) (fun p hp => hbw1.cell (by omega)), tx_tab_same htab (hbw1.block _ (by omega))⟩
    · rw [hw1, Below.heap_alloc _ _ _ (by simp; omega)]; exact heap_alloc_new' hxb.symm _
    · unfold Box5; rw [hw1]; exact heap_alloc_new' (by simp; omega) _
  have hb1 : Bld B b l w1 := hb.past hbw1 (by omega)
  have hB1 : B ≤ w1.heap.size := by omega
  have HSP : Hid (∀ X, PW B b BB xb xd d (.int .i64 d.kind) (.int .i64 d.num) (.string d.str) (.slice A3 d.keys.length c3) (.slice A4 d.kids.length c4) X → X.cell? ⟨xb, 0, none⟩ = some (.pointer (some ⟨b, 0, none⟩)) ∧ X.cell? ⟨xd, 0, none⟩ = some (.int .i64 d.kind) ∧ X.cell? ⟨xd, 1, none⟩ = some (.int .i64 d.num) ∧ X.cell? ⟨xd, 2, none⟩ = some (.string d.str) ∧ X.cell? ⟨xd, 3, none⟩ = some (.slice A3 d.keys.length c3) ∧ X.cell? ⟨xd, 4, none⟩ = some (.slice A4 d.kids.length c4)) := Lib.hid fun X h => ⟨rdr_cell h.pb, h.pd.cells.1, h.pd.cells.2.1, h.pd.cells.2.2.1, h.pd.cells.2.2.2.1, h.pd.cells.2.2.2.2⟩
  have hxb1 : xb ≠ b := by omega
  have hxd1 : xd ≠ b := by omega
  have HEND : Hid (∀ l' w' X, B ≤ X.heap.size → Below w1.heap.size w1 X → BldTo B b l' X w' → BldTo B b l' w w') := Lib.hid fun l' w' X _ hX ht =>
    ⟨ht.1, (hbw1.mono hBw).trans ((hX.mono hB1).trans ht.2.1), hok1.trans (Lib.OthersKept.trans (fun k o hk _ _ => by
      have hkl : k < w1.heap.size := by
        rcases Nat.lt_or_ge k w1.heap.size with h1 | h1
        · exact h1
        · simp [Array.getElem?_eq_none h1] at hk
      exact (hX.block k hkl).trans hk) ht.2.2)⟩
  have HP1 := Lib.hid hp1; have HB1 := Lib.hid hb1; have HF := Lib.hid hf; have HNU := Lib.hid hnu; have HDP := Lib.hid hdp
  have hpr := printD_eq d
  have HPR := Lib.hid hpr
  obtain ⟨s0, s1, s2, s3, s4, s5⟩ := HSP.out w1 hp1
  obtain ⟨t0, t1, t2, t3, t4, t5⟩ := HSP.out w1.drew hp1.drew
  have hBn : BB ≤ w1.heap.size := by omega
  have hgn : 3 < w1.heap.size := by omega
  have hw1' := hw1
  have HX1 := Lib.hid hxb.symm; have HX2 := Lib.hid hxd.symm
  have HW1 := Lib.hid hw1
  clear hw1 hw1' hbw1 hok1 hp1 hb1 hf hnu hdp hdoc hb htab hpr IH hxb hxd hz1
  go_upto_region 1 with fail
  rw [← HW1.out, HX2.out, HX1.out]
  clear HX1 HX2 HW1
  by_cases k1 : d.kind = 1
  · have e1 : (d.kind == 1) = true := by rw [k1]; rfl
    have HT : Hid (printD d = 123 :: (rowD (recK d.keys (printsD d.kids)) ++ [125])) := Lib.hid (by rw [HPR.out]; unfold nodeD; rw [if_pos k1])
    have hll : l.length + (rowD (recK d.keys (printsD d.kids))).length + 2 ≤ 8000000 := by
      rw [HT.out] at hlen; simp only [List.length_cons, List.length_append, List.length_nil] at hlen; omega
    have hil : (recK d.keys (printsD d.kids)).length = min d.keys.length d.kids.length := recK_len d.keys d.kids
    have hil2 : (recK d.keys (printsD d.kids)).length ≤ 10000 := by rw [hil]; omega
    have hrow := fun (W : World) (hW : Bld B b l W) (hPW : PW B b BB xb xd d (.int .i64 d.kind) (.int .i64 d.num) (.string d.str) (.slice A3 d.keys.length c3) (.slice A4 d.kids.length c4) W) (hWB : B ≤ W.heap.size) => writeRow_any (items := recK d.keys (printsD d.kids)) (P := PW B b BB xb xd d (.int .i64 d.kind) (.int .i64 d.num) (.string d.str) (.slice A3 d.keys.length c3) (.slice A4 d.kids.length c4)) (M := 8000000) (by decide) 123 125 (enters_of Tryz.func50 (by kernel_rfl) rfl) (caps := #[.pointer (some ⟨xb, 0, none⟩), .pointer (some ⟨xd, 0, none⟩)])
      (fun k h l w hb hp hBw hlen => by
        have hk1 : k < d.keys.length := by rw [hil] at h; omega
        have hk2 : k < d.kids.length := by rw [hil] at h; omega
        rw [recK_at h hk1 hk2] at hlen ⊢
        exact write1_any HIH.out hBB hg hxb1 hxd1 HDP.out HF.out HNU.out hp hb hBw hk2 hk1 hlen)
      (fun w w' l h t => h.next t hBB hg hxb1 hxd1) hW hPW hWB hil2 hll
    rw [hil] at hrow
    have HROW := Lib.hid hrow
    clear hrow hil hil2 hll k1
    have HKW := Lib.hid (keyedW_any (B := BB) w1.drew HP1.out.drew.doc)
    go_wp2_with fail
    go_region_held3 (fun X => X.cell? ⟨xb, 0, none⟩ = some (.pointer (some ⟨b, 0, none⟩)) ∧ X.cell? ⟨xd, 0, none⟩ = some (.int .i64 d.kind) ∧ X.cell? ⟨xd, 1, none⟩ = some (.int .i64 d.num) ∧ X.cell? ⟨xd, 2, none⟩ = some (.string d.str) ∧ X.cell? ⟨xd, 3, none⟩ = some (.slice A3 d.keys.length c3) ∧ X.cell? ⟨xd, 4, none⟩ = some (.slice A4 d.kids.length c4)) (first | exact ⟨t0, t1, t2, t3, t4, t5⟩ | with_reducible exact HSP.out _ hp5 | with_reducible exact HSP.out _ hp6)
      ((first
        | (go_at_call 49
           refine HKW.out.mono ?_
           rintro e w5 ⟨rfl, hb5, -⟩
           have hp5 := HP1.out.drew.past hb5 hBn hgn
           have hb5b := HB1.out.drew.past hb5 (by omega)
           have hB5 : B ≤ w5.heap.size := Nat.le_trans hB1 hb5.size
           have HU5 := Lib.hid (below_undrew hb5))
        | (go_at_call 48
           refine (HROW.out w5 hb5b hp5 hB5).mono ?_
           rintro e w6 ⟨rfl, hb6⟩
           have hp6 := hp5.next hb6 hBB hg hxb1 hxd1)))
    all_goals (
      have HB6 := Lib.hid hb6
      clear hb6 hp6 hp5 hb5b
      go_end0
      exact ⟨rfl, by rw [HT.out]; exact HEND.out _ _ _ hB5 HU5.out HB6.out⟩)
  have n1 : (d.kind == 1) = false := by simpa using k1
  by_cases k2 : d.kind = 2
  · have e2 : (d.kind == 2) = true := by rw [k2]; rfl
    have HT : Hid (printD d = 60 :: (rowD (dictK d.keys (printsD d.kids)) ++ [62])) := Lib.hid (by rw [HPR.out]; unfold nodeD; rw [if_neg (by rw [k2]; decide)]; rw [if_pos k2])
    have hll : l.length + (rowD (dictK d.keys (printsD d.kids))).length + 2 ≤ 8000000 := by
      rw [HT.out] at hlen; simp only [List.length_cons, List.length_append, List.length_nil] at hlen; omega
    have hil : (dictK d.keys (printsD d.kids)).length = min d.keys.length d.kids.length := dictK_len d.keys d.kids
    have hil2 : (dictK d.keys (printsD d.kids)).length ≤ 10000 := by rw [hil]; omega
    have hrow := fun (W : World) (hW : Bld B b l W) (hPW : PW B b BB xb xd d (.int .i64 d.kind) (.int .i64 d.num) (.string d.str) (.slice A3 d.keys.length c3) (.slice A4 d.kids.length c4) W) (hWB : B ≤ W.heap.size) => writeRow_any (items := dictK d.keys (printsD d.kids)) (P := PW B b BB xb xd d (.int .i64 d.kind) (.int .i64 d.num) (.string d.str) (.slice A3 d.keys.length c3) (.slice A4 d.kids.length c4)) (M := 8000000) (by decide) 60 62 (enters_of Tryz.func52 (by kernel_rfl) rfl) (caps := #[.pointer (some ⟨xb, 0, none⟩), .pointer (some ⟨xd, 0, none⟩)])
      (fun k h l w hb hp hBw hlen => by
        have hk1 : k < d.keys.length := by rw [hil] at h; omega
        have hk2 : k < d.kids.length := by rw [hil] at h; omega
        rw [dictK_at h hk1 hk2] at hlen ⊢
        exact write2_any HIH.out hBB hg hxb1 hxd1 HDP.out HF.out HNU.out hp hb hBw hk2 hk1 hlen)
      (fun w w' l h t => h.next t hBB hg hxb1 hxd1) hW hPW hWB hil2 hll
    rw [hil] at hrow
    have HROW := Lib.hid hrow
    clear hrow hil hil2 hll k2
    have HKW := Lib.hid (keyedW_any (B := BB) w1.drew HP1.out.drew.doc)
    go_wp2_with fail
    go_region_held3 (fun X => X.cell? ⟨xb, 0, none⟩ = some (.pointer (some ⟨b, 0, none⟩)) ∧ X.cell? ⟨xd, 0, none⟩ = some (.int .i64 d.kind) ∧ X.cell? ⟨xd, 1, none⟩ = some (.int .i64 d.num) ∧ X.cell? ⟨xd, 2, none⟩ = some (.string d.str) ∧ X.cell? ⟨xd, 3, none⟩ = some (.slice A3 d.keys.length c3) ∧ X.cell? ⟨xd, 4, none⟩ = some (.slice A4 d.kids.length c4)) (first | exact ⟨t0, t1, t2, t3, t4, t5⟩ | with_reducible exact HSP.out _ hp5 | with_reducible exact HSP.out _ hp6)
      ((first
        | (go_at_call 49
           refine HKW.out.mono ?_
           rintro e w5 ⟨rfl, hb5, -⟩
           have hp5 := HP1.out.drew.past hb5 hBn hgn
           have hb5b := HB1.out.drew.past hb5 (by omega)
           have hB5 : B ≤ w5.heap.size := Nat.le_trans hB1 hb5.size
           have HU5 := Lib.hid (below_undrew hb5))
        | (go_at_call 48
           refine (HROW.out w5 hb5b hp5 hB5).mono ?_
           rintro e w6 ⟨rfl, hb6⟩
           have hp6 := hp5.next hb6 hBB hg hxb1 hxd1)))
    all_goals (
      have HB6 := Lib.hid hb6
      clear hb6 hp6 hp5 hb5b
      go_end0
      exact ⟨rfl, by rw [HT.out]; exact HEND.out _ _ _ hB5 HU5.out HB6.out⟩)
  have n2 : (d.kind == 2) = false := by simpa using k2
  by_cases k3 : d.kind = 3
  · have e3 : (d.kind == 3) = true := by rw [k3]; rfl
    have HT : Hid (printD d = 91 :: (rowD (printsD d.kids) ++ [93])) := Lib.hid (by rw [HPR.out]; unfold nodeD; rw [if_neg (by rw [k3]; decide)]; rw [if_neg (by rw [k3]; decide)]; rw [if_pos k3])
    have hll : l.length + (rowD (printsD d.kids)).length + 2 ≤ 8000000 := by
      rw [HT.out] at hlen; simp only [List.length_cons, List.length_append, List.length_nil] at hlen; omega
    have hil : (printsD d.kids).length = d.kids.length := printsD_len d.kids
    have hil2 : (printsD d.kids).length ≤ 10000 := by rw [hil]; omega
    have hrow := fun (W : World) (hW : Bld B b l W) (hPW : PW B b BB xb xd d (.int .i64 d.kind) (.int .i64 d.num) (.string d.str) (.slice A3 d.keys.length c3) (.slice A4 d.kids.length c4) W) (hWB : B ≤ W.heap.size) => writeRow_any (items := printsD d.kids) (P := PW B b BB xb xd d (.int .i64 d.kind) (.int .i64 d.num) (.string d.str) (.slice A3 d.keys.length c3) (.slice A4 d.kids.length c4)) (M := 8000000) (by decide) 91 93 (enters_of Tryz.func53 (by kernel_rfl) rfl) (caps := #[.pointer (some ⟨xb, 0, none⟩), .pointer (some ⟨xd, 0, none⟩)])
      (fun k h l w hb hp hBw hlen => by
        have hk2 : k < d.kids.length := by rw [hil] at h; exact h
        have hat := printsD_at d.kids k hk2
        rw [hat] at hlen ⊢
        exact write3_any HIH.out hBB hg hxb1 hxd1 HDP.out HF.out HNU.out hp hb hBw hk2 hlen)
      (fun w w' l h t => h.next t hBB hg hxb1 hxd1) hW hPW hWB hil2 hll
    rw [hil] at hrow
    have HROW := Lib.hid hrow
    clear hrow hil hil2 hll k3
    go_wp2_with fail
    refine (HROW.out w1 HB1.out HP1.out hB1).mono ?_
    rintro e w6 ⟨rfl, hb6⟩
    have HB6 := Lib.hid hb6
    clear hb6
    go_wp2_with fail
    go_end0
    exact ⟨rfl, by rw [HT.out]; exact HEND.out _ _ _ hB1 (Below.refl _ _) HB6.out⟩
  have n3 : (d.kind == 3) = false := by simpa using k3
  by_cases k4 : d.kind = 4
  · have e4 : (d.kind == 4) = true := by rw [k4]; rfl
    have HT : Hid (printD d = Lib.itoa d.num) := Lib.hid (by rw [HPR.out]; unfold nodeD; rw [if_neg k1]; rw [if_neg k2]; rw [if_neg k3]; rw [if_pos k4])
    have HI := Lib.hid (Tryz.strconv_Itoa d.num hnum.1 hnum.2 w1.drew HP1.out.drew.tab)
    have hsz : (⟨(Lib.itoa d.num).toArray⟩ : ByteArray).size = (Lib.itoa d.num).length := by show (Lib.itoa d.num).toArray.size = _; simp
    have hll : l.length + (⟨(Lib.itoa d.num).toArray⟩ : ByteArray).size ≤ 140737488355328 := by rw [hsz, ← HT.out]; omega
    have HLL := Lib.hid hll
    clear k1 k2 k3 k4 hsz hll
    go_wp2_with fail
    go_region_held3 (fun X => X.cell? ⟨xb, 0, none⟩ = some (.pointer (some ⟨b, 0, none⟩)) ∧ X.cell? ⟨xd, 0, none⟩ = some (.int .i64 d.kind) ∧ X.cell? ⟨xd, 1, none⟩ = some (.int .i64 d.num) ∧ X.cell? ⟨xd, 2, none⟩ = some (.string d.str) ∧ X.cell? ⟨xd, 3, none⟩ = some (.slice A3 d.keys.length c3) ∧ X.cell? ⟨xd, 4, none⟩ = some (.slice A4 d.kids.length c4)) (first | exact ⟨t0, t1, t2, t3, t4, t5⟩ | with_reducible exact HSP.out _ hp5 | with_reducible exact HSP.out _ hp6)
      ((first
        | (go_at_call 54
           refine HI.out.mono ?_
           rintro e w5 ⟨rfl, hgr5⟩
           have hb5 : Below w1.drew.heap.size w1.drew w5 := by obtain ⟨k, os, rfl⟩ := hgr5; exact Lib.below_grow _ _ (Nat.le_refl _) _ _
           have hp5 := HP1.out.drew.past hb5 hBn hgn
           have hb5b := HB1.out.drew.past hb5 (by omega)
           have hB5 : B ≤ w5.heap.size := Nat.le_trans hB1 hb5.size
           have HU5 := Lib.hid (below_undrew hb5)
           clear hgr5)
        | (go_at_call 51
           refine (bstring_any ⟨(Lib.itoa d.num).toArray⟩ hb5b HLL.out hB5).mono ?_
           rintro e w6 ⟨rfl, hb6⟩
           have hp6 := hp5.next hb6 hBB hg hxb1 hxd1)))
    have HB6 := Lib.hid hb6
    clear hb6 hp6 hp5 hb5b
    go_end0
    exact ⟨rfl, by rw [HT.out]; exact HEND.out _ _ _ hB5 HU5.out HB6.out⟩
  have n4 : (d.kind == 4) = false := by simpa using k4
  by_cases k5 : d.kind = 5
  · have e5 : (d.kind == 5) = true := by rw [k5]; rfl
    have HT : Hid (printD d = boolL d.num) := Lib.hid (by rw [HPR.out]; unfold nodeD; rw [if_neg k1]; rw [if_neg k2]; rw [if_neg k3]; rw [if_neg k4]; rw [if_pos k5])
    have hbe : (d.num == 1) = decide (d.num = 1) := by rw [Bool.eq_iff_iff]; simp
    have HI := Lib.hid (Tryz.strconv_FormatBool (decide (d.num = 1)) w1.drew)
    rw [formatBool_eq] at HI
    have hbl : (boolL d.num).length ≤ 5 := by unfold boolL; split <;> simp
    have hsz : (⟨(boolL d.num).toArray⟩ : ByteArray).size = (boolL d.num).length := by show (boolL d.num).toArray.size = _; simp
    have hll : l.length + (⟨(boolL d.num).toArray⟩ : ByteArray).size ≤ 140737488355328 := by rw [hsz, ← HT.out]; omega
    have HLL := Lib.hid hll
    clear k1 k2 k3 k4 k5 hsz hll hbl
    go_wp2_with fail
    go_region_held3 (fun X => X.cell? ⟨xb, 0, none⟩ = some (.pointer (some ⟨b, 0, none⟩)) ∧ X.cell? ⟨xd, 0, none⟩ = some (.int .i64 d.kind) ∧ X.cell? ⟨xd, 1, none⟩ = some (.int .i64 d.num) ∧ X.cell? ⟨xd, 2, none⟩ = some (.string d.str) ∧ X.cell? ⟨xd, 3, none⟩ = some (.slice A3 d.keys.length c3) ∧ X.cell? ⟨xd, 4, none⟩ = some (.slice A4 d.kids.length c4)) (first | exact ⟨t0, t1, t2, t3, t4, t5⟩ | with_reducible exact HSP.out _ hp6)
      ((first
        | (go_at_call 55
           refine HI.out.mono ?_
           rintro e w5 ⟨rfl, rfl⟩)
        | (go_at_call 51
           refine (bstring_any ⟨(boolL d.num).toArray⟩ HB1.out.drew HLL.out hB1).mono ?_
           rintro e w6 ⟨rfl, hb6⟩
           have hp6 := HP1.out.drew.next hb6 hBB hg hxb1 hxd1)))
    have HB6 := Lib.hid (BldTo.undrew hb6)
    clear hb6 hp6
    go_end0
    exact ⟨rfl, by rw [HT.out]; exact HEND.out _ _ _ hB1 (Below.refl _ _) HB6.out⟩
  have n5 : (d.kind == 5) = false := by simpa using k5
  by_cases k6 : d.kind = 6
  · have e6 : (d.kind == 6) = true := by rw [k6]; rfl
    have HT : Hid (printD d = quoteL d.str.data.toList) := Lib.hid (by rw [HPR.out]; unfold nodeD; rw [if_neg k1]; rw [if_neg k2]; rw [if_neg k3]; rw [if_neg k4]; rw [if_neg k5]; rw [if_pos k6])
    have HQ := Lib.hid (quote_any d.str HB1.out (by omega) hB1)
    clear k1 k2 k3 k4 k5 k6
    go_wp2_with fail
    refine HQ.out.mono ?_
    rintro e w6 ⟨rfl, hb6⟩
    have HB6 := Lib.hid hb6
    clear hb6
    go_wp2_with fail
    go_end0
    exact ⟨rfl, by rw [HT.out]; exact HEND.out _ _ _ hB1 (Below.refl _ _) HB6.out⟩
  have n6 : (d.kind == 6) = false := by simpa using k6
  have HT : Hid (printD d = [63]) := Lib.hid (by rw [HPR.out]; unfold nodeD; rw [if_neg k1]; rw [if_neg k2]; rw [if_neg k3]; rw [if_neg k4]; rw [if_neg k5]; rw [if_neg k6])
  have HQ := Lib.hid (bbyte_any 63 HB1.out (by omega) hB1)
  clear k1 k2 k3 k4 k5 k6
  go_wp2_with fail
  refine HQ.out.mono ?_
  rintro e w6 ⟨rfl, hb6⟩
  have HB6 := Lib.hid hb6
  clear hb6
  go_wp2_with fail
  go_end0
  exact ⟨rfl, by rw [HT.out]; exact HEND.out _ _ _ hB1 (Below.refl _ _) HB6.out⟩
end Go.Proofs.YtgklnafliaplkaaGreatDoor
namespace Go.Proofs.YtgklnafliaplkaaGreatDoor
open Go.RowKit

theorem writes_any {B b BB : Nat} (hBB : BB ≤ B) (hg : 3 < B) : ∀ m, DWrites B b BB m
  | 0 => fun d _ _ _ _ _ _ _ hdp => by have := D.depth_eq d; omega
  | m + 1 => write_succ hBB hg (writes_any hBB hg m)
set_option maxHeartbeats 4000000 in
set_option maxRecDepth 100000 in
theorem Print_any {d : D} {v0 v1 v2 v3 v4 : Value} {BB : Nat} {w : World} (hf : d.Fit) (hn : d.Nums) (hd : DocIn w BB d v0 v1 v2 v3 v4) (hBB : BB ≤ w.heap.size) (hg : TG w) (hlen : (printD d).length ≤ 8000000) :
    Calls Tryz.prog 13 #[.agg #[v0, v1, v2, v3, v4]] w fun e w' => e = .returned (.string ⟨(printD d).toArray⟩) ∧ Below w.heap.size w w' := by
  obtain ⟨A3, c3, A4, c4, rfl, rfl, rfl, rfl, rfl⟩ := hd.forms
  have HG := Lib.hid hg; have HD := Lib.hid hd; have HF := Lib.hid hf; have HN := Lib.hid hn
  clear hd hg hf hn
  go_enter Tryz.func13, Tryz.ntmps13
  go_wp2_with fail
  obtain ⟨w1, hw1⟩ : ∃ w1, w1 = w.alloc (.cells #[.int .i64 d.kind, .int .i64 d.num, .string d.str, .slice A3 d.keys.length c3, .slice A4 d.kids.length c4] 25) := ⟨_, rfl⟩
  have hb1 : Below w.heap.size w w1 := by rw [hw1]; exact (Below.refl _ _).alloc (Nat.le_refl _) _
  have hz1 : w1.heap.size = w.heap.size + 1 := by rw [hw1]; simp
  have hbn := Bld.new w1
  have hb2 : Below w1.heap.size w1 (w1.alloc (.cells #[.pointer none, .slice none 0 0] 56)) := (Below.refl _ _).alloc (Nat.le_refl _) _
  have hg1 := HG.out.next hb1
  have hg2 := hg1.next hb2
  have hcall := writes_any (B := w1.heap.size) (b := w1.heap.size) (BB := BB) (by omega) hg1.tl d.depth d _ _ _ _ _ [] _ (Nat.le_refl _) HF.out HN.out (HD.out.keep (Nat.le_refl _) fun p hp => (hb2.cell (by omega)).trans (hb1.cell (by omega))) hbn hb2.size hg2.tab (by simpa using hlen)
  have HC := Lib.hid hcall; have HB1 := Lib.hid hb1; have HB2 := Lib.hid hb2
  rw [← hw1]
  have hz1' : w.heap.size + 1 = w1.heap.size := hz1.symm
  rw [hz1']
  clear hcall hb1 hb2 hg1 hg2 hbn hw1 hz1 hz1'
  refine HC.out.mono ?_
  rintro e w3 ⟨rfl, h3⟩
  rw [List.nil_append] at h3
  have HS := Lib.hid (Tryz.Builder_String_any_f w1.heap.size w1.heap.size (printD d) w3 h3.bld (Nat.le_trans HB2.out.size h3.2.1.size))
  have HB3 := Lib.hid (HB2.out.trans h3.2.1)
  clear h3 HC
  go_wp2_with fail
  refine HS.out.mono ?_
  rintro e w4 ⟨rfl, -, hb4⟩
  have HB4 := Lib.hid (HB1.out.trans ((HB3.out.trans hb4).mono HB1.out.size))
  clear hb4 HS
  go_wp2_with fail
  go_ret
  exact ⟨rfl, HB4.out⟩
end Go.Proofs.YtgklnafliaplkaaGreatDoor
