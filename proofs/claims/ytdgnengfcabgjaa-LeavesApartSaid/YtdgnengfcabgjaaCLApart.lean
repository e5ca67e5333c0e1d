/-
  The walk of LeavesApart.
-/
import Derived.Test.YtdgnengfcabgjaaB41
import Derived.Test.YtdgnengfcabgjaaB43
import Derived.Test.YtdgnengfcabgjaaB44
import Derived.Test.YtdgnengfcabgjaaB13
import Derived.Deep.RegionLaw
namespace Go.Proofs.Ytdgnengfcabgjaa
open Go.RowKit

theorem one_small {x : Lf} (h : OneL x) (hp : ∀ s ∈ x.path, s.size ≤ 9223372036854775807) : SmallL x := by
  have h' : FewP x.doc 20 := by simpa [fewB] using h.1
  have h6 := (D.fit6_eq x.doc).1 h'.fit
  exact ⟨h'.fit.fit, by omega, by omega, hp⟩
theorem tree_same {ls : List Lf} (h : (treeV ls).2 = 0) : rightB (treeV ls).1 = true ∧ sameLs (lsrt (vis [] (treeV ls).1)) (lsrt ls) = true := by
  unfold treeV at h ⊢
  split
  · rename_i h1; rw [if_pos h1] at h; cases h
  · rename_i h1
    rw [if_neg h1] at h
    split
    · rename_i h2; rw [if_pos h2] at h; cases h
    · rename_i h2
      rw [if_neg h2] at h
      split
      · rename_i h3; rw [if_pos h3] at h; cases h
      · rename_i h3; simpa using h3
theorem Gr.total : ∀ (n dep : Nat) (l : List Lf), l.length ≤ n → ∃ ks ds r, Gr dep l ks ds r ∧ Stop dep r
  | _, dep, [], _ => ⟨[], [], [], .refl _ _, fun _ _ e => by cases e⟩
  | 0, _, _ :: _, h => by simp at h
  | n + 1, dep, x :: r, h => by
    by_cases hd : dep < x.path.length
    · obtain ⟨ks, ds, r1, h1, s1⟩ := Gr.total n x.path.length r (by simpa using h)
      have hl := h1.len
      obtain ⟨ks2, ds2, r2, h2, s2⟩ := Gr.total n dep r1 (by simp at h; omega)
      exact ⟨_, _, r2, .kid hd h1 s1 h2, s2⟩
    · exact ⟨[], [], _, .refl _ _, fun y r' e => by injection e with e _; rw [← e]; omega⟩
theorem grown_fit {ls : List Lf} (hs : ∀ x ∈ ls, SmallL x) (hl : ls.length ≤ 5000) (h0 : 0 < ls.length) : (grownD ls).Fit := by
  cases ls with
  | nil => simp at h0
  | cons x r =>
    obtain ⟨ks, ds, rest, h1, s1⟩ := Gr.total r.length x.path.length r (Nat.le_refl _)
    have hln := h1.len
    simp only [List.length_cons] at hl
    have hf := h1.fit (fun y hy => hs y (by simp [hy])) (by omega)
    rw [grownD_of h1 s1]
    exact fit_plus (hs x (by simp)) (by omega) (by omega) hf.1 hf.2
theorem tree_fit {ls : List Lf} (hs : ∀ x ∈ ls, SmallL x) (hl : ls.length ≤ 5000) (h : (treeV ls).2 = 0) : (treeV ls).1.Fit := by
  have hp := lsrt_perm ls
  unfold treeV at h ⊢
  split
  · rename_i h1; rw [if_pos h1] at h; cases h
  · rename_i h1
    rw [if_neg h1] at h
    split
    · rename_i h2; rw [if_pos h2] at h; cases h
    · rename_i h2
      rw [if_neg h2] at h
      split
      · rename_i h3; rw [if_pos h3] at h; cases h
      · refine grown_fit (fun x hx => hs x (hp.subset hx)) (by rw [hp.length_eq]; exact hl) ?_
        cases hl : lsrt ls with
        | nil => rw [hl] at h2; simp [missL] at h2
        | cons x r => simp
theorem size_at {d : D} {v : Value} {w : World} {B : Nat} (hs : d.size ≤ 699) (hB : B ≤ w.heap.size) (hd : DocV w B d v) : Calls Try.prog 10 #[v] w fun e w' => e = .returned (.int .i64 d.size) ∧ Below w.heap.size w w' := by
  obtain ⟨_, _, _, _, _, rfl, hdi⟩ := hd
  exact size_any d.depth d _ _ _ _ _ w B (Nat.le_refl _) (by omega) hB hdi
/-- Is the law's case gone over? -/
noncomputable def apartB (a b : D) (ls : List Lf) : Bool := fewB a && (fewB b && (fewLB ls && (rightB a && (rightB b && (decide (a.size ≤ 100) && decide (b.size ≤ 100))))))
set_option maxRecDepth 100000 in
set_option maxHeartbeats 8000000 in
theorem lapart_law {a b : D} {ls : List Lf} {v0 v1 v2 v3 v4 u0 u1 u2 u3 u4 vl : Value} {w : World} (hda : DocIn w w.heap.size a v0 v1 v2 v3 v4) (hdb : DocIn w w.heap.size b u0 u1 u2 u3 u4) (hl : LvsIn w w.heap.size vl ls) (hps : ∀ x ∈ ls, ∀ s ∈ x.path, s.size ≤ 9223372036854775807) :
    Calls Try.prog 5 #[.agg #[v0, v1, v2, v3, v4], .agg #[u0, u1, u2, u3, u4], vl] w fun e w' => e = .returned (.bool true) ∧ Below w.heap.size w w' := by
  obtain ⟨A3, c3, A4, c4, rfl, rfl, rfl, rfl, rfl⟩ := hda.forms
  obtain ⟨B3, e3, B4, e4, rfl, rfl, rfl, rfl, rfl⟩ := hdb.forms
  obtain ⟨AL, cL, rfl, _⟩ := id hl
  obtain ⟨wb, hwb⟩ : ∃ wb, wb = (w.alloc (.cells #[.int .i64 a.kind, .int .i64 a.num, .string a.str, .slice A3 a.keys.length c3, .slice A4 a.kids.length c4] 25)).alloc (.cells #[.int .i64 b.kind, .int .i64 b.num, .string b.str, .slice B3 b.keys.length e3, .slice B4 b.kids.length e4] 25) := ⟨_, rfl⟩
  have HBB : Hid (Below w.heap.size w wb) := by rw [hwb]; exact Lib.hid (((Below.refl _ _).alloc (Nat.le_refl _) _).alloc (by simp) _)
  have HXA : Hid (Box5 wb w.heap.size (.int .i64 a.kind) (.int .i64 a.num) (.string a.str) (.slice A3 a.keys.length c3) (.slice A4 a.kids.length c4)) := by rw [hwb]; exact Lib.hid ((Below.heap_alloc _ _ _ (by simp)).trans (Box5.new w _ _ _ _ _))
  have HXB : Hid (Box5 wb (w.heap.size + 1) (.int .i64 b.kind) (.int .i64 b.num) (.string b.str) (.slice B3 b.keys.length e3) (.slice B4 b.kids.length e4)) := by
    rw [hwb]
    have := Box5.new (w.alloc (.cells #[.int .i64 a.kind, .int .i64 a.num, .string a.str, .slice A3 a.keys.length c3, .slice A4 a.kids.length c4] 25)) (.int .i64 b.kind) (.int .i64 b.num) (.string b.str) (.slice B3 b.keys.length e3) (.slice B4 b.kids.length e4)
    rw [World.size_alloc] at this
    exact Lib.hid this
  have HDA : Hid (DocV wb w.heap.size a (.agg #[.int .i64 a.kind, .int .i64 a.num, .string a.str, .slice A3 a.keys.length c3, .slice A4 a.kids.length c4])) := Lib.hid ⟨_, _, _, _, _, rfl, hda.keep (Nat.le_refl _) fun p hp => HBB.out.cell hp⟩
  have HDB : Hid (DocV wb w.heap.size b (.agg #[.int .i64 b.kind, .int .i64 b.num, .string b.str, .slice B3 b.keys.length e3, .slice B4 b.kids.length e4])) := Lib.hid ⟨_, _, _, _, _, rfl, hdb.keep (Nat.le_refl _) fun p hp => HBB.out.cell hp⟩
  have HL : Hid (LvsIn wb w.heap.size (.slice AL ls.length cL) ls) := Lib.hid (hl.keep fun p hp => HBB.out.cell hp)
  have HPS := Lib.hid hps
  have hsb : w.heap.size + 1 < wb.heap.size := HXB.out.lt
  clear hda hdb hl hps
  go_enter Try.func5, Try.ntmps5
  go_upto_region 1 with fail
  rw [← hwb]
  clear hwb
  go_upto_region 2 with (go_at_call 7; refine (lsmall_any _).mono ?_; rintro e w1 ⟨rfl, hb1⟩
                         have HB1 := Lib.hid hb1
                         clear hb1)
  -- everything at a later world
  have AT : Hid (∀ W, Below wb.heap.size wb W → Box5 W w.heap.size (.int .i64 a.kind) (.int .i64 a.num) (.string a.str) (.slice A3 a.keys.length c3) (.slice A4 a.kids.length c4) ∧ Box5 W (w.heap.size + 1) (.int .i64 b.kind) (.int .i64 b.num) (.string b.str) (.slice B3 b.keys.length e3) (.slice B4 b.kids.length e4) ∧ DocV W w.heap.size a (.agg #[.int .i64 a.kind, .int .i64 a.num, .string a.str, .slice A3 a.keys.length c3, .slice A4 a.kids.length c4]) ∧ DocV W w.heap.size b (.agg #[.int .i64 b.kind, .int .i64 b.num, .string b.str, .slice B3 b.keys.length e3, .slice B4 b.kids.length e4]) ∧ LvsIn W w.heap.size (.slice AL ls.length cL) ls ∧ w.heap.size + 1 < W.heap.size ∧ Below w.heap.size w W) := Lib.hid fun W hb =>
    ⟨HXA.out.same (hb.block _ (by omega)), HXB.out.same (hb.block _ hsb), HDA.out.keep (Nat.le_refl _) fun p hp => hb.cell (by omega), HDB.out.keep (Nat.le_refl _) fun p hp => hb.cell (by omega), HL.out.keep fun p hp => hb.cell (by omega), by have := hb.size; omega, HBB.out.trans (hb.mono (by omega))⟩
  clear HXA HXB HDA HDB HL HBB
  have T1 := Lib.hid (AT.out w1 HB1.out)
  obtain ⟨p0, p1, p2, p3, p4⟩ := T1.out.1.cells
  go_upto_region 3 with (go_at_call 8; refine (few_v (by have := T1.out.2.2.2.2.2.1; omega) T1.out.2.2.1).mono ?_; rintro e w2 ⟨rfl, hb2⟩
                         have HB2 := Lib.hid (HB1.out.trans (hb2.mono HB1.out.size))
                         clear hb2 p0 p1 p2 p3 p4 T1)
  have T2 := Lib.hid (AT.out w2 HB2.out)
  obtain ⟨q0, q1, q2, q3, q4⟩ := T2.out.2.1.cells
  go_upto_region 4 with (go_at_call 8; refine (few_v (by have := T2.out.2.2.2.2.2.1; omega) T2.out.2.2.2.1).mono ?_; rintro e w3 ⟨rfl, hb3⟩
                         have HB3 := Lib.hid (HB2.out.trans (hb3.mono HB2.out.size))
                         clear hb3 q0 q1 q2 q3 q4 T2)
  have T3 := Lib.hid (AT.out w3 HB3.out)
  go_upto_region 5 with (go_at_call 9; refine (lfew03_any (by have := T3.out.2.2.2.2.2.1; omega) T3.out.2.2.2.2.1).mono ?_; rintro e w4 ⟨rfl, hb4⟩
                         have HB4 := Lib.hid (HB3.out.trans (hb4.mono HB3.out.size))
                         clear hb4 T3)
  clear HB1 HB2 HB3
  generalize hA : fewB a = fa
  generalize hB : fewB b = fb
  generalize hC : fewLB ls = fc
  go_cut [49] from 78 (fun s49 wx => s49 = .bool (!apartB a b ls) ∧ Hid (Below wb.heap.size wb wx))
  case first =>
    have T4 := Lib.hid (AT.out w4 HB4.out)
    obtain ⟨p0, p1, p2, p3, p4⟩ := T4.out.1.cells
    cases fa with
    | false =>
      go_wp2_with fail
      go_meet
      exact ⟨by rw [apartB, hA]; rfl, HB4⟩
    | true =>
    cases fb with
    | false =>
      go_wp2_with fail
      go_meet
      exact ⟨by rw [apartB, hA, hB]; rfl, HB4⟩
    | true =>
    cases fc with
    | false =>
      go_wp2_with fail
      go_meet
      exact ⟨by rw [apartB, hA, hB, hC]; rfl, HB4⟩
    | true =>
    have FA : Hid (FewP a 20) := Lib.hid (by simpa [fewB] using hA)
    have FB : Hid (FewP b 20) := Lib.hid (by simpa [fewB] using hB)
    have EV : Hid (∀ x, apartB a b ls = x ↔ (rightB a && (rightB b && (decide (a.size ≤ 100) && decide (b.size ≤ 100)))) = x) := Lib.hid (by simp [apartB, hA, hB, hC])
    clear hA hB hC
    cases hRA : rightB a with
    | false =>
      go_wp2_with (first
        | (go_at_call 26; with_reducible refine (right_v FA.out.fit.fit (by have := T4.out.2.2.2.2.2.1; omega) T4.out.2.2.1).mono ?_; rw [hRA]; rintro e w5 ⟨rfl, hb5⟩
           have HB5 := Lib.hid (HB4.out.trans (hb5.mono HB4.out.size)); have T5 := Lib.hid (AT.out w5 HB5.out)
           obtain ⟨x0, x1, x2, x3, x4⟩ := T5.out.2.1.cells
           clear hb5))
      go_meet
      exact ⟨by rw [(EV.out false).2 (by simp [hRA])]; rfl, HB5⟩
    | true =>
    cases hRB : rightB b with
    | false =>
      go_wp2_with (first
        | (go_at_call 26; with_reducible refine (right_v FA.out.fit.fit (by have := T4.out.2.2.2.2.2.1; omega) T4.out.2.2.1).mono ?_; rw [hRA]; rintro e w5 ⟨rfl, hb5⟩
           have HB5 := Lib.hid (HB4.out.trans (hb5.mono HB4.out.size)); have T5 := Lib.hid (AT.out w5 HB5.out)
           obtain ⟨x0, x1, x2, x3, x4⟩ := T5.out.2.1.cells
           clear hb5)
        | (go_at_call 26; with_reducible refine (right_v FB.out.fit.fit (by have := T5.out.2.2.2.2.2.1; omega) T5.out.2.2.2.1).mono ?_; rw [hRB]; rintro e w6 ⟨rfl, hb6⟩
           have HB6 := Lib.hid (HB5.out.trans (hb6.mono HB5.out.size)); have T6 := Lib.hid (AT.out w6 HB6.out)
           obtain ⟨y0, y1, y2, y3, y4⟩ := T6.out.1.cells
           clear hb6))
      go_meet
      exact ⟨by rw [(EV.out false).2 (by simp [hRA, hRB])]; rfl, HB6⟩
    | true =>
    by_cases hsa : 100 < a.size
    · have hsai : (100 : Int) < (a.size : Int) := by omega
      go_wp2_with (first
        | (go_at_call 26; with_reducible refine (right_v FA.out.fit.fit (by have := T4.out.2.2.2.2.2.1; omega) T4.out.2.2.1).mono ?_; rw [hRA]; rintro e w5 ⟨rfl, hb5⟩
           have HB5 := Lib.hid (HB4.out.trans (hb5.mono HB4.out.size)); have T5 := Lib.hid (AT.out w5 HB5.out)
           obtain ⟨x0, x1, x2, x3, x4⟩ := T5.out.2.1.cells
           clear hb5)
        | (go_at_call 26; with_reducible refine (right_v FB.out.fit.fit (by have := T5.out.2.2.2.2.2.1; omega) T5.out.2.2.2.1).mono ?_; rw [hRB]; rintro e w6 ⟨rfl, hb6⟩
           have HB6 := Lib.hid (HB5.out.trans (hb6.mono HB5.out.size)); have T6 := Lib.hid (AT.out w6 HB6.out)
           obtain ⟨y0, y1, y2, y3, y4⟩ := T6.out.1.cells
           clear hb6)
        | (go_at_call 10; with_reducible refine (size_at FA.out.size (by have := T6.out.2.2.2.2.2.1; omega) T6.out.2.2.1).mono ?_; rintro e w7 ⟨rfl, hb7⟩
           have HB7 := Lib.hid (HB6.out.trans (hb7.mono HB6.out.size)); have T7 := Lib.hid (AT.out w7 HB7.out)
           obtain ⟨z0, z1, z2, z3, z4⟩ := T7.out.2.1.cells
           clear hb7))
      go_meet
      exact ⟨by rw [(EV.out false).2 (by simp [hRA, hRB, show ¬ a.size ≤ 100 by omega])]; first | rfl | simp [hsai], HB7⟩
    · have hsai : ¬ (100 : Int) < (a.size : Int) := by omega
      by_cases hsb2 : 100 < b.size
      · have hsbi : (100 : Int) < (b.size : Int) := by omega
        go_wp2_with (first
          | (go_at_call 26; with_reducible refine (right_v FA.out.fit.fit (by have := T4.out.2.2.2.2.2.1; omega) T4.out.2.2.1).mono ?_; rw [hRA]; rintro e w5 ⟨rfl, hb5⟩
             have HB5 := Lib.hid (HB4.out.trans (hb5.mono HB4.out.size)); have T5 := Lib.hid (AT.out w5 HB5.out)
             obtain ⟨x0, x1, x2, x3, x4⟩ := T5.out.2.1.cells
             clear hb5)
          | (go_at_call 26; with_reducible refine (right_v FB.out.fit.fit (by have := T5.out.2.2.2.2.2.1; omega) T5.out.2.2.2.1).mono ?_; rw [hRB]; rintro e w6 ⟨rfl, hb6⟩
             have HB6 := Lib.hid (HB5.out.trans (hb6.mono HB5.out.size)); have T6 := Lib.hid (AT.out w6 HB6.out)
             obtain ⟨y0, y1, y2, y3, y4⟩ := T6.out.1.cells
             clear hb6)
          | (go_at_call 10; with_reducible refine (size_at FA.out.size (by have := T6.out.2.2.2.2.2.1; omega) T6.out.2.2.1).mono ?_; rintro e w7 ⟨rfl, hb7⟩
             have HB7 := Lib.hid (HB6.out.trans (hb7.mono HB6.out.size)); have T7 := Lib.hid (AT.out w7 HB7.out)
             obtain ⟨z0, z1, z2, z3, z4⟩ := T7.out.2.1.cells
             clear hb7)
          | (go_at_call 10; with_reducible refine (size_at FB.out.size (by have := T7.out.2.2.2.2.2.1; omega) T7.out.2.2.2.1).mono ?_; rintro e w8 ⟨rfl, hb8⟩
             have HB8 := Lib.hid (HB7.out.trans (hb8.mono HB7.out.size)); have T8 := Lib.hid (AT.out w8 HB8.out)
             clear hb8))
        go_meet
        exact ⟨by rw [(EV.out false).2 (by simp [hRA, hRB, show ¬ b.size ≤ 100 by omega])]; first | rfl | simp [hsai, hsbi], HB8⟩
      · have hsbi : ¬ (100 : Int) < (b.size : Int) := by omega
        go_wp2_with (first
          | (go_at_call 26; with_reducible refine (right_v FA.out.fit.fit (by have := T4.out.2.2.2.2.2.1; omega) T4.out.2.2.1).mono ?_; rw [hRA]; rintro e w5 ⟨rfl, hb5⟩
             have HB5 := Lib.hid (HB4.out.trans (hb5.mono HB4.out.size)); have T5 := Lib.hid (AT.out w5 HB5.out)
             obtain ⟨x0, x1, x2, x3, x4⟩ := T5.out.2.1.cells
             clear hb5)
          | (go_at_call 26; with_reducible refine (right_v FB.out.fit.fit (by have := T5.out.2.2.2.2.2.1; omega) T5.out.2.2.2.1).mono ?_; rw [hRB]; rintro e w6 ⟨rfl, hb6⟩
             have HB6 := Lib.hid (HB5.out.trans (hb6.mono HB5.out.size)); have T6 := Lib.hid (AT.out w6 HB6.out)
             obtain ⟨y0, y1, y2, y3, y4⟩ := T6.out.1.cells
             clear hb6)
          | (go_at_call 10; with_reducible refine (size_at FA.out.size (by have := T6.out.2.2.2.2.2.1; omega) T6.out.2.2.1).mono ?_; rintro e w7 ⟨rfl, hb7⟩
             have HB7 := Lib.hid (HB6.out.trans (hb7.mono HB6.out.size)); have T7 := Lib.hid (AT.out w7 HB7.out)
             obtain ⟨z0, z1, z2, z3, z4⟩ := T7.out.2.1.cells
             clear hb7)
          | (go_at_call 10; with_reducible refine (size_at FB.out.size (by have := T7.out.2.2.2.2.2.1; omega) T7.out.2.2.2.1).mono ?_; rintro e w8 ⟨rfl, hb8⟩
             have HB8 := Lib.hid (HB7.out.trans (hb8.mono HB7.out.size)); have T8 := Lib.hid (AT.out w8 HB8.out)
             clear hb8))
        go_meet
        exact ⟨by rw [(EV.out true).2 (by simp [hRA, hRB, show a.size ≤ 100 by omega, show b.size ≤ 100 by omega]), decide_eq_false (show ¬ (100 : Int) < (a.size : Int) by omega), decide_eq_false (show ¬ (100 : Int) < (b.size : Int) by omega)]; rfl, HB8⟩
  case rest =>
    obtain ⟨rfl, HB5⟩ := hcut
    have T5 := Lib.hid (AT.out wc HB5.out)
    cases hgo : apartB a b ls with
    | false =>
      go_wp2_with fail
      go_ret
      exact ⟨rfl, T5.out.2.2.2.2.2.2⟩
    | true =>
      clear hA hB hC
      simp only [apartB, Bool.and_eq_true] at hgo
      obtain ⟨hA, hB, hC, hRA, hRB, _, _⟩ := hgo
      have FA : Hid (FewP a 20) := Lib.hid (by simpa [fewB] using hA)
      have FB : Hid (FewP b 20) := Lib.hid (by simpa [fewB] using hB)
      have FL := Lib.hid (fewLB_is hC)
      have RA := Lib.hid hRA; have RB := Lib.hid hRB
      have HSM : Hid (∀ x ∈ ls, SmallL x) := Lib.hid fun x hx => one_small (FL.out.2 x hx) (HPS.out x hx)
      have HPT : Hid (∀ x ∈ ls, x.path.length ≤ 10000) := Lib.hid fun x hx => by have := (FL.out.2 x hx).2.1; omega
      clear hA hB hC hRA hRB
      have HTR := Lib.hid (tree_any (by have := T5.out.2.2.2.2.2.1; omega) T5.out.2.2.2.2.1 (by have := FL.out.1; omega) HPT.out HSM.out)
      go_upto_region 8 with (go_at_call 11; refine HTR.out.mono ?_; rintro e w6 ⟨dv, rfl, hdv, hb6⟩
                             have HB6 := Lib.hid (HB5.out.trans (hb6.mono HB5.out.size))
                             have HDV6 := Lib.hid hdv
                             obtain ⟨t0, t1, t2, t3, t4, rfl, hdi⟩ := hdv
                             obtain ⟨A6, c6, A7, c7, rfl, rfl, rfl, rfl, rfl⟩ := hdi.forms
                             clear hdi hb6 HTR)
      have HTS := Lib.hid (tree_same (ls := ls))
      have HTF := Lib.hid (tree_fit (ls := ls) HSM.out (by have := FL.out.1; omega))
      generalize treeV ls = T at *
      obtain ⟨td, te⟩ := T
      obtain ⟨w7, hw7⟩ : ∃ w7, w7 = w6.alloc (.cells #[.int .i64 td.kind, .int .i64 td.num, .string td.str, .slice A6 td.keys.length c6, .slice A7 td.kids.length c7] 25) := ⟨_, rfl⟩
      have HB7 : Hid (Below wb.heap.size wb w7) := by rw [hw7]; exact Lib.hid (HB6.out.alloc HB6.out.size _)
      have HT7 : Hid (Box5 w7 w6.heap.size (.int .i64 td.kind) (.int .i64 td.num) (.string td.str) (.slice A6 td.keys.length c6) (.slice A7 td.kids.length c7)) := by rw [hw7]; exact Lib.hid (Box5.new w6 _ _ _ _ _)
      have HDV7 : Hid (DocV w7 w7.heap.size td (.agg #[.int .i64 td.kind, .int .i64 td.num, .string td.str, .slice A6 td.keys.length c6, .slice A7 td.kids.length c7])) := by
        rw [hw7]; exact Lib.hid (HDV6.out.keep (by simp) fun p hp => World.cell?_alloc_lt w6 _ p hp)
      rw [← hw7]
      clear hw7 HB6 HDV6 T5 HB5
      obtain ⟨s0, s1, s2, s3, s4⟩ := HT7.out.cells
      have END : ∀ wx, Below wb.heap.size wb wx → ∀ (e : Ending) w', e = .returned (.bool true) → Below wx.heap.size wx w' → e = .returned (.bool true) ∧ Below w.heap.size w w' := fun wx hx e w' he hw => ⟨he, (AT.out wx hx).2.2.2.2.2.2.trans (hw.mono (by have := (AT.out wx hx).2.2.2.2.2.1; omega))⟩
      have HEND := Lib.hid END
      clear END
      by_cases hte : te = 0
      · subst hte
        have htr : rightB td = true := (HTS.out rfl).1
        have HTQ : Hid (sameLs (lsrt (vis [] td)) (lsrt ls) = true) := Lib.hid ((HTS.out rfl).2)
        have HTFT : Hid td.Fit := Lib.hid (HTF.out rfl)
        have htk := okB_iff.1 htr
        have HFT : Hid (Calls Try.prog 14 #[.agg #[.int .i64 td.kind, .int .i64 td.num, .string td.str, .slice A6 td.keys.length c6, .slice A7 td.kids.length c7]] w7 (MadeLvs w7.heap.size w7 (lsrt (vis [] td)))) := Lib.hid (lflat_any (Nat.le_refl _) HDV7.out HTFT.out (by omega) (by have := vis_len [] td; omega))
        go_upto_region 10 with (first
          | (go_at_call 14; refine HFT.out.mono ?_; rintro e w8 ⟨v8, ys, rfl, hm8, ho8, hb8⟩
             have hl8 := ho8.lvs
             rw [hm8] at hl8
             have HL8 := Lib.hid hl8; have HB8 := Lib.hid (HB7.out.trans (hb8.mono HB7.out.size))
             have HSO := Lib.hid (lsort_any ls _ _ w8 (by have := (AT.out w8 HB8.out).2.2.2.2.2.1; omega) (AT.out w8 HB8.out).2.2.2.2.1 (by have := FL.out.1; omega) HPT.out (fun x hx => (HSM.out x hx).1))
             clear hm8 ho8 hb8 hl8 HFT)
          | (go_at_call 17; refine HSO.out.mono ?_; rintro e w9 ⟨v9, zs, rfl, hm9, ho9, hb9⟩
             have hl9 := ho9.lvs
             rw [hm9] at hl9
             have HB9 := Lib.hid (HB8.out.trans (hb9.mono HB8.out.size))
             have HSS := Lib.hid (lsame_any (Nat.le_refl _) ((HL8.out.keep fun p hp => hb9.cell hp).wide hb9.size) hl9 (by rw [(lsrt_perm _).length_eq]; have := vis_len [] td; omega) (fun x hx => vis_path (n := 10000) td.depth td [] (Nat.le_refl _) (by simp; omega) x ((lsrt_perm _).subset hx)) (fun x hx => vis_fit [] td HTFT.out x ((lsrt_perm _).subset hx)) (fun x hx => (HSM.out x ((lsrt_perm _).subset hx)).1))
             rw [HTQ.out] at HSS
             clear hm9 ho9 hb9 hl9 HSO)
          | (go_at_call 23; refine HSS.out.mono ?_; rintro e w10 ⟨rfl, hb10⟩
             have HB10 := Lib.hid (HB9.out.trans (hb10.mono HB9.out.size))
             clear hb10 HSS))
        have TZ := Lib.hid (AT.out w10 HB10.out)
        obtain ⟨p0, p1, p2, p3, p4⟩ := TZ.out.1.cells
        obtain ⟨q0, q1, q2, q3, q4⟩ := TZ.out.2.1.cells
        have HFLA : Hid (∀ W, Below wb.heap.size wb W → Calls Try.prog 14 #[.agg #[.int .i64 a.kind, .int .i64 a.num, .string a.str, .slice A3 a.keys.length c3, .slice A4 a.kids.length c4]] W (MadeLvs W.heap.size W (lsrt (vis [] a)))) := Lib.hid fun W hb => by
          have h := AT.out W hb
          have hk := okB_iff.1 RA.out
          exact lflat_any (by omega) h.2.2.1 FA.out.fit.fit (by omega) (by have := vis_len [] a; omega)
        have HFLB : Hid (∀ W, Below wb.heap.size wb W → Calls Try.prog 14 #[.agg #[.int .i64 b.kind, .int .i64 b.num, .string b.str, .slice B3 b.keys.length e3, .slice B4 b.kids.length e4]] W (MadeLvs W.heap.size W (lsrt (vis [] b)))) := Lib.hid fun W hb => by
          have h := AT.out W hb
          have hk := okB_iff.1 RB.out
          exact lflat_any (by omega) h.2.2.2.1 FB.out.fit.fit (by omega) (by have := vis_len [] b; omega)
        have HSAB : Hid (∀ W va ya vb yb B0, Below wb.heap.size wb W → OwnLvs W B0 va ya → ya.map (·.lf) = lsrt (vis [] a) → LvsIn W W.heap.size vb yb → yb = lsrt (vis [] b) → Calls Try.prog 23 #[va, vb] W fun e w' => e = .returned (.bool (D.same a b)) ∧ Below W.heap.size W w') := Lib.hid fun W va ya vb yb B0 hb hya hma hyb hmb => by
          have hk := okB_iff.1 RA.out
          have hla := hya.lvs
          rw [hma] at hla
          subst hmb
          have h := lsame_any (Nat.le_refl _) hla hyb (by rw [(lsrt_perm _).length_eq]; have := vis_len [] a; omega) (fun x hx => vis_path (n := 10000) a.depth a [] (Nat.le_refl _) (by simp; omega) x ((lsrt_perm _).subset hx)) (fun x hx => vis_fit [] a FA.out.fit.fit x ((lsrt_perm _).subset hx)) (fun x hx => vis_fit [] b FB.out.fit.fit x ((lsrt_perm _).subset hx))
          rwa [flat_same RA.out RB.out] at h
        have HDS : Hid (∀ W, Below wb.heap.size wb W → Calls Try.prog 27 #[.agg #[.int .i64 a.kind, .int .i64 a.num, .string a.str, .slice A3 a.keys.length c3, .slice A4 a.kids.length c4], .agg #[.int .i64 b.kind, .int .i64 b.num, .string b.str, .slice B3 b.keys.length e3, .slice B4 b.kids.length e4]] W fun e w' => e = .returned (.bool (D.same a b)) ∧ Below W.heap.size W w') := Lib.hid fun W hb => by
          have h := AT.out W hb
          exact same_v FA.out.fit.fit FB.out.fit.fit (by omega) h.2.2.1 h.2.2.2.1
        have HTEN : Hid (∀ W, Below wb.heap.size wb W → W.cell? ⟨w.heap.size, 0, none⟩ = some (.int .i64 a.kind) ∧ W.cell? ⟨w.heap.size, 1, none⟩ = some (.int .i64 a.num) ∧ W.cell? ⟨w.heap.size, 2, none⟩ = some (.string a.str) ∧ W.cell? ⟨w.heap.size, 3, none⟩ = some (.slice A3 a.keys.length c3) ∧ W.cell? ⟨w.heap.size, 4, none⟩ = some (.slice A4 a.kids.length c4) ∧ W.cell? ⟨w.heap.size + 1, 0, none⟩ = some (.int .i64 b.kind) ∧ W.cell? ⟨w.heap.size + 1, 1, none⟩ = some (.int .i64 b.num) ∧ W.cell? ⟨w.heap.size + 1, 2, none⟩ = some (.string b.str) ∧ W.cell? ⟨w.heap.size + 1, 3, none⟩ = some (.slice B3 b.keys.length e3) ∧ W.cell? ⟨w.heap.size + 1, 4, none⟩ = some (.slice B4 b.kids.length e4)) := Lib.hid fun W hb => by
          obtain ⟨x0, x1, x2, x3, x4⟩ := (AT.out W hb).1.cells
          obtain ⟨y0, y1, y2, y3, y4⟩ := (AT.out W hb).2.1.cells
          exact ⟨x0, x1, x2, x3, x4, y0, y1, y2, y3, y4⟩
        generalize D.same a b = sm at *
        go_region_held3 (fun w' => w'.cell? ⟨w.heap.size, 0, none⟩ = some (.int .i64 a.kind) ∧ w'.cell? ⟨w.heap.size, 1, none⟩ = some (.int .i64 a.num) ∧ w'.cell? ⟨w.heap.size, 2, none⟩ = some (.string a.str) ∧ w'.cell? ⟨w.heap.size, 3, none⟩ = some (.slice A3 a.keys.length c3) ∧ w'.cell? ⟨w.heap.size, 4, none⟩ = some (.slice A4 a.kids.length c4) ∧ w'.cell? ⟨w.heap.size + 1, 0, none⟩ = some (.int .i64 b.kind) ∧ w'.cell? ⟨w.heap.size + 1, 1, none⟩ = some (.int .i64 b.num) ∧ w'.cell? ⟨w.heap.size + 1, 2, none⟩ = some (.string b.str) ∧ w'.cell? ⟨w.heap.size + 1, 3, none⟩ = some (.slice B3 b.keys.length e3) ∧ w'.cell? ⟨w.heap.size + 1, 4, none⟩ = some (.slice B4 b.kids.length e4))
          (first | (with_reducible exact HTEN.out _ HB10.out.drew) | (with_reducible exact HTEN.out _ HB7.out.drew) | (with_reducible exact HTEN.out _ HB14.out) | (with_reducible exact HTEN.out _ HB13.out) | (with_reducible exact HTEN.out _ HB12.out) | (with_reducible exact HTEN.out _ HB11.out))
          ((first
          | (go_at_call 14
             with_reducible refine (HFLA.out _ HB10.out.drew).mono ?_
             rintro e w11 ⟨v11, ya, rfl, hma, hoa, hb11⟩
             have HB11 := Lib.hid (HB10.out.drew.trans (hb11.mono HB10.out.drew.size))
             have T11 := Lib.hid (AT.out w11 HB11.out)
             have HOA := Lib.hid hoa; have HMA := Lib.hid hma
             obtain ⟨p0', p1', p2', p3', p4'⟩ := T11.out.1.cells
             obtain ⟨q0', q1', q2', q3', q4'⟩ := T11.out.2.1.cells
             clear hma hoa hb11)
          | (go_at_call 14
             with_reducible refine (HFLB.out _ HB11.out).mono ?_
             rintro e w12 ⟨v12, yb, rfl, hmb, hob, hb12⟩
             have HB12 := Lib.hid (HB11.out.trans (hb12.mono HB11.out.size))
             have T12 := Lib.hid (AT.out w12 HB12.out)
             have hlb := hob.lvs
             rw [hmb] at hlb
             have HSX := Lib.hid (HSAB.out w12 _ _ _ _ _ HB12.out (HOA.out.below hb12) HMA.out hlb rfl)
             obtain ⟨p0', p1', p2', p3', p4'⟩ := T12.out.1.cells
             obtain ⟨q0', q1', q2', q3', q4'⟩ := T12.out.2.1.cells
             clear hmb hob hb12 hlb)
          | (go_at_call 23
             with_reducible refine HSX.out.mono ?_
             rintro e w13 ⟨rfl, hb13⟩
             have HB13 := Lib.hid (HB12.out.trans (hb13.mono HB12.out.size))
             have T13 := Lib.hid (AT.out w13 HB13.out)
             obtain ⟨p0', p1', p2', p3', p4'⟩ := T13.out.1.cells
             obtain ⟨q0', q1', q2', q3', q4'⟩ := T13.out.2.1.cells
             clear hb13)
          | (go_at_call 27
             with_reducible refine (HDS.out _ HB13.out).mono ?_
             rintro e w14 ⟨rfl, hb14⟩
             have HB14 := Lib.hid (HB13.out.trans (hb14.mono HB13.out.size))
             clear hb14)))
        all_goals
          go_wp2_with fail
          go_ret
          exact HEND.out _ HB14.out _ _ (by first | rfl | simp) (Below.refl _ _)
      · have hte2 : (te == 0) = false := by rw [beq_eq_false_iff_ne]; exact hte
        go_upto_region 10 with fail
        have TZ := Lib.hid (AT.out w7 HB7.out)
        obtain ⟨p0, p1, p2, p3, p4⟩ := TZ.out.1.cells
        obtain ⟨q0, q1, q2, q3, q4⟩ := TZ.out.2.1.cells
        have HFLA : Hid (∀ W, Below wb.heap.size wb W → Calls Try.prog 14 #[.agg #[.int .i64 a.kind, .int .i64 a.num, .string a.str, .slice A3 a.keys.length c3, .slice A4 a.kids.length c4]] W (MadeLvs W.heap.size W (lsrt (vis [] a)))) := Lib.hid fun W hb => by
          have h := AT.out W hb
          have hk := okB_iff.1 RA.out
          exact lflat_any (by omega) h.2.2.1 FA.out.fit.fit (by omega) (by have := vis_len [] a; omega)
        have HFLB : Hid (∀ W, Below wb.heap.size wb W → Calls Try.prog 14 #[.agg #[.int .i64 b.kind, .int .i64 b.num, .string b.str, .slice B3 b.keys.length e3, .slice B4 b.kids.length e4]] W (MadeLvs W.heap.size W (lsrt (vis [] b)))) := Lib.hid fun W hb => by
          have h := AT.out W hb
          have hk := okB_iff.1 RB.out
          exact lflat_any (by omega) h.2.2.2.1 FB.out.fit.fit (by omega) (by have := vis_len [] b; omega)
        have HSAB : Hid (∀ W va ya vb yb B0, Below wb.heap.size wb W → OwnLvs W B0 va ya → ya.map (·.lf) = lsrt (vis [] a) → LvsIn W W.heap.size vb yb → yb = lsrt (vis [] b) → Calls Try.prog 23 #[va, vb] W fun e w' => e = .returned (.bool (D.same a b)) ∧ Below W.heap.size W w') := Lib.hid fun W va ya vb yb B0 hb hya hma hyb hmb => by
          have hk := okB_iff.1 RA.out
          have hla := hya.lvs
          rw [hma] at hla
          subst hmb
          have h := lsame_any (Nat.le_refl _) hla hyb (by rw [(lsrt_perm _).length_eq]; have := vis_len [] a; omega) (fun x hx => vis_path (n := 10000) a.depth a [] (Nat.le_refl _) (by simp; omega) x ((lsrt_perm _).subset hx)) (fun x hx => vis_fit [] a FA.out.fit.fit x ((lsrt_perm _).subset hx)) (fun x hx => vis_fit [] b FB.out.fit.fit x ((lsrt_perm _).subset hx))
          rwa [flat_same RA.out RB.out] at h
        have HDS : Hid (∀ W, Below wb.heap.size wb W → Calls Try.prog 27 #[.agg #[.int .i64 a.kind, .int .i64 a.num, .string a.str, .slice A3 a.keys.length c3, .slice A4 a.kids.length c4], .agg #[.int .i64 b.kind, .int .i64 b.num, .string b.str, .slice B3 b.keys.length e3, .slice B4 b.kids.length e4]] W fun e w' => e = .returned (.bool (D.same a b)) ∧ Below W.heap.size W w') := Lib.hid fun W hb => by
          have h := AT.out W hb
          exact same_v FA.out.fit.fit FB.out.fit.fit (by omega) h.2.2.1 h.2.2.2.1
        have HTEN : Hid (∀ W, Below wb.heap.size wb W → W.cell? ⟨w.heap.size, 0, none⟩ = some (.int .i64 a.kind) ∧ W.cell? ⟨w.heap.size, 1, none⟩ = some (.int .i64 a.num) ∧ W.cell? ⟨w.heap.size, 2, none⟩ = some (.string a.str) ∧ W.cell? ⟨w.heap.size, 3, none⟩ = some (.slice A3 a.keys.length c3) ∧ W.cell? ⟨w.heap.size, 4, none⟩ = some (.slice A4 a.kids.length c4) ∧ W.cell? ⟨w.heap.size + 1, 0, none⟩ = some (.int .i64 b.kind) ∧ W.cell? ⟨w.heap.size + 1, 1, none⟩ = some (.int .i64 b.num) ∧ W.cell? ⟨w.heap.size + 1, 2, none⟩ = some (.string b.str) ∧ W.cell? ⟨w.heap.size + 1, 3, none⟩ = some (.slice B3 b.keys.length e3) ∧ W.cell? ⟨w.heap.size + 1, 4, none⟩ = some (.slice B4 b.kids.length e4)) := Lib.hid fun W hb => by
          obtain ⟨x0, x1, x2, x3, x4⟩ := (AT.out W hb).1.cells
          obtain ⟨y0, y1, y2, y3, y4⟩ := (AT.out W hb).2.1.cells
          exact ⟨x0, x1, x2, x3, x4, y0, y1, y2, y3, y4⟩
        generalize D.same a b = sm at *
        go_region_held3 (fun w' => w'.cell? ⟨w.heap.size, 0, none⟩ = some (.int .i64 a.kind) ∧ w'.cell? ⟨w.heap.size, 1, none⟩ = some (.int .i64 a.num) ∧ w'.cell? ⟨w.heap.size, 2, none⟩ = some (.string a.str) ∧ w'.cell? ⟨w.heap.size, 3, none⟩ = some (.slice A3 a.keys.length c3) ∧ w'.cell? ⟨w.heap.size, 4, none⟩ = some (.slice A4 a.kids.length c4) ∧ w'.cell? ⟨w.heap.size + 1, 0, none⟩ = some (.int .i64 b.kind) ∧ w'.cell? ⟨w.heap.size + 1, 1, none⟩ = some (.int .i64 b.num) ∧ w'.cell? ⟨w.heap.size + 1, 2, none⟩ = some (.string b.str) ∧ w'.cell? ⟨w.heap.size + 1, 3, none⟩ = some (.slice B3 b.keys.length e3) ∧ w'.cell? ⟨w.heap.size + 1, 4, none⟩ = some (.slice B4 b.kids.length e4))
          (first | (with_reducible exact HTEN.out _ HB10.out.drew) | (with_reducible exact HTEN.out _ HB7.out.drew) | (with_reducible exact HTEN.out _ HB14.out) | (with_reducible exact HTEN.out _ HB13.out) | (with_reducible exact HTEN.out _ HB12.out) | (with_reducible exact HTEN.out _ HB11.out))
          ((first
          | (go_at_call 14
             with_reducible refine (HFLA.out _ HB7.out.drew).mono ?_
             rintro e w11 ⟨v11, ya, rfl, hma, hoa, hb11⟩
             have HB11 := Lib.hid (HB7.out.drew.trans (hb11.mono HB7.out.drew.size))
             have T11 := Lib.hid (AT.out w11 HB11.out)
             have HOA := Lib.hid hoa; have HMA := Lib.hid hma
             obtain ⟨p0', p1', p2', p3', p4'⟩ := T11.out.1.cells
             obtain ⟨q0', q1', q2', q3', q4'⟩ := T11.out.2.1.cells
             clear hma hoa hb11)
          | (go_at_call 14
             with_reducible refine (HFLB.out _ HB11.out).mono ?_
             rintro e w12 ⟨v12, yb, rfl, hmb, hob, hb12⟩
             have HB12 := Lib.hid (HB11.out.trans (hb12.mono HB11.out.size))
             have T12 := Lib.hid (AT.out w12 HB12.out)
             have hlb := hob.lvs
             rw [hmb] at hlb
             have HSX := Lib.hid (HSAB.out w12 _ _ _ _ _ HB12.out (HOA.out.below hb12) HMA.out hlb rfl)
             obtain ⟨p0', p1', p2', p3', p4'⟩ := T12.out.1.cells
             obtain ⟨q0', q1', q2', q3', q4'⟩ := T12.out.2.1.cells
             clear hmb hob hb12 hlb)
          | (go_at_call 23
             with_reducible refine HSX.out.mono ?_
             rintro e w13 ⟨rfl, hb13⟩
             have HB13 := Lib.hid (HB12.out.trans (hb13.mono HB12.out.size))
             have T13 := Lib.hid (AT.out w13 HB13.out)
             obtain ⟨p0', p1', p2', p3', p4'⟩ := T13.out.1.cells
             obtain ⟨q0', q1', q2', q3', q4'⟩ := T13.out.2.1.cells
             clear hb13)
          | (go_at_call 27
             with_reducible refine (HDS.out _ HB13.out).mono ?_
             rintro e w14 ⟨rfl, hb14⟩
             have HB14 := Lib.hid (HB13.out.trans (hb14.mono HB13.out.size))
             clear hb14)))
        all_goals
          go_wp2_with fail
          go_ret
          exact HEND.out _ HB14.out _ _ (by first | rfl | simp) (Below.refl _ _)
end Go.Proofs.Ytdgnengfcabgjaa
