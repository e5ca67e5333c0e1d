/-
  The document's own Same and Right.
  The document's own right and Fits of layer 5.
-/
import Derived.Test.YteecdmceleanjaaGreatDoorB48
import Derived.Test.YteecdmceleanjaaGreatDoorB43
import Derived.Test.YteecdmceleanjaaGreatDoorB37
namespace Go.Proofs.YteecdmceleanjaaGreatDoor
open Go.RowKit
theorem rcompare_v {d d' : D} {v u : Value} {w : World} {B : Nat} (hf : d.Fit) (hf' : d'.Fit) (hB : B ≤ w.heap.size) (hd : DocV w B d v) (hd' : DocV w B d' u) :
    Calls Tryz.prog 53 #[v, u] w fun e w' => e = .returned (.int .i64 (D.cmp d d')) ∧ Below w.heap.size w w' := by
  obtain ⟨v0, v1, v2, v3, v4, rfl, hd⟩ := hd
  obtain ⟨u0, u1, u2, u3, u4, rfl, hd'⟩ := hd'
  exact rcompare_any d.depth d d' v0 v1 v2 v3 v4 u0 u1 u2 u3 u4 w B (Nat.le_refl _) hf hf' hB hd hd'
set_option maxHeartbeats 400000 in
theorem rsame_v {d d' : D} {v u : Value} {w : World} {B : Nat} (hf : d.Fit) (hf' : d'.Fit) (hB : B ≤ w.heap.size) (hd : DocV w B d v) (hd' : DocV w B d' u) :
    Calls Tryz.prog 25 #[v, u] w fun e w' => e = .returned (.bool (D.same d d')) ∧ Below w.heap.size w w' := by
  have HV := Lib.hid hd; have HU := Lib.hid hd'
  obtain ⟨v0, v1, v2, v3, v4, rfl, hd⟩ := hd
  obtain ⟨u0, u1, u2, u3, u4, rfl, hd'⟩ := hd'
  obtain ⟨A3, c3, A4, c4, rfl, rfl, rfl, rfl, rfl⟩ := hd.forms
  obtain ⟨A3', c3', A4', c4', rfl, rfl, rfl, rfl, rfl⟩ := hd'.forms
  clear hd hd'
  go_enter Tryz.func25, Tryz.ntmps25
  go_wp2_with fail
  refine (rcompare_v hf hf' (B := B) (by simp; omega) (HV.out.keep (Nat.le_refl _) fun p hp => (World.cell?_alloc_lt (w.alloc _) _ p (by simp; omega)).trans (World.cell?_alloc_lt w _ p (by omega))) (HU.out.keep (Nat.le_refl _) fun p hp => (World.cell?_alloc_lt (w.alloc _) _ p (by simp; omega)).trans (World.cell?_alloc_lt w _ p (by omega)))).mono ?_
  rintro e w1 ⟨rfl, hb1⟩
  go_wp2_with fail
  all_goals (go_ret; refine ⟨ret_bool ?_, (((Below.refl _ _).alloc (Nat.le_refl _) _).alloc (by simp) _).trans (hb1.mono (by simp; omega))⟩)
  all_goals (rw [Bool.eq_iff_iff]; simp [D.same])
theorem rightB_of {d : D} : rightB d = (decide ((d.depth : Int) ≤ 12) && (decide ((d.size : Int) ≤ 512) && partB d)) := by
  unfold rightB okB
  congr 1
  rw [Bool.eq_iff_iff]; simp; omega
set_option maxHeartbeats 2000000 in
theorem rright_v {d : D} {v : Value} {w : World} {B : Nat} (hf : d.Fit) (hp : d.depth ≤ 10000) (hs : d.size ≤ 10000) (hB : B ≤ w.heap.size) (hd : DocV w B d v) :
    Calls Tryz.prog 70 #[v] w fun e w' => e = .returned (.bool (rightB d)) ∧ Below w.heap.size w w' := by
  obtain ⟨v0, v1, v2, v3, v4, rfl, hd⟩ := hd
  have HD := Lib.hid hd; have HF := Lib.hid hf
  have hl := hf.kids
  obtain ⟨A3, c3, A4, c4, rfl, rfl, rfl, rfl, rfl⟩ := hd.forms
  have ER := Lib.hid (rightB_of (d := d))
  clear hd hf
  have keep : Hid (∀ wr : World, Below (w.heap.size + 1) (w.alloc (.cells #[.int .i64 d.kind, .int .i64 d.num, .string d.str, .slice A3 d.keys.length c3, .slice A4 d.kids.length c4] 29)) wr → DocIn wr B d (.int .i64 d.kind) (.int .i64 d.num) (.string d.str) (.slice A3 d.keys.length c3) (.slice A4 d.kids.length c4)) := fun wr hb =>
    HD.out.keep (Nat.le_refl _) fun p hp => (hb.cell (p := p) (by omega)).trans (World.cell?_alloc_lt w _ p (by omega))
  go_enter Tryz.func70, Tryz.ntmps70
  go_wp2_with fail
  refine (rdepth_any d.depth d _ _ _ _ _ _ B (Nat.le_refl _) hp hl HF.out (by simp; omega) (keep.out _ (Below.refl _ _))).mono ?_
  rintro e w1 ⟨rfl, hb1⟩
  have HB1 : Hid (Below (w.heap.size + 1) _ w1) := Lib.hid (hb1.mono (by simp))
  have hz1 := hb1.size
  simp only [World.size_alloc] at hz1
  obtain ⟨q0, q1, q2, q3, q4⟩ := box_cell HB1.out
  clear hb1
  by_cases h1 : (d.depth : Int) ≤ 12
  case neg =>
    have E := Lib.hid (show rightB d = false by rw [ER.out]; simp; omega)
    go_wp2_with fail
    go_ret
    exact ⟨ret_bool E.out.symm, box_below HB1.out⟩
  go_wp2_with fail
  refine (rsize_any d.depth d _ _ _ _ _ _ B (Nat.le_refl _) hs (by omega) (keep.out _ HB1.out)).mono ?_
  rintro e w2 ⟨rfl, hb2⟩
  have HB2 := Lib.hid (HB1.out.trans (hb2.mono (by omega)))
  have hz2 := hb2.size
  clear q0 q1 q2 q3 q4
  obtain ⟨q0, q1, q2, q3, q4⟩ := box_cell HB2.out
  clear hb2
  by_cases h2 : (d.size : Int) ≤ 512
  case neg =>
    have E := Lib.hid (show rightB d = false by rw [ER.out]; simp; omega)
    go_wp2_with fail
    go_ret
    exact ⟨ret_bool E.out.symm, box_below HB2.out⟩
  go_wp2_with fail
  refine (part_any d.depth d _ _ _ _ _ _ B (Nat.le_refl _) HF.out (by omega) (keep.out _ HB2.out)).mono ?_
  rintro e w3 ⟨rfl, hb3⟩
  have HB3 := Lib.hid (HB2.out.trans (hb3.mono (by omega)))
  clear hb3
  have E := Lib.hid (show rightB d = partB d by rw [ER.out]; simp [h1, h2])
  go_wp2_with fail
  go_ret
  exact ⟨ret_bool E.out.symm, box_below HB3.out⟩
end Go.Proofs.YteecdmceleanjaaGreatDoor
namespace Go.Proofs.YteecdmceleanjaaGreatDoor
open Go.RowKit

set_option maxHeartbeats 4000000 in
set_option maxRecDepth 100000 in
theorem rboth_any {t : T} {d : D} {v u : Value} {w : World} {B : Nat} (hs : t.size ≤ 10000) (hdp : t.depth ≤ 900) (hf : t.Fit) (hfd : d.Fit) (hds : d.size ≤ 10000) (hdd : d.depth ≤ 10000) (hB : B ≤ w.heap.size) (ht : TypeV w B t v) (hd : DocV w B d u) :
    Calls Tryz.prog 42 #[v, u] w fun e w' => e = .returned (.bool (bothB t d)) ∧ Below w.heap.size w w' := by
  obtain ⟨v0, v1, v2, v3, v4, v5, rfl, ht⟩ := ht
  obtain ⟨u0, u1, u2, u3, u4, rfl, hd⟩ := hd
  have ST := Lib.hid (TD.start hB ht hd)
  have HF := Lib.hid hf; have HFD := Lib.hid hfd
  clear ht hd hf hfd
  have e : bothB t d = (rightT t && rightB d) := rfl
  have E := Lib.hid e; clear e
  go_enter Tryz.func42, Tryz.ntmps42
  go_wp2_with fail
  generalize (w.alloc (.cells #[v0, v1, v2, v3, v4, v5] 26)).alloc (.cells #[u0, u1, u2, u3, u4] 29) = w1 at *
  refine (rtright_any hs hdp HF.out ST.out.le ST.out.tv).mono ?_
  rintro e w2 ⟨rfl, hb2⟩
  have ST2 := Lib.hid (ST.out.next (hb2.mono ST.out.sz))
  clear hb2
  obtain ⟨y0, y1, y2, y3, y4⟩ := ST2.out.bd.cells
  have sz2 := ST2.out.sz
  go_wp2_with fail
  refine (rright_v HFD.out hdd hds ST2.out.le ST2.out.dv).mono ?_
  rintro e w3 ⟨rfl, hb3⟩
  have ST3 := Lib.hid (ST2.out.next (hb3.mono ST2.out.sz))
  clear hb3 y0 y1 y2 y3 y4
  by_cases hr : rightT t = true
  · have E2 : Hid (bothB t d = rightB d) := Lib.hid (by rw [E.out, hr]; rfl)
    rw [hr]
    clear hr
    go_wp2_with fail
    go_ret
    exact ⟨ret_bool E2.out.symm, ST3.out.bl⟩
  · have hr' : rightT t = false := by simpa using hr
    have E2 : Hid (bothB t d = false) := Lib.hid (by rw [E.out, hr']; rfl)
    rw [hr']
    clear hr hr'
    go_wp2_with fail
    go_ret
    exact ⟨ret_bool E2.out.symm, ST3.out.bl⟩
end Go.Proofs.YteecdmceleanjaaGreatDoor
