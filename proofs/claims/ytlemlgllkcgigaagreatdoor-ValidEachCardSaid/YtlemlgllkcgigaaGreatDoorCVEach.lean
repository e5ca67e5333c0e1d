/-
  ValidEach: the walk.
-/
import Derived.Test.YtlemlgllkcgigaaGreatDoorD38
import Derived.Deep.CutRange
import Derived.Deep.DeepCutAuto
namespace Go.Proofs.YtlemlgllkcgigaaGreatDoor
open Go.RowKit

theorem bl_alloc2 {w X : World} (h : Below w.heap.size w X) (o : Obj) : Below w.heap.size w (X.alloc o) := h.alloc h.size o
set_option maxHeartbeats 8000000 in
set_option maxRecDepth 100000 in
theorem veach_law {t : T} {d : D} {v0 v1 v2 v3 v4 v5 a0 a1 a2 a3 a4 : Value} {w : World} (htab : Tab w) (hglob : Glob w) (ht : TypeIn w w.heap.size t v0 v1 v2 v3 v4 v5) (hd : DocIn w w.heap.size d a0 a1 a2 a3 a4) :
    Calls Tryz.prog 8 #[.agg #[v0, v1, v2, v3, v4, v5], .agg #[a0, a1, a2, a3, a4]] w fun e w' => e = .returned (.bool true) ∧ Below w.heap.size w w' := by
  have ST0 := Lib.hid (LawSt.start ht hd htab)
  have HGL := Lib.hid hglob
  clear ht hd htab hglob
  go_enter Tryz.func8, Tryz.ntmps8
  go_wp2_with fail
  generalize (w.alloc (.cells #[v0, v1, v2, v3, v4, v5] 26)).alloc (.cells #[a0, a1, a2, a3, a4] 29) = w0 at *
  refine (vsmall_any _ ST0.out.tab.1 ST0.out.tab.2).mono ?_
  rintro e w1 ⟨rfl, hb1⟩
  have ST1 := Lib.hid (ST0.out.next hb1)
  clear hb1 ST0
  obtain ⟨x0, x1, x2, x3, x4, x5⟩ := ST1.out.td.bt.cells
  obtain ⟨y0, y1, y2, y3, y4⟩ := ST1.out.td.bd.cells
  have sz1 := ST1.out.td.sz
  go_wp2_with fail
  refine (vfew_any ST1.out.td.le ST1.out.td.tv ST1.out.td.dv).mono ?_
  rintro e w2 ⟨rfl, hb2⟩
  have ST2 := Lib.hid (ST1.out.next hb2)
  clear hb2 x0 x1 x2 x3 x4 x5 y0 y1 y2 y3 y4 sz1
  cases hfew : fewV2 t d
  · go_wp2_with fail
    go_ret
    exact ⟨rfl, ST2.out.td.bl⟩
  have HF := Lib.hid (small5_of hfew)
  have hs1 : t.size ≤ 10000 := by have := HF.out.ts; omega
  have hs2 : t.depth ≤ 900 := by have := HF.out.td; omega
  clear hfew ST1
  obtain ⟨x0, x1, x2, x3, x4, x5⟩ := ST2.out.td.bt.cells
  have sz2 := ST2.out.td.sz
  go_wp2_with fail
  refine (tright_any hs1 hs2 HF.out.tf ST2.out.td.le ST2.out.td.tv).mono ?_
  rintro e w3 ⟨rfl, hb3⟩
  have ST3 := Lib.hid (ST2.out.next hb3)
  clear hb3 x0 x1 x2 x3 x4 x5 sz2 ST2
  cases hr : rightT t
  · go_wp2_with fail
    go_ret
    exact ⟨rfl, ST3.out.td.bl⟩
  have HR := Lib.hid hr
  clear hr
  obtain ⟨y0, y1, y2, y3, y4⟩ := ST3.out.td.bd.cells
  have sz3 := ST3.out.td.sz
  go_wp2_with fail
  refine (right_v HF.out.df ST3.out.td.le ST3.out.td.dv).mono ?_
  rintro e w4 ⟨rfl, hb4⟩
  have ST4 := Lib.hid (ST3.out.next hb4)
  clear hb4 y0 y1 y2 y3 y4 sz3 ST3
  cases hrd : rightB d
  · go_wp2_with fail
    go_ret
    exact ⟨rfl, ST4.out.td.bl⟩
  have HRD := Lib.hid hrd
  clear hrd
  obtain ⟨x0, x1, x2, x3, x4, x5⟩ := ST4.out.td.bt.cells
  have sz4 := ST4.out.td.sz
  go_wp2_with fail
  refine (narrow_any t.depth t _ _ w.heap.size (Nat.le_refl _) HF.out.tf ST4.out.td.le ST4.out.td.tv).mono ?_
  rintro e w5 ⟨rfl, hb5⟩
  have ST5 := Lib.hid (ST4.out.next hb5)
  clear hb5 x0 x1 x2 x3 x4 x5 sz4 ST4
  cases hn : narrowB t
  · go_wp2_with fail
    go_ret
    exact ⟨rfl, ST5.out.td.bl⟩
  have HN := Lib.hid hn
  clear hn
  obtain ⟨x0, x1, x2, x3, x4, x5⟩ := ST5.out.td.bt.cells
  obtain ⟨y0, y1, y2, y3, y4⟩ := ST5.out.td.bd.cells
  have sz5 := ST5.out.td.sz
  go_wp2_with fail
  refine (vall_any hs1 hs2 HF.out.tf HF.out.df ST5.out.td.le ST5.out.tab.2 ST5.out.tab.1 ST5.out.td.tv ST5.out.td.dv).mono ?_
  rintro e w6 hfl
  obtain ⟨r, rfl, hrow, hb6⟩ := hfl.flts
  have ST6 := Lib.hid (ST5.out.next hb6)
  have HEL := Lib.hid (each_law HR.out HRD.out (t := t) (d := d))
  have HAP := Lib.hid (allV_path t d)
  have HPS := Lib.hid (allV_short HF.out.tf HF.out.df (show bothB t d = true by unfold bothB; rw [HR.out, HRD.out]; rfl))
  have hll := allV_len t d
  have HEND : Hid ((mendV t d).2 ≤ (allV t d).length ∧ (((mendV t d).2 : Int) == 0) = (((allV t d).length : Int) == 0)) := Lib.hid (each_end HR.out HRD.out)
  obtain ⟨A, c, rfl, hlc, hat⟩ := hrow.at_
  have HAT := Lib.hid hat
  generalize hlv : allV t d = l at *
  obtain ⟨n, hnl⟩ : ∃ n, l.length = n := ⟨_, rfl⟩
  rw [hnl] at hlc hll HEND
  rw [hnl]
  have HNL := Lib.hid hnl
  have hz6 := hb6.size
  clear hfl hrow hat hb6 hnl hlv x0 x1 x2 x3 x4 x5 y0 y1 y2 y3 y4 sz5 ST5
  have HG6 : Hid (Glob w6) := Lib.hid (HGL.out.below ST6.out.td.bl HGL.out.size)
  go_wp2_with fail
  go_loopw [8] (fun i wr => ∃ k : Nat, k ≤ n ∧ i = .int .i64 k ∧ Below w6.heap.size w6 wr) (fun i _ => n - (intOf i).toNat)
  case atStart => exact ⟨0, Nat.zero_le _, rfl, Below.refl _ _⟩
  case round =>
    obtain ⟨k, hk, rfl, hb⟩ := hrel
    have HBL := Lib.hid hb
    have hzr := hb.size
    have STR := Lib.hid (ST6.out.next hb)
    clear hb
    by_cases hlt : k < n
    · obtain ⟨b, off, x, rfl, hbS, g0, g1, hx⟩ := HAT.out k (by rw [HNL.out]; exact hlt)
      obtain ⟨f, hfe⟩ : ∃ f, f = l[k]'(by rw [HNL.out]; exact hlt) := ⟨_, rfl⟩
      have hfm : f ∈ l := by rw [hfe]; exact List.getElem_mem _
      have hel := HEL.out f hfm
      have hpl := HAP.out f hfm
      rw [← hfe] at g1 hx
      have hbl := hbS.2
      have c0 := (HBL.out.cell (p := ⟨b, off + k * 2, none⟩) hbl).trans g0
      have c1 := (HBL.out.cell (p := ⟨b, off + k * 2 + 1, none⟩) hbl).trans g1
      have HX := Lib.hid ((hx.keep (w' := wr) (fun _ h => h) fun q hq => HBL.out.cell (p := q) hq.2).strsB (B := wr.heap.size) fun k hk => by have := hk.2; omega)
      obtain ⟨Ax, cx, ex, _⟩ := HX.out
      subst ex
      have hblr : b < wr.heap.size := by omega
      have hS : ∀ X : World, Below wr.heap.size wr X → X.cell? ⟨w.heap.size + 1, 0, none⟩ = some a0 ∧ X.cell? ⟨w.heap.size + 1, 1, none⟩ = some a1 ∧ X.cell? ⟨w.heap.size + 1, 2, none⟩ = some a2 ∧ X.cell? ⟨w.heap.size + 1, 3, none⟩ = some a3 ∧ X.cell? ⟨w.heap.size + 1, 4, none⟩ = some a4 ∧ X.cell? ⟨b, off + k * 2, none⟩ = some (.slice Ax f.1.length cx) ∧ X.cell? ⟨b, off + k * 2 + 1, none⟩ = some (.int .i64 f.2) := fun X h => by
        obtain ⟨y0, y1, y2, y3, y4⟩ := (STR.out.next h).td.bd.cells
        exact ⟨y0, y1, y2, y3, y4, (h.cell (p := ⟨b, off + k * 2, none⟩) hblr).trans c0, (h.cell (p := ⟨b, off + k * 2 + 1, none⟩) hblr).trans c1⟩
      have HS := Lib.hid hS
      have HSH : Hid (∀ s ∈ f.1, Short s) := Lib.hid (HPS.out f hfm)
      have HGT : Hid (∀ X, Below wr.heap.size wr X → Calls Tryz.prog 30 #[.agg #[a0, a1, a2, a3, a4], .slice Ax f.1.length cx] X fun e w' => ∃ (zk zn : Int) (zs : ByteArray) (Z3 : Option Addr) (n3 c3 : Nat) (Z4 : Option Addr) (n4 c4 : Nat), e = .returned (.tuple #[.agg #[.int .i64 zk, .int .i64 zn, .string zs, .slice Z3 n3 c3, .slice Z4 n4 c4], .bool (getV d f.1).2]) ∧ Below X.heap.size X w' ∧ Below wr.heap.size wr w') := Lib.hid (fun X hX => (get_v (B := X.heap.size) HF.out.df hpl HSH.out (HG6.out.below (HBL.out.trans (hX.mono hzr)) HG6.out.size) (Nat.le_refl _) ((STR.out.next hX).td.dv.keep (STR.out.next hX).td.le fun _ _ => rfl) ((HX.out.keep fun q hq => hX.cell hq).upto hX.size)).mono fun e w' h => by
        obtain ⟨z0, z1, z2, z3, z4, G, h1, h2, _, h3⟩ := h
        obtain ⟨Z3, c3, Z4, c4, rfl, rfl, rfl, rfl, rfl⟩ := h2.doc.forms
        exact ⟨_, _, _, _, _, _, _, _, _, h1, h3, hX.trans (h3.mono hX.size)⟩)
      obtain ⟨gb, hgb⟩ : ∃ gb, (getV d f.1).2 = gb := ⟨_, rfl⟩
      rw [hgb] at hel HGT
      have hik0 : (0 : Int) ≤ (k : Int) := by omega
      have hik1 : (k : Int) < (n : Int) := by omega
      have hrefl : Below wr.heap.size wr wr.drew := (Below.refl _ _).drew
      clear hS g0 g1 hx hbS hfe hfm hgb
      have hrefl1 : Below wr.heap.size wr (wr.alloc (.cells #[.int .i64 0, .int .i64 0, .string ⟨#[]⟩, .slice none 0 0, .slice none 0 0] 29)).drew := ((Below.refl _ _).alloc (Nat.le_refl _) _).drew
      go_upto_region 9 with fail
      go_cut [10] from 38 to 77 (fun s10 wx => s10 = .bool gb ∧ Below wr.heap.size wr wx)
      case first =>
        clear c0 c1
        go_region_held3 (fun w' => w'.cell? ⟨w.heap.size + 1, 0, none⟩ = some a0 ∧ w'.cell? ⟨w.heap.size + 1, 1, none⟩ = some a1 ∧ w'.cell? ⟨w.heap.size + 1, 2, none⟩ = some a2 ∧ w'.cell? ⟨w.heap.size + 1, 3, none⟩ = some a3 ∧ w'.cell? ⟨w.heap.size + 1, 4, none⟩ = some a4 ∧ w'.cell? ⟨b, off + k * 2, none⟩ = some (.slice Ax f.1.length cx) ∧ w'.cell? ⟨b, off + k * 2 + 1, none⟩ = some (.int .i64 f.2))
          ((with_reducible refine HS.out _ ?_; repeat (first | with_reducible exact Below.refl _ _ | with_reducible exact h10 | with_reducible refine Below.drew ?_ | (with_reducible refine Below.alloc ?_ ?_ _; rotate_left; (focus (first | omega | (simp; done) | (simp; omega)))) | (with_reducible refine Below.setCell ?_ ?_ _; rotate_left; (focus (first | (show wr.heap.size ≤ wr.heap.size; omega) | (show wr.heap.size ≤ w10.heap.size; omega) | (simp; omega)))))))
          ((first
            | (go_at_call 30; with_reducible refine (HGT.out _ hrefl).mono ?_; rintro e w10 ⟨zk, zn, zs, Z3, n3, c3, Z4, n4, c4, rfl, hbx, h10⟩; obtain ⟨hc10, hf10⟩ := below_add hbx; have hz10 := h10.size; have hz11 := hbx.size; clear hbx)
            | (go_at_call 30; with_reducible refine (HGT.out _ hrefl1).mono ?_; rintro e w10 ⟨zk, zn, zs, Z3, n3, c3, Z4, n4, c4, rfl, hbx, h10⟩; obtain ⟨hc10, hf10⟩ := below_add hbx; have hz10 := h10.size; have hz11 := hbx.size; clear hbx)))
        all_goals (go_wp2_with fail)
        all_goals go_meet
        all_goals (refine ⟨rfl, ?_⟩; repeat (first | with_reducible exact h10 | with_reducible apply bl_alloc2 | (with_reducible refine Below.setCell ?_ ?_ _; rotate_left; (focus (first | (show wr.heap.size ≤ wr.heap.size; omega) | (show wr.heap.size ≤ w10.heap.size; omega) | (simp; omega))))))
      case rest =>
        obtain ⟨h10, hbc⟩ := hcut
        rw [h10]
        clear h10
        generalize wc = w10 at *
        obtain ⟨y0, y1, y2, y3, y4, e0, e1⟩ := HS.out _ hbc
        have HBC := Lib.hid hbc
        have hzc := hbc.size
        have n0 : (f.2 == 0) = false := by simpa using hel.2.1
        have n1 : (f.2 == 1) = false := by simpa using hel.2.2
        have hel1 := hel.1
        clear hel hbc c0 c1
        by_cases h9 : f.2 = 9
        · have n9 : (f.2 == 9) = true := by simpa using h9
          rw [decide_eq_true h9] at hel1
          have hgb : gb = false := by simpa using hel1
          subst hgb
          clear h9 hel1
          go_wp2_with fail
          go_roundw
          case rel => exact ⟨k + 1, by omega, by go_num, HBL.out.trans (HBC.out.mono hzr)⟩
          case measure => simp [intOf]; omega
        · have n9 : (f.2 == 9) = false := by simpa using h9
          rw [decide_eq_false h9] at hel1
          have hgb : gb = true := by simpa using hel1
          subst hgb
          clear h9 hel1
          go_wp2_with fail
          go_roundw
          case rel => exact ⟨k + 1, by omega, by go_num, HBL.out.trans (HBC.out.mono hzr)⟩
          case measure => simp [intOf]; omega
    · have hik1 : ¬ ((k : Int) < (n : Int)) := by omega
      obtain ⟨x0, x1, x2, x3, x4, x5⟩ := STR.out.td.bt.cells
      obtain ⟨y0, y1, y2, y3, y4⟩ := STR.out.td.bd.cells
      have szr := STR.out.td.sz
      go_wp2_with fail
      refine (mendV_any hs1 hs2 HF.out.tf HF.out.df STR.out.td.le STR.out.td.tv STR.out.td.dv).mono ?_
      rintro e w7 ⟨z0, z1, z2, z3, z4, G, rfl, hG, hGn, hb7⟩
      obtain ⟨Z3, c3, Z4, c4, rfl, rfl, rfl, rfl, rfl⟩ := hG.doc.forms
      obtain ⟨mm, hmm⟩ : ∃ mm, (mendV t d).2 = mm := ⟨_, rfl⟩
      rw [hmm] at HEND
      rw [hmm]
      have HB7 := Lib.hid hb7
      have hend := HEND.out
      have hle : (mm : Int) ≤ (n : Int) := by have := hend.1; omega
      have HFIN : Hid (∀ o, Below w.heap.size w (w7.alloc o)) := Lib.hid (fun o => STR.out.td.bl.trans ((HB7.out.alloc HB7.out.size o).mono STR.out.td.bl.size))
      have hiff : mm = 0 ↔ n = 0 := by have h := hend.2; rw [Bool.eq_iff_iff] at h; simpa using h
      clear hG hGn hb7 hend hmm x0 x1 x2 x3 x4 x5 y0 y1 y2 y3 y4
      by_cases h0 : n = 0
      · have hm0 : mm = 0 := hiff.2 h0
        have p1 : ((mm : Int) == 0) = true := by simpa using hm0
        have p2 : ((n : Int) == 0) = true := by simpa using h0
        clear hiff h0 hm0
        go_wp2_with fail
        go_ret
        exact ⟨rfl, HFIN.out _⟩
      · have hm0 : ¬ mm = 0 := fun h => h0 (hiff.1 h)
        have p1 : ((mm : Int) == 0) = false := by simpa using hm0
        have p2 : ((n : Int) == 0) = false := by simpa using h0
        clear hiff h0 hm0
        go_wp2_with fail
        go_ret
        exact ⟨rfl, HFIN.out _⟩
end Go.Proofs.YtlemlgllkcgigaaGreatDoor
