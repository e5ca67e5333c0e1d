/-
  The document's own kind, fits, right, Fits of layer 5.
-/
import Derived.Test.YteecdmceleanjaaGreatDoorB10
import Derived.Test.YteecdmceleanjaaGreatDoorB12
import Derived.Deep.QuietTactic
import Derived.BigQuiet
namespace Go.Proofs.YteecdmceleanjaaGreatDoor
open Go.RowKit

def rkindV (k : Int) : Int := if k = 7 then 6 else k
theorem rkind_any (k : Int) (w : World) : Calls Tryz.prog 77 #[.int .i64 k] w fun e w' => e = .returned (.int .i64 (rkindV k)) ∧ w' = w := by
  by_cases h : k = 7
  · subst h
    go_enter Tryz.func77, Tryz.ntmps77
    go_wp2_with fail
    go_ret
    exact ⟨rfl, rfl⟩
  · have g : (k == 7) = false := by simp [h]
    have E : Hid (rkindV k = k) := Lib.hid (by unfold rkindV; rw [if_neg h])
    clear h
    go_enter Tryz.func77, Tryz.ntmps77
    go_wp2_with fail
    go_ret
    exact ⟨ret_int E.out.symm, rfl⟩
theorem drewN_two (w : World) (n m : Nat) : (w.drewN n).drewN m = w.drewN (n + m) := by simp [World.drewN, Nat.add_assoc]
theorem kind_same {t : T} (h : 1 ≤ t.kind ∧ t.kind ≤ 7) : kindV t = rkindV t.kind := by
  unfold kindV rkindV
  repeat' split
  all_goals omega
set_option maxHeartbeats 8000000 in
set_option maxRecDepth 100000 in
theorem rfits_any {t : T} {d : D} {v u : Value} {w : World} {B : Nat} (hk : 1 ≤ t.kind ∧ t.kind ≤ 7) (hf : t.Fit) (hfd : d.Fit) (hB : B ≤ w.heap.size) (ht : TypeV w B t v) (hd : DocV w B d u) :
    Calls Tryz.prog 46 #[v, u] w fun e w' => e = .returned (.int .i64 (fitsV t d)) ∧ Below w.heap.size w w' := by
  obtain ⟨v0, v1, v2, v3, v4, v5, rfl, ht⟩ := ht
  obtain ⟨u0, u1, u2, u3, u4, rfl, hd⟩ := hd
  have ST := Lib.hid (TD.start hB ht hd)
  have hns := ht.names_
  obtain ⟨A3, c3, A4, c4, A5, c5, rfl, rfl, rfl, rfl, rfl, rfl⟩ := ht.forms
  obtain ⟨B3, d3, B4, d4, rfl, rfl, rfl, rfl, rfl⟩ := hd.forms
  have hnl := hf.parts.1
  have hkl := hfd.kids
  have hsl := hfd.str
  have e : fitsV t d = if d.kind = rkindV t.kind then (if rangedV t d = true then 0 else 8) else 7 := by unfold fitsV; rw [kind_same hk]
  have E := Lib.hid e
  have HNS := Lib.hid hns
  clear e ht hd hf hfd hns
  have h7 : t.kind = 1 ∨ t.kind = 2 ∨ t.kind = 3 ∨ t.kind = 4 ∨ t.kind = 5 ∨ t.kind = 6 ∨ t.kind = 7 := by omega
  clear hk
  have RK := Lib.hid (rfl : rangedV t d = rangedV t d)
  generalize hK : t.kind = K at *
  have HK := Lib.hid hK
  clear hK RK
  go_enter Tryz.func46, Tryz.ntmps46
  go_wp2_with fail
  generalize (w.alloc (.cells #[.int .i64 K, .int .i64 t.lo, .int .i64 t.hi, .slice A3 t.names.length c3, .slice A4 t.fields.length c4, .slice A5 t.of.length c5] 26)).alloc (.cells #[.int .i64 d.kind, .int .i64 d.num, .string d.str, .slice B3 d.keys.length d3, .slice B4 d.kids.length d4] 29) = w1 at *
  obtain ⟨x0, x1, x2, x3, x4, x5⟩ := ST.out.bt.cells
  obtain ⟨y0, y1, y2, y3, y4⟩ := ST.out.bd.cells
  have sz1 := ST.out.sz
  go_quiet ((go_at_call 77; exact Calls.quiet_of ((rkind_any K _).mono fun e w' h => ⟨h.1, 0, h.2⟩)))
  have ST2 := Lib.hid (ST.out.next ((below_drewN w1 nq).mono sz1))
  generalize w1.drewN nq = w2 at *
  clear x0 x1 x2 x3 x4 x5 y0 y1 y2 y3 y4 sz1
  have sz2 := ST2.out.sz
  by_cases hne : d.kind = rkindV K
  case neg =>
    have g : (rkindV K != d.kind) = true := by simp; exact fun h => hne h.symm
    have E2 : Hid (fitsV t d = 7) := Lib.hid (by rw [E.out, if_neg hne])
    clear hne
    go_wp2_with fail
    go_ret
    exact ⟨ret_int E2.out.symm, ST2.out.bl⟩
  case pos =>
    have g : (rkindV K != d.kind) = false := by simp [hne]
    rw [g]
    clear g
    have ER : Hid (fitsV t d = if rangedV t d = true then 0 else 8) := Lib.hid (by rw [E.out, if_pos hne])
    clear hne E
    have RV : Hid (rangedV t d = if t.kind = 2 ∨ t.kind = 3 then betweenB t d.kids.length else if t.kind = 4 then betweenB t d.num else if t.kind = 6 then betweenB t d.str.size else if t.kind = 7 then Lib.containsS t.names d.str else true) := Lib.hid rfl
    obtain ⟨x0, x1, x2, x3, x4, x5⟩ := ST2.out.bt.cells
    obtain ⟨y0, y1, y2, y3, y4⟩ := ST2.out.bd.cells
    rcases h7 with rfl | rfl | rfl | rfl | rfl | rfl | rfl
    · have E2 : Hid (fitsV t d = 0) := Lib.hid (by rw [ER.out, RV.out]; simp [HK.out])
      go_wp2_with fail
      go_ret
      exact ⟨ret_int E2.out.symm, ST2.out.bl⟩
    · have hb : rangedV t d = (decide (t.lo ≤ (d.kids.length : Int)) && decide ((d.kids.length : Int) ≤ t.hi)) := by rw [RV.out]; simp [HK.out, betweenB]
      have HB := Lib.hid hb; clear hb
      by_cases h1 : t.lo ≤ ((d.kids.length : Int) : Int)
      · have h1' : ¬ ((d.kids.length : Int) : Int) < t.lo := by omega
        by_cases h2 : ((d.kids.length : Int) : Int) ≤ t.hi
        · have h2' : ¬ t.hi < ((d.kids.length : Int) : Int) := by omega
          have E2 : Hid (fitsV t d = 0) := Lib.hid (by rw [ER.out, HB.out]; simp [h1, h2])
          clear h1 h2
          go_wp2_with fail
          go_ret
          exact ⟨ret_int E2.out.symm, ST2.out.bl⟩
        · have h2' : t.hi < ((d.kids.length : Int) : Int) := by omega
          have E2 : Hid (fitsV t d = 8) := Lib.hid (by rw [ER.out, HB.out]; simp [h2])
          clear h1 h2
          go_wp2_with fail
          go_ret
          exact ⟨ret_int E2.out.symm, ST2.out.bl⟩
      · have h1' : ((d.kids.length : Int) : Int) < t.lo := by omega
        have E2 : Hid (fitsV t d = 8) := Lib.hid (by rw [ER.out, HB.out]; simp [h1])
        clear h1
        go_wp2_with fail
        go_ret
        exact ⟨ret_int E2.out.symm, ST2.out.bl⟩
    · have hb : rangedV t d = (decide (t.lo ≤ (d.kids.length : Int)) && decide ((d.kids.length : Int) ≤ t.hi)) := by rw [RV.out]; simp [HK.out, betweenB]
      have HB := Lib.hid hb; clear hb
      by_cases h1 : t.lo ≤ ((d.kids.length : Int) : Int)
      · have h1' : ¬ ((d.kids.length : Int) : Int) < t.lo := by omega
        by_cases h2 : ((d.kids.length : Int) : Int) ≤ t.hi
        · have h2' : ¬ t.hi < ((d.kids.length : Int) : Int) := by omega
          have E2 : Hid (fitsV t d = 0) := Lib.hid (by rw [ER.out, HB.out]; simp [h1, h2])
          clear h1 h2
          go_wp2_with fail
          go_ret
          exact ⟨ret_int E2.out.symm, ST2.out.bl⟩
        · have h2' : t.hi < ((d.kids.length : Int) : Int) := by omega
          have E2 : Hid (fitsV t d = 8) := Lib.hid (by rw [ER.out, HB.out]; simp [h2])
          clear h1 h2
          go_wp2_with fail
          go_ret
          exact ⟨ret_int E2.out.symm, ST2.out.bl⟩
      · have h1' : ((d.kids.length : Int) : Int) < t.lo := by omega
        have E2 : Hid (fitsV t d = 8) := Lib.hid (by rw [ER.out, HB.out]; simp [h1])
        clear h1
        go_wp2_with fail
        go_ret
        exact ⟨ret_int E2.out.symm, ST2.out.bl⟩
    · have hb : rangedV t d = (decide (t.lo ≤ d.num) && decide (d.num ≤ t.hi)) := by rw [RV.out]; simp [HK.out, betweenB]
      have HB := Lib.hid hb; clear hb
      by_cases h1 : t.lo ≤ (d.num : Int)
      · have h1' : ¬ (d.num : Int) < t.lo := by omega
        by_cases h2 : (d.num : Int) ≤ t.hi
        · have h2' : ¬ t.hi < (d.num : Int) := by omega
          have E2 : Hid (fitsV t d = 0) := Lib.hid (by rw [ER.out, HB.out]; simp [h1, h2])
          clear h1 h2
          go_wp2_with fail
          go_ret
          exact ⟨ret_int E2.out.symm, ST2.out.bl⟩
        · have h2' : t.hi < (d.num : Int) := by omega
          have E2 : Hid (fitsV t d = 8) := Lib.hid (by rw [ER.out, HB.out]; simp [h2])
          clear h1 h2
          go_wp2_with fail
          go_ret
          exact ⟨ret_int E2.out.symm, ST2.out.bl⟩
      · have h1' : (d.num : Int) < t.lo := by omega
        have E2 : Hid (fitsV t d = 8) := Lib.hid (by rw [ER.out, HB.out]; simp [h1])
        clear h1
        go_wp2_with fail
        go_ret
        exact ⟨ret_int E2.out.symm, ST2.out.bl⟩
    · have E2 : Hid (fitsV t d = 0) := Lib.hid (by rw [ER.out, RV.out]; simp [HK.out])
      go_wp2_with fail
      go_ret
      exact ⟨ret_int E2.out.symm, ST2.out.bl⟩
    · have hb : rangedV t d = (decide (t.lo ≤ (d.str.size : Int)) && decide ((d.str.size : Int) ≤ t.hi)) := by rw [RV.out]; simp [HK.out, betweenB]
      have HB := Lib.hid hb; clear hb
      by_cases h1 : t.lo ≤ ((d.str.size : Int) : Int)
      · have h1' : ¬ ((d.str.size : Int) : Int) < t.lo := by omega
        by_cases h2 : ((d.str.size : Int) : Int) ≤ t.hi
        · have h2' : ¬ t.hi < ((d.str.size : Int) : Int) := by omega
          have E2 : Hid (fitsV t d = 0) := Lib.hid (by rw [ER.out, HB.out]; simp [h1, h2])
          clear h1 h2
          go_wp2_with fail
          go_ret
          exact ⟨ret_int E2.out.symm, ST2.out.bl⟩
        · have h2' : t.hi < ((d.str.size : Int) : Int) := by omega
          have E2 : Hid (fitsV t d = 8) := Lib.hid (by rw [ER.out, HB.out]; simp [h2])
          clear h1 h2
          go_wp2_with fail
          go_ret
          exact ⟨ret_int E2.out.symm, ST2.out.bl⟩
      · have h1' : ((d.str.size : Int) : Int) < t.lo := by omega
        have E2 : Hid (fitsV t d = 8) := Lib.hid (by rw [ER.out, HB.out]; simp [h1])
        clear h1
        go_wp2_with fail
        go_ret
        exact ⟨ret_int E2.out.symm, ST2.out.bl⟩
    · have hb : rangedV t d = Lib.containsS t.names d.str := by rw [RV.out]; simp [HK.out]
      have HB := Lib.hid hb; clear hb
      clear x0 x1 x2 x3 x4 x5 y0 y1 y2 y3 y4
      obtain ⟨x0, x1, x2, x3, x4, x5⟩ := ST2.out.bt.cells
      obtain ⟨y0, y1, y2, y3, y4⟩ := ST2.out.bd.cells
      go_wp2_with fail
      clear x0 x1 x2 x3 x4 x5 y0 y1 y2 y3 y4
      go_loopw [6] (fun i wr => ∃ k : Nat, k ≤ t.names.length ∧ i = .int .i64 k ∧ (∀ (j : Nat) (h : j < t.names.length), j < k → t.names[j] ≠ d.str) ∧ ∃ n, wr = w2.drewN n) (fun i _ => t.names.length - (intOf i).toNat)
      case atStart => exact ⟨0, Nat.zero_le _, rfl, fun j _ h => absurd h (by omega), 0, rfl⟩
      case round =>
        obtain ⟨k, hk0, rfl, hno, n, hwr⟩ := hrel
        have ST3 : Hid (TD w wr B t d (.int .i64 7) (.int .i64 t.lo) (.int .i64 t.hi) (.slice A3 t.names.length c3) (.slice A4 t.fields.length c4) (.slice A5 t.of.length c5) (.int .i64 d.kind) (.int .i64 d.num) (.string d.str) (.slice B3 d.keys.length d3) (.slice B4 d.kids.length d4)) := by rw [hwr]; exact ST2.out.next ((below_drewN w2 n).mono sz2)
        have HNO := Lib.hid hno; have HWR := Lib.hid hwr
        clear hno hwr
        obtain ⟨x0, x1, x2, x3, x4, x5⟩ := ST3.out.bt.cells
        obtain ⟨y0, y1, y2, y3, y4⟩ := ST3.out.bd.cells
        have sz3 := ST3.out.sz
        by_cases hlt : k < t.names.length
        · obtain ⟨A', c', e, _, hc⟩ := HNS.out
          injection e with e1 _ e3
          subst e1
          subst e3
          obtain ⟨b, off, rfl, hb, hc⟩ := hc (by omega)
          have hck : wr.cell? ⟨b, off + k, none⟩ = some (.string t.names[k]) := (ST3.out.bl.cell (p := ⟨b, off + k, none⟩) (by show b < _; omega)).trans (hc k hlt)
          have hik0 : (0 : Int) ≤ (k : Int) := by omega
          have hik : (k : Int) < (t.names.length : Int) := by omega
          have hbr : b < wr.heap.size := by omega
          clear hc
          obtain ⟨S, hS⟩ : ∃ S, S = t.names[k] := ⟨_, rfl⟩
          rw [← hS] at hck
          have HS := Lib.hid hS; clear hS
          by_cases hq : S = d.str
          · have gq : (S.toList == d.str.toList) = true := by simp [hq]
            have E2 : Hid (fitsV t d = 0) := Lib.hid (by
              have hc : Lib.containsS t.names d.str = true := (Lib.containsS_iff _ _).2 (by rw [← hq, HS.out]; exact List.getElem_mem hlt)
              rw [ER.out, HB.out, hc]; rfl)
            clear hq
            go_wp2_with fail
            go_quiet (fail)
            go_wp2_with fail
            go_ret
            exact ⟨ret_int E2.out.symm, ST3.out.bl.trans ((below_drewN wr nq).mono (by omega))⟩
          · have gq : (S.toList == d.str.toList) = false := by rw [ByteArray.toList_eq, ByteArray.toList_eq, beq_eq_false_iff_ne]; exact fun h => hq (data_inj h)
            have HQ := Lib.hid hq
            clear hq
            go_wp2_with fail
            go_quiet (fail)
            go_wp2_with fail
            go_roundw
            case rel =>
              refine ⟨k + 1, by omega, by go_num, fun j hj hjk => ?_, ?_⟩
              · rcases Nat.lt_or_ge j k with h | h
                · exact HNO.out j hj h
                · obtain rfl : j = k := by omega
                  rw [← HS.out]; exact HQ.out
              · rw [HWR.out]; exact ⟨_, drewN_two _ _ _⟩
            case measure => simp [intOf]; omega
        · have hkk : k = t.names.length := by omega
          have E2 : Hid (fitsV t d = 8) := Lib.hid (by
            have hc : Lib.containsS t.names d.str = false := by
              rw [Bool.eq_false_iff]
              intro h
              obtain ⟨j, hj, e⟩ := List.getElem_of_mem ((Lib.containsS_iff _ _).1 h)
              exact HNO.out j hj (by omega) e
            rw [ER.out, HB.out, hc]; rfl)
          go_wp2_with fail
          go_ret
          exact ⟨ret_int E2.out.symm, ST3.out.bl⟩
end Go.Proofs.YteecdmceleanjaaGreatDoor
