/-
  The walk of LeavesCount.
-/
import Derived.Test.YtdgnengfcabgjaaB42
import Derived.Test.YtdgnengfcabgjaaB44
import Derived.Test.YtdgnengfcabgjaaB01
import Derived.Test.YtdgnengfcabgjaaB31
namespace Go.Proofs.Ytdgnengfcabgjaa
open Go.RowKit

set_option maxRecDepth 100000 in
set_option maxHeartbeats 8000000 in
theorem lcount_law {d : D} {v0 v1 v2 v3 v4 : Value} {w : World} (hd : DocIn w w.heap.size d v0 v1 v2 v3 v4) : Calls Try.prog 6 #[.agg #[v0, v1, v2, v3, v4]] w fun e w' => e = .returned (.bool true) ∧ Below w.heap.size w w' := by
  obtain ⟨A3, c3, A4, c4, rfl, rfl, rfl, rfl, rfl⟩ := hd.forms
  obtain ⟨wa, hwa⟩ : ∃ wa, wa = w.alloc (.cells #[.int .i64 d.kind, .int .i64 d.num, .string d.str, .slice A3 d.keys.length c3, .slice A4 d.kids.length c4] 25) := ⟨_, rfl⟩
  have HBA : Hid (Below w.heap.size w wa) := by rw [hwa]; exact Lib.hid ((Below.refl _ _).alloc (Nat.le_refl _) _)
  have HXA : Hid (Box5 wa w.heap.size (.int .i64 d.kind) (.int .i64 d.num) (.string d.str) (.slice A3 d.keys.length c3) (.slice A4 d.kids.length c4)) := by rw [hwa]; exact Lib.hid (Box5.new w _ _ _ _ _)
  have HDA : Hid (DocV wa w.heap.size d (.agg #[.int .i64 d.kind, .int .i64 d.num, .string d.str, .slice A3 d.keys.length c3, .slice A4 d.kids.length c4])) := Lib.hid ⟨_, _, _, _, _, rfl, hd.keep (Nat.le_refl _) fun p hp => HBA.out.cell hp⟩
  have hsA : w.heap.size < wa.heap.size := HXA.out.lt
  clear hd
  go_enter Try.func6, Try.ntmps6
  go_upto_region 1 with fail
  rw [← hwa]
  clear hwa
  go_upto_region 2 with (go_at_call 7; refine (lsmall_any _).mono ?_; rintro e w1 ⟨rfl, hb1⟩
                         have HB1 := Lib.hid hb1
                         clear hb1)
  have hs1 := HB1.out.size
  have HX1 := Lib.hid (HXA.out.same (HB1.out.block _ hsA))
  have HD1 := Lib.hid (HDA.out.keep (Nat.le_refl _) fun p hp => HB1.out.cell (by omega))
  have HBW1 := Lib.hid (HBA.out.trans (HB1.out.mono (by omega)))
  obtain ⟨q0, q1, q2, q3, q4⟩ := HX1.out.cells
  clear HXA HDA HBA HB1
  have HFW := Lib.hid (few_v (by omega) HD1.out)
  cases hfew : fewB d with
  | false =>
    rw [hfew] at HFW
    clear hfew
    go_wp2_with (go_at_call 8; refine HFW.out.mono ?_; rintro e w2 ⟨rfl, hb2⟩
                 have HB2 := Lib.hid hb2
                 clear hb2)
    go_ret
    exact ⟨rfl, HBW1.out.trans (HB2.out.mono (by omega))⟩
  | true =>
    rw [hfew] at HFW
    have HFIT := Lib.hid (lfew_is hfew)
    clear hfew
    go_upto_region 3 with (go_at_call 8; refine HFW.out.mono ?_; rintro e w2 ⟨rfl, hb2⟩
                           have HB2 := Lib.hid hb2
                           clear hb2 q0 q1 q2 q3 q4 HFW)
    have hs2 := HB2.out.size
    have HX2 := Lib.hid (HX1.out.same (HB2.out.block _ (by omega)))
    have HD2 := Lib.hid (HD1.out.keep (Nat.le_refl _) fun p hp => HB2.out.cell (by omega))
    have HBW2 := Lib.hid (HBW1.out.trans (HB2.out.mono (by omega)))
    obtain ⟨q0, q1, q2, q3, q4⟩ := HX2.out.cells
    clear HX1 HD1 HBW1 HB2
    have HRT := Lib.hid (right_v HFIT.out (by omega) HD2.out)
    cases hr : rightB d with
    | false =>
      rw [hr] at HRT
      clear hr
      go_wp2_with (go_at_call 26; refine HRT.out.mono ?_; rintro e w3 ⟨rfl, hb3⟩
                   have HB3 := Lib.hid hb3
                   clear hb3)
      go_ret
      exact ⟨rfl, HBW2.out.trans (HB3.out.mono (by omega))⟩
    | true =>
      rw [hr] at HRT
      have hok := okB_iff.1 hr
      have hdep : d.depth ≤ 12 := hok.1
      have hsz : d.size ≤ 512 := by have := hok.2.1; omega
      have HPART := Lib.hid hok.2.2
      clear hr hok
      have HSZ : Hid (∀ w3, Below w2.heap.size w2 w3 → Calls Try.prog 10 #[.agg #[.int .i64 d.kind, .int .i64 d.num, .string d.str, .slice A3 d.keys.length c3, .slice A4 d.kids.length c4]] w3 fun e w' => e = .returned (.int .i64 d.size) ∧ Below w3.heap.size w3 w') := Lib.hid fun w3 hb3 => by
        obtain ⟨_, _, _, _, _, e, hdi⟩ := HD2.out.keep (Nat.le_refl _) fun p hp => hb3.cell (p := p) (by omega)
        cases e
        exact size_any d.depth d _ _ _ _ _ w3 _ (Nat.le_refl _) (by omega) (by have := hb3.size; omega) hdi
      by_cases h150 : 150 < d.size
      · have h150i : (150 : Int) < (d.size : Int) := by omega
        go_wp2_with (first
          | (go_at_call 26; refine HRT.out.mono ?_; rintro e w3 ⟨rfl, hb3⟩
             have HB3 := Lib.hid hb3
             obtain ⟨r0, r1, r2, r3, r4⟩ := (HX2.out.same (hb3.block _ (by omega))).cells
             have HSZ3 := Lib.hid (HSZ.out w3 hb3)
             clear hb3 q0 q1 q2 q3 q4 HSZ)
          | (go_at_call 10; refine HSZ3.out.mono ?_; rintro e w4 ⟨rfl, hb4⟩
             have HB4 := Lib.hid hb4
             clear hb4))
        go_ret
        exact ⟨rfl, HBW2.out.trans ((HB3.out.trans (HB4.out.mono HB3.out.size)).mono (by omega))⟩
      · have h150i : ¬ (150 : Int) < (d.size : Int) := by omega
        go_upto_region 5 with (first
          | (go_at_call 26; refine HRT.out.mono ?_; rintro e w3 ⟨rfl, hb3⟩
             have HB3 := Lib.hid hb3
             obtain ⟨r0, r1, r2, r3, r4⟩ := (HX2.out.same (hb3.block _ (by omega))).cells
             have HSZ3 := Lib.hid (HSZ.out w3 hb3)
             clear hb3 q0 q1 q2 q3 q4)
          | (go_at_call 10; refine HSZ3.out.mono ?_; rintro e w4 ⟨rfl, hb4⟩
             have HB24 := Lib.hid (HB3.out.trans (hb4.mono HB3.out.size))
             clear hb4 r0 r1 r2 r3 r4 HSZ3))
        have hs24 := HB24.out.size
        have HX4 := Lib.hid (HX2.out.same (HB24.out.block _ (by omega)))
        have HD4 := Lib.hid (HD2.out.keep (Nat.le_refl _) fun p hp => HB24.out.cell (by omega))
        have HBW4 := Lib.hid (HBW2.out.trans (HB24.out.mono (by omega)))
        obtain ⟨q0, q1, q2, q3, q4⟩ := HX4.out.cells
        have hvl := vis_len [] d
        have HFL := Lib.hid (lflat_any (by omega) HD4.out HFIT.out (by omega) (by omega))
        have hperm := lsrt_perm (vis [] d)
        have hlenL : (lsrt (vis [] d)).length ≤ 150 := by rw [hperm.length_eq]; omega
        have HSUM : Hid (lsum (lsrt (vis [] d)) = d.size) := Lib.hid ((lsum_perm hperm).trans (vis_sum [] d HPART.out))
        have HROOT := Lib.hid (root_only d)
        have HHOME : Hid (∀ x ∈ lsrt (vis [] d), 0 < x.path.length → 0 ≤ lfind (x.path.take (x.path.length - 1)) (lsrt (vis [] d)) 0) := Lib.hid fun x hx h0 => home_there hx h0
        have HPTH : Hid (∀ x ∈ lsrt (vis [] d), x.path.length ≤ 10000) := Lib.hid fun x hx => vis_path (n := 10000) d.depth d [] (Nat.le_refl _) (by simp; omega) x (hperm.subset hx)
        have HDOC : Hid (∀ x ∈ lsrt (vis [] d), x.doc.size ≤ d.size) := Lib.hid fun x hx => (vis_depth [] d x (hperm.subset hx)).1
        clear hvl hperm HX2 HD2 HBW2 HB24 HB3
        generalize lsrt (vis [] d) = L at *
        go_upto_region 6 with (go_at_call 14; refine HFL.out.mono ?_; rintro e w5 ⟨v5, ys, rfl, hmap, hown, hb5⟩
                               have hlv := hown.lvs
                               rw [hmap] at hlv
                               have HLV := Lib.hid hlv; have HB5 := Lib.hid hb5
                               obtain ⟨A5, c5, rfl, _⟩ := id hlv
                               clear hmap hown hb5 hlv HFL q0 q1 q2 q3 q4)
        have hs5 := HB5.out.size
        have HX5 := Lib.hid (HX4.out.same (HB5.out.block _ (by omega)))
        have HBW5 := Lib.hid (HBW4.out.trans (HB5.out.mono (by omega)))
        have HD5 := Lib.hid (HD4.out.keep (Nat.le_refl _) fun p hp => HB5.out.cell (by omega))
        clear HX4 HBW4 HB5 HD4
        go_wp2_with fail
        go_loopw [6, 7] (fun n i wr => ∃ k : Nat, k ≤ L.length ∧ i = .int .i64 k ∧ n = .int .i64 (lsum (L.take k) : Nat) ∧ Hid (Below w5.heap.size w5 wr)) (fun _ i _ => L.length - (intOf i).toNat)
        case atStart => exact ⟨0, Nat.zero_le _, rfl, by simp [lsum], Lib.hid (Below.refl _ _)⟩
        case round =>
          obtain ⟨k, hk0, rfl, rfl, HB⟩ := hrel
          have hsr := HB.out.size
          by_cases hlt : k < L.length
          · obtain ⟨_, _, eL, _, hL⟩ := id HLV.out
            injection eL with eL1 eL2 eL3
            clear eL2
            subst eL1; subst eL3
            obtain ⟨b, off, rfl, hb, hLk⟩ := hL (by omega)
            obtain ⟨v0, v1, v2, v3, v4, v5, a0, a1, a2, a3, a4, a5, hp, hdx⟩ := hLk k hlt
            rw [← HB.out.cell (p := ⟨b, _, none⟩) hb] at a0 a1 a2 a3 a4 a5
            obtain ⟨Ap, cp, rfl, hcl, _⟩ := id hp
            have hxm : L[k] ∈ L := List.getElem_mem hlt
            have hsx := HDOC.out _ hxm
            have HSX := Lib.hid (size_any (L[k]).doc.depth (L[k]).doc v1 v2 v3 v4 v5 wr w5.heap.size (Nat.le_refl _) (by omega) hsr (hdx.keep (Nat.le_refl _) fun p hp => HB.out.cell hp))
            have hsum1 := lsum_take hlt
            have hsum2 : lsum (L.take (k + 1)) ≤ d.size := by
              have h1 := HSUM.out
              rw [← List.take_append_drop (k + 1) L, lsum_append] at h1
              omega
            have hwr : IntKind.i64.wrap (((lsum (L.take k) : Nat) : Int) + (((L[k]).doc.size : Nat) : Int)) = ((lsum (L.take k) : Nat) : Int) + (((L[k]).doc.size : Nat) : Int) := by rw [IntKind.wrap_i64]; omega
            have hlti : (k : Int) < (L.length : Int) := by omega
            have h0k : (0 : Int) ≤ (k : Int) := by omega
            obtain ⟨S, hS⟩ : ∃ S, S = lsum (L.take k) := ⟨_, rfl⟩
            rw [← hS] at hwr hsum1 ⊢
            have HP := Lib.hid hp; have HS1 := Lib.hid hsum1
            clear hS
            obtain ⟨pl, hpl⟩ : ∃ pl, pl = (L[k]).path.length := ⟨_, rfl⟩
            have hroot := HROOT.out.2 k hlt
            rw [← hpl] at a0 hroot
            have hpl2 := HPTH.out _ hxm
            have HHM := Lib.hid (HHOME.out _ hxm)
            have HPL := Lib.hid hpl
            clear hLk hL hp hdx hsum1 hpl
            by_cases hk00 : k = 0
            · have hpl0 : pl = 0 := hroot.2 hk00
              subst hk00; subst hpl0
              clear hroot HHM
              rw [Nat.zero_mul, Nat.add_zero] at a0 a1 a2 a3 a4 a5
              go_wp2_with (go_at_call 10; refine HSX.out.mono ?_; rintro e w6 ⟨rfl, hb6⟩
                           have hb6' : Below w5.heap.size w5 w6 := HB.out.trans (hb6.mono hsr)
                           have HB6 := Lib.hid hb6'
                           have g0 := (hb6.cell (p := ⟨b, _, none⟩) (by show b < _; omega)).trans a0
                           clear hb6 hb6' HSX)
              go_roundw
              case rel => exact ⟨1, by omega, by first | rfl | go_num, by rw [HS1.out]; first | rfl | simp, HB6⟩
              case measure => simp [intOf]; omega
            · have hplp : 0 < pl := Nat.pos_of_ne_zero fun h => hk00 (hroot.1 h)
              have hkp : (0 : Int) < (k : Int) := by omega
              have hki : ¬ (k : Int) = 0 := by omega
              obtain ⟨pm, rfl⟩ : ∃ pm, pl = pm + 1 := ⟨pl - 1, by omega⟩
              have hwp : IntKind.i64.wrap (pm : Int) = (pm : Int) := by rw [IntKind.wrap_i64]; have := HPL.out; omega
              have hp1 : ((pm + 1 : Nat) : Int) - 1 = (pm : Int) := by omega
              have hb1 : ((pm : Int) + 1 == 0) = false := by rw [beq_eq_false_iff_ne]; omega
              have hb2 : ((k : Int) == 0) = false := by rw [beq_eq_false_iff_ne]; omega
              have hcp : (pm : Int) ≤ (cp : Int) := by have := HPL.out; omega
              have hhm : 0 ≤ lfind ((L[k]).path.take pm) L 0 := by
                have h1 := HPL.out
                have h2 := HHM.out (by omega)
                rwa [show (L[k]).path.length - 1 = pm by omega] at h2
              have hnl : ¬ lfind ((L[k]).path.take pm) L 0 < 0 := by omega
              have HTK : Hid (Strs wr w5.heap.size (.slice Ap pm cp) ((L[k]).path.take pm)) := Lib.hid ((Strs_take HP.out pm (by have := HPL.out; omega)).keep fun p hp => HB.out.cell hp)
              have HFD : Hid (∀ w6, Below wr.heap.size wr w6 → Calls Try.prog 19 #[.slice (some ⟨b, off, none⟩) L.length c5, .slice Ap pm cp] w6 fun e w' => e = .returned (.int .i64 (lfind ((L[k]).path.take pm) L 0)) ∧ Below w6.heap.size w6 w') := Lib.hid fun w6 hb6 =>
                lfind_any (B := w5.heap.size) (by have := hb6.size; omega) ((HLV.out.keep fun p hp => HB.out.cell hp).keep fun p hp => hb6.cell (Nat.lt_of_lt_of_le hp hsr)) (HTK.out.keep fun p hp => hb6.cell (Nat.lt_of_lt_of_le hp hsr)) (by omega) HPTH.out
              generalize lfind ((L[k]).path.take pm) L 0 = z at *
              clear hroot HHM hplp hhm
              go_wp2_with (first
                | (go_at_call 10; refine HSX.out.mono ?_; rintro e w6 ⟨rfl, hb6⟩
                   have HB6 := Lib.hid hb6
                   have g0 := (hb6.cell (p := ⟨b, _, none⟩) (by show b < _; omega)).trans a0
                   have HFD6 := Lib.hid (HFD.out w6 hb6)
                   clear hb6 HSX HFD)
                | (go_at_call 19; refine HFD6.out.mono ?_; rintro e w7 ⟨rfl, hb7⟩
                   have HB7 := Lib.hid (HB6.out.trans (hb7.mono HB6.out.size))
                   clear hb7 HFD6))
              go_roundw
              case rel => exact ⟨k + 1, by omega, by first | rfl | go_num, by rw [HS1.out]; first | rfl | simp, Lib.hid (HB.out.trans (HB7.out.mono hsr))⟩
              case measure => simp [intOf]; omega
          · have hlti : ¬ (k : Int) < (L.length : Int) := by omega
            have hkl : L.take k = L := List.take_of_length_le (by omega)
            rw [hkl, HSUM.out]
            obtain ⟨q0, q1, q2, q3, q4⟩ := (HX5.out.same (HB.out.block _ (by omega))).cells
            have HSE : Hid (Calls Try.prog 10 #[.agg #[.int .i64 d.kind, .int .i64 d.num, .string d.str, .slice A3 d.keys.length c3, .slice A4 d.kids.length c4]] wr fun e w' => e = .returned (.int .i64 d.size) ∧ Below wr.heap.size wr w') := Lib.hid (by
              obtain ⟨_, _, _, _, _, e, hdi⟩ := HD5.out.keep (Nat.le_refl _) fun p hp => HB.out.cell (p := p) (by omega)
              cases e
              exact size_any d.depth d _ _ _ _ _ wr _ (Nat.le_refl _) (by omega) (by omega) hdi)
            go_wp2_with (go_at_call 10; refine HSE.out.mono ?_; rintro e w6 ⟨rfl, hb6⟩
                         have HB6 := Lib.hid hb6
                         clear hb6 HSE)
            go_ret
            exact ⟨rfl, HBW5.out.trans ((HB.out.trans (HB6.out.mono hsr)).mono (by omega))⟩
end Go.Proofs.Ytdgnengfcabgjaa
