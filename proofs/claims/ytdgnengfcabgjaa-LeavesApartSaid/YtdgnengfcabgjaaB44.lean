/-
  The law's own Few of rows of leaves.
-/
import Derived.Test.YtdgnengfcabgjaaB43
import Derived.Test.YtdgnengfcabgjaaB01
namespace Go.Proofs.Ytdgnengfcabgjaa
open Go.RowKit

def OneL (x : Lf) : Prop := fewB x.doc = true ∧ x.path.length ≤ 20 ∧ x.doc.size ≤ 60
def FewL (ls : List Lf) : Prop := ls.length ≤ 60 ∧ ∀ x ∈ ls, OneL x
open Classical in
noncomputable def fewLB (ls : List Lf) : Bool := decide (FewL ls)
theorem fewLB_no {ls : List Lf} (h : ¬ FewL ls) : fewLB ls = false := by simp [fewLB, h]
theorem fewLB_yes {ls : List Lf} (h : FewL ls) : fewLB ls = true := by simp [fewLB, h]
theorem fewLB_is {ls : List Lf} (h : fewLB ls = true) : FewL ls := by simpa [fewLB] using h
set_option maxRecDepth 100000 in
set_option maxHeartbeats 4000000 in
theorem lfew03_any {ls : List Lf} {v : Value} {B : Nat} {w : World} (hB : B ≤ w.heap.size) (hls : LvsIn w B v ls) : Calls Try.prog 9 #[v] w fun e w' => e = .returned (.bool (fewLB ls)) ∧ Below w.heap.size w w' := by
  obtain ⟨A, c, rfl, _, hk⟩ := id hls
  have HX := Lib.hid hk
  clear hk hls
  by_cases h60 : 60 < ls.length
  · have E := Lib.hid (fewLB_no (ls := ls) fun h => by have := h.1; omega)
    have h60i : (60 : Int) < (ls.length : Int) := by omega
    clear h60
    go_enter Try.func9, Try.ntmps9
    go_wp2_with fail
    go_ret
    exact ⟨ret_bool E.out.symm, Below.refl _ _⟩
  have h60i : ¬ (60 : Int) < (ls.length : Int) := by omega
  go_enter Try.func9, Try.ntmps9
  go_wp2_with fail
  go_loopw [3] (fun i wr => ∃ k : Nat, k ≤ ls.length ∧ i = .int .i64 k ∧ Hid (∀ (j : Nat) (h : j < ls.length), j < k → OneL ls[j]) ∧ Hid (Below w.heap.size w wr)) (fun i _ => ls.length - (intOf i).toNat)
  case atStart => exact ⟨0, Nat.zero_le _, rfl, Lib.hid (fun j _ hj => absurd hj (by omega)), Lib.hid (Below.refl _ _)⟩
  case round =>
    obtain ⟨k, hk0, rfl, HALL, HB⟩ := hrel
    have hsr := HB.out.size
    by_cases hlt : k < ls.length
    · obtain ⟨b, off, rfl, hb, hcx⟩ := HX.out (by omega)
      obtain ⟨v0, v1, v2, v3, v4, v5, c0, c1, c2, c3, c4, c5, hp, hd⟩ := hcx k hlt
      have hbw : b < w.heap.size := by omega
      rw [← HB.out.cell (p := ⟨b, _, none⟩) hbw] at c0 c1 c2 c3 c4 c5
      have hlti : (k : Int) < (ls.length : Int) := by omega
      have h0k : (0 : Int) ≤ (k : Int) := by omega
      obtain ⟨Ap, cp, rfl, _, _⟩ := id hp
      have hdr : DocIn wr B (ls[k]).doc v1 v2 v3 v4 v5 := hd.keep (Nat.le_refl _) fun p hp => HB.out.cell (Nat.lt_of_lt_of_le hp hB)
      have HFW := Lib.hid (few_v (B := B) (w := wr) (by omega) ⟨_, _, _, _, _, rfl, hdr⟩)
      have HDR := Lib.hid hdr
      clear hp hd hdr hcx
      cases hfew : fewB (ls[k]).doc with
      | false =>
        rw [hfew] at HFW
        have E := Lib.hid (fewLB_no (ls := ls) fun h => by have := (h.2 _ (List.getElem_mem hlt)).1; rw [hfew] at this; cases this)
        clear hfew
        go_wp2_with (go_at_call 8; refine HFW.out.mono ?_; rintro e w2 ⟨rfl, hb2⟩; have HB2 := Lib.hid hb2; clear hb2 HFW)
        go_ret
        exact ⟨ret_bool E.out.symm, HB.out.trans (HB2.out.mono hsr)⟩
      | true =>
        rw [hfew] at HFW
        have hsz : (ls[k]).doc.size ≤ 699 := by
          have h' : FewP (ls[k]).doc 20 := by simpa [fewB] using hfew
          exact h'.size
        by_cases h20 : 20 < (ls[k]).path.length
        · have E := Lib.hid (fewLB_no (ls := ls) fun h => by have := (h.2 _ (List.getElem_mem hlt)).2.1; omega)
          have h20i : (20 : Int) < ((ls[k]).path.length : Int) := by omega
          clear hfew
          go_wp2_with (go_at_call 8; refine HFW.out.mono ?_; rintro e w2 ⟨rfl, hb2⟩
                       have HB2 := Lib.hid hb2
                       have g0 := (hb2.cell (p := ⟨b, _, none⟩) (by show b < _; omega)).trans c0
                       clear hb2 HFW)
          go_ret
          exact ⟨ret_bool E.out.symm, HB.out.trans (HB2.out.mono hsr)⟩
        · have h20i : ¬ (20 : Int) < ((ls[k]).path.length : Int) := by omega
          have HSZ : Hid (∀ w2, Below wr.heap.size wr w2 → Calls Try.prog 10 #[.agg #[v1, v2, v3, v4, v5]] w2 fun e w' => e = .returned (.int .i64 (ls[k]).doc.size) ∧ Below w2.heap.size w2 w') := Lib.hid fun w2 hb2 =>
            size_any (ls[k]).doc.depth (ls[k]).doc v1 v2 v3 v4 v5 w2 B (Nat.le_refl _) (by omega) (by have := hb2.size; omega) (HDR.out.keep (Nat.le_refl _) fun p hp => hb2.cell (by omega))
          by_cases hs60 : 60 < (ls[k]).doc.size
          · have E := Lib.hid (fewLB_no (ls := ls) fun h => by have := (h.2 _ (List.getElem_mem hlt)).2.2; omega)
            have hs60i : (60 : Int) < ((ls[k]).doc.size : Int) := by omega
            clear hfew
            go_wp2_with (first
              | (go_at_call 8; refine HFW.out.mono ?_; rintro e w2 ⟨rfl, hb2⟩
                 have HB2 := Lib.hid hb2
                 have HSZ2 := Lib.hid (HSZ.out w2 hb2)
                 have g0 := (hb2.cell (p := ⟨b, _, none⟩) (by show b < _; omega)).trans c0
                 have g1 := (hb2.cell (p := ⟨b, _, none⟩) (by show b < _; omega)).trans c1; have g2 := (hb2.cell (p := ⟨b, _, none⟩) (by show b < _; omega)).trans c2; have g3 := (hb2.cell (p := ⟨b, _, none⟩) (by show b < _; omega)).trans c3
                 have g4 := (hb2.cell (p := ⟨b, _, none⟩) (by show b < _; omega)).trans c4; have g5 := (hb2.cell (p := ⟨b, _, none⟩) (by show b < _; omega)).trans c5
                 clear hb2 HFW HSZ c0 c1 c2 c3 c4 c5)
              | (go_at_call 10; refine HSZ2.out.mono ?_; rintro e w3 ⟨rfl, hb3⟩
                 have HB3 := Lib.hid (HB2.out.trans (hb3.mono HB2.out.size))
                 clear hb3 HSZ2))
            go_ret
            exact ⟨ret_bool E.out.symm, HB.out.trans (HB3.out.mono hsr)⟩
          · have hs60i : ¬ (60 : Int) < ((ls[k]).doc.size : Int) := by omega
            have HONE : Hid (OneL ls[k]) := Lib.hid ⟨hfew, by omega, by omega⟩
            clear hfew
            go_wp2_with (first
              | (go_at_call 8; refine HFW.out.mono ?_; rintro e w2 ⟨rfl, hb2⟩
                 have HB2 := Lib.hid hb2
                 have HSZ2 := Lib.hid (HSZ.out w2 hb2)
                 have g0 := (hb2.cell (p := ⟨b, _, none⟩) (by show b < _; omega)).trans c0
                 have g1 := (hb2.cell (p := ⟨b, _, none⟩) (by show b < _; omega)).trans c1; have g2 := (hb2.cell (p := ⟨b, _, none⟩) (by show b < _; omega)).trans c2; have g3 := (hb2.cell (p := ⟨b, _, none⟩) (by show b < _; omega)).trans c3
                 have g4 := (hb2.cell (p := ⟨b, _, none⟩) (by show b < _; omega)).trans c4; have g5 := (hb2.cell (p := ⟨b, _, none⟩) (by show b < _; omega)).trans c5
                 clear hb2 HFW HSZ c0 c1 c2 c3 c4 c5)
              | (go_at_call 10; refine HSZ2.out.mono ?_; rintro e w3 ⟨rfl, hb3⟩
                 have HB3 := Lib.hid (HB2.out.trans (hb3.mono HB2.out.size))
                 clear hb3 HSZ2))
            go_roundw
            case rel => exact ⟨k + 1, by omega, by first | rfl | go_num, Lib.hid (fun j h hj => by
              rcases Nat.lt_or_ge j k with h1 | h1
              · exact HALL.out j h h1
              · obtain rfl : j = k := by omega
                exact HONE.out), Lib.hid (HB.out.trans (HB3.out.mono hsr))⟩
            case measure => simp [intOf]; omega
    · have hlti : ¬ (k : Int) < (ls.length : Int) := by omega
      have E := Lib.hid (fewLB_yes (ls := ls) ⟨by omega, fun x hx => by
        obtain ⟨j, hj, rfl⟩ := List.getElem_of_mem hx
        exact HALL.out j hj (by omega)⟩)
      go_wp2_with fail
      go_ret
      exact ⟨ret_bool E.out.symm, HB.out⟩
end Go.Proofs.Ytdgnengfcabgjaa
