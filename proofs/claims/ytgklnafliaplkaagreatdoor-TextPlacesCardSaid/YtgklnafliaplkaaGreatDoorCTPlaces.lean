/-
  TextPlaces: what stands behind a document is wrong there, or behind it.
-/
import Derived.Test.YtgklnafliaplkaaGreatDoorCTBack2
import Derived.Test.YtgklnafliaplkaaGreatDoorB01
namespace Go.Proofs.YtgklnafliaplkaaGreatDoor
open Go.RowKit

theorem more_list (d : D) (c : UInt8) : (printB d ++ ⟨#[c]⟩).data.toList = printD d ++ [c] := by
  rw [ByteArray.data_append, Array.toList_append, printB_list]
theorem more_size (d : D) (c : UInt8) : (printB d ++ ⟨#[c]⟩).size = (printB d).size + 1 := by rw [ByteArray.size_append]; rfl
theorem place_ok {d : D} {w : World} {t : ByteArray} (hr : rightB d = true) (hn : d.Nums) (h4 : d.kind ≠ 4) {c : UInt8} (hc : blankC c = true) (ht : t.data.toList = printD d ++ [c]) (hs : t.size ≤ 16384) (hg : TG w) : Calls Tryz.prog 18 #[.string t] w fun e w' => Below w.heap.size w w' ∧
    ∃ (v0 v1 v2 v3 v4 : Value) (F : List Nat), e = .returned (.tuple #[.agg #[v0, v1, v2, v3, v4], .int .i64 (t.size : Nat), .int .i64 0]) ∧ OwnIn w' w.heap.size d v0 v1 v2 v3 v4 F ∧ F.Nodup := by
  refine Calls.mono (Parse_any (w := w) t hs hg) ?_
  intro e w' h
  have h0 : readP t.data.toList = .ok d [] := by rw [ht, right_more hr hn h4, if_pos hc]
  rw [h0] at h
  exact h
theorem place_bad {d : D} {w : World} {t : ByteArray} {n : Nat} (hr : rightB d = true) (hn : d.Nums) (h4 : d.kind ≠ 4) {c : UInt8} (hc : blankC c = false) (ht : t.data.toList = printD d ++ [c]) (hs : t.size ≤ 16384) (hn1 : t.size = n + 1) (hg : TG w) : Calls Tryz.prog 18 #[.string t] w fun e w' => Below w.heap.size w w' ∧
    e = .returned (.tuple #[.agg #[.int .i64 0, .int .i64 0, .string ⟨#[]⟩, .slice none 0 0, .slice none 0 0], .int .i64 (n : Nat), .int .i64 4]) := by
  refine Calls.mono (Parse_any (w := w) t hs hg) ?_
  intro e w' h
  have h0 : readP t.data.toList = .bad [c] 4 := by rw [ht, right_more hr hn h4, if_neg (by rw [hc]; simp)]
  rw [h0] at h
  have h1 : t.size - [c].length = n := by rw [hn1]; simp
  obtain ⟨h2, h3⟩ := h
  simp only at h3
  rw [h1] at h3
  exact ⟨h2, h3⟩
set_option maxHeartbeats 4000000 in
set_option maxRecDepth 100000 in
theorem tplaces_law {d : D} {v0 v1 v2 v3 v4 : Value} {w : World} (c : UInt8) (hn : d.Nums) (hd : DocIn w w.heap.size d v0 v1 v2 v3 v4) (hg : TG w) : Calls Tryz.prog 6 #[.agg #[v0, v1, v2, v3, v4], .int .u8 c.toNat] w fun e w' => e = .returned (.bool true) ∧ Below w.heap.size w w' := by
  obtain ⟨A3, c3, A4, c4, rfl, rfl, rfl, rfl, rfl⟩ := hd.forms
  have hb0 : Below w.heap.size w (w.alloc (.cells #[.int .i64 d.kind, .int .i64 d.num, .string d.str, .slice A3 d.keys.length c3, .slice A4 d.kids.length c4] 25)) := (Below.refl _ _).alloc (Nat.le_refl _) _
  have H0 := Lib.hid (HoldD.new hd)
  have HB0 := Lib.hid hb0; have HG0 := Lib.hid (hg.next hb0)
  have HN := Lib.hid hn
  clear hd hg hn hb0
  go_enter Tryz.func6, Tryz.ntmps6
  go_wp2_with fail
  refine (tx_small HG0.out).mono ?_
  rintro e w1 ⟨rfl, hb⟩
  have H1 := Lib.hid (H0.out.next hb); have HG1 := Lib.hid (HG0.out.next hb); have HB1 := Lib.hid (HB0.out.trans (hb.mono HB0.out.size))
  clear hb H0 HG0 HB0
  obtain ⟨f0, f1, f2, f3, f4⟩ := H1.out.box.cells
  go_wp2_with fail
  refine (few_v (Nat.le_refl _) H1.out.v).mono ?_
  rintro e w2 ⟨rfl, hb⟩
  have H2 := Lib.hid (H1.out.next hb); have HG2 := Lib.hid (HG1.out.next hb); have HB2 := Lib.hid (HB1.out.trans (hb.mono HB1.out.size))
  clear hb H1 HG1 HB1 f0 f1 f2 f3 f4
  obtain ⟨f0, f1, f2, f3, f4⟩ := H2.out.box.cells
  cases hfew : fewB d with
  | false =>
    clear hfew
    go_wp2_with fail
    go_ret
    exact ⟨rfl, HB2.out⟩
  | true =>
    have HFEW := Lib.hid hfew
    clear hfew
    go_wp2_with fail
    refine (right_v (few_fit_ HFEW.out) (Nat.le_refl _) H2.out.v).mono ?_
    rintro e w3 ⟨rfl, hb⟩
    have H3 := Lib.hid (H2.out.next hb); have HG3 := Lib.hid (HG2.out.next hb); have HB3 := Lib.hid (HB2.out.trans (hb.mono HB2.out.size))
    clear hb H2 HG2 HB2 f0 f1 f2 f3 f4
    obtain ⟨f0, f1, f2, f3, f4⟩ := H3.out.box.cells
    cases hri : rightB d with
    | false =>
      clear hri
      go_wp2_with fail
      go_ret
      exact ⟨rfl, HB3.out⟩
    | true =>
      have HRI := Lib.hid hri
      clear hri
      go_wp2_with fail
      refine (print_h HFEW.out HN.out H3.out HG3.out).mono ?_
      rintro e w4 ⟨rfl, hb⟩
      have H4 := Lib.hid (H3.out.next hb); have HG4 := Lib.hid (HG3.out.next hb); have HB4 := Lib.hid (HB3.out.trans (hb.mono HB3.out.size))
      clear hb H3 HG3 HB3 f0 f1 f2 f3 f4
      obtain ⟨f0, f1, f2, f3, f4⟩ := H4.out.box.cells
      have hlen := few_len HFEW.out HN.out
      obtain ⟨s, hs⟩ : ∃ s, s = printB d := ⟨_, rfl⟩
      have hsl : s.size ≤ 4000000 := by rw [hs, printB_size]; exact hlen
      clear hlen
      rw [← hs]
      have HS := Lib.hid hs
      clear hs
      by_cases hlen : 16384 ≤ s.size
      · have g1 : (16384 : Int) ≤ (s.size : Int) := by omega
        go_wp2_with fail
        go_ret
        exact ⟨rfl, HB4.out⟩
      have g1 : ¬ (16384 : Int) ≤ (s.size : Int) := by omega
      by_cases h4 : d.kind = 4
      · have g2 : (d.kind == 4) = true := by simp [h4]
        clear h4
        go_wp2_with fail
        go_ret
        exact ⟨rfl, HB4.out⟩
      have g2 : (d.kind == 4) = false := by simp [h4]
      have H4' := Lib.hid h4
      clear h4
      have ec := run_conv1 w4 (g := w4.heap.size) rfl c
      obtain ⟨t, ht⟩ : ∃ t, t = s ++ (⟨#[c]⟩ : ByteArray) := ⟨_, rfl⟩
      have htz : t.size = s.size + 1 := by rw [ht, ByteArray.size_append]; rfl
      have HT := Lib.hid (show t = printB d ++ (⟨#[c]⟩ : ByteArray) by rw [ht, HS.out])
      have ht' : s ++ (⟨#[c]⟩ : ByteArray) = t := ht.symm
      clear ht
      obtain ⟨w5, hw5⟩ : ∃ W, W = w4.alloc (.cells #[.int .u8 c.toNat] 5) := ⟨_, rfl⟩
      have hb5 : Below w4.heap.size w4 w5 := by rw [hw5]; exact (Below.refl _ _).alloc (Nat.le_refl _) _
      have H5 := Lib.hid (H4.out.next hb5); have HG5 := Lib.hid (HG4.out.next hb5); have HB5 := Lib.hid (HB4.out.trans (hb5.mono HB4.out.size))
      have HSZ := Lib.hid (show s.size < 16384 by omega)
      cases hbc : blankC c with
      | true =>
        have HP := Lib.hid (place_ok (w := w5) (t := t) HRI.out HN.out H4'.out hbc (by rw [HT.out, more_list]) (by rw [htz]; exact HSZ.out) HG5.out)
        rw [htz] at HP
        go_wp2_with fail
        rw [← hw5]
        refine HP.out.mono ?_
        clear HP hb5 hw5 H4 HG4 HB4 ec
        rintro e w6 ⟨hb, y0, y1, y2, y3, y4, F, rfl, hO, hF⟩
        obtain ⟨A7, c7, A8, c8, rfl, rfl, rfl, rfl, rfl⟩ := hO.doc.forms
        have H6 := Lib.hid (H5.out.next hb); have HB6 := Lib.hid (HB5.out.trans (hb.mono HB5.out.size))
        have hx := HoldD.new hO.doc
        have hb7 : Below w6.heap.size w6 (w6.alloc (.cells #[.int .i64 d.kind, .int .i64 d.num, .string d.str, .slice A7 d.keys.length c7, .slice A8 d.kids.length c8] 25)) := (Below.refl _ _).alloc (Nat.le_refl _) _
        clear hb H5 HG5 HB5 f0 f1 f2 f3 f4 hO hF
        go_upto_region 9 with fail
        obtain ⟨w7, hw7⟩ : ∃ W, W = w6.alloc (.cells #[.int .i64 d.kind, .int .i64 d.num, .string d.str, .slice A7 d.keys.length c7, .slice A8 d.kids.length c8] 25) := ⟨_, rfl⟩
        rw [← hw7] at hx hb7 ⊢
        have H7 := Lib.hid (H6.out.next hb7); have HB7 := Lib.hid (HB6.out.trans (hb7.mono HB6.out.size))
        have HX7 := Lib.hid hx
        clear hx hb7 hw7 H6 HB6
        obtain ⟨f0, f1, f2, f3, f4⟩ := H7.out.box.cells
        obtain ⟨x0, x1, x2, x3, x4⟩ := HX7.out.box.cells
        have HC := same_v (few_fit_ HFEW.out) (few_fit_ HFEW.out) (Nat.le_refl _) HX7.out.v H7.out.v
        rw [same_self] at HC
        have HC := Lib.hid HC
        have e0 : ((s.size + 1 : Nat) : Int) = (s.size : Int) + 1 := by omega
        simp only [blankC, Bool.or_eq_true, decide_eq_true_eq] at hbc
        rcases (by omega : c.toNat = 32 ∨ (c.toNat ≠ 32 ∧ c.toNat = 9) ∨ (c.toNat ≠ 32 ∧ c.toNat ≠ 9 ∧ c.toNat = 10) ∨ (c.toNat ≠ 32 ∧ c.toNat ≠ 9 ∧ c.toNat ≠ 10 ∧ c.toNat = 13)) with q | ⟨q1, q⟩ | ⟨q1, q2, q⟩ | ⟨q1, q2, q3, q⟩
        all_goals (
          clear hbc
          go_wp2_with fail
          refine HC.out.mono ?_
          rintro e w8 ⟨rfl, hb⟩
          have HB8 := Lib.hid (HB7.out.trans (hb.mono HB7.out.size))
          clear hb f0 f1 f2 f3 f4 x0 x1 x2 x3 x4
          go_wp2_with fail
          go_ret
          exact ⟨rfl, HB8.out⟩)
      | false =>
        have HP := Lib.hid (place_bad (w := w5) (t := t) HRI.out HN.out H4'.out hbc (by rw [HT.out, more_list]) (by rw [htz]; exact HSZ.out) htz HG5.out)
        have e0 : (s.toList == s.toList) = true := by simp
        simp only [blankC, Bool.or_eq_false_iff, decide_eq_false_iff_not] at hbc
        obtain ⟨⟨⟨q1, q2⟩, q3⟩, q4⟩ := hbc
        have e1 : ((c.toNat : Int) == 32) = false := by simp; omega
        have e2 : ((c.toNat : Int) == 9) = false := by simp; omega
        have e3 : ((c.toNat : Int) == 10) = false := by simp; omega
        have e4 : ((c.toNat : Int) == 13) = false := by simp; omega
        clear q1 q2 q3 q4
        go_wp2_with fail
        rw [← hw5]
        refine HP.out.mono ?_
        clear HP hb5 hw5 H4 HG4 HB4 ec
        rintro e w6 ⟨hb, rfl⟩
        have HB6 := Lib.hid (HB5.out.trans (hb.mono HB5.out.size))
        clear hb H5 HG5 HB5 f0 f1 f2 f3 f4
        go_wp2_with fail
        go_ret
        refine ⟨rfl, HB6.out.alloc HB6.out.size _⟩
end Go.Proofs.YtgklnafliaplkaaGreatDoor
