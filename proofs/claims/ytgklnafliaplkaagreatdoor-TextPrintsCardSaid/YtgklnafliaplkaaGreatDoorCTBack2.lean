/-
  TextBack: what is right is printed, and parsed as it was.
-/
import Derived.Test.YtgklnafliaplkaaGreatDoorB28
import Derived.Test.YtgklnafliaplkaaGreatDoorB36
namespace Go.Proofs.YtgklnafliaplkaaGreatDoor
open Go.RowKit

def printB (d : D) : ByteArray := ⟨(printD d).toArray⟩
theorem printB_size (d : D) : (printB d).size = (printD d).length := by show (printD d).toArray.size = _; simp
theorem printB_list (d : D) : (printB d).data.toList = printD d := by simp [printB]
theorem same_self (d : D) : D.same d d = true := by simp [D.same, D.cmp_ordered.refl d trivial]
/-- A box, and the document in it. -/
structure HoldD (w : World) (b : Nat) (d : D) (A3 : Option Addr) (c3 : Nat) (A4 : Option Addr) (c4 : Nat) : Prop where
  box : Box5 w b (.int .i64 d.kind) (.int .i64 d.num) (.string d.str) (.slice A3 d.keys.length c3) (.slice A4 d.kids.length c4)
  doc : DocIn w b d (.int .i64 d.kind) (.int .i64 d.num) (.string d.str) (.slice A3 d.keys.length c3) (.slice A4 d.kids.length c4)
theorem HoldD.next {w w' : World} {b : Nat} {d : D} {A3 : Option Addr} {c3 : Nat} {A4 : Option Addr} {c4 : Nat} (h : HoldD w b d A3 c3 A4 c4) (hb : Below w.heap.size w w') : HoldD w' b d A3 c3 A4 c4 :=
  ⟨h.box.same (hb.block _ h.box.lt), h.doc.below (hb.mono (Nat.le_of_lt h.box.lt))⟩
theorem HoldD.v {w : World} {b : Nat} {d : D} {A3 : Option Addr} {c3 : Nat} {A4 : Option Addr} {c4 : Nat} (h : HoldD w b d A3 c3 A4 c4) : DocV w w.heap.size d (.agg #[.int .i64 d.kind, .int .i64 d.num, .string d.str, .slice A3 d.keys.length c3, .slice A4 d.kids.length c4]) :=
  ⟨_, _, _, _, _, rfl, h.doc.keep (Nat.le_of_lt h.box.lt) fun _ _ => rfl⟩
theorem HoldD.new {w : World} {d : D} {A3 : Option Addr} {c3 : Nat} {A4 : Option Addr} {c4 : Nat} (h : DocIn w w.heap.size d (.int .i64 d.kind) (.int .i64 d.num) (.string d.str) (.slice A3 d.keys.length c3) (.slice A4 d.kids.length c4)) :
    HoldD (w.alloc (.cells #[.int .i64 d.kind, .int .i64 d.num, .string d.str, .slice A3 d.keys.length c3, .slice A4 d.kids.length c4] 25)) w.heap.size d A3 c3 A4 c4 :=
  ⟨Box5.new w _ _ _ _ _, h.below ((Below.refl _ _).alloc (Nat.le_refl _) _)⟩
theorem print_h {d : D} {w : World} {b : Nat} {A3 : Option Addr} {c3 : Nat} {A4 : Option Addr} {c4 : Nat} (hf : fewB d = true) (hn : d.Nums) (h : HoldD w b d A3 c3 A4 c4) (hg : TG w) :
    Calls Tryz.prog 13 #[.agg #[.int .i64 d.kind, .int .i64 d.num, .string d.str, .slice A3 d.keys.length c3, .slice A4 d.kids.length c4]] w fun e w' => e = .returned (.string (printB d)) ∧ Below w.heap.size w w' :=
  Print_any (few_fit_ hf) hn h.doc (Nat.le_of_lt h.box.lt) hg (by have := few_len hf hn; omega)
theorem parse_h {d : D} {w : World} (hr : rightB d = true) (hn : d.Nums) (hs : (printB d).size ≤ 16384) (hg : TG w) : Calls Tryz.prog 18 #[.string (printB d)] w fun e w' => Below w.heap.size w w' ∧
    ∃ (v0 v1 v2 v3 v4 : Value) (F : List Nat), e = .returned (.tuple #[.agg #[v0, v1, v2, v3, v4], .int .i64 (printB d).size, .int .i64 0]) ∧ OwnIn w' w.heap.size d v0 v1 v2 v3 v4 F ∧ F.Nodup := by
  refine Calls.mono (Parse_any (w := w) (printB d) hs hg) ?_
  intro e w' h
  have h0 : readP (printB d).data.toList = .ok d [] := by rw [printB_list]; exact right_reads hr hn
  rw [h0] at h
  exact h
set_option maxHeartbeats 4000000 in
set_option maxRecDepth 100000 in
theorem tback_law {d : D} {v0 v1 v2 v3 v4 : Value} {w : World} (hn : d.Nums) (hd : DocIn w w.heap.size d v0 v1 v2 v3 v4) (hg : TG w) : Calls Tryz.prog 4 #[.agg #[v0, v1, v2, v3, v4]] w fun e w' => e = .returned (.bool true) ∧ Below w.heap.size w w' := by
  obtain ⟨A3, c3, A4, c4, rfl, rfl, rfl, rfl, rfl⟩ := hd.forms
  have hb0 : Below w.heap.size w (w.alloc (.cells #[.int .i64 d.kind, .int .i64 d.num, .string d.str, .slice A3 d.keys.length c3, .slice A4 d.kids.length c4] 25)) := (Below.refl _ _).alloc (Nat.le_refl _) _
  have H0 := Lib.hid (HoldD.new hd)
  have HB0 := Lib.hid hb0; have HG0 := Lib.hid (hg.next hb0)
  have HN := Lib.hid hn
  clear hd hg hn hb0
  go_enter Tryz.func4, Tryz.ntmps4
  go_wp2_with fail
  refine (tx_small HG0.out).mono ?_
  rintro e w1 ⟨rfl, hb⟩
  have H1 := Lib.hid (H0.out.next hb); have HG1 := Lib.hid (HG0.out.next hb); have HB1 := Lib.hid (HB0.out.trans (hb.mono HB0.out.size))
  clear hb H0 HG0 HB0
  obtain ⟨f0, f1, f2, f3, f4⟩ := H1.out.box.cells
  go_wp2_with fail
  refine (few_v (Nat.le_refl _) H1.out.v).mono ?_
  rintro e w2 ⟨rfl, hb⟩
  have H2 := Lib.hid (H1.out.next hb); have HG2 := Lib.hid (HG1.out.next hb); have HB2 := Lib.hid (HB1.out.trans (hb.mono HB1.out.size))
  clear hb H1 HG1 HB1 f0 f1 f2 f3 f4
  obtain ⟨f0, f1, f2, f3, f4⟩ := H2.out.box.cells
  cases hfew : fewB d with
  | false =>
    clear hfew
    go_wp2_with fail
    go_ret
    exact ⟨rfl, HB2.out⟩
  | true =>
    have HFEW := Lib.hid hfew
    clear hfew
    go_wp2_with fail
    refine (right_v (few_fit_ HFEW.out) (Nat.le_refl _) H2.out.v).mono ?_
    rintro e w3 ⟨rfl, hb⟩
    have H3 := Lib.hid (H2.out.next hb); have HG3 := Lib.hid (HG2.out.next hb); have HB3 := Lib.hid (HB2.out.trans (hb.mono HB2.out.size))
    clear hb H2 HG2 HB2 f0 f1 f2 f3 f4
    obtain ⟨f0, f1, f2, f3, f4⟩ := H3.out.box.cells
    cases hri : rightB d with
    | false =>
      clear hri
      go_wp2_with fail
      go_ret
      exact ⟨rfl, HB3.out⟩
    | true =>
      have HRI := Lib.hid hri
      clear hri
      go_wp2_with fail
      refine (print_h HFEW.out HN.out H3.out HG3.out).mono ?_
      rintro e w4 ⟨rfl, hb⟩
      have H4 := Lib.hid (H3.out.next hb); have HG4 := Lib.hid (HG3.out.next hb); have HB4 := Lib.hid (HB3.out.trans (hb.mono HB3.out.size))
      clear hb H3 HG3 HB3 f0 f1 f2 f3 f4
      obtain ⟨f0, f1, f2, f3, f4⟩ := H4.out.box.cells
      obtain ⟨s, hs⟩ : ∃ s, s = printB d := ⟨_, rfl⟩
      rw [← hs]
      have HS := Lib.hid hs
      clear hs
      by_cases hlen : 16384 < s.size
      · go_wp2_with fail
        go_ret
        exact ⟨rfl, HB4.out⟩
      · have HP := Lib.hid (parse_h (w := w4) HRI.out HN.out (by rw [← HS.out]; omega) HG4.out)
        have e0 : (s.toList == s.toList) = true := by simp
        go_wp2_with fail
        have HP' := HP.out
        rw [← HS.out] at HP'
        refine HP'.mono ?_
        clear HP HP'
        rintro e w5 ⟨hb, y0, y1, y2, y3, y4, F, rfl, hO, hF⟩
        obtain ⟨A7, c7, A8, c8, rfl, rfl, rfl, rfl, rfl⟩ := hO.doc.forms
        have H5 := Lib.hid (H4.out.next hb); have HG5 := Lib.hid (HG4.out.next hb); have HB5 := Lib.hid (HB4.out.trans (hb.mono HB4.out.size))
        have hx := HoldD.new hO.doc
        have hb6 : Below w5.heap.size w5 (w5.alloc (.cells #[.int .i64 d.kind, .int .i64 d.num, .string d.str, .slice A7 d.keys.length c7, .slice A8 d.kids.length c8] 25)) := (Below.refl _ _).alloc (Nat.le_refl _) _
        clear hb H4 HG4 HB4 f0 f1 f2 f3 f4 hO hF
        go_upto_region 9 with fail
        obtain ⟨w6, hw6⟩ : ∃ W, W = w5.alloc (.cells #[.int .i64 d.kind, .int .i64 d.num, .string d.str, .slice A7 d.keys.length c7, .slice A8 d.kids.length c8] 25) := ⟨_, rfl⟩
        rw [← hw6] at hx hb6 ⊢
        have H6 := Lib.hid (H5.out.next hb6); have HG6 := Lib.hid (HG5.out.next hb6); have HB6 := Lib.hid (HB5.out.trans (hb6.mono HB5.out.size))
        have HX6 := Lib.hid hx
        clear hx hb6 hw6 H5 HG5 HB5
        obtain ⟨f0, f1, f2, f3, f4⟩ := H6.out.box.cells
        obtain ⟨x0, x1, x2, x3, x4⟩ := HX6.out.box.cells
        have HC := same_v (few_fit_ HFEW.out) (few_fit_ HFEW.out) (Nat.le_refl _) HX6.out.v H6.out.v
        rw [same_self] at HC
        have HC := Lib.hid HC
        go_wp2_with fail
        refine HC.out.mono ?_
        rintro e w7 ⟨rfl, hb⟩
        have HX7 := Lib.hid (HX6.out.next hb); have HG7 := Lib.hid (HG6.out.next hb); have HB7 := Lib.hid (HB6.out.trans (hb.mono HB6.out.size))
        clear hb H6 HX6 HG6 HB6 HC f0 f1 f2 f3 f4 x0 x1 x2 x3 x4
        obtain ⟨x0, x1, x2, x3, x4⟩ := HX7.out.box.cells
        go_wp2_with fail
        refine (print_h HFEW.out HN.out HX7.out HG7.out).mono ?_
        rintro e w8 ⟨rfl, hb⟩
        rw [← HS.out]
        have HB8 := Lib.hid (HB7.out.trans (hb.mono HB7.out.size))
        clear hb x0 x1 x2 x3 x4
        go_wp2_with fail
        go_ret
        exact ⟨rfl, HB8.out⟩
end Go.Proofs.YtgklnafliaplkaaGreatDoor
