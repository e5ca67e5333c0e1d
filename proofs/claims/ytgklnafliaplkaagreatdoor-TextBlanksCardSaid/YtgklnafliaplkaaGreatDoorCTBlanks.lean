/-
  TextBlanks: blanks may stand about the signs, and make no other document.
-/
import Derived.Test.YtgklnafliaplkaaGreatDoorCTBack2
import Derived.Test.YtgklnafliaplkaaGreatDoorB01
import Derived.Test.YtgklnafliaplkaaGreatDoorB36
import Derived.Test.YtgklnafliaplkaaGreatDoorB38
import Derived.StillTailTactics
import Derived.Deep.Cut
import Derived.Deep.CutRange
namespace Go.Proofs.YtgklnafliaplkaaGreatDoor
open Go.RowKit

/-- A slice of numbers: nil let in. -/
def Ints (w : World) (B : Nat) (v : Value) (xs : List Int) : Prop :=
  ∃ (A : Option Addr) (c : Nat), v = .slice A xs.length c ∧ xs.length ≤ c ∧
    (0 < xs.length → ∃ b off, A = some ⟨b, off, none⟩ ∧ b < B ∧ ∀ (i : Nat) (h : i < xs.length), w.cell? ⟨b, off + i, none⟩ = some (.int .i64 xs[i]))
theorem and3 (x : Int) : ∃ m : Nat, m < 4 ∧ bits .and .i64 x 3 = (m : Int) := by
  refine ⟨(BitVec.ofInt 64 x &&& BitVec.ofInt 64 3).toNat, ?_, ?_⟩
  · rw [BitVec.toNat_and]
    exact Nat.lt_succ_of_le (Nat.le_trans Nat.and_le_right (by decide))
  · have h : (BitVec.ofInt 64 x &&& BitVec.ofInt 64 3).toNat < 4 := by
      rw [BitVec.toNat_and]
      exact Nat.lt_succ_of_le (Nat.le_trans Nat.and_le_right (by decide))
    have h2 : bits .and .i64 x 3 = IntKind.i64.wrap ((BitVec.ofInt 64 x &&& BitVec.ofInt 64 3).toNat : Int) := rfl
    rw [h2, IntKind.wrap_i64]
    omega
theorem blank_at : ∀ n : Fin 4, blankC ((⟨#[32, 9, 10, 13]⟩ : ByteArray)[n.val]'(n.isLt)) = true := by decide
theorem take_byteB {s : ByteArray} {k : Nat} (h : k < s.size) : s.data.toList.take (k + 1) = s.data.toList.take k ++ [s[k]] := by
  rw [List.take_succ_eq_append_getElem (by simpa using h)]; rfl
theorem app_list (a b : ByteArray) : (a ++ b).data.toList = a.data.toList ++ b.data.toList := by rw [ByteArray.data_append, Array.toList_append]
/-- What the loop has made so far. -/
structure BlSt (s : ByteArray) (i k : Nat) (t : ByteArray) : Prop where
  bl : Bl (s.data.toList.take i) t.data.toList
  sz : t.size ≤ i + 2 * k
theorem BlSt.start (s : ByteArray) : BlSt s 0 0 ⟨#[]⟩ := ⟨by simpa using Bl.nil, by simp [ByteArray.size]⟩
theorem BlSt.plain {s t : ByteArray} {i k : Nat} (h : BlSt s i k t) (hi : i < s.size) (hc : s[i] ≠ 34) : BlSt s (i + 1) k (t ++ ⟨#[s[i]]⟩) :=
  ⟨by rw [take_byteB hi, app_list]; exact h.bl.add hc, by have := h.sz; rw [ByteArray.size_append]; show t.size + 1 ≤ _; omega⟩
theorem BlSt.sign {s t : ByteArray} {i k : Nat} (h : BlSt s i k t) (hi : i < s.size) {b : UInt8} (hc : signC s[i] = true) (hb : blankC b = true) : BlSt s (i + 1) (k + 1) (t ++ ⟨#[b, s[i], b]⟩) :=
  ⟨by rw [take_byteB hi, app_list]; exact h.bl.add3 hc hb hb, by have := h.sz; rw [ByteArray.size_append]; show t.size + 3 ≤ _; omega⟩
theorem parse_bl {d : D} {w : World} {t : ByteArray} (hr : rightB d = true) (hn : d.Nums) (h : Bl (printD d) t.data.toList) (hs : t.size ≤ 16384) (hg : TG w) : Calls Tryz.prog 18 #[.string t] w fun e w' => Below w.heap.size w w' ∧
    ∃ (v0 v1 v2 v3 v4 : Value) (F : List Nat), e = .returned (.tuple #[.agg #[v0, v1, v2, v3, v4], .int .i64 (t.size : Nat), .int .i64 0]) ∧ OwnIn w' w.heap.size d v0 v1 v2 v3 v4 F ∧ F.Nodup := by
  refine Calls.mono (Parse_any (w := w) t hs hg) ?_
  intro e w' h'
  have h0 : readP t.data.toList = .ok d [] := readP_rel h (right_reads hr hn)
  rw [h0] at h'
  exact h'
set_option maxHeartbeats 8000000 in
set_option maxRecDepth 100000 in
theorem tblanks_law {d : D} {v0 v1 v2 v3 v4 vb : Value} {ns : List Int} {w : World} (hn : d.Nums) (hd : DocIn w w.heap.size d v0 v1 v2 v3 v4) (hi : Ints w w.heap.size vb ns) (hg : TG w) : Calls Tryz.prog 5 #[.agg #[v0, v1, v2, v3, v4], vb] w fun e w' => e = .returned (.bool true) ∧ Below w.heap.size w w' := by
  obtain ⟨A3, c3, A4, c4, rfl, rfl, rfl, rfl, rfl⟩ := hd.forms
  obtain ⟨A5, c5, rfl, hc5, hcl⟩ := hi
  obtain ⟨nb, hnb⟩ : ∃ nb, nb = ns.length := ⟨_, rfl⟩
  rw [← hnb] at hc5 ⊢
  have HNB := Lib.hid hnb; have HCL := Lib.hid hcl
  have hb0 : Below w.heap.size w (w.alloc (.cells #[.int .i64 d.kind, .int .i64 d.num, .string d.str, .slice A3 d.keys.length c3, .slice A4 d.kids.length c4] 25)) := (Below.refl _ _).alloc (Nat.le_refl _) _
  have H0 := Lib.hid (HoldD.new hd)
  have HB0 := Lib.hid hb0; have HG0 := Lib.hid (hg.next hb0)
  have HN := Lib.hid hn
  clear hd hg hn hb0 hnb hcl
  go_enter Tryz.func5, Tryz.ntmps5
  go_wp2_with fail
  refine (tx_small HG0.out).mono ?_
  rintro e w1 ⟨rfl, hb⟩
  have H1 := Lib.hid (H0.out.next hb); have HG1 := Lib.hid (HG0.out.next hb); have HB1 := Lib.hid (HB0.out.trans (hb.mono HB0.out.size))
  clear hb H0 HG0 HB0
  obtain ⟨f0, f1, f2, f3, f4⟩ := H1.out.box.cells
  go_wp2_with fail
  refine (few_v (Nat.le_refl _) H1.out.v).mono ?_
  rintro e w2 ⟨rfl, hb⟩
  have H2 := Lib.hid (H1.out.next hb); have HG2 := Lib.hid (HG1.out.next hb); have HB2 := Lib.hid (HB1.out.trans (hb.mono HB1.out.size))
  clear hb H1 HG1 HB1 f0 f1 f2 f3 f4
  obtain ⟨f0, f1, f2, f3, f4⟩ := H2.out.box.cells
  cases hfew : fewB d with
  | false =>
    clear hfew
    go_wp2_with fail
    go_ret
    exact ⟨rfl, HB2.out⟩
  | true =>
    have HFEW := Lib.hid hfew
    clear hfew
    go_wp2_with fail
    refine (right_v (few_fit_ HFEW.out) (Nat.le_refl _) H2.out.v).mono ?_
    rintro e w3 ⟨rfl, hb⟩
    have H3 := Lib.hid (H2.out.next hb); have HG3 := Lib.hid (HG2.out.next hb); have HB3 := Lib.hid (HB2.out.trans (hb.mono HB2.out.size))
    clear hb H2 HG2 HB2 f0 f1 f2 f3 f4
    obtain ⟨f0, f1, f2, f3, f4⟩ := H3.out.box.cells
    cases hri : rightB d with
    | false =>
      clear hri
      go_wp2_with fail
      go_ret
      exact ⟨rfl, HB3.out⟩
    | true =>
      have HRI := Lib.hid hri
      clear hri
      by_cases h50 : 50 < nb
      · have g1 : decide ((50 : Int) < (nb : Int)) = true := by simp; omega
        go_wp2_with fail
        go_ret
        exact ⟨rfl, HB3.out⟩
      have g1 : decide ((50 : Int) < (nb : Int)) = false := by simp; omega
      have hsz : d.size ≤ 10000 := by
        have h' : FewP d 20 := by simpa [fewB] using HFEW.out
        have := h'.size; omega
      have HSC := Lib.hid (size_any d.depth d _ _ _ _ _ w3 w3.heap.size (Nat.le_refl _) hsz (Nat.le_refl _) (H3.out.doc.keep (Nat.le_of_lt H3.out.box.lt) fun _ _ => rfl))
      clear hsz
      go_wp2_with fail
      refine HSC.out.mono ?_
      clear HSC
      rintro e w4 ⟨rfl, hb⟩
      have H4 := Lib.hid (H3.out.next hb); have HG4 := Lib.hid (HG3.out.next hb); have HB4 := Lib.hid (HB3.out.trans (hb.mono HB3.out.size))
      clear hb H3 HG3 HB3 f0 f1 f2 f3 f4
      obtain ⟨f0, f1, f2, f3, f4⟩ := H4.out.box.cells
      by_cases h100 : 100 < d.size
      · have g2 : decide ((100 : Int) < (d.size : Int)) = true := by simp; omega
        clear h100
        go_wp2_with fail
        go_ret
        exact ⟨rfl, HB4.out⟩
      have g2 : decide ((100 : Int) < (d.size : Int)) = false := by simp; omega
      have HSI := Lib.hid (show d.size ≤ 100 by omega)
      clear h100
      go_wp2_with fail
      refine (print_h HFEW.out HN.out H4.out HG4.out).mono ?_
      rintro e w5 ⟨rfl, hb⟩
      have H5 := Lib.hid (H4.out.next hb); have HG5 := Lib.hid (HG4.out.next hb); have HB5 := Lib.hid (HB4.out.trans (hb.mono HB4.out.size))
      clear hb H4 HG4 HB4 f0 f1 f2 f3 f4 g1 g2
      have hlen := few_len HFEW.out HN.out
      obtain ⟨s, hs⟩ : ∃ s, s = printB d := ⟨_, rfl⟩
      have hsl : s.size ≤ 4000000 := by rw [hs, printB_size]; exact hlen
      clear hlen
      rw [← hs]
      have HS := Lib.hid hs
      clear hs
      go_wp2_with fail
      go_loopw [8, 9, 10] (fun t k i wr => ∃ (i0 k0 : Nat) (tb : ByteArray), i0 ≤ s.size ∧ k0 ≤ nb ∧ t = .string tb ∧ k = .int .i64 k0 ∧ i = .int .i64 i0 ∧ Hid (BlSt s i0 k0 tb) ∧ Hid (Below w5.heap.size w5 wr)) (fun _ _ i _ => s.size - (intOf i).toNat)
      case atStart => exact ⟨0, 0, ⟨#[]⟩, Nat.zero_le _, Nat.zero_le _, rfl, rfl, rfl, Lib.hid (BlSt.start s), Lib.hid (Below.refl _ _)⟩
      case round =>
        obtain ⟨i0, k0, tb, hi0, hk0, rfl, rfl, rfl, HBL, HBW⟩ := hrel
        have htz : tb.size ≤ 8000000 := by have := HBL.out.sz; omega
        by_cases hlt : i0 < s.size
        · have hi1 : (0 : Int) ≤ (i0 : Int) := by omega
          have hi2 : (i0 : Int) < (s.size : Int) := by omega
          by_cases hq : s[i0].toNat = 34
          · have e0 : ((s[i0].toNat : Int) == 34) = true := by simp; omega
            clear hq
            go_wp2_with fail
            go_ret
            exact ⟨rfl, HB5.out.trans (HBW.out.mono HB5.out.size)⟩
          have e0 : ((s[i0].toNat : Int) == 34) = false := by simp; omega
          have HQ := Lib.hid (show s[i0] ≠ 34 from fun e => hq (by rw [e]; rfl))
          clear hq
          go_upto_region 13 with fail
          go_cut [11] from 50 to 83 (fun s11 wx => s11 = .bool (signC s[i0]) ∧ wx = wr)
          case first =>
            by_cases q1 : s[i0].toNat = 123
            · have e1 : ((s[i0].toNat : Int) == 123) = true := by simp; omega
              have es : signC s[i0] = true := by simp [signC, q1]
              clear q1
              go_wp2_with fail
              go_meet
              exact ⟨by rw [es], rfl⟩
            have e1 : ((s[i0].toNat : Int) == 123) = false := by simp; omega
            by_cases q2 : s[i0].toNat = 125
            · have e2 : ((s[i0].toNat : Int) == 125) = true := by simp; omega
              have es : signC s[i0] = true := by simp [signC, q2]
              clear q1 q2
              go_wp2_with fail
              go_meet
              exact ⟨by rw [es], rfl⟩
            have e2 : ((s[i0].toNat : Int) == 125) = false := by simp; omega
            by_cases q3 : s[i0].toNat = 91
            · have e3 : ((s[i0].toNat : Int) == 91) = true := by simp; omega
              have es : signC s[i0] = true := by simp [signC, q3]
              clear q1 q2 q3
              go_wp2_with fail
              go_meet
              exact ⟨by rw [es], rfl⟩
            have e3 : ((s[i0].toNat : Int) == 91) = false := by simp; omega
            by_cases q4 : s[i0].toNat = 93
            · have e4 : ((s[i0].toNat : Int) == 93) = true := by simp; omega
              have es : signC s[i0] = true := by simp [signC, q4]
              clear q1 q2 q3 q4
              go_wp2_with fail
              go_meet
              exact ⟨by rw [es], rfl⟩
            have e4 : ((s[i0].toNat : Int) == 93) = false := by simp; omega
            by_cases q5 : s[i0].toNat = 44
            · have e5 : ((s[i0].toNat : Int) == 44) = true := by simp; omega
              have es : signC s[i0] = true := by simp [signC, q5]
              clear q1 q2 q3 q4 q5
              go_wp2_with fail
              go_meet
              exact ⟨by rw [es], rfl⟩
            have e5 : ((s[i0].toNat : Int) == 44) = false := by simp; omega
            by_cases q6 : s[i0].toNat = 61
            · have e6 : ((s[i0].toNat : Int) == 61) = true := by simp; omega
              have es : signC s[i0] = true := by simp [signC, q6]
              clear q1 q2 q3 q4 q5 q6
              go_wp2_with fail
              go_meet
              exact ⟨by rw [es], rfl⟩
            have e6 : ((s[i0].toNat : Int) == 61) = false := by simp; omega
            have es : signC s[i0] = false := by simp [signC, q1, q2, q3, q4, q5, q6]
            clear q1 q2 q3 q4 q5 q6
            go_wp2_with fail
            go_meet
            exact ⟨by rw [es], rfl⟩
          case rest =>
            obtain ⟨rfl, rfl⟩ := hcut
            have hzr : w5.heap.size ≤ wc.heap.size := HBW.out.size
            by_cases hsg : signC s[i0] = true ∧ k0 < nb
            · obtain ⟨hsg, hkn⟩ := hsg
              have hk1 : (0 : Int) ≤ (k0 : Int) := by omega
              have hk2 : (k0 : Int) < (nb : Int) := by omega
              rw [hsg]
              have HSG := Lib.hid hsg
              obtain ⟨bb, off, rfl, hbb, hce⟩ := HCL.out (by rw [← HNB.out]; omega)
              obtain ⟨x, hx⟩ : ∃ x, x = ns[k0]'(by rw [← HNB.out]; omega) := ⟨_, rfl⟩
              have gk := hce k0 (by rw [← HNB.out]; omega)
              rw [← hx] at gk
              have gk' : wc.cell? ⟨bb, off + k0, none⟩ = some (.int .i64 x) := (HBW.out.cell (p := ⟨bb, off + k0, none⟩) (by show bb < _; have := HB5.out.size; omega)).trans ((HB5.out.cell (p := ⟨bb, off + k0, none⟩) hbb).trans gk)
              obtain ⟨m, hm4, eb⟩ := and3 x
              have hm1 : (0 : Int) ≤ (m : Int) := by omega
              have hm2 : (m : Int) < 4 := by omega
              have HBLK := Lib.hid (blank_at ⟨m, hm4⟩)
              clear hx gk hce hsg
              go_upto_region 16 with fail
              have hcat : ¬ 9223372036854775807 < tb.size + 3 := by omega
              have ec3 := run_conv3d wc (g := wc.heap.size) rfl ((⟨#[32, 9, 10, 13]⟩ : ByteArray)[m]'hm4) s[i0] ((⟨#[32, 9, 10, 13]⟩ : ByteArray)[m]'hm4)
              go_region_law (fail)
              all_goals (
                go_wp2_with fail
                go_roundw
                case rel => exact ⟨i0 + 1, k0 + 1, _, by omega, by omega, rfl, by go_num, by go_num, Lib.hid (HBL.out.sign hlt HSG.out HBLK.out), Lib.hid ((HBW.out.drew).alloc hzr _)⟩
                case measure => simp [intOf]; omega)
            · have hno : (signC s[i0] = true ∧ k0 < nb) → False := hsg
              have ec := run_conv1 wc (g := wc.heap.size) rfl s[i0]
              by_cases hsg : signC s[i0] = true
              · have hkn : ¬ (k0 : Int) < (nb : Int) := fun h => hno ⟨hsg, by omega⟩
                rw [hsg]
                clear hno hsg
                go_wp2_with fail
                go_roundw
                case rel => exact ⟨i0 + 1, k0, _, by omega, by omega, rfl, by go_num, by go_num, Lib.hid (HBL.out.plain hlt HQ.out), Lib.hid (HBW.out.alloc hzr _)⟩
                case measure => simp [intOf]; omega
              · have hsg : signC s[i0] = false := by simpa using hsg
                rw [hsg]
                clear hno hsg
                go_wp2_with fail
                go_roundw
                case rel => exact ⟨i0 + 1, k0, _, by omega, by omega, rfl, by go_num, by go_num, Lib.hid (HBL.out.plain hlt HQ.out), Lib.hid (HBW.out.alloc hzr _)⟩
                case measure => simp [intOf]; omega
        · have hii : i0 = s.size := by omega
          have hbl : Bl (printD d) tb.data.toList := by
            have h1 := HBL.out.bl
            rw [hii, List.take_of_length_le (by simp), HS.out, printB_list] at h1
            exact h1
          have hlen := noq_len HRI.out HN.out HSI.out hbl.noq
          have hsz2 : s.size ≤ 4600 := by rw [HS.out, printB_size]; exact hlen
          have htz2 : tb.size ≤ 16384 := by have := HBL.out.sz; omega
          have H6 := Lib.hid (H5.out.next HBW.out); have HG6 := Lib.hid (HG5.out.next HBW.out); have HB6 := Lib.hid (HB5.out.trans (HBW.out.mono HB5.out.size))
          have HP := Lib.hid (parse_bl (w := wr) HRI.out HN.out hbl htz2 HG6.out)
          clear hbl hlen hsz2 hii HBL
          go_wp2_with fail
          refine HP.out.mono ?_
          clear HP
          rintro e w7 ⟨hb, y0, y1, y2, y3, y4, F, rfl, hO, hF⟩
          obtain ⟨A7, c7, A8, c8, rfl, rfl, rfl, rfl, rfl⟩ := hO.doc.forms
          have H7 := Lib.hid (H6.out.next hb); have HB7 := Lib.hid (HB6.out.trans (hb.mono HB6.out.size))
          have hx := HoldD.new hO.doc
          have hb8 : Below w7.heap.size w7 (w7.alloc (.cells #[.int .i64 d.kind, .int .i64 d.num, .string d.str, .slice A7 d.keys.length c7, .slice A8 d.kids.length c8] 25)) := (Below.refl _ _).alloc (Nat.le_refl _) _
          clear hb H6 HG6 HB6 hO hF
          go_upto_region 20 with fail
          obtain ⟨w8, hw8⟩ : ∃ W, W = w7.alloc (.cells #[.int .i64 d.kind, .int .i64 d.num, .string d.str, .slice A7 d.keys.length c7, .slice A8 d.kids.length c8] 25) := ⟨_, rfl⟩
          rw [← hw8] at hx hb8 ⊢
          have H8 := Lib.hid (H7.out.next hb8); have HB8 := Lib.hid (HB7.out.trans (hb8.mono HB7.out.size))
          have HX8 := Lib.hid hx
          clear hx hb8 hw8 H7 HB7
          obtain ⟨f0, f1, f2, f3, f4⟩ := H8.out.box.cells
          obtain ⟨x0, x1, x2, x3, x4⟩ := HX8.out.box.cells
          have HC := same_v (few_fit_ HFEW.out) (few_fit_ HFEW.out) (Nat.le_refl _) HX8.out.v H8.out.v
          rw [same_self] at HC
          have HC := Lib.hid HC
          go_wp2_with fail
          refine HC.out.mono ?_
          rintro e w9 ⟨rfl, hb⟩
          have HB9 := Lib.hid (HB8.out.trans (hb.mono HB8.out.size))
          clear hb f0 f1 f2 f3 f4 x0 x1 x2 x3 x4
          go_wp2_with fail
          go_ret
          exact ⟨rfl, HB9.out⟩
end Go.Proofs.YtgklnafliaplkaaGreatDoor
