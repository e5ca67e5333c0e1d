/-
  The reader: documents of some levels.
-/
import Derived.Test.YtgklnafliaplkaaGreatDoorB21
namespace Go.Proofs.YtgklnafliaplkaaGreatDoor
open Go.RowKit

set_option maxHeartbeats 8000000 in
set_option maxRecDepth 100000 in
theorem doc_succ {r n : Nat} {s : ByteArray} (hs : s.size ≤ 1000000) (hn : n ≤ 11) (IH : DReads r s n) : DReads r s (n + 1) := by
  intro l p w h hp
  have hmf : ∀ (fn : Fn) (first cap : Array Value) (w : World), (Instr.makeFunc fn first cap).run Tryz.prog w = .ok (.func fn first cap) w := fun _ _ _ _ => rfl
  have HR := Lib.hid h; have HIH := Lib.hid IH
  have hrb := h.block
  clear h IH
  obtain ⟨dp, hdp⟩ : ∃ dp : Int, dp = 13 - ((n + 1 : Nat) : Int) := ⟨_, rfl⟩
  have hd1 : dp = 12 - (n : Int) := by omega
  have hd2 : ¬ (12 : Int) < dp := by omega
  have HD1 := Lib.hid hd1
  rw [← hdp]
  clear hdp hd1
  go_enter Tryz.func36, Tryz.ntmps36
  go_wp2_with fail
  obtain ⟨b, hb⟩ : ∃ b, b = w.heap.size := ⟨_, rfl⟩
  obtain ⟨w1, hw1⟩ : ∃ w1, w1 = w.alloc (.cells #[.int .i64 0, .int .i64 0, .string ⟨#[]⟩, .slice none 0 0, .slice none 0 0] 25) := ⟨_, rfl⟩
  have HR1 : Hid (RdL w1 r s l p) := Lib.hid (by rw [hw1]; exact HR.out.alloc _)
  have HT1 : Hid (Turned w w1 [] r) := Lib.hid (by rw [hw1]; exact Turned.of_below ((Below.refl _ _).alloc (Nat.le_refl _) _) _ _)
  have hb1 : b < w1.heap.size := by rw [hw1, hb]; simp
  have HBX : Hid (∀ X, Turned w1 X [] r → Box5 X b (.int .i64 0) (.int .i64 0) (.string ⟨#[]⟩) (.slice none 0 0) (.slice none 0 0)) := Lib.hid fun X hX => by
    have h1 : Box5 w1 b (.int .i64 0) (.int .i64 0) (.string ⟨#[]⟩) (.slice none 0 0) (.slice none 0 0) := by rw [hw1]; exact heap_alloc_new' hb.symm _
    exact h1.same (hX.block b hb1 (by simp) (by omega))
  have hbw : w.heap.size ≤ b := by omega
  rw [← hw1, ← hb]
  clear hw1 hb
  refine (blanks_l HR1.out (by omega)).mono ?_
  rintro e w2 ⟨rfl, hr2, ht2⟩
  have HR2 := Lib.hid hr2; have HT2 := Lib.hid ht2
  clear hr2 ht2
  obtain ⟨l1, hl1⟩ : ∃ l1, l1 = skipL l := ⟨_, rfl⟩
  have HL1 := Lib.hid hl1
  rw [← hl1] at HR2
  clear hl1
  go_wp2_with fail
  refine (peek_t HR2.out).mono ?_
  rintro e w3 ⟨rfl, hr3, ht3⟩
  have HR3 := Lib.hid hr3; have HT3 := Lib.hid (HT2.out.trans ht3)
  clear hr3 ht3
  obtain ⟨k, hk⟩ : ∃ k, k = s.size - l1.length := ⟨_, rfl⟩
  have HK := Lib.hid hk
  clear hk
  obtain ⟨c, hc⟩ : ∃ c, c = pk l1 := ⟨_, rfl⟩
  rw [← hc]
  have HC := Lib.hid hc
  clear hc
  go_wp2_with fail
  refine (Tryz.strings_IndexByte _ _ _).mono ?_
  rintro e w4 ⟨rfl, rfl⟩
  have hix : decide (Lib.indexByte [123, 60, 91, 116, 102, 34, 45, 48, 49, 50, 51, 52, 53, 54, 55, 56, 57] ((c.toNat : Int).toNat.toUInt8) < 0) = !firstB c := by
    have h1 := first_index c
    simpa using h1
  obtain ⟨ix, hixe⟩ : ∃ ix, ix = Lib.indexByte [123, 60, 91, 116, 102, 34, 45, 48, 49, 50, 51, 52, 53, 54, 55, 56, 57] ((c.toNat : Int).toNat.toUInt8) := ⟨_, rfl⟩
  simp only [← hixe] at hix ⊢
  clear hixe
  obtain ⟨c0, c1, c2, cf⟩ := HR3.out.cells HK.out
  have f2 := cf 2
  clear cf
  cases hf : firstB c with
  | false =>
    have hix0 : ix < 0 := by rw [hf] at hix; simpa using hix
    have HG : Hid (docP (n + 1) l p = .bad l1 4) := Lib.hid (by rw [HL1.out]; exact docP_first (by rw [← HL1.out, ← HC.out]; exact hf))
    clear hf hix
    go_wp2_with fail
    refine (fail_any (k : Int) 4 _).mono ?_
    rintro e w5 ⟨he, rfl⟩
    unfold Failed at he
    subst he
    exact ⟨rfl, DocTo.failed HG.out HK.out (HT1.out.trans HT3.out)⟩
  | true =>
    have hix0 : ¬ ix < 0 := by rw [hf] at hix; simpa using hix
    have HGF : Hid (firstB (pk (skipL l)) = true) := Lib.hid (by rw [← HL1.out, ← HC.out]; exact hf)
    have HNE : Hid (l1 ≠ []) := Lib.hid (firstB_ne (by rw [← HC.out]; exact hf))
    have HMO := Lib.hid HR3.out.more
    clear hf hix
    by_cases hfull : 512 < p + 1
    · have HG : Hid (docP (n + 1) l p = .bad l1 2) := Lib.hid (by rw [HL1.out]; exact docP_full HGF.out hfull)
      have hfi : (512 : Int) < (p : Int) + 1 := by omega
      clear hfull
      go_wp2_with fail
      refine (fail_any (k : Int) 2 _).mono ?_
      rintro e w5 ⟨he, rfl⟩
      unfold Failed at he
      subst he
      exact ⟨rfl, DocTo.failed HG.out HK.out (HT1.out.trans (HT3.out.trans HMO.out.2))⟩
    · have HG : Hid (docP (n + 1) l p = partP (docP n) l1 (p + 1)) := Lib.hid (by rw [HL1.out]; exact docP_part HGF.out hfull)
      have hfi : ¬ (512 : Int) < (p : Int) + 1 := by omega
      have hp1 : p + 1 ≤ 512 := by omega
      clear hfull
      go_upto_region 10 with fail
      obtain ⟨w5, hw5⟩ : ∃ w5, w5 = w4.setCell ⟨r, 2, none⟩ (.int .i64 ((p : Int) + 1)) := ⟨_, rfl⟩
      have HR5 : Hid (RdL w5 r s l1 (p + 1)) := Lib.hid (by rw [hw5]; exact HMO.out.1)
      have HT5 : Hid (Turned w1 w5 [] r) := Lib.hid (by rw [hw5]; exact HT3.out.trans HMO.out.2)
      rw [← hw5]
      have hb5 : b < w5.heap.size := Nat.lt_of_lt_of_le hb1 HT5.out.size
      have HNN : Hid (∀ d : UInt8, d ≠ c → pk l1 ≠ d) := Lib.hid fun d hd hh => hd (by rw [← hh, HC.out])
      clear hw5 c0 c1 c2 f2 HMO HR3 HT3 hix0 hfi
      by_cases h123 : c = 123
      · have e123 : ((c.toNat : Int) == 123) = true := by rw [h123]; rfl
        have HGP : Hid (docP (n + 1) l p = keyedP (docP n) nameP 1 125 61 l1 (p + 1)) := Lib.hid (by rw [HG.out]; unfold partP;  rw [if_pos (by rw [← HC.out]; exact h123)])
        have HCALL := Lib.hid (keyed_l (sign := 61) (e := 125) (by decide) (by decide) 1 HIH.out hn hs (kf := 60) (enters_of Tryz.func60 (by kernel_rfl) rfl) (enters_of Tryz.func78 (by kernel_rfl) rfl) (fun l p w h => name_l h hs) (fun _ _ _ => name_len) HR5.out HNE.out hp1)
        rw [← HD1.out] at HCALL
        clear h123
        go_wp2_with fail
        refine HCALL.out.mono ?_
        clear HCALL
        intro e w6 hto
        rcases hx : keyedP (docP n) nameP 1 125 61 l1 (p + 1) with ⟨d, l6, p6⟩ | ⟨a, q⟩
        rotate_left
        · rw [hx] at hto
          obtain ⟨hf, ht6⟩ := hto
          unfold Failed at hf
          subst hf
          exact ⟨rfl, DocTo.failed (l := a) (by rw [HGP.out]; exact hx) rfl (HT1.out.trans (HT5.out.trans ht6))⟩
        rw [hx] at hto
        obtain ⟨y0, y1, y2, y3, y4, F, rfl, hO, hF, hr6, ht6⟩ := hto
        have HGX : Hid (docP (n + 1) l p = .ok d l6 p6) := Lib.hid (by rw [HGP.out]; exact hx)
        obtain ⟨A7, c7, A8, c8, rfl, rfl, rfl, rfl, rfl⟩ := hO.doc.forms
        clear hx
        have HT6 := Lib.hid ht6; have HR6 := Lib.hid hr6; have HO6 := Lib.hid hO; have HF6 := Lib.hid hF
        have hbx := HBX.out _ (HT5.out.trans ht6)
        obtain ⟨f0, f1, f2, f3, f4⟩ := hbx.cells
        have ff := hbx.frozen
        have HBX6 := Lib.hid hbx
        clear hbx ht6 hr6 hO hF
        go_wp2_with fail
        refine ret_cell5 rfl rfl (((((HBX6.out.set0 _).set1 _).set2 _).set3 _).set4 _).load rfl ?_
        obtain ⟨g1, g2, g3⟩ := five_sets w6 b _ _ _ _ _
        exact doc_store HGX.out HO6.out HF6.out HR6.out HT6.out (HT1.out.trans HT5.out) hbw hb5 hrb g1 g2 g3
      have n123 : ((c.toNat : Int) == 123) = false := by
        simp only [beq_eq_false_iff_ne, ne_eq]; intro hh; exact h123 (byte_eq (d := 123) hh)
      by_cases h60 : c = 60
      · have e60 : ((c.toNat : Int) == 60) = true := by rw [h60]; rfl
        have HGP : Hid (docP (n + 1) l p = keyedP (docP n) shortP 2 62 58 l1 (p + 1)) := Lib.hid (by rw [HG.out]; unfold partP; rw [if_neg (HNN.out 123 (by rw [h60]; decide))]; rw [if_pos (by rw [← HC.out]; exact h60)])
        have HCALL := Lib.hid (keyed_l (sign := 58) (e := 62) (by decide) (by decide) 2 HIH.out hn hs (kf := 61) (enters_of Tryz.func61 (by kernel_rfl) rfl) (enters_of Tryz.func78 (by kernel_rfl) rfl) (fun l p w h => short_l h hs) (fun _ _ _ => short_len) HR5.out HNE.out hp1)
        rw [← HD1.out] at HCALL
        clear h60
        go_wp2_with fail
        refine HCALL.out.mono ?_
        clear HCALL
        intro e w6 hto
        rcases hx : keyedP (docP n) shortP 2 62 58 l1 (p + 1) with ⟨d, l6, p6⟩ | ⟨a, q⟩
        rotate_left
        · rw [hx] at hto
          obtain ⟨hf, ht6⟩ := hto
          unfold Failed at hf
          subst hf
          exact ⟨rfl, DocTo.failed (l := a) (by rw [HGP.out]; exact hx) rfl (HT1.out.trans (HT5.out.trans ht6))⟩
        rw [hx] at hto
        obtain ⟨y0, y1, y2, y3, y4, F, rfl, hO, hF, hr6, ht6⟩ := hto
        have HGX : Hid (docP (n + 1) l p = .ok d l6 p6) := Lib.hid (by rw [HGP.out]; exact hx)
        obtain ⟨A7, c7, A8, c8, rfl, rfl, rfl, rfl, rfl⟩ := hO.doc.forms
        clear hx
        have HT6 := Lib.hid ht6; have HR6 := Lib.hid hr6; have HO6 := Lib.hid hO; have HF6 := Lib.hid hF
        have hbx := HBX.out _ (HT5.out.trans ht6)
        obtain ⟨f0, f1, f2, f3, f4⟩ := hbx.cells
        have ff := hbx.frozen
        have HBX6 := Lib.hid hbx
        clear hbx ht6 hr6 hO hF
        go_wp2_with fail
        refine ret_cell5 rfl rfl (((((HBX6.out.set0 _).set1 _).set2 _).set3 _).set4 _).load rfl ?_
        obtain ⟨g1, g2, g3⟩ := five_sets w6 b _ _ _ _ _
        exact doc_store HGX.out HO6.out HF6.out HR6.out HT6.out (HT1.out.trans HT5.out) hbw hb5 hrb g1 g2 g3
      have n60 : ((c.toNat : Int) == 60) = false := by
        simp only [beq_eq_false_iff_ne, ne_eq]; intro hh; exact h60 (byte_eq (d := 60) hh)
      by_cases h91 : c = 91
      · have e91 : ((c.toNat : Int) == 91) = true := by rw [h91]; rfl
        have HGP : Hid (docP (n + 1) l p = listP (docP n) l1 (p + 1)) := Lib.hid (by rw [HG.out]; unfold partP; rw [if_neg (HNN.out 123 (by rw [h91]; decide))]; rw [if_neg (HNN.out 60 (by rw [h91]; decide))]; rw [if_pos (by rw [← HC.out]; exact h91)])
        have HCALL := Lib.hid (list_l HIH.out hn hs (enters_of Tryz.func84 (by kernel_rfl) rfl) HR5.out HNE.out hp1)
        rw [← HD1.out] at HCALL
        clear h91
        go_wp2_with fail
        refine HCALL.out.mono ?_
        clear HCALL
        intro e w6 hto
        rcases hx : listP (docP n) l1 (p + 1) with ⟨d, l6, p6⟩ | ⟨a, q⟩
        rotate_left
        · rw [hx] at hto
          obtain ⟨hf, ht6⟩ := hto
          unfold Failed at hf
          subst hf
          exact ⟨rfl, DocTo.failed (l := a) (by rw [HGP.out]; exact hx) rfl (HT1.out.trans (HT5.out.trans ht6))⟩
        rw [hx] at hto
        obtain ⟨y0, y1, y2, y3, y4, F, rfl, hO, hF, hr6, ht6⟩ := hto
        have HGX : Hid (docP (n + 1) l p = .ok d l6 p6) := Lib.hid (by rw [HGP.out]; exact hx)
        obtain ⟨A7, c7, A8, c8, rfl, rfl, rfl, rfl, rfl⟩ := hO.doc.forms
        clear hx
        have HT6 := Lib.hid ht6; have HR6 := Lib.hid hr6; have HO6 := Lib.hid hO; have HF6 := Lib.hid hF
        have hbx := HBX.out _ (HT5.out.trans ht6)
        obtain ⟨f0, f1, f2, f3, f4⟩ := hbx.cells
        have ff := hbx.frozen
        have HBX6 := Lib.hid hbx
        clear hbx ht6 hr6 hO hF
        go_wp2_with fail
        refine ret_cell5 rfl rfl (((((HBX6.out.set0 _).set1 _).set2 _).set3 _).set4 _).load rfl ?_
        obtain ⟨g1, g2, g3⟩ := five_sets w6 b _ _ _ _ _
        exact doc_store HGX.out HO6.out HF6.out HR6.out HT6.out (HT1.out.trans HT5.out) hbw hb5 hrb g1 g2 g3
      have n91 : ((c.toNat : Int) == 91) = false := by
        simp only [beq_eq_false_iff_ne, ne_eq]; intro hh; exact h91 (byte_eq (d := 91) hh)
      by_cases h116 : c = 116
      · have e116 : ((c.toNat : Int) == 116) = true := by rw [h116]; rfl
        have HGP : Hid ((∀ v l', wordP [116, 114, 117, 101] l1 = .ok v l' → docP (n + 1) l p = .ok (.mk 5 1 ⟨#[]⟩ [] []) l' (p + 1)) ∧ (∀ a q, wordP [116, 114, 117, 101] l1 = .bad a q → docP (n + 1) l p = .bad a q)) := Lib.hid (by
          rw [HG.out]; unfold partP; rw [if_neg (HNN.out 123 (by rw [h116]; decide))]; rw [if_neg (HNN.out 60 (by rw [h116]; decide))]; rw [if_neg (HNN.out 91 (by rw [h116]; decide))]; rw [if_pos (by rw [← HC.out]; exact h116)]
          exact ⟨fun v l' hv => by simp only [hv], fun a q hv => by simp only [hv]⟩)
        have HCALL := Lib.hid (word_l ⟨#[116, 114, 117, 101]⟩ (by decide) (by decide) HR5.out hs)
        clear h116
        go_wp2_with fail
        refine HCALL.out.mono ?_
        clear HCALL
        intro e w7 hto
        rcases hx : wordP [116, 114, 117, 101] l1 with ⟨v, l6⟩ | ⟨a, q⟩
        rotate_left
        · change TkTo _ _ _ _ (wordP [116, 114, 117, 101] l1) _ _ _ at hto
          rw [hx] at hto
          obtain ⟨hf, ht6⟩ := hto
          unfold Failed at hf
          subst hf
          exact ⟨rfl, DocTo.failed (l := a) (HGP.out.2 _ _ hx) rfl (HT1.out.trans (HT5.out.trans ht6))⟩
        change TkTo _ _ _ _ (wordP [116, 114, 117, 101] l1) _ _ _ at hto
        rw [hx] at hto
        obtain ⟨rfl, hr7, ht7⟩ := hto
        have HGX := Lib.hid (HGP.out.1 _ _ hx)
        have HR7 := Lib.hid hr7; have HT7 := Lib.hid ht7
        clear hx hr7 ht7
        go_wp2_with fail
        refine (bool_v true w7).mono ?_
        rintro e w6 ⟨y0, y1, y2, y3, y4, F, rfl, hO', hF, hb67⟩
        obtain ⟨A7, c7, A8, c8, rfl, rfl, rfl, rfl, rfl⟩ := hO'.doc.forms
        have ht6 : Turned w5 w6 [] r := HT7.out.trans (Turned.of_below hb67 _ _)
        have hr6 := HR7.out.past hb67
        have hO := ownIn_base hO' HT7.out.size
        clear hb67 hO'
        have HT6 := Lib.hid ht6; have HR6 := Lib.hid hr6; have HO6 := Lib.hid hO; have HF6 := Lib.hid hF
        have hbx := HBX.out _ (HT5.out.trans ht6)
        obtain ⟨f0, f1, f2, f3, f4⟩ := hbx.cells
        have ff := hbx.frozen
        have HBX6 := Lib.hid hbx
        clear hbx ht6 hr6 hO hF
        go_wp2_with fail
        refine ret_cell5 rfl rfl (((((HBX6.out.set0 _).set1 _).set2 _).set3 _).set4 _).load rfl ?_
        obtain ⟨g1, g2, g3⟩ := five_sets w6 b _ _ _ _ _
        exact doc_store HGX.out HO6.out HF6.out HR6.out HT6.out (HT1.out.trans HT5.out) hbw hb5 hrb g1 g2 g3
      have n116 : ((c.toNat : Int) == 116) = false := by
        simp only [beq_eq_false_iff_ne, ne_eq]; intro hh; exact h116 (byte_eq (d := 116) hh)
      by_cases h102 : c = 102
      · have e102 : ((c.toNat : Int) == 102) = true := by rw [h102]; rfl
        have HGP : Hid ((∀ v l', wordP [102, 97, 108, 115, 101] l1 = .ok v l' → docP (n + 1) l p = .ok (.mk 5 0 ⟨#[]⟩ [] []) l' (p + 1)) ∧ (∀ a q, wordP [102, 97, 108, 115, 101] l1 = .bad a q → docP (n + 1) l p = .bad a q)) := Lib.hid (by
          rw [HG.out]; unfold partP; rw [if_neg (HNN.out 123 (by rw [h102]; decide))]; rw [if_neg (HNN.out 60 (by rw [h102]; decide))]; rw [if_neg (HNN.out 91 (by rw [h102]; decide))]; rw [if_neg (HNN.out 116 (by rw [h102]; decide))]; rw [if_pos (by rw [← HC.out]; exact h102)]
          exact ⟨fun v l' hv => by simp only [hv], fun a q hv => by simp only [hv]⟩)
        have HCALL := Lib.hid (word_l ⟨#[102, 97, 108, 115, 101]⟩ (by decide) (by decide) HR5.out hs)
        clear h102
        go_wp2_with fail
        refine HCALL.out.mono ?_
        clear HCALL
        intro e w7 hto
        rcases hx : wordP [102, 97, 108, 115, 101] l1 with ⟨v, l6⟩ | ⟨a, q⟩
        rotate_left
        · change TkTo _ _ _ _ (wordP [102, 97, 108, 115, 101] l1) _ _ _ at hto
          rw [hx] at hto
          obtain ⟨hf, ht6⟩ := hto
          unfold Failed at hf
          subst hf
          exact ⟨rfl, DocTo.failed (l := a) (HGP.out.2 _ _ hx) rfl (HT1.out.trans (HT5.out.trans ht6))⟩
        change TkTo _ _ _ _ (wordP [102, 97, 108, 115, 101] l1) _ _ _ at hto
        rw [hx] at hto
        obtain ⟨rfl, hr7, ht7⟩ := hto
        have HGX := Lib.hid (HGP.out.1 _ _ hx)
        have HR7 := Lib.hid hr7; have HT7 := Lib.hid ht7
        clear hx hr7 ht7
        go_wp2_with fail
        refine (bool_v false w7).mono ?_
        rintro e w6 ⟨y0, y1, y2, y3, y4, F, rfl, hO', hF, hb67⟩
        obtain ⟨A7, c7, A8, c8, rfl, rfl, rfl, rfl, rfl⟩ := hO'.doc.forms
        have ht6 : Turned w5 w6 [] r := HT7.out.trans (Turned.of_below hb67 _ _)
        have hr6 := HR7.out.past hb67
        have hO := ownIn_base hO' HT7.out.size
        clear hb67 hO'
        have HT6 := Lib.hid ht6; have HR6 := Lib.hid hr6; have HO6 := Lib.hid hO; have HF6 := Lib.hid hF
        have hbx := HBX.out _ (HT5.out.trans ht6)
        obtain ⟨f0, f1, f2, f3, f4⟩ := hbx.cells
        have ff := hbx.frozen
        have HBX6 := Lib.hid hbx
        clear hbx ht6 hr6 hO hF
        go_wp2_with fail
        refine ret_cell5 rfl rfl (((((HBX6.out.set0 _).set1 _).set2 _).set3 _).set4 _).load rfl ?_
        obtain ⟨g1, g2, g3⟩ := five_sets w6 b _ _ _ _ _
        exact doc_store HGX.out HO6.out HF6.out HR6.out HT6.out (HT1.out.trans HT5.out) hbw hb5 hrb g1 g2 g3
      have n102 : ((c.toNat : Int) == 102) = false := by
        simp only [beq_eq_false_iff_ne, ne_eq]; intro hh; exact h102 (byte_eq (d := 102) hh)
      by_cases h34 : c = 34
      · have e34 : ((c.toNat : Int) == 34) = true := by rw [h34]; rfl
        have HGP : Hid ((∀ v l', shortP l1 = .ok v l' → docP (n + 1) l p = .ok (.mk 6 0 ⟨v.toArray⟩ [] []) l' (p + 1)) ∧ (∀ a q, shortP l1 = .bad a q → docP (n + 1) l p = .bad a q)) := Lib.hid (by
          rw [HG.out]; unfold partP; rw [if_neg (HNN.out 123 (by rw [h34]; decide))]; rw [if_neg (HNN.out 60 (by rw [h34]; decide))]; rw [if_neg (HNN.out 91 (by rw [h34]; decide))]; rw [if_neg (HNN.out 116 (by rw [h34]; decide))]; rw [if_neg (HNN.out 102 (by rw [h34]; decide))]; rw [if_pos (by rw [← HC.out]; exact h34)]
          exact ⟨fun v l' hv => by simp only [hv], fun a q hv => by simp only [hv]⟩)
        have HCALL := Lib.hid (short_l HR5.out hs)
        clear h34
        go_wp2_with fail
        refine HCALL.out.mono ?_
        clear HCALL
        intro e w7 hto
        rcases hx : shortP l1 with ⟨v, l6⟩ | ⟨a, q⟩
        rotate_left
        · change TkTo _ _ _ _ (shortP l1) _ _ _ at hto
          rw [hx] at hto
          obtain ⟨hf, ht6⟩ := hto
          unfold Failed at hf
          subst hf
          exact ⟨rfl, DocTo.failed (l := a) (HGP.out.2 _ _ hx) rfl (HT1.out.trans (HT5.out.trans ht6))⟩
        change TkTo _ _ _ _ (shortP l1) _ _ _ at hto
        rw [hx] at hto
        obtain ⟨rfl, hr7, ht7⟩ := hto
        have HGX := Lib.hid (HGP.out.1 _ _ hx)
        have HR7 := Lib.hid hr7; have HT7 := Lib.hid ht7
        clear hx hr7 ht7
        go_wp2_with fail
        refine (bytes_v ⟨v.toArray⟩ w7).mono ?_
        rintro e w6 ⟨y0, y1, y2, y3, y4, F, rfl, hO', hF, hb67⟩
        obtain ⟨A7, c7, A8, c8, rfl, rfl, rfl, rfl, rfl⟩ := hO'.doc.forms
        have ht6 : Turned w5 w6 [] r := HT7.out.trans (Turned.of_below hb67 _ _)
        have hr6 := HR7.out.past hb67
        have hO := ownIn_base hO' HT7.out.size
        clear hb67 hO'
        have HT6 := Lib.hid ht6; have HR6 := Lib.hid hr6; have HO6 := Lib.hid hO; have HF6 := Lib.hid hF
        have hbx := HBX.out _ (HT5.out.trans ht6)
        obtain ⟨f0, f1, f2, f3, f4⟩ := hbx.cells
        have ff := hbx.frozen
        have HBX6 := Lib.hid hbx
        clear hbx ht6 hr6 hO hF
        go_wp2_with fail
        refine ret_cell5 rfl rfl (((((HBX6.out.set0 _).set1 _).set2 _).set3 _).set4 _).load rfl ?_
        obtain ⟨g1, g2, g3⟩ := five_sets w6 b _ _ _ _ _
        exact doc_store HGX.out HO6.out HF6.out HR6.out HT6.out (HT1.out.trans HT5.out) hbw hb5 hrb g1 g2 g3
      have n34 : ((c.toNat : Int) == 34) = false := by
        simp only [beq_eq_false_iff_ne, ne_eq]; intro hh; exact h34 (byte_eq (d := 34) hh)
      have HGP : Hid ((∀ v l', numberP l1 = .ok v l' → docP (n + 1) l p = .ok (.mk 4 v ⟨#[]⟩ [] []) l' (p + 1)) ∧ (∀ a q, numberP l1 = .bad a q → docP (n + 1) l p = .bad a q)) := Lib.hid (by
        rw [HG.out]; unfold partP; rw [if_neg (by rw [← HC.out]; exact h123)]; rw [if_neg (by rw [← HC.out]; exact h60)]; rw [if_neg (by rw [← HC.out]; exact h91)]; rw [if_neg (by rw [← HC.out]; exact h116)]; rw [if_neg (by rw [← HC.out]; exact h102)]; rw [if_neg (by rw [← HC.out]; exact h34)];
        exact ⟨fun v l' hv => by simp only [hv], fun a q hv => by simp only [hv]⟩)
      have HCALL := Lib.hid (number_l HR5.out (by omega))
      clear h123 h60 h91 h116 h102 h34
      go_wp2_with fail
      refine HCALL.out.mono ?_
      clear HCALL
      intro e w7 hto
      rcases hx : numberP l1 with ⟨v, l6⟩ | ⟨a, q⟩
      rotate_left
      · rw [hx] at hto
        obtain ⟨hf, ht6⟩ := hto
        unfold Failed at hf
        subst hf
        exact ⟨rfl, DocTo.failed (l := a) (HGP.out.2 _ _ hx) rfl (HT1.out.trans (HT5.out.trans ht6))⟩
      rw [hx] at hto
      obtain ⟨rfl, hr7, ht7⟩ := hto
      have HGX := Lib.hid (HGP.out.1 _ _ hx)
      have HR7 := Lib.hid hr7; have HT7 := Lib.hid ht7
      clear hx hr7 ht7
      go_wp2_with fail
      refine (int_v v w7).mono ?_
      rintro e w6 ⟨y0, y1, y2, y3, y4, F, rfl, hO', hF, hb67⟩
      obtain ⟨A7, c7, A8, c8, rfl, rfl, rfl, rfl, rfl⟩ := hO'.doc.forms
      have ht6 : Turned w5 w6 [] r := HT7.out.trans (Turned.of_below hb67 _ _)
      have hr6 := HR7.out.past hb67
      have hO := ownIn_base hO' HT7.out.size
      clear hb67 hO'
      have HT6 := Lib.hid ht6; have HR6 := Lib.hid hr6; have HO6 := Lib.hid hO; have HF6 := Lib.hid hF
      have hbx := HBX.out _ (HT5.out.trans ht6)
      obtain ⟨f0, f1, f2, f3, f4⟩ := hbx.cells
      have ff := hbx.frozen
      have HBX6 := Lib.hid hbx
      clear hbx ht6 hr6 hO hF
      go_wp2_with fail
      refine ret_cell5 rfl rfl (((((HBX6.out.set0 _).set1 _).set2 _).set3 _).set4 _).load rfl ?_
      obtain ⟨g1, g2, g3⟩ := five_sets w6 b _ _ _ _ _
      exact doc_store HGX.out HO6.out HF6.out HR6.out HT6.out (HT1.out.trans HT5.out) hbw hb5 hrb g1 g2 g3
end Go.Proofs.YtgklnafliaplkaaGreatDoor
