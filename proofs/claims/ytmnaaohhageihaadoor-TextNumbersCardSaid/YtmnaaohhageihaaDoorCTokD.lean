/-
  The reader: digits, hex.
-/
import Derived.Test.YtmnaaohhageihaaDoorCTok
import Derived.Deep.DeepCutAuto
namespace Go.Proofs.YtmnaaohhageihaaDoor
open Go.RowKit

theorem TkTo.past {α : Type} {w0 w w' : World} {r : Nat} {s : ByteArray} {p : Nat} {t : Tk α} {f : α → Value} {e : Ending} (h : TkTo w r s p t f e w') (h0 : Turned w0 w [] r) : TkTo w0 r s p t f e w' := by
  cases t with
  | ok v l => exact ⟨h.1, h.2.1, h0.trans h.2.2⟩
  | bad l er => exact ⟨h.1, h0.trans h.2⟩
theorem TkTo.failed {α : Type} {w w' : World} {r k er : Nat} {s : ByteArray} {p : Nat} {t : Tk α} {f : α → Value} {l : List UInt8} (ht : t = .bad l er) (hk : k = s.size - l.length) (h : Turned w w' [] r) : TkTo w r s p t f (.panicked [{ v := faultV (k : Int) er, recovered := false }]) w' := by
  subst ht; subst hk; exact ⟨rfl, h⟩
theorem TkTo.done {α : Type} {w w' : World} {r : Nat} {s : ByteArray} {p : Nat} {t : Tk α} {f : α → Value} {l : List UInt8} {v : α} (ht : t = .ok v l) (hr : RdL w' r s l p) (h : Turned w w' [] r) : TkTo w r s p t f (.returned (f v)) w' := by
  subst ht; exact ⟨rfl, hr, h⟩
theorem RdL.turned {w w' : World} {r : Nat} {s : ByteArray} {l : List UInt8} {p : Nat} (_ : RdL w r s l p) (hb : Below w.heap.size w w') : Turned w w' [] r := Turned.of_below hb _ _
def lenOf (w : World) (r : Nat) : Nat := match w.cell? ⟨r, 1, none⟩ with | some (.int _ n) => n.toNat | _ => 0
theorem RdL.lenOf {w : World} {r : Nat} {s : ByteArray} {l : List UInt8} {p : Nat} (h : RdL w r s l p) : lenOf w r = s.size - l.length := by unfold Proofs.YtmnaaohhageihaaDoor.lenOf; rw [(h.cells rfl).2.1]; simp
theorem dropWhile_cons' {q : UInt8 → Bool} {l : List UInt8} (h : q (pk l) = true) (hl : l ≠ []) : l.dropWhile q = l.tail.dropWhile q := by
  cases l with
  | nil => exact absurd rfl hl
  | cons c t => simp only [pk, List.headD_cons] at h; rw [List.dropWhile_cons_of_pos h]; rfl
theorem dropWhile_stop {q : UInt8 → Bool} {l : List UInt8} (h : q (pk l) = false) : l.dropWhile q = l := by
  cases l with
  | nil => rfl
  | cons c t => simp only [pk, List.headD_cons] at h; rw [List.dropWhile_cons_of_neg (by simp [h])]
theorem digB_ne {l : List UInt8} (h : digB (pk l) = true) : l ≠ [] := by rintro rfl; revert h; decide
set_option maxHeartbeats 4000000 in
set_option maxRecDepth 100000 in
theorem digits_l {w : World} {r : Nat} {s : ByteArray} {l : List UInt8} {p : Nat} (h : RdL w r s l p) (hs : s.size ≤ 140737488351232) :
    Calls Tryd.prog 38 #[.pointer (some ⟨r, 0, none⟩)] w fun e w' => TkTo w r s p (digitsP l) (fun _ => .tuple #[]) e w' := by
  obtain ⟨k, hk⟩ : ∃ k, k = s.size - l.length := ⟨_, rfl⟩
  have hk1 : k ≤ 140737488351232 := by omega
  have HR := Lib.hid h; have HK := Lib.hid hk
  clear h hk
  go_enter Tryd.func38, Tryd.ntmps38
  go_wp2_with fail
  refine (peek_t HR.out).mono ?_
  rintro e w1 ⟨rfl, hr1, ht1⟩
  have HR1 := Lib.hid hr1; have HT1 := Lib.hid ht1
  clear hr1 ht1
  obtain ⟨c, hc⟩ : ∃ c, c = pk l := ⟨_, rfl⟩
  rw [← hc]
  have HC := Lib.hid hc
  clear hc
  by_cases h48 : c = 48
  · have e1 : ((c.toNat : Int) == 48) = true := by rw [h48]; rfl
    have HS := Lib.hid (HR1.out.step HK.out (pk_ne (c := 48) (by decide) (by rw [← HC.out, h48])))
    have HG : Hid (digitsP l = .ok () l.tail) := Lib.hid (by unfold digitsP; rw [if_pos (by rw [← HC.out, h48])])
    obtain ⟨c0, c1, c2, cf⟩ := HR1.out.cells HK.out
    have f1 := cf 1
    clear cf h48
    go_wp2_with fail
    go_end0
    rw [HG.out]
    exact ⟨rfl, HS.out.1, HT1.out.trans HS.out.2⟩
  · have e1 : ((c.toNat : Int) == 48) = false := by
      simp only [beq_eq_false_iff_ne, ne_eq]; intro hh; exact h48 (UInt8.toNat_inj.1 (by show c.toNat = 48; omega))
    have HG : Hid (digitsP l = (let l1 := if pk l = 45 then l.tail else l; if pk l1 = 48 ∨ digB (pk l1) = false then .bad l1 4 else .ok () (l1.dropWhile digB))) := Lib.hid (by unfold digitsP; rw [if_neg (by rw [← HC.out]; exact h48)])
    clear h48
    go_wp2_with fail
    refine (peek_t HR1.out).mono ?_
    rintro e w2 ⟨rfl, hr2, ht2⟩
    rw [← HC.out]
    have HR2 := Lib.hid hr2; have HT2 := Lib.hid (HT1.out.trans ht2)
    clear hr2 ht2
    obtain ⟨l1, hl1⟩ : ∃ l1, l1 = if pk l = 45 then l.tail else l := ⟨_, rfl⟩
    have HG2 : Hid (digitsP l = if pk l1 = 48 ∨ digB (pk l1) = false then .bad l1 4 else .ok () (l1.dropWhile digB)) := Lib.hid (by rw [HG.out]; simp only [← hl1])
    have HL1 := Lib.hid hl1
    clear HG hl1
    go_upto_if 14 with fail
    go_cut [] (fun wx => Hid (RdL wx r s l1 p ∧ Turned w wx [] r))
    case first =>
      by_cases h45 : c = 45
      · have e2 : ((c.toNat : Int) == 45) = true := by rw [h45]; rfl
        have HS := Lib.hid (HR2.out.step HK.out (pk_ne (c := 45) (by decide) (by rw [← HC.out, h45])))
        have HE : Hid (l1 = l.tail) := Lib.hid (by rw [HL1.out, if_pos (by rw [← HC.out, h45])])
        obtain ⟨c0, c1, c2, cf⟩ := HR2.out.cells HK.out
        have f1 := cf 1
        clear cf h45
        go_wp2_with fail
        go_meet
        exact Lib.hid ⟨by rw [HE.out]; exact HS.out.1, HT2.out.trans HS.out.2⟩
      · have e2 : ((c.toNat : Int) == 45) = false := by
          simp only [beq_eq_false_iff_ne, ne_eq]; intro hh; exact h45 (UInt8.toNat_inj.1 (by show c.toNat = 45; omega))
        have HE : Hid (l1 = l) := Lib.hid (by rw [HL1.out, if_neg (by rw [← HC.out]; exact h45)])
        clear h45
        go_wp2_with fail
        go_meet
        exact Lib.hid ⟨by rw [HE.out]; exact HR2.out, HT2.out⟩
    case rest =>
      obtain ⟨HRc, HTc⟩ : Hid (RdL wc r s l1 p) ∧ Hid (Turned w wc [] r) := ⟨Lib.hid hcut.out.1, Lib.hid hcut.out.2⟩
      clear hcut HR2 HT2 HR1 HT1 HC HL1 HK
      go_wp2_with fail
      refine (peek_t HRc.out).mono ?_
      rintro e w3 ⟨rfl, hr3, ht3⟩
      have HR3 := Lib.hid hr3; have HT3 := Lib.hid (HTc.out.trans ht3)
      clear hr3 ht3
      obtain ⟨k1, hk1'⟩ : ∃ k1, k1 = s.size - l1.length := ⟨_, rfl⟩
      have hkk : k1 ≤ 140737488351232 := by omega
      have HK := Lib.hid hk1'
      obtain ⟨d, hd⟩ : ∃ d, d = pk l1 := ⟨_, rfl⟩
      rw [← hd]
      have HC := Lib.hid hd
      clear hd hk1'
      by_cases hbad : d = 48 ∨ digB d = false
      · have HGB : Hid (digitsP l = .bad l1 4) := Lib.hid (by rw [HG2.out, if_pos (by rw [← HC.out]; exact hbad)])
        by_cases h48' : d = 48
        · have e2 : ((d.toNat : Int) == 48) = true := by rw [h48']; rfl
          obtain ⟨c0, c1, c2, cf⟩ := HR3.out.cells HK.out
          clear cf h48' hbad
          go_wp2_with fail
          refine (fail_any (k1 : Int) 4 _).mono ?_
          rintro e w4 ⟨he, rfl⟩
          unfold Failed at he
          subst he
          exact ⟨rfl, TkTo.failed HGB.out HK.out HT3.out⟩
        · have e2 : ((d.toNat : Int) == 48) = false := by
            simp only [beq_eq_false_iff_ne, ne_eq]; intro hh; exact h48' (UInt8.toNat_inj.1 (by show d.toNat = 48; omega))
          have hdig : digB d = false := hbad.resolve_left h48'
          clear h48' hbad
          go_wp2_with fail
          refine (peek_t HR3.out).mono ?_
          rintro e w4 ⟨rfl, hr4, ht4⟩
          rw [← HC.out]
          have HR4 := Lib.hid hr4; have HT4 := Lib.hid (HT3.out.trans ht4)
          clear hr4 ht4
          go_wp2_with fail
          refine (digitC_any d _).mono ?_
          rintro e w4 ⟨rfl, rfl⟩
          rw [hdig]
          obtain ⟨c0, c1, c2, cf⟩ := HR4.out.cells HK.out
          clear cf
          go_wp2_with fail
          refine (fail_any (k1 : Int) 4 _).mono ?_
          rintro e w4 ⟨he, rfl⟩
          unfold Failed at he
          subst he
          exact ⟨rfl, TkTo.failed HGB.out HK.out HT4.out⟩
      · have HGB : Hid (digitsP l = .ok () (l1.dropWhile digB)) := Lib.hid (by rw [HG2.out, if_neg (by rw [← HC.out]; exact hbad)])
        have e2 : ((d.toNat : Int) == 48) = false := by
          simp only [beq_eq_false_iff_ne, ne_eq]; intro hh; exact hbad (.inl (UInt8.toNat_inj.1 (by show d.toNat = 48; omega)))
        have hdig : digB d = true := by
          cases hx : digB d
          · exact absurd (.inr hx) hbad
          · rfl
        clear hbad
        go_wp2_with fail
        refine (peek_t HR3.out).mono ?_
        rintro e w4 ⟨rfl, hr4, ht4⟩
        rw [← HC.out]
        have HR4 := Lib.hid hr4; have HT4 := Lib.hid (HT3.out.trans ht4)
        clear hr4 ht4
        go_wp2_with fail
        refine (digitC_any d _).mono ?_
        rintro e w4 ⟨rfl, rfl⟩
        rw [hdig]
        clear hdig e2 HC HK
        go_wp2_with fail
        go_loopw [] (fun wr => ∃ l2 : List UInt8, l2.length ≤ s.size ∧ Hid (l1.dropWhile digB = l2.dropWhile digB) ∧ Hid (RdL wr r s l2 p) ∧ Hid (Turned w wr [] r)) (fun wr => s.size - lenOf wr r)
        case atStart => exact ⟨l1, HR4.out.len, Lib.hid rfl, HR4, HT4⟩
        case round =>
          obtain ⟨l2, hlen, HD, HRr, HTr⟩ := hrel
          have hm := HRr.out.lenOf
          have HM := Lib.hid hm
          clear hm
          go_wp2_with fail
          refine (peek_t HRr.out).mono ?_
          rintro e w5 ⟨rfl, hr5, ht5⟩
          have HR5 := Lib.hid hr5; have HT5 := Lib.hid (HTr.out.trans ht5)
          clear hr5 ht5
          obtain ⟨k2, hk2'⟩ : ∃ k2, k2 = s.size - l2.length := ⟨_, rfl⟩
          have hkk2 : k2 ≤ 140737488351232 := by omega
          have HK := Lib.hid hk2'
          obtain ⟨d2, hd2⟩ : ∃ d2, d2 = pk l2 := ⟨_, rfl⟩
          rw [← hd2]
          have HC := Lib.hid hd2
          clear hd2 hk2'
          go_wp2_with fail
          refine (digitC_any d2 _).mono ?_
          rintro e w6 ⟨rfl, rfl⟩
          cases hb2 : digB d2
          · have HE : Hid (l1.dropWhile digB = l2) := Lib.hid (by rw [HD.out]; exact dropWhile_stop (by rw [← HC.out]; exact hb2))
            clear hb2
            go_wp2_with fail
            first | go_end0 | go_ret
            rw [HGB.out, HE.out]
            exact ⟨rfl, HR5.out, HT5.out⟩
          · have hne : l2 ≠ [] := digB_ne (by rw [← HC.out]; exact hb2)
            have HE : Hid (l1.dropWhile digB = l2.tail.dropWhile digB) := Lib.hid (by rw [HD.out]; exact dropWhile_cons' (by rw [← HC.out]; exact hb2) hne)
            have HS := Lib.hid (HR5.out.step HK.out hne)
            have HLT : Hid (s.size - l2.tail.length > s.size - l2.length) := Lib.hid (by
              have h3 : 0 < l2.length := List.length_pos_iff.2 hne
              simp; omega)
            have HTL : Hid (l2.tail.length ≤ s.size) := Lib.hid (by simp; omega)
            obtain ⟨c0, c1, c2, cf⟩ := HR5.out.cells HK.out
            have f1 := cf 1
            clear cf hb2 hne
            go_wp2_with fail
            have hm2 := HS.out.1.lenOf
            refine ⟨⟨l2.tail, HTL.out, HE, Lib.hid HS.out.1, Lib.hid (HT5.out.trans HS.out.2)⟩, ?_⟩
            rw [hm2, HM.out]
            have := HLT.out
            omega
end Go.Proofs.YtmnaaohhageihaaDoor
