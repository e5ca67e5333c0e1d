/-
  The reader: names.
-/
import Derived.Test.YtmnaaohhageihaaDoorCTokW
namespace Go.Proofs.YtmnaaohhageihaaDoor
open Go.RowKit

set_option maxHeartbeats 1000000 in
theorem clone_any (s : ByteArray) (w : World) (hs : s.size ≤ 1000000) :
    Calls Tryd.prog 62 #[.string s] w fun e w' => e = .returned (.string s) ∧ Below w.heap.size w w' := by
  have HC := Lib.hid (fun W => Tryd.stringslite_Clone s W (by omega))
  go_enter Tryd.func62, Tryd.ntmps62
  go_wp2_with fail
  refine (HC.out _).mono ?_
  rintro e w1 ⟨rfl, hb⟩
  have HB := Lib.hid hb
  clear hb
  go_wp2_with fail
  go_ret
  exact ⟨rfl, HB.out⟩
theorem lowB_ne {l : List UInt8} (h : lowB (pk l) = true) : l ≠ [] := by rintro rfl; exact absurd h (by decide)
theorem namB_ne {l : List UInt8} (h : namB (pk l) = true) : l ≠ [] := by rintro rfl; exact absurd h (by decide)
set_option maxHeartbeats 4000000 in
set_option maxRecDepth 100000 in
theorem name_l {w : World} {r : Nat} {s : ByteArray} {l : List UInt8} {p : Nat} (h : RdL w r s l p) (hs : s.size ≤ 1000000) :
    Calls Tryd.prog 42 #[.pointer (some ⟨r, 0, none⟩)] w fun e w' => TkTo w r s p (nameP l) (fun v => .string ⟨v.toArray⟩) e w' := by
  obtain ⟨k, hk⟩ : ∃ k, k = s.size - l.length := ⟨_, rfl⟩
  have hk1 : k ≤ 1000000 := by omega
  have HR := Lib.hid h; have HK := Lib.hid hk
  obtain ⟨c0, c1, c2, cf⟩ := h.cells hk
  clear cf h hk
  go_enter Tryd.func42, Tryd.ntmps42
  go_wp2_with fail
  refine (peek_t HR.out).mono ?_
  clear c0 c1 c2
  rintro e w1 ⟨rfl, hr1, ht1⟩
  have HR1 := Lib.hid hr1; have HT1 := Lib.hid ht1
  clear hr1 ht1
  obtain ⟨c, hc⟩ : ∃ c, c = pk l := ⟨_, rfl⟩
  rw [← hc]
  have HC := Lib.hid hc
  clear hc
  go_wp2_with fail
  refine (smallC_any c _).mono ?_
  rintro e w2 ⟨rfl, rfl⟩
  cases hp : lowB c with
  | false =>
    obtain ⟨c0, c1, c2, cf⟩ := HR1.out.cells HK.out
    have HG : Hid (nameP l = .bad l 4) := Lib.hid (by unfold nameP; rw [if_neg (by rw [← HC.out, hp]; simp)])
    clear hp cf
    go_wp2_with fail
    refine (fail_any (k : Int) 4 _).mono ?_
    rintro e w3 ⟨he, rfl⟩
    unfold Failed at he
    subst he
    exact ⟨rfl, TkTo.failed HG.out HK.out HT1.out⟩
  | true =>
    have HG0 : Hid (nameP l = if 16 < (l.takeWhile namB).length then .bad l 8 else .ok (l.takeWhile namB) (l.dropWhile namB)) := Lib.hid (by unfold nameP; rw [if_pos (by rw [← HC.out, hp])])
    clear hp HC
    go_wp2_with fail
    go_loopw [] (fun wr => ∃ l2 : List UInt8, l2.length ≤ s.size ∧ Hid (l.dropWhile namB = l2.dropWhile namB) ∧ Hid (RdL wr r s l2 p) ∧ Hid (Turned w wr [] r)) (fun wr => s.size - lenOf wr r)
    case atStart => exact ⟨l, HR1.out.len, Lib.hid rfl, HR1, HT1⟩
    case round =>
      obtain ⟨l2, hlen, HD, HRr, HTr⟩ := hrel
      have hm := HRr.out.lenOf
      have HM := Lib.hid hm
      clear hm
      go_wp2_with fail
      refine (peek_t HRr.out).mono ?_
      rintro e w5 ⟨rfl, hr5, ht5⟩
      have HR5 := Lib.hid hr5; have HT5 := Lib.hid (HTr.out.trans ht5)
      clear hr5 ht5
      obtain ⟨k2, hk2'⟩ : ∃ k2, k2 = s.size - l2.length := ⟨_, rfl⟩
      have hkk2 : k2 ≤ 1000000 := by omega
      have HK2 := Lib.hid hk2'
      obtain ⟨d, hd⟩ : ∃ d, d = pk l2 := ⟨_, rfl⟩
      rw [← hd]
      have HC := Lib.hid hd
      clear hd hk2'
      go_wp2_with fail
      refine (smallC_any d _).mono ?_
      rintro e w6 ⟨rfl, rfl⟩
      -- one step on
      have HGO : Hid (∀ W, RdL W r s l2 p → Turned w W [] r → namB d = true → (RdL (W.setCell ⟨r, 1, none⟩ (.int .i64 ((k2 : Int) + 1))) r s l2.tail p ∧ Turned w (W.setCell ⟨r, 1, none⟩ (.int .i64 ((k2 : Int) + 1))) [] r) ∧ l.dropWhile namB = l2.tail.dropWhile namB ∧ l2.tail.length ≤ s.size ∧ s.size - l2.tail.length > s.size - l2.length) := Lib.hid (fun W hr ht hn => by
        have hne : l2 ≠ [] := namB_ne (by rw [← HC.out]; exact hn)
        have h1 := hr.step HK2.out hne
        have h2 := tail_lt hne
        have h3 := hr.len
        exact ⟨⟨h1.1, ht.trans h1.2⟩, by rw [HD.out]; exact dropWhile_cons' (by rw [← HC.out]; exact hn) hne, by omega, by omega⟩)
      cases hlo : lowB d with
      | true =>
        have HN := Lib.hid (HGO.out w5 HR5.out HT5.out (by simp [namB, hlo]))
        obtain ⟨c0, c1, c2, cf⟩ := HR5.out.cells HK2.out
        have f1 := cf 1
        clear cf hlo HGO
        go_wp2_with fail
        obtain ⟨⟨g1, g2⟩, g3, g4, g5⟩ := HN.out
        have hm2 := g1.lenOf
        refine ⟨⟨l2.tail, g4, Lib.hid g3, Lib.hid g1, Lib.hid g2⟩, ?_⟩
        rw [hm2, HM.out]
        omega
      | false =>
        go_wp2_with fail
        refine (peek_t HR5.out).mono ?_
        rintro e w6 ⟨rfl, hr6, ht6⟩
        rw [← HC.out]
        have HR6 := Lib.hid hr6; have HT6 := Lib.hid (HT5.out.trans ht6)
        clear hr6 ht6
        go_wp2_with fail
        refine (digitC_any d _).mono ?_
        rintro e w7 ⟨rfl, rfl⟩
        cases hdi : digB d with
        | true =>
          have HN := Lib.hid (HGO.out w6 HR6.out HT6.out (by simp [namB, hdi]))
          obtain ⟨c0, c1, c2, cf⟩ := HR6.out.cells HK2.out
          have f1 := cf 1
          clear cf hlo hdi HGO
          go_wp2_with fail
          obtain ⟨⟨g1, g2⟩, g3, g4, g5⟩ := HN.out
          have hm2 := g1.lenOf
          refine ⟨⟨l2.tail, g4, Lib.hid g3, Lib.hid g1, Lib.hid g2⟩, ?_⟩
          rw [hm2, HM.out]
          omega
        | false =>
          go_wp2_with fail
          refine (peek_t HR6.out).mono ?_
          rintro e w7 ⟨rfl, hr7, ht7⟩
          rw [← HC.out]
          have HR7 := Lib.hid hr7; have HT7 := Lib.hid (HT6.out.trans ht7)
          clear hr7 ht7
          obtain ⟨c0, c1, c2, cf⟩ := HR7.out.cells HK2.out
          have f1 := cf 1
          clear cf
          by_cases hu : d = 95
          · have e1 : ((d.toNat : Int) == 95) = true := by rw [hu]; rfl
            have HN := Lib.hid (HGO.out w7 HR7.out HT7.out (by rw [hu]; decide))
            clear hu hlo hdi HGO
            go_wp2_with fail
            obtain ⟨⟨g1, g2⟩, g3, g4, g5⟩ := HN.out
            have hm2 := g1.lenOf
            refine ⟨⟨l2.tail, g4, Lib.hid g3, Lib.hid g1, Lib.hid g2⟩, ?_⟩
            rw [hm2, HM.out]
            omega
          · have e1 : ((d.toNat : Int) == 95) = false := by
              simp only [beq_eq_false_iff_ne, ne_eq]; intro hh; exact hu (byte_eq (d := 95) hh)
            have hnn : namB d = false := by
              have hu2 : ¬ d.toNat = 95 := fun hh => hu (UInt8.toNat_inj.1 hh)
              simp [namB, hlo, hdi, hu2]
            have hend : l.dropWhile namB = l2 := by rw [HD.out]; exact dropWhile_stop (by rw [← HC.out]; exact hnn)
            have htk : l.take (l.length - l2.length) = l.takeWhile namB := by rw [← hend]; exact take_dropWhile _ _
            have hsuf : l2 <:+ l := by rw [← hend]; exact List.dropWhile_suffix _
            have hlen2 : (l.takeWhile namB).length = l.length - l2.length := by rw [← htk]; simp
            have hex := extract_suf HR.out.suf hsuf
            rw [← HK.out, ← HK2.out, htk] at hex
            have hk12 : k ≤ k2 := by have h1 := hsuf.length_le; have h2 := HK.out; have h3 := HK2.out; omega
            have hnk : (l.takeWhile namB).length = k2 - k := by have h1 := hsuf.length_le; have h2 := HK.out; have h3 := HK2.out; have h4 := HR.out.len; omega
            have HEX := Lib.hid hex; have HEND := Lib.hid hend
            have hks : k2 ≤ s.size := by have h3 := HK2.out; omega
            clear hu hlo hdi HGO hnn hend htk hsuf hlen2 hex
            by_cases hb : 16 < (l.takeWhile namB).length
            · have HG : Hid (nameP l = .bad l 8) := Lib.hid (by rw [HG0.out, if_pos hb])
              have hb1 : (16 : Int) < (k2 : Int) - (k : Int) := by omega
              have hw : IntKind.i64.wrap ((k2 : Int) - (k : Int)) = (k2 : Int) - (k : Int) := IntWalk.i64_in _ (by omega)
              clear hb hnk
              go_wp2_with fail
              refine (fail_any (k : Int) 8 _).mono ?_
              rintro e w8 ⟨he, rfl⟩
              unfold Failed at he
              subst he
              exact ⟨rfl, TkTo.failed HG.out HK.out HT7.out⟩
            · have HG : Hid (nameP l = .ok (l.takeWhile namB) l2) := Lib.hid (by rw [HG0.out, if_neg hb, HEND.out])
              have hb1 : ¬ (16 : Int) < (k2 : Int) - (k : Int) := by omega
              have hw : IntKind.i64.wrap ((k2 : Int) - (k : Int)) = (k2 : Int) - (k : Int) := IntWalk.i64_in _ (by omega)
              have k0 : (0 : Int) ≤ (k : Int) := by omega
              have kk : (k : Int) ≤ (k2 : Int) := by omega
              have ks : (k2 : Int) ≤ (s.size : Int) := by omega
              obtain ⟨x, hx⟩ : ∃ x, x = s.extract k k2 := ⟨_, rfl⟩
              have hxs : x.size ≤ 1000000 := by rw [hx]; simp; omega
              have HX := Lib.hid hx
              have HCL := Lib.hid (fun W => clone_any x W hxs)
              have HS : Hid (∀ X, Below w7.heap.size w7 X → X.cell? ⟨r, 0, none⟩ = some (.string s) ∧ X.cell? ⟨r, 1, none⟩ = some (.int .i64 (k2 : Int))) := Lib.hid fun X hX =>
                ⟨(hX.cell (p := ⟨r, 0, none⟩) HR7.out.block).trans c0, (hX.cell (p := ⟨r, 1, none⟩) HR7.out.block).trans c1⟩
              clear hb hnk hx
              go_wp2_with fail
              go_region_held3 (fun X => X.cell? ⟨r, 0, none⟩ = some (.string s) ∧ X.cell? ⟨r, 1, none⟩ = some (.int .i64 (k2 : Int))) (first | exact ⟨c0, c1⟩ | with_reducible exact HS.out _ (below_undrew hb8))
                ((first
                  | (go_at_call 62
                     simp only [← HX.out]
                     refine (HCL.out _).mono ?_
                     rintro e w8 ⟨rfl, hb8⟩)))
              have HB8 : Hid (Below w7.heap.size w7 w8) := Lib.hid (below_undrew hb8)
              clear hb8
              go_wp2_with fail
              go_ret
              have h6 := TkTo.done (f := fun v : List UInt8 => Value.string ⟨v.toArray⟩) HG.out (HR7.out.past HB8.out) (HT7.out.trans (HR7.out.turned HB8.out))
              simp only [← HEX.out, ← HX.out] at h6
              exact h6
end Go.Proofs.YtmnaaohhageihaaDoor
