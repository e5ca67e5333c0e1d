/-
  The reader: names.
  The reader: a row between two brackets, over whatever reads its items.
-/
import Derived.Test.YtgklnafliaplkaaGreatDoorB10
namespace Go.Proofs.YtgklnafliaplkaaGreatDoor
open Go.RowKit

set_option maxHeartbeats 1000000 in
theorem clone_any (s : ByteArray) (w : World) (hs : s.size ≤ 1000000) :
    Calls Tryz.prog 83 #[.string s] w fun e w' => e = .returned (.string s) ∧ Below w.heap.size w w' := by
  have HC := Lib.hid (fun W => Tryz.stringslite_Clone s W (by omega))
  go_enter Tryz.func83, Tryz.ntmps83
  go_wp2_with fail
  refine (HC.out _).mono ?_
  rintro e w1 ⟨rfl, hb⟩
  have HB := Lib.hid hb
  clear hb
  go_wp2_with fail
  go_ret
  exact ⟨rfl, HB.out⟩
theorem lowB_ne {l : List UInt8} (h : lowB (pk l) = true) : l ≠ [] := by rintro rfl; exact absurd h (by decide)
theorem namB_ne {l : List UInt8} (h : namB (pk l) = true) : l ≠ [] := by rintro rfl; exact absurd h (by decide)
set_option maxHeartbeats 4000000 in
set_option maxRecDepth 100000 in
theorem name_l {w : World} {r : Nat} {s : ByteArray} {l : List UInt8} {p : Nat} (h : RdL w r s l p) (hs : s.size ≤ 1000000) :
    Calls Tryz.prog 60 #[.pointer (some ⟨r, 0, none⟩)] w fun e w' => TkTo w r s p (nameP l) (fun v => .string ⟨v.toArray⟩) e w' := by
  obtain ⟨k, hk⟩ : ∃ k, k = s.size - l.length := ⟨_, rfl⟩
  have hk1 : k ≤ 1000000 := by omega
  have HR := Lib.hid h; have HK := Lib.hid hk
  obtain ⟨c0, c1, c2, cf⟩ := h.cells hk
  clear cf h hk
  go_enter Tryz.func60, Tryz.ntmps60
  go_wp2_with fail
  refine (peek_t HR.out).mono ?_
  clear c0 c1 c2
  rintro e w1 ⟨rfl, hr1, ht1⟩
  have HR1 := Lib.hid hr1; have HT1 := Lib.hid ht1
  clear hr1 ht1
  obtain ⟨c, hc⟩ : ∃ c, c = pk l := ⟨_, rfl⟩
  rw [← hc]
  have HC := Lib.hid hc
  clear hc
  go_wp2_with fail
  refine (smallC_any c _).mono ?_
  rintro e w2 ⟨rfl, rfl⟩
  cases hp : lowB c with
  | false =>
    obtain ⟨c0, c1, c2, cf⟩ := HR1.out.cells HK.out
    have HG : Hid (nameP l = .bad l 4) := Lib.hid (by unfold nameP; rw [if_neg (by rw [← HC.out, hp]; simp)])
    clear hp cf
    go_wp2_with fail
    refine (fail_any (k : Int) 4 _).mono ?_
    rintro e w3 ⟨he, rfl⟩
    unfold Failed at he
    subst he
    exact ⟨rfl, TkTo.failed HG.out HK.out HT1.out⟩
  | true =>
    have HG0 : Hid (nameP l = if 16 < (l.takeWhile namB).length then .bad l 8 else .ok (l.takeWhile namB) (l.dropWhile namB)) := Lib.hid (by unfold nameP; rw [if_pos (by rw [← HC.out, hp])])
    clear hp HC
    go_wp2_with fail
    go_loopw [] (fun wr => ∃ l2 : List UInt8, l2.length ≤ s.size ∧ Hid (l.dropWhile namB = l2.dropWhile namB) ∧ Hid (RdL wr r s l2 p) ∧ Hid (Turned w wr [] r)) (fun wr => s.size - lenOf wr r)
    case atStart => exact ⟨l, HR1.out.len, Lib.hid rfl, HR1, HT1⟩
    case round =>
      obtain ⟨l2, hlen, HD, HRr, HTr⟩ := hrel
      have hm := HRr.out.lenOf
      have HM := Lib.hid hm
      clear hm
      go_wp2_with fail
      refine (peek_t HRr.out).mono ?_
      rintro e w5 ⟨rfl, hr5, ht5⟩
      have HR5 := Lib.hid hr5; have HT5 := Lib.hid (HTr.out.trans ht5)
      clear hr5 ht5
      obtain ⟨k2, hk2'⟩ : ∃ k2, k2 = s.size - l2.length := ⟨_, rfl⟩
      have hkk2 : k2 ≤ 1000000 := by omega
      have HK2 := Lib.hid hk2'
      obtain ⟨d, hd⟩ : ∃ d, d = pk l2 := ⟨_, rfl⟩
      rw [← hd]
      have HC := Lib.hid hd
      clear hd hk2'
      go_wp2_with fail
      refine (smallC_any d _).mono ?_
      rintro e w6 ⟨rfl, rfl⟩
      -- one step on
      have HGO : Hid (∀ W, RdL W r s l2 p → Turned w W [] r → namB d = true → (RdL (W.setCell ⟨r, 1, none⟩ (.int .i64 ((k2 : Int) + 1))) r s l2.tail p ∧ Turned w (W.setCell ⟨r, 1, none⟩ (.int .i64 ((k2 : Int) + 1))) [] r) ∧ l.dropWhile namB = l2.tail.dropWhile namB ∧ l2.tail.length ≤ s.size ∧ s.size - l2.tail.length > s.size - l2.length) := Lib.hid (fun W hr ht hn => by
        have hne : l2 ≠ [] := namB_ne (by rw [← HC.out]; exact hn)
        have h1 := hr.step HK2.out hne
        have h2 := tail_lt hne
        have h3 := hr.len
        exact ⟨⟨h1.1, ht.trans h1.2⟩, by rw [HD.out]; exact dropWhile_cons' (by rw [← HC.out]; exact hn) hne, by omega, by omega⟩)
      cases hlo : lowB d with
      | true =>
        have HN := Lib.hid (HGO.out w5 HR5.out HT5.out (by simp [namB, hlo]))
        obtain ⟨c0, c1, c2, cf⟩ := HR5.out.cells HK2.out
        have f1 := cf 1
        clear cf hlo HGO
        go_wp2_with fail
        obtain ⟨⟨g1, g2⟩, g3, g4, g5⟩ := HN.out
        have hm2 := g1.lenOf
        refine ⟨⟨l2.tail, g4, Lib.hid g3, Lib.hid g1, Lib.hid g2⟩, ?_⟩
        rw [hm2, HM.out]
        omega
      | false =>
        go_wp2_with fail
        refine (peek_t HR5.out).mono ?_
        rintro e w6 ⟨rfl, hr6, ht6⟩
        rw [← HC.out]
        have HR6 := Lib.hid hr6; have HT6 := Lib.hid (HT5.out.trans ht6)
        clear hr6 ht6
        go_wp2_with fail
        refine (digitC_any d _).mono ?_
        rintro e w7 ⟨rfl, rfl⟩
        cases hdi : digB d with
        | true =>
          have HN := Lib.hid (HGO.out w6 HR6.out HT6.out (by simp [namB, hdi]))
          obtain ⟨c0, c1, c2, cf⟩ := HR6.out.cells HK2.out
          have f1 := cf 1
          clear cf hlo hdi HGO
          go_wp2_with fail
          obtain ⟨⟨g1, g2⟩, g3, g4, g5⟩ := HN.out
          have hm2 := g1.lenOf
          refine ⟨⟨l2.tail, g4, Lib.hid g3, Lib.hid g1, Lib.hid g2⟩, ?_⟩
          rw [hm2, HM.out]
          omega
        | false =>
          go_wp2_with fail
          refine (peek_t HR6.out).mono ?_
          rintro e w7 ⟨rfl, hr7, ht7⟩
          rw [← HC.out]
          have HR7 := Lib.hid hr7; have HT7 := Lib.hid (HT6.out.trans ht7)
          clear hr7 ht7
          obtain ⟨c0, c1, c2, cf⟩ := HR7.out.cells HK2.out
          have f1 := cf 1
          clear cf
          by_cases hu : d = 95
          · have e1 : ((d.toNat : Int) == 95) = true := by rw [hu]; rfl
            have HN := Lib.hid (HGO.out w7 HR7.out HT7.out (by rw [hu]; decide))
            clear hu hlo hdi HGO
            go_wp2_with fail
            obtain ⟨⟨g1, g2⟩, g3, g4, g5⟩ := HN.out
            have hm2 := g1.lenOf
            refine ⟨⟨l2.tail, g4, Lib.hid g3, Lib.hid g1, Lib.hid g2⟩, ?_⟩
            rw [hm2, HM.out]
            omega
          · have e1 : ((d.toNat : Int) == 95) = false := by
              simp only [beq_eq_false_iff_ne, ne_eq]; intro hh; exact hu (byte_eq (d := 95) hh)
            have hnn : namB d = false := by
              have hu2 : ¬ d.toNat = 95 := fun hh => hu (UInt8.toNat_inj.1 hh)
              simp [namB, hlo, hdi, hu2]
            have hend : l.dropWhile namB = l2 := by rw [HD.out]; exact dropWhile_stop (by rw [← HC.out]; exact hnn)
            have htk : l.take (l.length - l2.length) = l.takeWhile namB := by rw [← hend]; exact take_dropWhile _ _
            have hsuf : l2 <:+ l := by rw [← hend]; exact List.dropWhile_suffix _
            have hlen2 : (l.takeWhile namB).length = l.length - l2.length := by rw [← htk]; simp
            have hex := extract_suf HR.out.suf hsuf
            rw [← HK.out, ← HK2.out, htk] at hex
            have hk12 : k ≤ k2 := by have h1 := hsuf.length_le; have h2 := HK.out; have h3 := HK2.out; omega
            have hnk : (l.takeWhile namB).length = k2 - k := by have h1 := hsuf.length_le; have h2 := HK.out; have h3 := HK2.out; have h4 := HR.out.len; omega
            have HEX := Lib.hid hex; have HEND := Lib.hid hend
            have hks : k2 ≤ s.size := by have h3 := HK2.out; omega
            clear hu hlo hdi HGO hnn hend htk hsuf hlen2 hex
            by_cases hb : 16 < (l.takeWhile namB).length
            · have HG : Hid (nameP l = .bad l 8) := Lib.hid (by rw [HG0.out, if_pos hb])
              have hb1 : (16 : Int) < (k2 : Int) - (k : Int) := by omega
              have hw : IntKind.i64.wrap ((k2 : Int) - (k : Int)) = (k2 : Int) - (k : Int) := IntWalk.i64_in _ (by omega)
              clear hb hnk
              go_wp2_with fail
              refine (fail_any (k : Int) 8 _).mono ?_
              rintro e w8 ⟨he, rfl⟩
              unfold Failed at he
              subst he
              exact ⟨rfl, TkTo.failed HG.out HK.out HT7.out⟩
            · have HG : Hid (nameP l = .ok (l.takeWhile namB) l2) := Lib.hid (by rw [HG0.out, if_neg hb, HEND.out])
              have hb1 : ¬ (16 : Int) < (k2 : Int) - (k : Int) := by omega
              have hw : IntKind.i64.wrap ((k2 : Int) - (k : Int)) = (k2 : Int) - (k : Int) := IntWalk.i64_in _ (by omega)
              have k0 : (0 : Int) ≤ (k : Int) := by omega
              have kk : (k : Int) ≤ (k2 : Int) := by omega
              have ks : (k2 : Int) ≤ (s.size : Int) := by omega
              obtain ⟨x, hx⟩ : ∃ x, x = s.extract k k2 := ⟨_, rfl⟩
              have hxs : x.size ≤ 1000000 := by rw [hx]; simp; omega
              have HX := Lib.hid hx
              have HCL := Lib.hid (fun W => clone_any x W hxs)
              have HS : Hid (∀ X, Below w7.heap.size w7 X → X.cell? ⟨r, 0, none⟩ = some (.string s) ∧ X.cell? ⟨r, 1, none⟩ = some (.int .i64 (k2 : Int))) := Lib.hid fun X hX =>
                ⟨(hX.cell (p := ⟨r, 0, none⟩) HR7.out.block).trans c0, (hX.cell (p := ⟨r, 1, none⟩) HR7.out.block).trans c1⟩
              clear hb hnk hx
              go_wp2_with fail
              go_region_held3 (fun X => X.cell? ⟨r, 0, none⟩ = some (.string s) ∧ X.cell? ⟨r, 1, none⟩ = some (.int .i64 (k2 : Int))) (first | exact ⟨c0, c1⟩ | with_reducible exact HS.out _ (below_undrew hb8))
                ((first
                  | (go_at_call 83
                     simp only [← HX.out]
                     refine (HCL.out _).mono ?_
                     rintro e w8 ⟨rfl, hb8⟩)))
              have HB8 : Hid (Below w7.heap.size w7 w8) := Lib.hid (below_undrew hb8)
              clear hb8
              go_wp2_with fail
              go_ret
              have h6 := TkTo.done (f := fun v : List UInt8 => Value.string ⟨v.toArray⟩) HG.out (HR7.out.past HB8.out) (HT7.out.trans (HR7.out.turned HB8.out))
              simp only [← HEX.out, ← HX.out] at h6
              exact h6
end Go.Proofs.YtgklnafliaplkaaGreatDoor
namespace Go.Proofs.YtgklnafliaplkaaGreatDoor
open Go.RowKit

/-- What a reader of a part tells, over a state of its own: St holds behind it, or, where it panics, K. -/
def StTo {σ : Type} (St : σ → Nat → World → Prop) (K : World → Prop) (r : Nat) (s : ByteArray) (t : Out σ) (e : Ending) (w' : World) : Prop := match t with
  | .ok st l p => e = .returned (.tuple #[]) ∧ St st p w' ∧ RdL w' r s l p
  | .bad l er => Failed ((s.size - l.length : Nat) : Int) er e ∧ K w'
theorem StTo.failed {σ : Type} {St : σ → Nat → World → Prop} {K : World → Prop} {r k er : Nat} {s : ByteArray} {t : Out σ} {l : List UInt8} {w' : World} (ht : t = .bad l er) (hk : k = s.size - l.length) (h : K w') : StTo St K r s t (.panicked [{ v := faultV (k : Int) er, recovered := false }]) w' := by
  subst ht; subst hk; exact ⟨rfl, h⟩
theorem StTo.done {σ : Type} {St : σ → Nat → World → Prop} {K : World → Prop} {r : Nat} {s : ByteArray} {t : Out σ} {st : σ} {l : List UInt8} {p : Nat} {w' : World} (ht : t = .ok st l p) (h : St st p w') (hr : RdL w' r s l p) : StTo St K r s t (.returned (.tuple #[])) w' := by
  subst ht; exact ⟨rfl, h, hr⟩
theorem rowL_bad {σ : Type} {item : σ → List UInt8 → Nat → Out σ} {e : UInt8} {f er p : Nat} {st : σ} {l a : List UInt8} (h : item st l p = .bad a er) : rowL item e (f + 1) st l p = .bad a er := by simp only [rowL, h]
theorem rowL_end {σ : Type} {item : σ → List UInt8 → Nat → Out σ} {e : UInt8} {f p p' : Nat} {st st' : σ} {l l' : List UInt8} (h : item st l p = .ok st' l' p') (he : pk (skipL l') = e) : rowL item e (f + 1) st l p = .ok st' (skipL l').tail p' := by simp only [rowL, h, if_pos he]
theorem rowL_go {σ : Type} {item : σ → List UInt8 → Nat → Out σ} {e : UInt8} {f p p' : Nat} {st st' : σ} {l l' : List UInt8} (h : item st l p = .ok st' l' p') (he : pk (skipL l') ≠ e) (hc : pk (skipL l') = 44) : rowL item e (f + 1) st l p = rowL item e f st' (skipL l').tail p' := by simp only [rowL, h, if_neg he, if_pos hc]
theorem rowL_no {σ : Type} {item : σ → List UInt8 → Nat → Out σ} {e : UInt8} {f p p' : Nat} {st st' : σ} {l l' : List UInt8} (h : item st l p = .ok st' l' p') (he : pk (skipL l') ≠ e) (hc : pk (skipL l') ≠ 44) : rowL item e (f + 1) st l p = .bad (skipL l') 4 := by simp only [rowL, h, if_neg he, if_neg hc]
set_option maxHeartbeats 8000000 in
set_option maxRecDepth 100000 in
theorem row_any {σ : Type} {St : σ → Nat → World → Prop} {K : World → Prop} {item : σ → List UInt8 → Nat → Out σ} {g : Nat} {caps : Array Value} {r : Nat} {s : ByteArray} (e : UInt8) (he : e ≠ 0)
    (eg : ∀ args w, (callFunc g args).run Tryz.prog w = .ok (.enter g args) w)
    (HI : ∀ st l p w, St st p w → RdL w r s l p → Calls Tryz.prog g caps w fun en w' => StTo St K r s (item st l p) en w')
    (HL : ∀ st l p w st' l' p', St st p w → item st l p = .ok st' l' p' → l'.length ≤ l.length)
    (HSt : ∀ st p w w', St st p w → Turned w w' [] r → St st p w')
    (HK : ∀ st p w, St st p w → K w) (st : σ) {l : List UInt8} {p : Nat} {w : World} (hs : s.size ≤ 1000000) (hne : l ≠ []) (h0 : St st p w) (h : RdL w r s l p) :
    Calls Tryz.prog 77 #[.pointer (some ⟨r, 0, none⟩), .int .u8 e.toNat, .func (.func g) #[] caps] w fun en w' => StTo St K r s (rowP item e st l p) en w' := by
  obtain ⟨k, hk⟩ : ∃ k, k = s.size - l.length := ⟨_, rfl⟩
  have hk1 : k ≤ 1000000 := by omega
  have HST := Lib.hid HSt
  have HII := Lib.hid HI; have HLL := Lib.hid HL; have HKK := Lib.hid HK
  have HR := Lib.hid h; have HK0 := Lib.hid hk; have HS0 := Lib.hid h0
  have HSP := Lib.hid (h.step hk hne)
  obtain ⟨c0, c1, c2, cf⟩ := h.cells hk
  have f1 := cf 1
  have HRO : Hid (rowP item e st l p = if pk (skipL l.tail) = e then .ok st (skipL l.tail).tail p else rowL item e ((skipL l.tail).length + 1) st (skipL l.tail) p) := Lib.hid rfl
  have HE := Lib.hid he
  clear cf h hk h0 HI HL HSt HK hne he
  go_enter Tryz.func77, Tryz.ntmps77
  go_wp2_with fail
  obtain ⟨w1, hw1⟩ : ∃ w1, w1 = w.setCell ⟨r, 1, none⟩ (.int .i64 ((k : Int) + 1)) := ⟨_, rfl⟩
  have HR1 : Hid (RdL w1 r s l.tail p) := Lib.hid (by rw [hw1]; exact HSP.out.1)
  have HS1 : Hid (St st p w1) := Lib.hid (by rw [hw1]; exact HST.out _ _ _ _ HS0.out HSP.out.2)
  rw [← hw1]
  clear hw1 c0 c1 c2 f1 HSP HS0 HR
  refine (blanks_l HR1.out (by omega)).mono ?_
  rintro en w2 ⟨rfl, hr2, ht2⟩
  have HR2 := Lib.hid hr2; have HS2 := Lib.hid (HST.out _ _ _ _ HS1.out ht2)
  clear hr2 ht2 HS1 HR1
  go_wp2_with fail
  refine (peek_t HR2.out).mono ?_
  rintro en w3 ⟨rfl, hr3, ht3⟩
  have HR3 := Lib.hid hr3; have HS3 := Lib.hid (HST.out _ _ _ _ HS2.out ht3)
  clear hr3 ht3 HS2 HR2
  obtain ⟨l1, hl1⟩ : ∃ l1, l1 = skipL l.tail := ⟨_, rfl⟩
  rw [← hl1] at HR3 HRO ⊢
  clear hl1
  obtain ⟨k1, hk1'⟩ : ∃ k1, k1 = s.size - l1.length := ⟨_, rfl⟩
  have hkk1 : k1 ≤ 1000000 := by omega
  have HK1 := Lib.hid hk1'
  obtain ⟨c, hc⟩ : ∃ c, c = pk l1 := ⟨_, rfl⟩
  rw [← hc]
  have HC := Lib.hid hc
  clear hc hk1'
  by_cases hce : c = e
  · have e1 : ((c.toNat : Int) == (e.toNat : Int)) = true := by rw [hce]; simp
    have HG : Hid (rowP item e st l p = .ok st l1.tail p) := Lib.hid (by rw [HRO.out, if_pos (by rw [← HC.out]; exact hce)])
    have HSP := Lib.hid (HR3.out.step HK1.out (pk_ne HE.out (by rw [← HC.out]; exact hce)))
    obtain ⟨c0, c1, c2, cf⟩ := HR3.out.cells HK1.out
    have f1 := cf 1
    clear cf hce
    go_wp2_with fail
    go_end0
    exact StTo.done HG.out (HST.out _ _ _ _ HS3.out HSP.out.2) HSP.out.1
  · have e1 : ((c.toNat : Int) == (e.toNat : Int)) = false := by
      simp only [beq_eq_false_iff_ne, ne_eq]; intro hh; exact hce (byte_eq hh)
    have HG : Hid (rowP item e st l p = rowL item e (l1.length + 1) st l1 p) := Lib.hid (by rw [HRO.out, if_neg (by rw [← HC.out]; exact hce)])
    clear hce HC HRO HK1 hkk1
    go_wp2_with fail
    go_loopw [] (fun wr => ∃ (st2 : σ) (l2 : List UInt8) (p2 f : Nat), l2.length ≤ s.size ∧ Hid (l2.length < f ∧ rowP item e st l p = rowL item e f st2 l2 p2) ∧ Hid (St st2 p2 wr) ∧ Hid (RdL wr r s l2 p2)) (fun wr => s.size - lenOf wr r)
    case atStart => exact ⟨st, l1, p, l1.length + 1, HR3.out.len, Lib.hid ⟨by omega, HG.out⟩, HS3, HR3⟩
    case round =>
      obtain ⟨st2, l2, p2, f, hlen, HF, HSr, HRr⟩ := hrel
      have hm := HRr.out.lenOf
      have HM := Lib.hid hm
      clear hm
      obtain ⟨f', hf'⟩ : ∃ f', f = f' + 1 := ⟨f - 1, by have := HF.out.1; omega⟩
      subst hf'
      have HCALL := Lib.hid (HII.out st2 l2 p2 wr HSr.out HRr.out)
      go_wp2_with fail
      refine HCALL.out.mono ?_
      intro en w4 ht4
      clear HCALL
      cases hi : item st2 l2 p2 with
      | bad a b =>
        rw [hi] at ht4
        obtain ⟨hf, ht4⟩ := ht4
        unfold Failed at hf
        subst hf
        exact ⟨rfl, StTo.failed (l := a) (by rw [HF.out.2]; exact rowL_bad hi) rfl ht4⟩
      | ok st3 l3 p3 =>
        rw [hi] at ht4
        obtain ⟨rfl, hs4, hr4⟩ := ht4
        have hle := HLL.out _ _ _ _ _ _ _ HSr.out hi
        have HS4 := Lib.hid hs4; have HR4 := Lib.hid hr4; have HIT := Lib.hid hi
        clear hs4 hr4 hi
        go_wp2_with fail
        refine (blanks_l HR4.out (by omega)).mono ?_
        rintro en w5 ⟨rfl, hr5, ht5⟩
        have HR5 := Lib.hid hr5; have HS5 := Lib.hid (HST.out _ _ _ _ HS4.out ht5)
        clear hr5 ht5 HS4 HR4
        go_wp2_with fail
        refine (peek_t HR5.out).mono ?_
        rintro en w6 ⟨rfl, hr6, ht6⟩
        have HR6 := Lib.hid hr6; have HS6 := Lib.hid (HST.out _ _ _ _ HS5.out ht6)
        clear hr6 ht6 HS5 HR5
        have hsl := (skip_suf l3).length_le
        have HGE : Hid (pk (skipL l3) = e → rowP item e st l p = .ok st3 (skipL l3).tail p3) := Lib.hid fun hx => by rw [HF.out.2]; exact rowL_end HIT.out hx
        have HGN : Hid (pk (skipL l3) ≠ e → pk (skipL l3) ≠ 44 → rowP item e st l p = .bad (skipL l3) 4) := Lib.hid fun hx hy => by rw [HF.out.2]; exact rowL_no HIT.out hx hy
        have HGO : Hid (pk (skipL l3) ≠ e → pk (skipL l3) = 44 → rowP item e st l p = rowL item e f' st3 (skipL l3).tail p3) := Lib.hid fun hx hy => by rw [HF.out.2]; exact rowL_go HIT.out hx hy
        have HFL := Lib.hid HF.out.1
        clear HIT HF
        obtain ⟨l4, hl4⟩ : ∃ l4, l4 = skipL l3 := ⟨_, rfl⟩
        rw [← hl4] at HR6 HGE HGN HGO hsl ⊢
        clear hl4
        obtain ⟨k4, hk4⟩ : ∃ k4, k4 = s.size - l4.length := ⟨_, rfl⟩
        have hkk4 : k4 ≤ 1000000 := by omega
        have HK4 := Lib.hid hk4
        obtain ⟨d, hd⟩ : ∃ d, d = pk l4 := ⟨_, rfl⟩
        rw [← hd]
        have HD := Lib.hid hd
        clear hd hk4
        by_cases hde : d = e
        · have e2 : ((d.toNat : Int) == (e.toNat : Int)) = true := by rw [hde]; simp
          have HG4 : Hid (rowP item e st l p = .ok st3 l4.tail p3) := Lib.hid (HGE.out (by rw [← HD.out]; exact hde))
          have HSP := Lib.hid (HR6.out.step HK4.out (pk_ne HE.out (by rw [← HD.out]; exact hde)))
          obtain ⟨c0, c1, c2, cf⟩ := HR6.out.cells HK4.out
          have f1 := cf 1
          clear cf hde
          go_wp2_with fail
          go_end0
          exact StTo.done HG4.out (HST.out _ _ _ _ HS6.out HSP.out.2) HSP.out.1
        · have e2 : ((d.toNat : Int) == (e.toNat : Int)) = false := by
            simp only [beq_eq_false_iff_ne, ne_eq]; intro hh; exact hde (byte_eq hh)
          have HNE : Hid (pk l4 ≠ e) := Lib.hid (by rw [← HD.out]; exact hde)
          have HTK := Lib.hid (take_l 44 (by decide) HR6.out (by omega))
          clear hde HD
          go_wp2_with fail
          refine HTK.out.mono ?_
          intro en w7 ht7
          clear HTK
          by_cases hp : pk l4 = 44
          · rw [show takeP 44 l4 = .ok () l4.tail from if_pos hp] at ht7
            obtain ⟨rfl, hr7, ht7⟩ := ht7
            have hlt := tail_lt (pk_ne (c := 44) (by decide) hp)
            have HR7 := Lib.hid hr7; have HS7 := Lib.hid (HST.out _ _ _ _ HS6.out ht7)
            have HG7 := Lib.hid (HGO.out HNE.out hp)
            clear hr7 ht7 hp
            go_wp2_with fail
            have hm2 := HR7.out.lenOf
            have h7 := HR7.out.len
            have hfl := HFL.out
            refine ⟨⟨st3, l4.tail, p3, f', h7, Lib.hid ⟨by omega, HG7.out⟩, HS7, HR7⟩, ?_⟩
            rw [hm2, HM.out]
            omega
          · rw [show takeP 44 l4 = .bad l4 4 from if_neg hp] at ht7
            obtain ⟨hf, ht7⟩ := ht7
            unfold Failed at hf
            subst hf
            exact ⟨rfl, StTo.failed (l := l4) (HGN.out HNE.out hp) rfl (HKK.out _ _ _ (HST.out _ _ _ _ HS6.out ht7))⟩
end Go.Proofs.YtgklnafliaplkaaGreatDoor
