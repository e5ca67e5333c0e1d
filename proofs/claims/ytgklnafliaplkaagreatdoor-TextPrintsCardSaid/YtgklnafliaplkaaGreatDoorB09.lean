/-
  The reader: a byte string's bytes.
  The reader: the next byte of a byte string.
-/
import Derived.Test.YtgklnafliaplkaaGreatDoorB08
namespace Go.Proofs.YtgklnafliaplkaaGreatDoor
open Go.RowKit

set_option maxRecDepth 100000 in
theorem hex_index (c : UInt8) : Lib.indexByte [48, 49, 50, 51, 52, 53, 54, 55, 56, 57, 97, 98, 99, 100, 101, 102] c = (match hexV c with | some n => (n : Int) | none => -1) := by
  have h : ∀ n : Fin 256, Lib.indexByte [48, 49, 50, 51, 52, 53, 54, 55, 56, 57, 97, 98, 99, 100, 101, 102] (UInt8.ofNat n.val) = (match hexV (UInt8.ofNat n.val) with | some n => (n : Int) | none => -1) := by decide
  have h1 := h ⟨c.toNat, c.toNat_lt⟩
  simpa using h1
theorem hexV_lt {c : UInt8} {n : Nat} (h : hexV c = some n) : n < 16 := by
  unfold hexV at h
  split at h
  · rename_i hd
    simp only [digB, Bool.and_eq_true, decide_eq_true_eq] at hd
    injection h with h; omega
  · split at h
    · injection h with h; omega
    · cases h
theorem hexV_ne {l : List UInt8} {n : Nat} (h : hexV (pk l) = some n) : l ≠ [] := by rintro rfl; exact absurd h (by rw [show hexV (pk []) = none from by decide]; simp)
set_option maxHeartbeats 4000000 in
set_option maxRecDepth 100000 in
theorem hex_l {w : World} {r : Nat} {s : ByteArray} {l : List UInt8} {p : Nat} (h : RdL w r s l p) (hs : s.size ≤ 1000000) :
    Calls Tryz.prog 69 #[.pointer (some ⟨r, 0, none⟩)] w fun e w' => TkTo w r s p (hexP l) (fun n => .int .u8 (n : Int)) e w' := by
  obtain ⟨k, hk⟩ : ∃ k, k = s.size - l.length := ⟨_, rfl⟩
  have hk1 : k ≤ 1000000 := by omega
  have HR := Lib.hid h; have HK := Lib.hid hk
  clear h hk
  go_enter Tryz.func69, Tryz.ntmps69
  go_wp2_with fail
  refine (peek_t HR.out).mono ?_
  rintro e w1 ⟨rfl, hr1, ht1⟩
  have HR1 := Lib.hid hr1; have HT1 := Lib.hid ht1
  clear hr1 ht1
  go_wp2_with fail
  refine (Tryz.strings_IndexByte _ _ _).mono ?_
  rintro e w2 ⟨rfl, rfl⟩
  have hix : Lib.indexByte [48, 49, 50, 51, 52, 53, 54, 55, 56, 57, 97, 98, 99, 100, 101, 102] (((pk l).toNat : Int).toNat.toUInt8) = (match hexV (pk l) with | some n => (n : Int) | none => -1) := by
    have h1 := hex_index (pk l)
    simpa using h1
  obtain ⟨c0, c1, c2, cf⟩ := HR1.out.cells HK.out
  have f1 := cf 1
  clear cf
  cases hv : hexV (pk l) with
  | none =>
    rw [hv] at hix
    simp only at hix
    rw [hix]
    have HG : Hid (hexP l = .bad l 4) := Lib.hid (by simp only [hexP, hv])
    clear hv hix
    go_wp2_with fail
    refine (fail_any (k : Int) 4 _).mono ?_
    rintro e w3 ⟨he, rfl⟩
    unfold Failed at he
    subst he
    exact ⟨rfl, TkTo.failed HG.out HK.out HT1.out⟩
  | some n =>
    rw [hv] at hix
    simp only at hix
    rw [hix]
    have HG : Hid (hexP l = .ok n l.tail) := Lib.hid (by simp only [hexP, hv])
    have hn : n < 16 := hexV_lt hv
    have HS := Lib.hid (HR1.out.step HK.out (hexV_ne hv))
    have hn0 : ¬ (n : Int) < 0 := by omega
    clear hv hix
    go_wp2_with fail
    go_ret
    have h1 : IntKind.u8.wrap (n : Int) = (n : Int) := IntWalk.u8_in _ (by omega)
    first | exact TkTo.done HG.out HS.out.1 (HT1.out.trans HS.out.2) | (rw [h1]; exact TkTo.done HG.out HS.out.1 (HT1.out.trans HS.out.2))
end Go.Proofs.YtgklnafliaplkaaGreatDoor
namespace Go.Proofs.YtgklnafliaplkaaGreatDoor
open Go.RowKit

theorem plain_eq (c : UInt8) : plainB c = plainC c := rfl
theorem plainC_ne {l : List UInt8} (h : plainC (pk l) = true) : l ≠ [] := by rintro rfl; exact absurd h (by decide)
theorem byte_eq {c d : UInt8} (h : (c.toNat : Int) = d.toNat) : c = d := UInt8.toNat_inj.1 (by omega)
set_option maxRecDepth 100000 in
theorem hex_or {hi lo : Nat} (h : hi < 16) (h2 : lo < 16) : bits BinOp.or IntKind.u8 ((hi : Int) * 16) (lo : Int) = ((UInt8.ofNat (16 * hi + lo)).toNat : Int) := by
  have h0 : ∀ a b : Fin 16, bits BinOp.or IntKind.u8 ((a.val : Int) * 16) (b.val : Int) = ((UInt8.ofNat (16 * a.val + b.val)).toNat : Int) := by decide
  exact h0 ⟨hi, h⟩ ⟨lo, h2⟩
set_option maxHeartbeats 4000000 in
set_option maxRecDepth 100000 in
theorem inner_l {w : World} {r : Nat} {s : ByteArray} {l : List UInt8} {p : Nat} (h : RdL w r s l p) (hs : s.size ≤ 1000000) :
    Calls Tryz.prog 44 #[.pointer (some ⟨r, 0, none⟩)] w fun e w' => TkTo w r s p (innerP l) (fun c => .int .u8 (c.toNat : Int)) e w' := by
  obtain ⟨k, hk⟩ : ∃ k, k = s.size - l.length := ⟨_, rfl⟩
  have hk1 : k ≤ 1000000 := by omega
  have HR := Lib.hid h; have HK := Lib.hid hk
  clear h hk
  go_enter Tryz.func44, Tryz.ntmps44
  go_wp2_with fail
  refine (peek_t HR.out).mono ?_
  rintro e w1 ⟨rfl, hr1, ht1⟩
  have HR1 := Lib.hid hr1; have HT1 := Lib.hid ht1
  clear hr1 ht1
  obtain ⟨c, hc⟩ : ∃ c, c = pk l := ⟨_, rfl⟩
  rw [← hc]
  have HC := Lib.hid hc
  clear hc
  go_wp2_with fail
  refine (plain_any c _).mono ?_
  rintro e w2 ⟨rfl, rfl⟩
  obtain ⟨c0, c1, c2, cf⟩ := HR1.out.cells HK.out
  have f1 := cf 1
  clear cf
  cases hp : plainB c with
  | false =>
    have HG : Hid (innerP l = .bad l 4) := Lib.hid (by unfold innerP; rw [if_pos (by rw [← HC.out]; exact hp)])
    clear hp
    go_wp2_with fail
    refine (fail_any (k : Int) 4 _).mono ?_
    rintro e w3 ⟨he, rfl⟩
    unfold Failed at he
    subst he
    exact ⟨rfl, TkTo.failed HG.out HK.out HT1.out⟩
  | true =>
    have hne : l ≠ [] := plainC_ne (by rw [← HC.out]; exact hp)
    have HG0 : Hid (innerP l = if pk l ≠ 92 then .ok (pk l) l.tail else if pk l.tail = 34 ∨ pk l.tail = 92 then .ok (pk l.tail) l.tail.tail else if pk l.tail ≠ 120 then .bad l.tail 4 else hex2P l.tail.tail) := Lib.hid (by
      unfold innerP; rw [if_neg (by rw [← HC.out]; intro hh; rw [← plain_eq, hp] at hh; cases hh)])
    have HS := Lib.hid (HR1.out.step HK.out hne)
    have hl1 : 0 < l.length := List.length_pos_iff.2 hne
    have HLL := Lib.hid hl1
    clear hp hne hl1
    by_cases h92 : c = 92
    · have e1 : ((c.toNat : Int) != 92) = false := by rw [h92]; rfl
      have HG1 : Hid (innerP l = if pk l.tail = 34 ∨ pk l.tail = 92 then .ok (pk l.tail) l.tail.tail else if pk l.tail ≠ 120 then .bad l.tail 4 else hex2P l.tail.tail) := Lib.hid (by
        rw [HG0.out, if_neg (by rw [← HC.out, h92]; simp)])
      clear h92 HG0
      go_wp2_with fail
      obtain ⟨w2, hw2⟩ : ∃ w2, w2 = w1.setCell ⟨r, 1, none⟩ (.int .i64 ((k : Int) + 1)) := ⟨_, rfl⟩
      have HR2 : Hid (RdL w2 r s l.tail p) := Lib.hid (by rw [hw2]; exact HS.out.1)
      have HT2 : Hid (Turned w w2 [] r) := Lib.hid (by rw [hw2]; exact HT1.out.trans HS.out.2)
      rw [← hw2]
      clear hw2 c0 c1 c2 f1 HS HR1 HT1
      refine (peek_t HR2.out).mono ?_
      rintro e w3 ⟨rfl, hr3, ht3⟩
      have HR3 := Lib.hid hr3; have HT3 := Lib.hid (HT2.out.trans ht3)
      clear hr3 ht3
      obtain ⟨d, hd⟩ : ∃ d, d = pk l.tail := ⟨_, rfl⟩
      rw [← hd]
      have HD := Lib.hid hd
      clear hd
      obtain ⟨k2, hk2⟩ : ∃ k2, k2 = s.size - l.tail.length := ⟨_, rfl⟩
      have hk2m : k2 ≤ 1000000 := by omega
      have HK2 := Lib.hid hk2
      clear hk2
      obtain ⟨c0, c1, c2, cf⟩ := HR3.out.cells HK2.out
      have f1 := cf 1
      clear cf
      by_cases hq : d = 34 ∨ d = 92
      · have HG2 : Hid (innerP l = .ok d l.tail.tail) := Lib.hid (by rw [HG1.out, if_pos (by rw [← HD.out]; exact hq), ← HD.out])
        have HS3 := Lib.hid (HR3.out.step HK2.out (by rintro hh; rw [hh] at HD; rcases hq with hq | hq <;> exact absurd (hq.symm.trans HD.out) (by decide)))
        rcases hq with hq | hq
        · have e2 : ((d.toNat : Int) == 34) = true := by rw [hq]; rfl
          clear hq
          go_wp2_with fail
          go_ret
          exact TkTo.done HG2.out HS3.out.1 (HT3.out.trans HS3.out.2)
        · have e2 : ((d.toNat : Int) == 34) = false := by rw [hq]; rfl
          have e3 : ((d.toNat : Int) == 92) = true := by rw [hq]; rfl
          clear hq
          go_wp2_with fail
          go_ret
          exact TkTo.done HG2.out HS3.out.1 (HT3.out.trans HS3.out.2)
      · have e2 : ((d.toNat : Int) == 34) = false := by
          simp only [beq_eq_false_iff_ne, ne_eq]; intro hh; exact hq (.inl (byte_eq (d := 34) hh))
        have e3 : ((d.toNat : Int) == 92) = false := by
          simp only [beq_eq_false_iff_ne, ne_eq]; intro hh; exact hq (.inr (byte_eq (d := 92) hh))
        have HG2 : Hid (innerP l = if pk l.tail ≠ 120 then .bad l.tail 4 else hex2P l.tail.tail) := Lib.hid (by rw [HG1.out, if_neg (by rw [← HD.out]; exact hq)])
        clear hq HG1
        have HTK := Lib.hid (take_l 120 (by decide) HR3.out (by omega))
        clear c0 c1 c2 f1
        go_wp2_with fail
        refine HTK.out.mono ?_
        intro e w4 ht4
        clear HTK
        by_cases h120 : pk l.tail = 120
        · rw [show takeP 120 l.tail = .ok () l.tail.tail from if_pos h120] at ht4
          have HG3 : Hid (innerP l = hex2P l.tail.tail) := Lib.hid (by rw [HG2.out, if_neg (by rw [h120]; simp)])
          obtain ⟨rfl, hr4, ht4⟩ := ht4
          have HR4 := Lib.hid hr4; have HT4 := Lib.hid (HT3.out.trans ht4)
          clear hr4 ht4 h120
          go_wp2_with fail
          refine (hex_l HR4.out hs).mono ?_
          intro e w5 ht5
          cases hx : hexP l.tail.tail with
          | bad a b =>
            rw [hx] at ht5
            obtain ⟨hf, ht5⟩ := ht5
            unfold Failed at hf
            subst hf
            exact ⟨rfl, TkTo.failed (l := a) (by rw [HG3.out]; simp only [hex2P, hx]) rfl (HT4.out.trans ht5)⟩
          | ok hi l5 =>
            rw [hx] at ht5
            obtain ⟨rfl, hr5, ht5⟩ := ht5
            have hhi : hi < 16 := by
              unfold hexP at hx
              split at hx
              · rename_i n hn; injection hx with h1 _; have := hexV_lt hn; omega
              · cases hx
            have HR5 := Lib.hid hr5; have HT5 := Lib.hid (HT4.out.trans ht5); have HX := Lib.hid hx
            clear hr5 ht5 hx
            go_wp2_with fail
            refine (hex_l HR5.out hs).mono ?_
            intro e w6 ht6
            cases hx2 : hexP l5 with
            | bad a b =>
              rw [hx2] at ht6
              obtain ⟨hf, ht6⟩ := ht6
              unfold Failed at hf
              subst hf
              exact ⟨rfl, TkTo.failed (l := a) (by rw [HG3.out]; simp only [hex2P, HX.out, hx2]) rfl (HT5.out.trans ht6)⟩
            | ok lo l6 =>
              rw [hx2] at ht6
              obtain ⟨rfl, hr6, ht6⟩ := ht6
              have hlo : lo < 16 := by
                unfold hexP at hx2
                split at hx2
                · rename_i n hn; injection hx2 with h1 _; have := hexV_lt hn; omega
                · cases hx2
              have HR6 := Lib.hid hr6; have HT6 := Lib.hid (HT5.out.trans ht6)
              have HG6 : Hid (innerP l = .ok (UInt8.ofNat (16 * hi + lo)) l6) := Lib.hid (by rw [HG3.out]; simp only [hex2P, HX.out, hx2])
              clear hr6 ht6 hx2
              go_wp2_with fail
              go_ret
              have hv := hex_or hhi hlo
              have h6 := TkTo.done (f := fun c : UInt8 => Value.int .u8 (c.toNat : Int)) HG6.out HR6.out HT6.out
              simp only [← hv] at h6
              exact h6
        · rw [show takeP 120 l.tail = .bad l.tail 4 from if_neg h120] at ht4
          obtain ⟨hf, ht4⟩ := ht4
          unfold Failed at hf
          subst hf
          exact ⟨rfl, TkTo.failed (l := l.tail) (by rw [HG2.out, if_pos h120]) rfl (HT3.out.trans ht4)⟩
    · have e1 : ((c.toNat : Int) != 92) = true := by
        simp only [bne_iff_ne, ne_eq]; intro hh; exact h92 (byte_eq (d := 92) hh)
      have HG1 : Hid (innerP l = .ok c l.tail) := Lib.hid (by rw [HG0.out, if_pos (by rw [← HC.out]; exact h92), ← HC.out])
      clear h92 HG0
      go_wp2_with fail
      go_ret
      exact TkTo.done HG1.out HS.out.1 (HT1.out.trans HS.out.2)
end Go.Proofs.YtgklnafliaplkaaGreatDoor
