/-
  The reader over what is left of a text: peek, take, blanks, digits.
  The reader: digits, hex.
  Blanks about the signs make no other document; plain lemmas.
-/
import Derived.Test.YtgklnafliaplkaaGreatDoorB04
import Derived.Test.YtgklnafliaplkaaGreatDoorB03
import Derived.Test.YtgklnafliaplkaaGreatDoorB06
import Derived.Deep.DeepCutAuto
namespace Go.Proofs.YtgklnafliaplkaaGreatDoor
open Go.RowKit

/-- The reader at block r: of the text s, l is left; so many parts have begun. -/
structure RdL (w : World) (r : Nat) (s : ByteArray) (l : List UInt8) (p : Nat) : Prop where
  rd : Rdr w r s (s.size - l.length) p
  suf : l <:+ s.data.toList
  eg : ∃ ev, w.cell? ⟨1, 0, none⟩ = some ev ∧ (ev = .nilIface ∨ ∃ te pe, ev = .iface te pe)
  gr : 1 < r
theorem suf_len {s : ByteArray} {l : List UInt8} (h : l <:+ s.data.toList) : l.length ≤ s.size := by have := h.length_le; simpa using this
theorem RdL.len {w : World} {r : Nat} {s : ByteArray} {l : List UInt8} {p : Nat} (h : RdL w r s l p) : l.length ≤ s.size := suf_len h.suf
theorem suf_drop {s : ByteArray} {l : List UInt8} (h : l <:+ s.data.toList) : s.data.toList.drop (s.size - l.length) = l := by
  obtain ⟨t, ht⟩ := h
  have h1 : t.length + l.length = s.size := by have := congrArg List.length ht; simpa using this
  rw [← ht, show s.size - l.length = t.length by omega]; simp
theorem peekB_pk {s : ByteArray} {l : List UInt8} (h : l <:+ s.data.toList) : peekB s (s.size - l.length) = pk l := by
  have hl := suf_len h
  have hd := suf_drop h
  unfold peekB pk
  cases l with
  | nil => rw [dif_neg (by simp)]; rfl
  | cons c t =>
    have hk : s.size - (c :: t).length < s.size := by simp at hl ⊢; omega
    rw [dif_pos hk]
    have hk' : s.size - (c :: t).length < s.data.toList.length := by simpa using hk
    have h1 : s.data.toList[s.size - (c :: t).length]'hk' = c := by
      have h2 := List.getElem_drop (xs := s.data.toList) (i := s.size - (c :: t).length) (j := 0) (h := by rw [hd]; simp)
      simp only [hd, Nat.add_zero, List.getElem_cons_zero] at h2
      exact h2.symm
    exact h1
theorem RdL.block {w : World} {r : Nat} {s : ByteArray} {l : List UInt8} {p : Nat} (h : RdL w r s l p) : r < w.heap.size := by
  rcases Nat.lt_or_ge r w.heap.size with h1 | h1
  · exact h1
  · have h2 := h.rd; unfold Rdr at h2; simp [Array.getElem?_eq_none h1] at h2
theorem RdL.drewN {w : World} {r : Nat} {s : ByteArray} {l : List UInt8} {p : Nat} (h : RdL w r s l p) (n : Nat) : RdL (w.drewN n) r s l p := ⟨h.rd.drewN n, h.suf, h.eg, h.gr⟩
/-- .. behind what turns nothing but new memory, and the reader. -/
theorem RdL.goes {w w' : World} {r : Nat} {s : ByteArray} {l l' : List UInt8} {p p' : Nat} (h : RdL w r s l p) (t : Turned w w' [] r) (hr : Rdr w' r s (s.size - l'.length) p') (hs : l' <:+ s.data.toList) : RdL w' r s l' p' := by
  have hg := h.gr; have hb := h.block
  obtain ⟨ev, h1, h2⟩ := h.eg
  exact ⟨hr, hs, ⟨ev, (World.cell?_of_block (a := ⟨1, 0, none⟩) (t.block _ (by show 1 < _; omega) (by simp) (by show 1 ≠ r; omega))).trans h1, h2⟩, h.gr⟩
theorem RdL.past {w w' : World} {r : Nat} {s : ByteArray} {l : List UInt8} {p : Nat} (h : RdL w r s l p) (hb : Below w.heap.size w w') : RdL w' r s l p :=
  h.goes (Turned.of_below hb _ _) (by have h1 := h.rd; unfold Rdr at h1 ⊢; rw [hb.block _ h.block]; exact h1) h.suf
theorem RdL.cells {w : World} {r k : Nat} {s : ByteArray} {l : List UInt8} {p : Nat} (h : RdL w r s l p) (hk : k = s.size - l.length) : w.cell? ⟨r, 0, none⟩ = some (.string s) ∧ w.cell? ⟨r, 1, none⟩ = some (.int .i64 (k : Int)) ∧ w.cell? ⟨r, 2, none⟩ = some (.int .i64 (p : Int)) ∧ ∀ i, w.frozen? ⟨r, i, none⟩ = false := by
  subst hk; exact ⟨h.rd.cells.1, h.rd.cells.2.1, h.rd.cells.2.2, h.rd.frozen⟩
theorem tail_suf {l L : List UInt8} (h : l <:+ L) : l.tail <:+ L := (List.tail_suffix l).trans h
/-- r.at++ -/
theorem RdL.step {w : World} {r k : Nat} {s : ByteArray} {l : List UInt8} {p : Nat} (h : RdL w r s l p) (hk : k = s.size - l.length) (hl : l ≠ []) :
    RdL (w.setCell ⟨r, 1, none⟩ (.int .i64 ((k : Int) + 1))) r s l.tail p ∧ Turned w (w.setCell ⟨r, 1, none⟩ (.int .i64 ((k : Int) + 1))) [] r := by
  have ht : Turned w (w.setCell ⟨r, 1, none⟩ (.int .i64 ((k : Int) + 1))) [] r := (Turned.of_below (Below.refl _ _) _ _).setCell (.inr (.inl rfl)) _
  refine ⟨h.goes ht ?_ (tail_suf h.suf), ht⟩
  have h1 := h.len
  have h2 : s.size - l.tail.length = k + 1 := by
    have h3 : 0 < l.length := List.length_pos_iff.2 hl
    simp; omega
  rw [h2]
  exact h.rd.goes
theorem pk_ne {l : List UInt8} {c : UInt8} (hc : c ≠ 0) (h : pk l = c) : l ≠ [] := by rintro rfl; exact hc h.symm
/-- What a token's reader tells. -/
def TkTo {α : Type} (w : World) (r : Nat) (s : ByteArray) (p : Nat) (t : Tk α) (f : α → Value) (e : Ending) (w' : World) : Prop := match t with
  | .ok v l => e = .returned (f v) ∧ RdL w' r s l p ∧ Turned w w' [] r
  | .bad l er => Failed ((s.size - l.length : Nat) : Int) er e ∧ Turned w w' [] r
def takeP (c : UInt8) (l : List UInt8) : Tk Unit := if pk l = c then .ok () l.tail else .bad l 4
theorem peek_l {w : World} {r : Nat} {s : ByteArray} {l : List UInt8} {p : Nat} (h : RdL w r s l p) :
    Calls Tryz.prog 42 #[.pointer (some ⟨r, 0, none⟩)] w fun e w' => e = .returned (.int .u8 (pk l).toNat) ∧ ∃ n, w' = w.drewN n := by
  have h1 := peek_any h.rd (by omega)
  rw [peekB_pk h.suf] at h1
  exact h1
theorem peek_t {w : World} {r : Nat} {s : ByteArray} {l : List UInt8} {p : Nat} (h : RdL w r s l p) :
    Calls Tryz.prog 42 #[.pointer (some ⟨r, 0, none⟩)] w fun e w' => e = .returned (.int .u8 (pk l).toNat) ∧ RdL w' r s l p ∧ Turned w w' [] r := by
  refine Calls.mono (peek_l h) ?_
  rintro e w1 ⟨rfl, n, rfl⟩
  exact ⟨rfl, h.drewN n, turned_drewN w n r⟩
theorem skip_suf : ∀ l : List UInt8, skipL l <:+ l
  | [] => List.suffix_refl _
  | c :: t => by
    unfold skipL
    split
    · exact (skip_suf t).trans (List.suffix_cons _ _)
    · exact List.suffix_refl _
theorem skipB_skipL {s : ByteArray} : ∀ {l : List UInt8}, l <:+ s.data.toList → skipB s (s.size - l.length) = s.size - (skipL l).length
  | [], h => by
    have h1 := peekB_pk h
    rw [skipB_stop (by rw [h1]; decide)]; rfl
  | c :: t, h => by
    have h1 := peekB_pk h
    have hl := suf_len h
    have hp : pk (c :: t) = c := rfl
    by_cases hb : blankC c = true
    · have h2 := skipB_go (s := s) (k := s.size - (c :: t).length) (by rw [h1]; exact hb)
      rw [h2.2]
      have h3 : s.size - (c :: t).length + 1 = s.size - t.length := by simp at hl ⊢; omega
      rw [h3, skipB_skipL ((List.suffix_cons c t).trans h)]
      simp [skipL, hb]
    · rw [skipB_stop (by rw [h1]; exact Bool.eq_false_iff.2 hb)]
      simp [skipL, hb]
theorem blanks_l {w : World} {r : Nat} {s : ByteArray} {l : List UInt8} {p : Nat} (h : RdL w r s l p) (hs : s.size ≤ 140737488351232) :
    Calls Tryz.prog 37 #[.pointer (some ⟨r, 0, none⟩)] w fun e w' => e = .returned (.tuple #[]) ∧ RdL w' r s (skipL l) p ∧ Turned w w' [] r := by
  refine Calls.mono (blanks_any h.rd (by omega) hs) ?_
  rintro e w1 ⟨rfl, hr, ht⟩
  rw [skipB_skipL h.suf] at hr
  exact ⟨rfl, h.goes ht hr ((skip_suf l).trans h.suf), ht⟩
theorem take_l {w : World} {r : Nat} {s : ByteArray} {l : List UInt8} {p : Nat} (c : UInt8) (hc : c ≠ 0) (h : RdL w r s l p) (hs : s.size ≤ 140737488351232) :
    Calls Tryz.prog 41 #[.pointer (some ⟨r, 0, none⟩), .int .u8 c.toNat] w fun e w' => TkTo w r s p (takeP c l) (fun _ => .tuple #[]) e w' := by
  refine Calls.mono (take_any c h.rd (by omega) hs) ?_
  rw [peekB_pk h.suf]
  rintro e w1 (⟨hp, rfl, hr, ht⟩ | ⟨hp, hf, ht⟩)
  · unfold TkTo takeP
    rw [if_pos hp]
    have h1 := h.len
    have h3 : 0 < l.length := List.length_pos_iff.2 (pk_ne hc hp)
    have h2 : s.size - l.length + 1 = s.size - l.tail.length := by simp; omega
    rw [h2] at hr
    exact ⟨rfl, h.goes ht hr (tail_suf h.suf), ht⟩
  · unfold TkTo takeP
    rw [if_neg hp]
    exact ⟨hf, ht⟩
set_option maxHeartbeats 400000 in
theorem smallC_any (c : UInt8) (w : World) : Calls Tryz.prog 82 #[.int .u8 (c.toNat : Int)] w fun e w' => e = .returned (.bool (lowB c)) ∧ w = w' := by
  go_enter Tryz.func82, Tryz.ntmps82
  go_wp2
  all_goals (go_ret; refine ⟨tx_ret_bool ?_, rfl⟩; rw [Bool.eq_iff_iff]; simp [lowB]; omega)
set_option maxHeartbeats 400000 in
theorem digitC_any (c : UInt8) (w : World) : Calls Tryz.prog 70 #[.int .u8 (c.toNat : Int)] w fun e w' => e = .returned (.bool (digB c)) ∧ w = w' := by
  go_enter Tryz.func70, Tryz.ntmps70
  go_wp2
  all_goals (go_ret; refine ⟨tx_ret_bool ?_, rfl⟩; rw [Bool.eq_iff_iff]; simp [digB]; omega)
end Go.Proofs.YtgklnafliaplkaaGreatDoor
namespace Go.Proofs.YtgklnafliaplkaaGreatDoor
open Go.RowKit

theorem TkTo.past {α : Type} {w0 w w' : World} {r : Nat} {s : ByteArray} {p : Nat} {t : Tk α} {f : α → Value} {e : Ending} (h : TkTo w r s p t f e w') (h0 : Turned w0 w [] r) : TkTo w0 r s p t f e w' := by
  cases t with
  | ok v l => exact ⟨h.1, h.2.1, h0.trans h.2.2⟩
  | bad l er => exact ⟨h.1, h0.trans h.2⟩
theorem TkTo.failed {α : Type} {w w' : World} {r k er : Nat} {s : ByteArray} {p : Nat} {t : Tk α} {f : α → Value} {l : List UInt8} (ht : t = .bad l er) (hk : k = s.size - l.length) (h : Turned w w' [] r) : TkTo w r s p t f (.panicked [{ v := faultV (k : Int) er, recovered := false }]) w' := by
  subst ht; subst hk; exact ⟨rfl, h⟩
theorem TkTo.done {α : Type} {w w' : World} {r : Nat} {s : ByteArray} {p : Nat} {t : Tk α} {f : α → Value} {l : List UInt8} {v : α} (ht : t = .ok v l) (hr : RdL w' r s l p) (h : Turned w w' [] r) : TkTo w r s p t f (.returned (f v)) w' := by
  subst ht; exact ⟨rfl, hr, h⟩
theorem RdL.turned {w w' : World} {r : Nat} {s : ByteArray} {l : List UInt8} {p : Nat} (_ : RdL w r s l p) (hb : Below w.heap.size w w') : Turned w w' [] r := Turned.of_below hb _ _
def lenOf (w : World) (r : Nat) : Nat := match w.cell? ⟨r, 1, none⟩ with | some (.int _ n) => n.toNat | _ => 0
theorem RdL.lenOf {w : World} {r : Nat} {s : ByteArray} {l : List UInt8} {p : Nat} (h : RdL w r s l p) : lenOf w r = s.size - l.length := by unfold Proofs.YtgklnafliaplkaaGreatDoor.lenOf; rw [(h.cells rfl).2.1]; simp
theorem dropWhile_cons' {q : UInt8 → Bool} {l : List UInt8} (h : q (pk l) = true) (hl : l ≠ []) : l.dropWhile q = l.tail.dropWhile q := by
  cases l with
  | nil => exact absurd rfl hl
  | cons c t => simp only [pk, List.headD_cons] at h; rw [List.dropWhile_cons_of_pos h]; rfl
theorem dropWhile_stop {q : UInt8 → Bool} {l : List UInt8} (h : q (pk l) = false) : l.dropWhile q = l := by
  cases l with
  | nil => rfl
  | cons c t => simp only [pk, List.headD_cons] at h; rw [List.dropWhile_cons_of_neg (by simp [h])]
theorem digB_ne {l : List UInt8} (h : digB (pk l) = true) : l ≠ [] := by rintro rfl; revert h; decide
set_option maxHeartbeats 4000000 in
set_option maxRecDepth 100000 in
theorem digits_l {w : World} {r : Nat} {s : ByteArray} {l : List UInt8} {p : Nat} (h : RdL w r s l p) (hs : s.size ≤ 140737488351232) :
    Calls Tryz.prog 46 #[.pointer (some ⟨r, 0, none⟩)] w fun e w' => TkTo w r s p (digitsP l) (fun _ => .tuple #[]) e w' := by
  obtain ⟨k, hk⟩ : ∃ k, k = s.size - l.length := ⟨_, rfl⟩
  have hk1 : k ≤ 140737488351232 := by omega
  have HR := Lib.hid h; have HK := Lib.hid hk
  clear h hk
  go_enter Tryz.func46, Tryz.ntmps46
  go_wp2_with fail
  refine (peek_t HR.out).mono ?_
  rintro e w1 ⟨rfl, hr1, ht1⟩
  have HR1 := Lib.hid hr1; have HT1 := Lib.hid ht1
  clear hr1 ht1
  obtain ⟨c, hc⟩ : ∃ c, c = pk l := ⟨_, rfl⟩
  rw [← hc]
  have HC := Lib.hid hc
  clear hc
  by_cases h48 : c = 48
  · have e1 : ((c.toNat : Int) == 48) = true := by rw [h48]; rfl
    have HS := Lib.hid (HR1.out.step HK.out (pk_ne (c := 48) (by decide) (by rw [← HC.out, h48])))
    have HG : Hid (digitsP l = .ok () l.tail) := Lib.hid (by unfold digitsP; rw [if_pos (by rw [← HC.out, h48])])
    obtain ⟨c0, c1, c2, cf⟩ := HR1.out.cells HK.out
    have f1 := cf 1
    clear cf h48
    go_wp2_with fail
    go_end0
    rw [HG.out]
    exact ⟨rfl, HS.out.1, HT1.out.trans HS.out.2⟩
  · have e1 : ((c.toNat : Int) == 48) = false := by
      simp only [beq_eq_false_iff_ne, ne_eq]; intro hh; exact h48 (UInt8.toNat_inj.1 (by show c.toNat = 48; omega))
    have HG : Hid (digitsP l = (let l1 := if pk l = 45 then l.tail else l; if pk l1 = 48 ∨ digB (pk l1) = false then .bad l1 4 else .ok () (l1.dropWhile digB))) := Lib.hid (by unfold digitsP; rw [if_neg (by rw [← HC.out]; exact h48)])
    clear h48
    go_wp2_with fail
    refine (peek_t HR1.out).mono ?_
    rintro e w2 ⟨rfl, hr2, ht2⟩
    rw [← HC.out]
    have HR2 := Lib.hid hr2; have HT2 := Lib.hid (HT1.out.trans ht2)
    clear hr2 ht2
    obtain ⟨l1, hl1⟩ : ∃ l1, l1 = if pk l = 45 then l.tail else l := ⟨_, rfl⟩
    have HG2 : Hid (digitsP l = if pk l1 = 48 ∨ digB (pk l1) = false then .bad l1 4 else .ok () (l1.dropWhile digB)) := Lib.hid (by rw [HG.out]; simp only [← hl1])
    have HL1 := Lib.hid hl1
    clear HG hl1
    go_upto_if 14 with fail
    go_cut [] (fun wx => Hid (RdL wx r s l1 p ∧ Turned w wx [] r))
    case first =>
      by_cases h45 : c = 45
      · have e2 : ((c.toNat : Int) == 45) = true := by rw [h45]; rfl
        have HS := Lib.hid (HR2.out.step HK.out (pk_ne (c := 45) (by decide) (by rw [← HC.out, h45])))
        have HE : Hid (l1 = l.tail) := Lib.hid (by rw [HL1.out, if_pos (by rw [← HC.out, h45])])
        obtain ⟨c0, c1, c2, cf⟩ := HR2.out.cells HK.out
        have f1 := cf 1
        clear cf h45
        go_wp2_with fail
        go_meet
        exact Lib.hid ⟨by rw [HE.out]; exact HS.out.1, HT2.out.trans HS.out.2⟩
      · have e2 : ((c.toNat : Int) == 45) = false := by
          simp only [beq_eq_false_iff_ne, ne_eq]; intro hh; exact h45 (UInt8.toNat_inj.1 (by show c.toNat = 45; omega))
        have HE : Hid (l1 = l) := Lib.hid (by rw [HL1.out, if_neg (by rw [← HC.out]; exact h45)])
        clear h45
        go_wp2_with fail
        go_meet
        exact Lib.hid ⟨by rw [HE.out]; exact HR2.out, HT2.out⟩
    case rest =>
      obtain ⟨HRc, HTc⟩ : Hid (RdL wc r s l1 p) ∧ Hid (Turned w wc [] r) := ⟨Lib.hid hcut.out.1, Lib.hid hcut.out.2⟩
      clear hcut HR2 HT2 HR1 HT1 HC HL1 HK
      go_wp2_with fail
      refine (peek_t HRc.out).mono ?_
      rintro e w3 ⟨rfl, hr3, ht3⟩
      have HR3 := Lib.hid hr3; have HT3 := Lib.hid (HTc.out.trans ht3)
      clear hr3 ht3
      obtain ⟨k1, hk1'⟩ : ∃ k1, k1 = s.size - l1.length := ⟨_, rfl⟩
      have hkk : k1 ≤ 140737488351232 := by omega
      have HK := Lib.hid hk1'
      obtain ⟨d, hd⟩ : ∃ d, d = pk l1 := ⟨_, rfl⟩
      rw [← hd]
      have HC := Lib.hid hd
      clear hd hk1'
      by_cases hbad : d = 48 ∨ digB d = false
      · have HGB : Hid (digitsP l = .bad l1 4) := Lib.hid (by rw [HG2.out, if_pos (by rw [← HC.out]; exact hbad)])
        by_cases h48' : d = 48
        · have e2 : ((d.toNat : Int) == 48) = true := by rw [h48']; rfl
          obtain ⟨c0, c1, c2, cf⟩ := HR3.out.cells HK.out
          clear cf h48' hbad
          go_wp2_with fail
          refine (fail_any (k1 : Int) 4 _).mono ?_
          rintro e w4 ⟨he, rfl⟩
          unfold Failed at he
          subst he
          exact ⟨rfl, TkTo.failed HGB.out HK.out HT3.out⟩
        · have e2 : ((d.toNat : Int) == 48) = false := by
            simp only [beq_eq_false_iff_ne, ne_eq]; intro hh; exact h48' (UInt8.toNat_inj.1 (by show d.toNat = 48; omega))
          have hdig : digB d = false := hbad.resolve_left h48'
          clear h48' hbad
          go_wp2_with fail
          refine (peek_t HR3.out).mono ?_
          rintro e w4 ⟨rfl, hr4, ht4⟩
          rw [← HC.out]
          have HR4 := Lib.hid hr4; have HT4 := Lib.hid (HT3.out.trans ht4)
          clear hr4 ht4
          go_wp2_with fail
          refine (digitC_any d _).mono ?_
          rintro e w4 ⟨rfl, rfl⟩
          rw [hdig]
          obtain ⟨c0, c1, c2, cf⟩ := HR4.out.cells HK.out
          clear cf
          go_wp2_with fail
          refine (fail_any (k1 : Int) 4 _).mono ?_
          rintro e w4 ⟨he, rfl⟩
          unfold Failed at he
          subst he
          exact ⟨rfl, TkTo.failed HGB.out HK.out HT4.out⟩
      · have HGB : Hid (digitsP l = .ok () (l1.dropWhile digB)) := Lib.hid (by rw [HG2.out, if_neg (by rw [← HC.out]; exact hbad)])
        have e2 : ((d.toNat : Int) == 48) = false := by
          simp only [beq_eq_false_iff_ne, ne_eq]; intro hh; exact hbad (.inl (UInt8.toNat_inj.1 (by show d.toNat = 48; omega)))
        have hdig : digB d = true := by
          cases hx : digB d
          · exact absurd (.inr hx) hbad
          · rfl
        clear hbad
        go_wp2_with fail
        refine (peek_t HR3.out).mono ?_
        rintro e w4 ⟨rfl, hr4, ht4⟩
        rw [← HC.out]
        have HR4 := Lib.hid hr4; have HT4 := Lib.hid (HT3.out.trans ht4)
        clear hr4 ht4
        go_wp2_with fail
        refine (digitC_any d _).mono ?_
        rintro e w4 ⟨rfl, rfl⟩
        rw [hdig]
        clear hdig e2 HC HK
        go_wp2_with fail
        go_loopw [] (fun wr => ∃ l2 : List UInt8, l2.length ≤ s.size ∧ Hid (l1.dropWhile digB = l2.dropWhile digB) ∧ Hid (RdL wr r s l2 p) ∧ Hid (Turned w wr [] r)) (fun wr => s.size - lenOf wr r)
        case atStart => exact ⟨l1, HR4.out.len, Lib.hid rfl, HR4, HT4⟩
        case round =>
          obtain ⟨l2, hlen, HD, HRr, HTr⟩ := hrel
          have hm := HRr.out.lenOf
          have HM := Lib.hid hm
          clear hm
          go_wp2_with fail
          refine (peek_t HRr.out).mono ?_
          rintro e w5 ⟨rfl, hr5, ht5⟩
          have HR5 := Lib.hid hr5; have HT5 := Lib.hid (HTr.out.trans ht5)
          clear hr5 ht5
          obtain ⟨k2, hk2'⟩ : ∃ k2, k2 = s.size - l2.length := ⟨_, rfl⟩
          have hkk2 : k2 ≤ 140737488351232 := by omega
          have HK := Lib.hid hk2'
          obtain ⟨d2, hd2⟩ : ∃ d2, d2 = pk l2 := ⟨_, rfl⟩
          rw [← hd2]
          have HC := Lib.hid hd2
          clear hd2 hk2'
          go_wp2_with fail
          refine (digitC_any d2 _).mono ?_
          rintro e w6 ⟨rfl, rfl⟩
          cases hb2 : digB d2
          · have HE : Hid (l1.dropWhile digB = l2) := Lib.hid (by rw [HD.out]; exact dropWhile_stop (by rw [← HC.out]; exact hb2))
            clear hb2
            go_wp2_with fail
            first | go_end0 | go_ret
            rw [HGB.out, HE.out]
            exact ⟨rfl, HR5.out, HT5.out⟩
          · have hne : l2 ≠ [] := digB_ne (by rw [← HC.out]; exact hb2)
            have HE : Hid (l1.dropWhile digB = l2.tail.dropWhile digB) := Lib.hid (by rw [HD.out]; exact dropWhile_cons' (by rw [← HC.out]; exact hb2) hne)
            have HS := Lib.hid (HR5.out.step HK.out hne)
            have HLT : Hid (s.size - l2.tail.length > s.size - l2.length) := Lib.hid (by
              have h3 : 0 < l2.length := List.length_pos_iff.2 hne
              simp; omega)
            have HTL : Hid (l2.tail.length ≤ s.size) := Lib.hid (by simp; omega)
            obtain ⟨c0, c1, c2, cf⟩ := HR5.out.cells HK.out
            have f1 := cf 1
            clear cf hb2 hne
            go_wp2_with fail
            have hm2 := HS.out.1.lenOf
            refine ⟨⟨l2.tail, HTL.out, HE, Lib.hid HS.out.1, Lib.hid (HT5.out.trans HS.out.2)⟩, ?_⟩
            rw [hm2, HM.out]
            have := HLT.out
            omega
end Go.Proofs.YtgklnafliaplkaaGreatDoor
namespace Go.Proofs.YtgklnafliaplkaaGreatDoor

def signC (c : UInt8) : Bool := decide (c.toNat = 123) || (decide (c.toNat = 125) || (decide (c.toNat = 91) || (decide (c.toNat = 93) || (decide (c.toNat = 44) || decide (c.toNat = 61)))))
/-- A text without quotes, and one in which blanks stand about some signs. -/
inductive Bl : List UInt8 → List UInt8 → Prop
  | nil : Bl [] []
  | one {c : UInt8} {s t : List UInt8} : c ≠ 34 → Bl s t → Bl (c :: s) (c :: t)
  | sign {c b b' : UInt8} {s t : List UInt8} : signC c = true → blankC b = true → blankC b' = true → Bl s t → Bl (c :: s) (b :: c :: b' :: t)
theorem sign_facts {c : UInt8} (h : signC c = true) : blankC c = false ∧ c ≠ 34 ∧ namB c = false ∧ digB c = false ∧ lowB c = false ∧ c.toNat ≠ 45 := by
  have hc : c = 34 → c.toNat = 34 := fun e => by rw [e]; rfl
  simp only [signC, Bool.or_eq_true, decide_eq_true_eq] at h
  refine ⟨?_, fun e => by have := hc e; omega, ?_, ?_, ?_, by omega⟩
  · simp only [blankC, Bool.or_eq_false_iff, decide_eq_false_iff_not]; omega
  · simp only [namB, lowB, digB, Bool.or_eq_false_iff, Bool.and_eq_false_iff, decide_eq_false_iff_not]; omega
  · simp only [digB, Bool.and_eq_false_iff, decide_eq_false_iff_not]; omega
  · simp only [lowB, Bool.and_eq_false_iff, decide_eq_false_iff_not]; omega
theorem Bl.add {s t : List UInt8} (h : Bl s t) {c : UInt8} (hc : c ≠ 34) : Bl (s ++ [c]) (t ++ [c]) := by
  induction h with
  | nil => exact .one hc .nil
  | one h1 _ ih => exact .one h1 ih
  | sign h1 h2 h3 _ ih => exact .sign h1 h2 h3 ih
theorem Bl.add3 {s t : List UInt8} (h : Bl s t) {c b b' : UInt8} (hc : signC c = true) (hb : blankC b = true) (hb' : blankC b' = true) : Bl (s ++ [c]) (t ++ [b, c, b']) := by
  induction h with
  | nil => exact .sign hc hb hb' .nil
  | one h1 _ ih => exact .one h1 ih
  | sign h1 h2 h3 _ ih => exact .sign h1 h2 h3 ih
theorem Bl.len {s t : List UInt8} (h : Bl s t) : s.length ≤ t.length := by
  induction h with
  | nil => simp
  | one _ _ ih => simp only [List.length_cons]; omega
  | sign _ _ _ _ ih => simp only [List.length_cons]; omega
theorem Bl.noq {s t : List UInt8} (h : Bl s t) : (34 : UInt8) ∉ s := by
  induction h with
  | nil => simp
  | one h1 _ ih => simp only [List.mem_cons, not_or]; exact ⟨fun e => h1 e.symm, ih⟩
  | sign h1 _ _ _ ih => simp only [List.mem_cons, not_or]; exact ⟨fun e => (sign_facts h1).2.1 e.symm, ih⟩
/-- .. with blanks ahead. -/
def BlR (s t : List UInt8) : Prop := ∃ bs t0, t = bs ++ t0 ∧ (∀ b ∈ bs, blankC b = true) ∧ Bl s t0
theorem Bl.r {s t : List UInt8} (h : Bl s t) : BlR s t := ⟨[], t, rfl, by simp, h⟩
theorem BlR.len {s t : List UInt8} (h : BlR s t) : s.length ≤ t.length := by
  obtain ⟨bs, t0, rfl, _, h⟩ := h
  have := h.len
  simp only [List.length_append]; omega
theorem skipL_pre {bs t : List UInt8} (h : ∀ b ∈ bs, blankC b = true) : skipL (bs ++ t) = skipL t := by
  induction bs with
  | nil => rfl
  | cons c r ih =>
    rw [List.cons_append, skipL, if_pos (h c (by simp))]
    exact ih fun b hb => h b (by simp [hb])
theorem skipL_one {c : UInt8} {t : List UInt8} (h : blankC c = false) : skipL (c :: t) = c :: t := by rw [skipL, if_neg (by rw [h]; simp)]
/-- What is next is the same in both; what follows, too. -/
def Rel (s t : List UInt8) : Prop := (skipL s = [] ∧ skipL t = []) ∨ ∃ c s1 t1, skipL s = c :: s1 ∧ skipL t = c :: t1 ∧ c ≠ 34 ∧ blankC c = false ∧ BlR s1 t1 ∧ (signC c = false → Bl s1 t1)
theorem Bl.rel {s t : List UInt8} (h : Bl s t) : Rel s t := by
  induction h with
  | nil => exact .inl ⟨rfl, rfl⟩
  | @one c s t h1 h2 ih =>
    cases hb : blankC c with
    | true =>
      have e1 : skipL (c :: s) = skipL s := by rw [skipL, if_pos hb]
      have e2 : skipL (c :: t) = skipL t := by rw [skipL, if_pos hb]
      unfold Rel at ih ⊢
      rw [e1, e2]; exact ih
    | false => exact .inr ⟨c, s, t, skipL_one hb, skipL_one hb, h1, hb, h2.r, fun _ => h2⟩
  | @sign c b b' s t h1 h2 h3 h4 _ =>
    obtain ⟨f1, f2, _⟩ := sign_facts h1
    refine .inr ⟨c, s, b' :: t, skipL_one f1, ?_, f2, f1, ⟨[b'], t, rfl, by simpa using h3, h4⟩, fun e => by rw [h1] at e; cases e⟩
    rw [skipL, if_pos h2, skipL_one f1]
theorem BlR.rel {s t : List UInt8} (h : BlR s t) : Rel s t := by
  obtain ⟨bs, t0, rfl, h1, h2⟩ := h
  have := h2.rel
  unfold Rel at this ⊢
  rw [skipL_pre h1]; exact this
theorem skipL_twice (l : List UInt8) : skipL (skipL l) = skipL l := by
  induction l with
  | nil => rfl
  | cons c r ih =>
    cases hb : blankC c with
    | true => rw [skipL, if_pos hb]; exact ih
    | false => rw [skipL_one hb, skipL_one hb]
theorem Rel.skip {s t : List UInt8} (h : Rel s t) : Rel (skipL s) (skipL t) := by
  unfold Rel at h ⊢
  rw [skipL_twice, skipL_twice]; exact h
theorem Rel.len {s t : List UInt8} (h : Rel s t) : (skipL s).length ≤ (skipL t).length := by
  rcases h with ⟨h1, h2⟩ | ⟨c, s1, t1, h1, h2, _, _, h3, _⟩
  · rw [h1, h2]; exact Nat.le_refl _
  · rw [h1, h2]; have := h3.len; simp only [List.length_cons]; omega
theorem Rel.pk {s t : List UInt8} (h : Rel s t) : pk (skipL s) = pk (skipL t) := by
  rcases h with ⟨h1, h2⟩ | ⟨c, s1, t1, h1, h2, _⟩
  · rw [h1, h2]
  · rw [h1, h2]; rfl
theorem Rel.tail {s t : List UInt8} (h : Rel s t) (h0 : Go.Proofs.YtgklnafliaplkaaGreatDoor.pk (skipL s) ≠ 0) : Rel (skipL s).tail (skipL t).tail := by
  rcases h with ⟨h1, _⟩ | ⟨c, s1, t1, h1, h2, _, _, h3, _⟩
  · rw [h1] at h0; exact absurd rfl h0
  · rw [h1, h2]; exact h3.rel
-- tokens
theorem takeW {q : UInt8 → Bool} (hq : ∀ c, q c = true → signC c = false ∧ blankC c = false) {s t : List UInt8} (h : Bl s t) : t.takeWhile q = s.takeWhile q ∧ Bl (s.dropWhile q) (t.dropWhile q) := by
  induction h with
  | nil => exact ⟨rfl, .nil⟩
  | @one c s t h1 h2 ih =>
    cases hc : q c with
    | true => simp only [List.takeWhile_cons, List.dropWhile_cons, hc, if_true]; exact ⟨by rw [ih.1], ih.2⟩
    | false => simp only [List.takeWhile_cons, List.dropWhile_cons, hc]; exact ⟨rfl, .one h1 h2⟩
  | @sign c b b' s t h1 h2 h3 h4 _ =>
    have hc : q c = false := by cases hc : q c with
      | false => rfl
      | true => rw [(hq c hc).1] at h1; cases h1
    have hb : q b = false := by cases hb : q b with
      | false => rfl
      | true => rw [(hq b hb).2] at h2; cases h2
    simp only [List.takeWhile_cons, List.dropWhile_cons, hc, hb]
    exact ⟨rfl, .sign h1 h2 h3 h4⟩
theorem bl_cons {c : UInt8} {s t : List UInt8} (h : Bl (c :: s) t) (hc : signC c = false) : ∃ t1, t = c :: t1 ∧ Bl s t1 := by
  cases h with
  | one _ h2 => exact ⟨_, rfl, h2⟩
  | sign h1 _ _ _ => rw [hc] at h1; cases h1
theorem namB_not {c : UInt8} (h : namB c = true) : signC c = false ∧ blankC c = false := by
  constructor
  · cases hs : signC c with
    | false => rfl
    | true => rw [(sign_facts hs).2.2.1] at h; cases h
  · simp only [namB, lowB, digB, Bool.or_eq_true, Bool.and_eq_true, decide_eq_true_eq] at h
    simp only [blankC, Bool.or_eq_false_iff, decide_eq_false_iff_not]; omega
theorem digB_not {c : UInt8} (h : digB c = true) : signC c = false ∧ blankC c = false := namB_not (by simp [namB, h])
theorem lowB_not {c : UInt8} (h : lowB c = true) : signC c = false ∧ blankC c = false := namB_not (by simp [namB, h])
theorem pk_neB {l : List UInt8} {c : UInt8} (h : pk l = c) (h0 : c ≠ 0) : ∃ r, l = c :: r := by
  cases l with
  | nil => exact absurd h.symm h0
  | cons a r => exact ⟨r, by rw [← h]; rfl⟩
theorem low_pk {l : List UInt8} (h : lowB (pk l) = true) : pk l ≠ 0 := fun e => by rw [e] at h; exact absurd h (by decide)
theorem name_bl {s t s1 k : List UInt8} (h : Bl s t) (hn : nameP s = .ok k s1) : ∃ t1, nameP t = .ok k t1 ∧ Bl s1 t1 := by
  unfold nameP at hn
  cases hl : lowB (pk s) with
  | false => rw [hl] at hn; simp at hn
  | true =>
    obtain ⟨r, hr⟩ := pk_neB rfl (low_pk hl)
    obtain ⟨t1, ht1, _⟩ := bl_cons (by rw [← hr]; exact h) (lowB_not hl).1
    have hpk : pk t = pk s := by rw [ht1]; rfl
    obtain ⟨g1, g2⟩ := takeW (q := namB) (fun c hc => namB_not hc) h
    rw [if_pos hl] at hn
    unfold nameP
    rw [hpk, if_pos hl, g1]
    by_cases h16 : 16 < (s.takeWhile namB).length
    · rw [if_pos h16] at hn; cases hn
    · rw [if_neg h16] at hn ⊢
      injection hn with e1 e2
      subst e1; subst e2
      exact ⟨_, rfl, g2⟩
theorem short_no {s t s1 k : List UInt8} (h : Bl s t) (hn : shortP s = .ok k s1) : False := by
  unfold shortP bytesP at hn
  have : pk s ≠ 34 := by
    intro e
    obtain ⟨r, hr⟩ := pk_neB e (by decide)
    exact h.noq (by rw [hr]; simp)
  rw [if_neg this] at hn
  simp at hn
theorem word_bl : ∀ (z : List UInt8) {s t s1 : List UInt8}, (∀ c ∈ z, signC c = false ∧ c ≠ 0) → Bl s t → wordP z s = .ok () s1 → ∃ t1, wordP z t = .ok () t1 ∧ Bl s1 t1
  | [], s, t, s1, _, h, hn => by
    simp only [wordP] at hn
    injection hn with _ e
    subst e
    exact ⟨t, rfl, h⟩
  | c :: r, s, t, s1, hz, h, hn => by
    simp only [wordP] at hn
    by_cases hp : pk s = c
    · rw [if_pos hp] at hn
      obtain ⟨s2, rfl⟩ := pk_neB hp (hz c (by simp)).2
      obtain ⟨t2, rfl, h2⟩ := bl_cons h (hz c (by simp)).1
      obtain ⟨t1, g1, g2⟩ := word_bl r (fun x hx => hz x (by simp [hx])) h2 hn
      refine ⟨t1, ?_, g2⟩
      simp only [wordP]
      rw [if_pos (by rfl)]; exact g1
    · rw [if_neg hp] at hn; cases hn
/-- What is taken is the same in both. -/
def Take (s t s1 t1 : List UInt8) : Prop := ∃ u, s = u ++ s1 ∧ t = u ++ t1 ∧ Bl s1 t1
theorem run_bl {s t : List UInt8} (h : Bl s t) : Take s t (s.dropWhile digB) (t.dropWhile digB) := by
  obtain ⟨g1, g2⟩ := takeW (q := digB) (fun c hc => digB_not hc) h
  exact ⟨s.takeWhile digB, List.takeWhile_append_dropWhile.symm, by rw [← g1]; exact List.takeWhile_append_dropWhile.symm, g2⟩
theorem Take.cons {s t s1 t1 : List UInt8} (h : Take s t s1 t1) (c : UInt8) : Take (c :: s) (c :: t) s1 t1 := by
  obtain ⟨u, e1, e2, h⟩ := h
  exact ⟨c :: u, by rw [e1]; rfl, by rw [e2]; rfl, h⟩
theorem dig_zero : digB 0 = false := by decide
theorem digits_bl {s t s1 : List UInt8} (h : Bl s t) (hn : digitsP s = .ok () s1) : ∃ t1, digitsP t = .ok () t1 ∧ Take s t s1 t1 := by
  unfold digitsP at hn
  by_cases h48 : pk s = 48
  · rw [if_pos h48] at hn
    obtain ⟨s2, rfl⟩ := pk_neB h48 (by decide)
    obtain ⟨t2, rfl, h2⟩ := bl_cons h (by decide)
    injection hn with _ e
    subst e
    refine ⟨t2, ?_, [48], rfl, rfl, h2⟩
    unfold digitsP
    rw [if_pos (by rfl)]; rfl
  rw [if_neg h48] at hn
  by_cases h45 : pk s = 45
  · obtain ⟨s2, rfl⟩ := pk_neB h45 (by decide)
    obtain ⟨t2, rfl, h2⟩ := bl_cons h (by decide)
    simp only [if_pos h45, List.tail_cons] at hn
    by_cases hd : pk s2 = 48 ∨ digB (pk s2) = false
    · rw [if_pos hd] at hn; cases hn
    · rw [if_neg hd] at hn
      injection hn with _ e
      subst e
      have hd1 : pk s2 ≠ 0 := fun e => hd (.inr (by rw [e]; exact dig_zero))
      obtain ⟨s3, hs3⟩ := pk_neB rfl hd1
      have hdt : digB (pk s2) = true := by
        cases hx : digB (pk s2) with
        | true => rfl
        | false => exact absurd (.inr hx) hd
      obtain ⟨t3, ht3, _⟩ := bl_cons (by rw [← hs3]; exact h2) (digB_not hdt).1
      have hpk : pk t2 = pk s2 := by rw [ht3]; rfl
      refine ⟨t2.dropWhile digB, ?_, (run_bl h2).cons 45⟩
      have e48 : pk (45 :: t2) ≠ 48 := by show (45 : UInt8) ≠ 48; decide
      have e45 : pk (45 :: t2) = 45 := rfl
      unfold digitsP
      simp only [if_neg e48, if_pos e45, List.tail_cons]
      rw [hpk, if_neg hd]
  · simp only [if_neg h45] at hn
    by_cases hd : pk s = 48 ∨ digB (pk s) = false
    · rw [if_pos hd] at hn; cases hn
    · rw [if_neg hd] at hn
      injection hn with _ e
      subst e
      have hd1 : pk s ≠ 0 := fun e => hd (.inr (by rw [e]; exact dig_zero))
      obtain ⟨s3, hs3⟩ := pk_neB rfl hd1
      have hdt : digB (pk s) = true := by
        cases hx : digB (pk s) with
        | true => rfl
        | false => exact absurd (.inr hx) hd
      obtain ⟨t3, ht3, _⟩ := bl_cons (by rw [← hs3]; exact h) (digB_not hdt).1
      have hpk : pk t = pk s := by rw [ht3]; rfl
      refine ⟨t.dropWhile digB, ?_, run_bl h⟩
      unfold digitsP
      rw [hpk]
      simp only [if_neg h48, if_neg h45]
      rw [hpk, if_neg hd]
theorem number_bl {s t s1 : List UInt8} {n : Int} (h : Bl s t) (hn : numberP s = .ok n s1) : ∃ t1, numberP t = .ok n t1 ∧ Bl s1 t1 := by
  unfold numberP at hn
  cases hd : digitsP s with
  | bad a b => rw [hd] at hn; cases hn
  | ok v s2 =>
    rw [hd] at hn
    obtain ⟨t2, g1, u, e1, e2, hb⟩ := digits_bl h hd
    have k1 : s.take (s.length - s2.length) = u := by rw [e1]; simp
    have k2 : t.take (t.length - t2.length) = u := by rw [e2]; simp
    simp only [k1] at hn
    unfold numberP
    simp only [g1, k2]
    cases ha : Lib.atoiAll u with
    | ok m =>
      rw [ha] at hn
      simp only at hn
      injection hn with f1 f2
      subst f1; subst f2
      exact ⟨t2, rfl, hb⟩
    | _ => rw [ha] at hn; simp at hn
-- rows
/-- What one tells of a text, it tells of one with more blanks. -/
def ItemR {σ : Type} (item : σ → List UInt8 → Nat → Out σ) : Prop := ∀ (st st' : σ) (s t s' : List UInt8) (p p' : Nat), Rel s t → item st s p = .ok st' s' p' → ∃ t', item st t p = .ok st' t' p' ∧ Rel s' t'
theorem rowL_rel {σ : Type} {item : σ → List UInt8 → Nat → Out σ} (hi : ItemR item) {e : UInt8} (he : e ≠ 0) : ∀ (f f' : Nat), f ≤ f' → ∀ (st st' : σ) (s t s' : List UInt8) (p p' : Nat), Rel s t → rowL item e f st s p = .ok st' s' p' → ∃ t', rowL item e f' st t p = .ok st' t' p' ∧ Rel s' t'
  | 0, _, _, st, st', s, t, s', p, p', _, h => by simp only [rowL] at h; cases h
  | f + 1, 0, hf, _, _, _, _, _, _, _, _, _ => by omega
  | f + 1, f' + 1, hf, st, st', s, t, s', p, p', hr, h => by
    simp only [rowL] at h
    cases hx : item st s p with
    | bad a b => rw [hx] at h; cases h
    | ok st1 s1 p1 =>
      rw [hx] at h
      simp only at h
      obtain ⟨t1, g1, g2⟩ := hi _ _ _ _ _ _ _ hr hx
      have hpk := g2.pk
      simp only [rowL, g1]
      by_cases c1 : pk (skipL s1) = e
      · rw [if_pos c1] at h
        injection h with e1 e2 e3
        subst e1; subst e2; subst e3
        rw [← hpk, if_pos c1]
        exact ⟨_, rfl, g2.tail (by rw [c1]; exact he)⟩
      · rw [if_neg c1] at h
        rw [← hpk, if_neg c1]
        by_cases c2 : pk (skipL s1) = 44
        · rw [if_pos c2] at h
          rw [if_pos c2]
          exact rowL_rel hi he f f' (by omega) _ _ _ _ _ _ _ (g2.tail (by rw [c2]; decide)) h
        · rw [if_neg c2] at h; cases h
theorem rowP_cons {σ : Type} (item : σ → List UInt8 → Nat → Out σ) (e : UInt8) (st : σ) (c : UInt8) (s : List UInt8) (p : Nat) : rowP item e st (c :: s) p = if pk (skipL s) = e then .ok st (skipL s).tail p else rowL item e ((skipL s).length + 1) st (skipL s) p := rfl
theorem rowP_rel {σ : Type} {item : σ → List UInt8 → Nat → Out σ} (hi : ItemR item) {e : UInt8} (he : e ≠ 0) {st st' : σ} {c : UInt8} {s t s' : List UInt8} {p p' : Nat} (hr : Rel s t) (h : rowP item e st (c :: s) p = .ok st' s' p') : ∃ t', rowP item e st (c :: t) p = .ok st' t' p' ∧ Rel s' t' := by
  rw [rowP_cons] at h ⊢
  have hpk := hr.pk
  by_cases c1 : pk (skipL s) = e
  · rw [if_pos c1] at h
    injection h with e1 e2 e3
    subst e1; subst e2; subst e3
    rw [← hpk, if_pos c1]
    exact ⟨_, rfl, hr.tail (by rw [c1]; exact he)⟩
  · rw [if_neg c1] at h
    rw [← hpk, if_neg c1]
    have hl := hr.len
    exact rowL_rel hi he _ _ (by omega) _ _ _ _ _ _ _ hr.skip h
/-- .. of documents. -/
def DocR_ (doc : List UInt8 → Nat → Out D) : Prop := ∀ (d : D) (s t s' : List UInt8) (p p' : Nat), Rel s t → doc s p = .ok d s' p' → ∃ t', doc t p = .ok d t' p' ∧ Rel s' t'
theorem listI_rel {doc : List UInt8 → Nat → Out D} (hd : DocR_ doc) : ItemR (listI doc) := by
  intro st st' s t s' p p' hr h
  unfold listI at h ⊢
  cases hx : doc s p with
  | bad a b => rw [hx] at h; cases h
  | ok d s1 p1 =>
    rw [hx] at h
    obtain ⟨t1, g1, g2⟩ := hd _ _ _ _ _ _ hr hx
    simp only at h
    injection h with e1 e2 e3
    subst e1; subst e2; subst e3
    rw [g1]
    exact ⟨t1, rfl, g2⟩
/-- .. of keys. -/
def KeyR (key : List UInt8 → Tk (List UInt8)) : Prop := ∀ (k s t s' : List UInt8), Rel s t → key (skipL s) = .ok k s' → ∃ t', key (skipL t) = .ok k t' ∧ Rel s' t'
theorem nameR : KeyR nameP := by
  intro k s t s' hr h
  rcases hr with ⟨h1, _⟩ | ⟨c, s1, t1, h1, h2, h34, _, _, hb⟩
  · rw [h1] at h; exact absurd h (by simp [nameP, pk, lowB])
  · rw [h1] at h
    have hl : lowB c = true := by
      cases hl : lowB c with
      | true => rfl
      | false =>
        have : lowB (pk (c :: s1)) = false := hl
        unfold nameP at h
        rw [this] at h; simp at h
    obtain ⟨t', g1, g2⟩ := name_bl (.one h34 (hb (lowB_not hl).1)) h
    rw [h2]
    exact ⟨t', g1, g2.rel⟩
theorem shortR : KeyR shortP := by
  intro k s t s' hr h
  exfalso
  rcases hr with ⟨h1, _⟩ | ⟨c, s1, t1, h1, _, h34, _⟩
  · rw [h1] at h; exact absurd h (by simp [shortP, bytesP, pk])
  · rw [h1] at h
    unfold shortP bytesP at h
    rw [if_neg (show pk (c :: s1) ≠ 34 from h34)] at h
    simp at h
theorem keyI_rel {doc : List UInt8 → Nat → Out D} (hd : DocR_ doc) {key : List UInt8 → Tk (List UInt8)} (hk : KeyR key) {sign : UInt8} (hs : sign ≠ 0) : ItemR (keyI doc key sign) := by
  intro st st' s t s' p p' hr h
  unfold keyI at h ⊢
  cases hx : key (skipL s) with
  | bad a b => rw [hx] at h; cases h
  | ok k s1 =>
    rw [hx] at h
    obtain ⟨t1, g1, g2⟩ := hk _ _ _ _ hr hx
    rw [g1]
    simp only at h ⊢
    have hpk := g2.pk
    by_cases c1 : hasB st.1 ⟨k.toArray⟩ = true
    · rw [if_pos c1] at h; cases h
    · rw [if_neg c1] at h ⊢
      by_cases c2 : pk (skipL s1) = sign
      · rw [if_pos c2] at h
        rw [← hpk, if_pos c2]
        cases hy : doc (skipL s1).tail p with
        | bad a b => rw [hy] at h; cases h
        | ok d s2 p2 =>
          rw [hy] at h
          obtain ⟨t2, f1, f2⟩ := hd _ _ _ _ _ _ (g2.tail (by rw [c2]; exact hs)) hy
          simp only at h
          injection h with e1 e2 e3
          subst e1; subst e2; subst e3
          rw [f1]
          exact ⟨t2, rfl, f2⟩
      · rw [if_neg c2] at h; cases h
theorem keyedP_rel {doc : List UInt8 → Nat → Out D} (hd : DocR_ doc) {key : List UInt8 → Tk (List UInt8)} (hk : KeyR key) {sign e c : UInt8} (hs : sign ≠ 0) (he : e ≠ 0) {kind : Int} {d : D} {s t s' : List UInt8} {p p' : Nat} (hr : Rel s t) (h : keyedP doc key kind e sign (c :: s) p = .ok d s' p') : ∃ t', keyedP doc key kind e sign (c :: t) p = .ok d t' p' ∧ Rel s' t' := by
  unfold keyedP at h ⊢
  cases hx : rowP (keyI doc key sign) e ([], []) (c :: s) p with
  | bad a b => rw [hx] at h; cases h
  | ok st s1 p1 =>
    rw [hx] at h
    obtain ⟨t1, g1, g2⟩ := rowP_rel (keyI_rel hd hk hs) he hr hx
    simp only at h
    injection h with e1 e2 e3
    subst e1; subst e2; subst e3
    rw [g1]
    exact ⟨t1, rfl, g2⟩
theorem listP_rel {doc : List UInt8 → Nat → Out D} (hd : DocR_ doc) {c : UInt8} {d : D} {s t s' : List UInt8} {p p' : Nat} (hr : Rel s t) (h : listP doc (c :: s) p = .ok d s' p') : ∃ t', listP doc (c :: t) p = .ok d t' p' ∧ Rel s' t' := by
  unfold listP at h ⊢
  cases hx : rowP (listI doc) 93 [] (c :: s) p with
  | bad a b => rw [hx] at h; cases h
  | ok st s1 p1 =>
    rw [hx] at h
    obtain ⟨t1, g1, g2⟩ := rowP_rel (listI_rel hd) (by decide) hr hx
    simp only at h
    injection h with e1 e2 e3
    subst e1; subst e2; subst e3
    rw [g1]
    exact ⟨t1, rfl, g2⟩
theorem partP_rel {doc : List UInt8 → Nat → Out D} (hd : DocR_ doc) {c : UInt8} {d : D} {s t s' : List UInt8} {p p' : Nat} (hf : firstB c = true) (h34 : c ≠ 34) (hr : BlR s t) (hb : signC c = false → Bl s t) (h : partP doc (c :: s) p = .ok d s' p') : ∃ t', partP doc (c :: t) p = .ok d t' p' ∧ Rel s' t' := by
  have e1 : pk (c :: s) = c := rfl
  have e2 : pk (c :: t) = c := rfl
  unfold partP at h ⊢
  rw [e1] at h
  rw [e2]
  by_cases c1 : c = 123
  · rw [if_pos c1] at h ⊢
    exact keyedP_rel hd nameR (by decide) (by decide) hr.rel h
  rw [if_neg c1] at h ⊢
  by_cases c2 : c = 60
  · rw [if_pos c2] at h ⊢
    exact keyedP_rel hd shortR (by decide) (by decide) hr.rel h
  rw [if_neg c2] at h ⊢
  by_cases c3 : c = 91
  · rw [if_pos c3] at h ⊢
    exact listP_rel hd hr.rel h
  rw [if_neg c3] at h ⊢
  by_cases c4 : c = 116
  · rw [if_pos c4] at h ⊢
    subst c4
    have hB : Bl (116 :: s) (116 :: t) := .one h34 (hb (by decide))
    cases hx : wordP [116, 114, 117, 101] (116 :: s) with
    | bad a b => rw [hx] at h; cases h
    | ok v s1 =>
      rw [hx] at h
      obtain ⟨t1, g1, g2⟩ := word_bl _ (by decide) hB hx
      simp only at h
      injection h with e1 e2 e3
      subst e1; subst e2; subst e3
      rw [g1]
      exact ⟨t1, rfl, g2.rel⟩
  rw [if_neg c4] at h ⊢
  by_cases c5 : c = 102
  · rw [if_pos c5] at h ⊢
    subst c5
    have hB : Bl (102 :: s) (102 :: t) := .one h34 (hb (by decide))
    cases hx : wordP [102, 97, 108, 115, 101] (102 :: s) with
    | bad a b => rw [hx] at h; cases h
    | ok v s1 =>
      rw [hx] at h
      obtain ⟨t1, g1, g2⟩ := word_bl _ (by decide) hB hx
      simp only at h
      injection h with e1 e2 e3
      subst e1; subst e2; subst e3
      rw [g1]
      exact ⟨t1, rfl, g2.rel⟩
  rw [if_neg c5] at h ⊢
  rw [if_neg h34] at h ⊢
  have hsg : signC c = false := by
    have hne : ∀ n : Nat, n < 256 → c.toNat = n → c = UInt8.ofNat n := fun n hn e => by rw [← e]; simp
    cases hs : signC c with
    | false => rfl
    | true =>
      exfalso
      simp only [signC, Bool.or_eq_true, decide_eq_true_eq] at hs
      simp only [firstB, digB, Bool.or_eq_true, Bool.and_eq_true, decide_eq_true_eq] at hf
      have := hne 123 (by omega); have := hne 91 (by omega)
      rcases hs with hs | hs | hs | hs | hs | hs
      · exact c1 (hne 123 (by omega) hs)
      · omega
      · exact c3 (hne 91 (by omega) hs)
      · omega
      · omega
      · omega
  have hB : Bl (c :: s) (c :: t) := .one h34 (hb hsg)
  cases hx : numberP (c :: s) with
  | bad a b => rw [hx] at h; cases h
  | ok v s1 =>
    rw [hx] at h
    obtain ⟨t1, g1, g2⟩ := number_bl hB hx
    simp only at h
    injection h with e1 e2 e3
    subst e1; subst e2; subst e3
    rw [g1]
    exact ⟨t1, rfl, g2.rel⟩
theorem docP_rel : ∀ n, DocR_ (docP n)
  | 0 => by
    intro d s t s' p p' _ h
    unfold docP at h
    split at h <;> cases h
  | n + 1 => by
    intro d s t s' p p' hr h
    unfold docP at h ⊢
    rcases hr with ⟨h1, _⟩ | ⟨c, s1, t1, h1, h2, h34, _, h3, hb⟩
    · rw [h1] at h
      rw [if_pos (by decide)] at h; cases h
    · rw [h1] at h
      rw [h2]
      have e1 : pk (c :: s1) = c := rfl
      have e2 : pk (c :: t1) = c := rfl
      rw [e1] at h
      rw [e2]
      by_cases c1 : firstB c = false
      · rw [if_pos c1] at h; cases h
      · rw [if_neg c1] at h ⊢
        by_cases c2 : 512 < p + 1
        · rw [if_pos c2] at h; cases h
        · rw [if_neg c2] at h ⊢
          exact partP_rel (docP_rel n) (by simpa using c1) h34 h3 hb h
/-- What a text tells, one with more blanks does. -/
theorem readP_rel {s t : List UInt8} {d : D} (h : Bl s t) (hr : readP s = .ok d []) : readP t = .ok d [] := by
  unfold readP at hr ⊢
  cases hx : docP 12 s 0 with
  | bad a b => rw [hx] at hr; cases hr
  | ok d1 s1 p1 =>
    rw [hx] at hr
    obtain ⟨t1, g1, g2⟩ := docP_rel 12 _ _ _ _ _ _ h.rel hx
    simp only at hr
    rw [g1]
    simp only
    by_cases c1 : skipL s1 = []
    · rw [if_pos c1] at hr
      have : skipL t1 = [] := by
        rcases g2 with ⟨_, h2⟩ | ⟨c, s2, t2, h1, _⟩
        · exact h2
        · rw [c1] at h1; cases h1
      rw [if_pos this]; exact hr
    · rw [if_neg c1] at hr; cases hr
end Go.Proofs.YtgklnafliaplkaaGreatDoor
