/-
  The reader: numbers.
-/
import Derived.Test.YtgklnafliaplkaaGreatDoorB07
import Derived.Lib.Strings
import Derived.Lib.SmallJoins
import Derived.Deep.RegionHeld3
namespace Go.Proofs.YtgklnafliaplkaaGreatDoor
open Go.RowKit

def moreP (l1 : List UInt8) : Tk Unit := if pk l1 = 48 ∨ digB (pk l1) = false then .bad l1 4 else .ok () (l1.dropWhile digB)
theorem digitsP_eq (l : List UInt8) : digitsP l = if pk l = 48 then .ok () l.tail else if pk l = 45 then moreP l.tail else moreP l := by
  unfold digitsP moreP
  by_cases h1 : pk l = 48
  · rw [if_pos h1, if_pos h1]
  · rw [if_neg h1, if_neg h1]
    by_cases h2 : pk l = 45
    · simp only [if_pos h2]
    · simp only [if_neg h2]
theorem moreP_ok {l l' : List UInt8} (h : moreP l = .ok () l') : digB (pk l) = true ∧ l' = l.dropWhile digB := by
  unfold moreP at h
  by_cases hg : pk l = 48 ∨ digB (pk l) = false
  · rw [if_pos hg] at h; cases h
  · rw [if_neg hg] at h
    injection h with _ h
    refine ⟨?_, h.symm⟩
    cases hx : digB (pk l)
    · exact absurd (.inr hx) hg
    · rfl
theorem digits_suf {l l' : List UInt8} (h : digitsP l = .ok () l') : l' <:+ l := by
  rw [digitsP_eq] at h
  by_cases h1 : pk l = 48
  · rw [if_pos h1] at h; injection h with _ h; rw [← h]; exact List.tail_suffix l
  · rw [if_neg h1] at h
    by_cases h2 : pk l = 45
    · rw [if_pos h2] at h; rw [(moreP_ok h).2]; exact (List.dropWhile_suffix _).trans (List.tail_suffix l)
    · rw [if_neg h2] at h; rw [(moreP_ok h).2]; exact List.dropWhile_suffix _
theorem number_bad {l a : List UInt8} {b : Nat} (h : digitsP l = .bad a b) : numberP l = .bad a b := by simp only [numberP, h]
theorem number_ok {l l' : List UInt8} {v : Int} (h : digitsP l = .ok () l') (hv : Lib.atoiAll (l.take (l.length - l'.length)) = .ok v) : numberP l = .ok v l' := by simp only [numberP, h, hv]
theorem number_far {l l' : List UInt8} (h : digitsP l = .ok () l') (hv : Lib.atoiAll (l.take (l.length - l'.length)) = .range) : numberP l = .bad l 8 := by simp only [numberP, h, hv]
theorem extract_suf {s : ByteArray} {l l' : List UInt8} (h : l <:+ s.data.toList) (h' : l' <:+ l) : s.extract (s.size - l.length) (s.size - l'.length) = ⟨(l.take (l.length - l'.length)).toArray⟩ := by
  rw [Lib.extract_eq, suf_drop h]
  have h1 := suf_len h
  have h2 := h'.length_le
  rw [show s.size - l'.length - (s.size - l.length) = l.length - l'.length by omega]
/-- A row of digits spells a number, or one that is too great. -/
theorem uint_digits : ∀ (l : List UInt8) (acc : Nat), (∀ c ∈ l, digB c = true) → (∃ v, Lib.parseUint10 acc l = .ok v) ∨ Lib.parseUint10 acc l = .range
  | [], acc, _ => .inl ⟨acc, rfl⟩
  | c :: t, acc, h => by
    have hc : 48 ≤ c.toNat ∧ c.toNat ≤ 57 := by
      have := h c (by simp)
      simpa [digB] using this
    unfold Lib.parseUint10
    rw [if_pos hc]
    split
    · exact .inr rfl
    · split
      · exact .inr rfl
      · exact uint_digits t _ fun d hd => h d (by simp [hd])
theorem mag_digits {l : List UInt8} (hl : l ≠ []) (h : ∀ c ∈ l, digB c = true) : (∃ v, Lib.parseMag l = .ok v) ∨ Lib.parseMag l = .range := by
  unfold Lib.parseMag
  rw [if_neg hl]
  exact uint_digits l 0 h
theorem atoi_digits {l : List UInt8} (hl : l ≠ []) (h : ∀ c ∈ l, digB c = true) : (∃ v, Lib.atoiAll l = .ok v) ∨ Lib.atoiAll l = .range := by
  obtain ⟨c, t, rfl⟩ := List.exists_cons_of_ne_nil hl
  have hc : 48 ≤ c.toNat ∧ c.toNat ≤ 57 := by
    have := h c (by simp)
    simpa [digB] using this
  unfold Lib.atoiAll
  simp only
  rw [if_neg (by omega)]
  rcases mag_digits hl h with ⟨v, hv⟩ | hv
  · rw [hv]; simp only
    rw [if_neg (show ¬ (c.toNat = 45 ∧ 9223372036854775808 < v) by omega), if_neg (show ¬ (c.toNat = 45) by omega)]
    split
    · exact .inr rfl
    · exact .inl ⟨_, rfl⟩
  · rw [hv]; exact .inr rfl
theorem atoi_minus {t : List UInt8} (hl : t ≠ []) (h : ∀ c ∈ t, digB c = true) : (∃ v, Lib.atoiAll (45 :: t) = .ok v) ∨ Lib.atoiAll (45 :: t) = .range := by
  unfold Lib.atoiAll
  simp only
  rw [if_pos (.inr rfl)]
  rcases mag_digits hl h with ⟨v, hv⟩ | hv
  · rw [hv]; simp only
    rw [if_neg (by simp)]
    split
    · exact .inr rfl
    · exact .inl ⟨_, rfl⟩
  · rw [hv]; exact .inr rfl
theorem take_dropWhile (q : UInt8 → Bool) (l : List UInt8) : l.take (l.length - (l.dropWhile q).length) = l.takeWhile q := by
  have h := List.takeWhile_append_dropWhile (p := q) (l := l)
  obtain ⟨a, ha⟩ : ∃ a, a = l.takeWhile q := ⟨_, rfl⟩
  obtain ⟨b, hb⟩ : ∃ b, b = l.dropWhile q := ⟨_, rfl⟩
  rw [← ha, ← hb] at h ⊢
  rw [← h]; simp
theorem takeWhile_all (q : UInt8 → Bool) : ∀ (l : List UInt8), ∀ c ∈ l.takeWhile q, q c = true
  | [], c, hc => by simp at hc
  | d :: t, c, hc => by
    by_cases hd : q d = true
    · rw [List.takeWhile_cons_of_pos hd] at hc
      rcases List.mem_cons.1 hc with rfl | hc
      · exact hd
      · exact takeWhile_all q t c hc
    · rw [List.takeWhile_cons_of_neg hd] at hc; simp at hc
theorem takeWhile_ne {q : UInt8 → Bool} {l : List UInt8} (h : q (pk l) = true) (hl : l ≠ []) : l.takeWhile q ≠ [] := by
  cases l with
  | nil => exact absurd rfl hl
  | cons c t => simp only [pk, List.headD_cons] at h; rw [List.takeWhile_cons_of_pos h]; simp
theorem atoi_of_digits {l l' : List UInt8} (h : digitsP l = .ok () l') : (∃ v, Lib.atoiAll (l.take (l.length - l'.length)) = .ok v) ∨ Lib.atoiAll (l.take (l.length - l'.length)) = .range := by
  rw [digitsP_eq] at h
  by_cases h48 : pk l = 48
  · rw [if_pos h48] at h
    injection h with _ h
    subst h
    cases l with
    | nil => exact absurd h48 (by decide)
    | cons c t =>
      have hc : c = 48 := h48
      subst hc
      have h1 : (48 :: t : List UInt8).length - (48 :: t : List UInt8).tail.length = 1 := by simp
      rw [h1]
      exact .inl ⟨0, by rfl⟩
  · rw [if_neg h48] at h
    by_cases h45 : pk l = 45
    · rw [if_pos h45] at h
      obtain ⟨hd, rfl⟩ := moreP_ok h
      cases l with
      | nil => exact absurd h45 (by decide)
      | cons c t =>
        have hc : c = 45 := h45
        subst hc
        simp only [List.tail_cons] at hd ⊢
        have hlen : (t.dropWhile digB).length ≤ t.length := (List.dropWhile_suffix _).length_le
        have h1 : (45 :: t : List UInt8).take ((45 :: t : List UInt8).length - (t.dropWhile digB).length) = 45 :: t.takeWhile digB := by
          rw [show (45 :: t : List UInt8).length - (t.dropWhile digB).length = (t.length - (t.dropWhile digB).length) + 1 by simp; omega, List.take_succ_cons, take_dropWhile]
        rw [h1]
        exact atoi_minus (takeWhile_ne hd (digB_ne hd)) (takeWhile_all digB t)
    · rw [if_neg h45] at h
      obtain ⟨hd, rfl⟩ := moreP_ok h
      rw [take_dropWhile]
      exact atoi_digits (takeWhile_ne hd (digB_ne hd)) (takeWhile_all digB l)
theorem atoi_call_ok {x : ByteArray} {v : Int} (hx : x.size ≤ 140737488351232) (h : Lib.atoiAll x.data.toList = .ok v) (W : World) :
    Calls Tryz.prog 47 #[.string x] W fun e w' => e = .returned (.tuple #[.int .i64 v, .nilIface]) ∧ Below W.heap.size W w' := by
  refine Calls.mono (Tryz.strconv_Atoi_ok x (by omega) v h W) ?_
  rintro e w' ⟨rfl, rfl | ⟨t, rfl⟩⟩
  · exact ⟨rfl, Below.refl _ _⟩
  · exact ⟨rfl, Lib.bytesWorld_below _ _ _⟩
theorem atoi_call_far {x : ByteArray} (hx : x.size ≤ 140737488351232) (h : Lib.atoiAll x.data.toList = .range) {W : World} (he : ∃ ev, W.cell? ⟨1, 0, none⟩ = some ev ∧ (ev = .nilIface ∨ ∃ te pe, ev = .iface te pe)) :
    Calls Tryz.prog 47 #[.string x] W fun e w' => (∃ m t q, e = .returned (.tuple #[.int .i64 m, .iface t q])) ∧ Below W.heap.size W w' := by
  obtain ⟨ev, h1, h2⟩ := he
  refine Calls.mono (Tryz.strconv_Atoi_range x (by omega) h ev W h1 h2) ?_
  rintro e w' ⟨N, rfl, _, _, hb⟩
  exact ⟨⟨_, _, _, rfl⟩, hb⟩
theorem below_undrew {w X : World} (h : Below w.drew.heap.size w.drew X) : Below w.heap.size w X := ⟨h.os, h.tape, h.output, h.size, h.block⟩
set_option maxHeartbeats 4000000 in
set_option maxRecDepth 100000 in
theorem number_l {w : World} {r : Nat} {s : ByteArray} {l : List UInt8} {p : Nat} (h : RdL w r s l p) (hs : s.size ≤ 140737488351232) :
    Calls Tryz.prog 27 #[.pointer (some ⟨r, 0, none⟩)] w fun e w' => TkTo w r s p (numberP l) (fun n => .int .i64 n) e w' := by
  obtain ⟨k, hk⟩ : ∃ k, k = s.size - l.length := ⟨_, rfl⟩
  have hk1 : k ≤ 140737488351232 := by omega
  have HR := Lib.hid h; have HK := Lib.hid hk
  obtain ⟨c0, c1, c2, cf⟩ := h.cells hk
  clear cf h hk
  go_enter Tryz.func27, Tryz.ntmps27
  go_wp2_with fail
  refine (digits_l HR.out hs).mono ?_
  clear c0 c1 c2
  intro e w1 hd
  cases hdg : digitsP l with
  | bad a b =>
    rw [hdg] at hd
    obtain ⟨hf, ht⟩ := hd
    unfold Failed at hf
    subst hf
    exact ⟨rfl, TkTo.failed (l := a) (number_bad hdg) rfl ht⟩
  | ok u l' =>
    rw [hdg] at hd
    obtain ⟨rfl, hr1, ht1⟩ := hd
    have hat := atoi_of_digits hdg
    have hsuf := digits_suf hdg
    have hex := extract_suf HR.out.suf hsuf
    obtain ⟨k2, hk2⟩ : ∃ k2, k2 = s.size - l'.length := ⟨_, rfl⟩
    have hk2s : k2 ≤ s.size := by omega
    have hkk : k ≤ k2 := by have h1 := hsuf.length_le; have h2 := HK.out; omega
    have hk2m : k2 ≤ 140737488351232 := by omega
    rw [← HK.out, ← hk2] at hex
    obtain ⟨x, hx⟩ : ∃ x, x = s.extract k k2 := ⟨_, rfl⟩
    have hxl : x.data.toList = l.take (l.length - l'.length) := by rw [hx, hex]
    have hxs : x.size ≤ 140737488351232 := by rw [hx]; simp; omega
    have HX := Lib.hid hx
    have HR1 := Lib.hid hr1; have HT1 := Lib.hid ht1; have HK2 := Lib.hid hk2
    obtain ⟨c0, c1, c2, cf⟩ := hr1.cells hk2
    have HN : Hid ((∀ v, Lib.atoiAll x.data.toList = .ok v → numberP l = .ok v l') ∧ (Lib.atoiAll x.data.toList = .range → numberP l = .bad l 8)) := Lib.hid (by rw [hxl]; exact ⟨fun v hv => number_ok hdg hv, fun hv => number_far hdg hv⟩)
    rw [← hxl] at hat
    have k0 : (0 : Int) ≤ (k : Int) := by omega
    have kk : (k : Int) ≤ (k2 : Int) := by omega
    have ks : (k2 : Int) ≤ (s.size : Int) := by omega
    have HS : Hid (∀ X, Below w1.heap.size w1 X → X.cell? ⟨r, 0, none⟩ = some (.string s) ∧ X.cell? ⟨r, 1, none⟩ = some (.int .i64 (k2 : Int))) := Lib.hid fun X hX =>
      ⟨(hX.cell (p := ⟨r, 0, none⟩) hr1.block).trans c0, (hX.cell (p := ⟨r, 1, none⟩) hr1.block).trans c1⟩
    clear cf hex hxl hdg hr1 ht1 hk2 hx hsuf
    rcases hat with ⟨v, hv⟩ | hv
    · have HC := Lib.hid (atoi_call_ok hxs hv)
      have HV := Lib.hid (HN.out.1 v hv)
      clear hv
      go_wp2_with fail
      go_region_held3 (fun X => X.cell? ⟨r, 0, none⟩ = some (.string s) ∧ X.cell? ⟨r, 1, none⟩ = some (.int .i64 (k2 : Int))) (first | exact ⟨c0, c1⟩ | with_reducible exact HS.out _ (below_undrew hb5))
        ((first
          | (go_at_call 47
             simp only [← HX.out]
             refine (HC.out _).mono ?_
             rintro e w5 ⟨rfl, hb5⟩)))
      have HB5 : Hid (Below w1.heap.size w1 w5) := Lib.hid (below_undrew hb5)
      clear hb5
      go_wp2_with fail
      go_ret
      exact TkTo.done HV.out (HR1.out.past HB5.out) (HT1.out.trans (HR1.out.turned HB5.out))
    · have HC := Lib.hid (fun W he => atoi_call_far (W := W) hxs hv he)
      have HV := Lib.hid (HN.out.2 hv)
      clear hv
      go_wp2_with fail
      go_region_held3 (fun X => X.cell? ⟨r, 0, none⟩ = some (.string s) ∧ X.cell? ⟨r, 1, none⟩ = some (.int .i64 (k2 : Int))) (first | exact ⟨c0, c1⟩ | with_reducible exact HS.out _ (below_undrew hb5))
        ((first
          | (go_at_call 47
             simp only [← HX.out]
             refine (HC.out w1.drew HR1.out.eg).mono ?_
             rintro e w5 ⟨⟨m, te, q, rfl⟩, hb5⟩)))
      have HB5 : Hid (Below w1.heap.size w1 w5) := Lib.hid (below_undrew hb5)
      clear hb5
      go_wp2_with fail
      refine (fail_any (k : Int) 8 _).mono ?_
      rintro e w6 ⟨he, rfl⟩
      unfold Failed at he
      subst he
      exact ⟨rfl, TkTo.failed HV.out HK.out (HT1.out.trans (HR1.out.turned HB5.out))⟩
end Go.Proofs.YtgklnafliaplkaaGreatDoor
