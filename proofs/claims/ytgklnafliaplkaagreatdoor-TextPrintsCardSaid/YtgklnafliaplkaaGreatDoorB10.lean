/-
  The reader: byte strings.
  The reader: short byte strings, words, names.
-/
import Derived.Test.YtgklnafliaplkaaGreatDoorB09
namespace Go.Proofs.YtgklnafliaplkaaGreatDoor
open Go.RowKit

theorem Turned.then_below {a w w' : World} {G : List Nat} {b B : Nat} (h : Turned a w G b) (hb : Below B w w') (hB : a.heap.size ≤ B) (_hw : B ≤ w.heap.size) : Turned a w' G b :=
  ⟨hb.os.trans h.os, hb.tape.trans h.tape, hb.output.trans h.output, Nat.le_trans h.size hb.size, fun k hk h1 h2 => (hb.block k (by omega)).trans (h.block k hk h1 h2)⟩
theorem RdL.pastB {w w' : World} {r B : Nat} {s : ByteArray} {l : List UInt8} {p : Nat} (h : RdL w r s l p) (hb : Below B w w') (hr : r < B) : RdL w' r s l p := by
  have hg := h.gr
  obtain ⟨ev, h1, h2⟩ := h.eg
  refine ⟨?_, h.suf, ⟨ev, (World.cell?_of_block (a := ⟨1, 0, none⟩) (hb.block _ (by show 1 < _; omega))).trans h1, h2⟩, hg⟩
  have h1 := h.rd; unfold Rdr at h1 ⊢; rw [hb.block _ hr]; exact h1
theorem bldAt_turned {B b r : Nat} {q : Value} {bs : List Value} {w w' : World} (h : Lib.BuilderAtF 56 5 B b q bs w) (t : Turned w w' [] r) (hr : r < B) : Lib.BuilderAtF 56 5 B b q bs w' := by
  have hlt := h.lt
  obtain ⟨hB, v, hb, hown, hne⟩ := h
  refine ⟨hB, v, (t.block b hlt (by simp) (by omega)).trans hb, hown.kept (row := some r) ⟨t.os, t.tape, t.output, t.size, fun k hk h1 => t.block k hk (by simp) (fun e => h1 (by rw [e]))⟩ ?_, hne⟩
  cases hv : v.ownBlock with
  | none => exact .inl rfl
  | some g =>
    refine .inr fun e => ?_
    have h1 := (hown.lt g hv).1
    injection e with e; omega
theorem Bld.turned {B b r : Nat} {l : List UInt8} {w w' : World} (h : Bld B b l w) (t : Turned w w' [] r) (hr : r < B) : Bld B b l w' := by
  rcases h with h | h
  · exact .inl (bldAt_turned h t hr)
  · exact .inr (bldAt_turned h t hr)
theorem hexP_ok {l l' : List UInt8} {n : Nat} (h : hexP l = .ok n l') : l' = l.tail ∧ l ≠ [] := by
  unfold hexP at h
  cases hv : hexV (pk l) with
  | none => rw [hv] at h; cases h
  | some m => rw [hv] at h; injection h with _ h; exact ⟨h.symm, hexV_ne hv⟩
theorem tail_lt {l : List UInt8} (h : l ≠ []) : l.tail.length < l.length := by
  have := List.length_pos_iff.2 h; simp; omega
theorem inner_ok {l l' : List UInt8} {c : UInt8} (h : innerP l = .ok c l') : l' <:+ l ∧ l'.length < l.length := by
  unfold innerP at h
  by_cases h1 : plainC (pk l) = false
  · rw [if_pos h1] at h; cases h
  · rw [if_neg h1] at h
    have hne : l ≠ [] := plainC_ne (by simpa using h1)
    have ht := List.tail_suffix l
    have htt := (List.tail_suffix l.tail).trans ht
    by_cases h2 : pk l ≠ 92
    · rw [if_pos h2] at h; injection h with _ h; rw [← h]; exact ⟨ht, tail_lt hne⟩
    · rw [if_neg h2] at h
      by_cases h3 : pk l.tail = 34 ∨ pk l.tail = 92
      · rw [if_pos h3] at h; injection h with _ h; rw [← h]
        exact ⟨htt, Nat.lt_of_le_of_lt (by simp) (tail_lt hne)⟩
      · rw [if_neg h3] at h
        by_cases h4 : pk l.tail ≠ 120
        · rw [if_pos h4] at h; cases h
        · rw [if_neg h4] at h
          unfold hex2P at h
          cases hx : hexP l.tail.tail with
          | bad a b => rw [hx] at h; cases h
          | ok hi l1 =>
            rw [hx] at h; simp only at h
            cases hx2 : hexP l1 with
            | bad a b => rw [hx2] at h; cases h
            | ok lo l2 =>
              rw [hx2] at h; simp only at h
              injection h with _ h
              obtain ⟨rfl, _⟩ := hexP_ok hx
              obtain ⟨rfl, _⟩ := hexP_ok hx2
              rw [← h]
              exact ⟨((List.tail_suffix _).trans (List.tail_suffix _)).trans htt, Nat.lt_of_le_of_lt (by simp; omega) (tail_lt hne)⟩
theorem bytesF_end {f : Nat} {l acc : List UInt8} (h : pk l = 34) : bytesF (f + 1) l acc = .ok acc l.tail := by simp [bytesF, h]
theorem bytesF_bad {f e : Nat} {l acc a : List UInt8} (h : pk l ≠ 34) (hi : innerP l = .bad a e) : bytesF (f + 1) l acc = .bad a e := by simp [bytesF, h, hi]
theorem bytesF_go {f : Nat} {l acc l' : List UInt8} {c : UInt8} (h : pk l ≠ 34) (hi : innerP l = .ok c l') : bytesF (f + 1) l acc = bytesF f l' (acc ++ [c]) := by simp [bytesF, h, hi]
set_option maxHeartbeats 4000000 in
set_option maxRecDepth 100000 in
theorem bytes_l {w : World} {r : Nat} {s : ByteArray} {l : List UInt8} {p : Nat} (h : RdL w r s l p) (hs : s.size ≤ 1000000) :
    Calls Tryz.prog 24 #[.pointer (some ⟨r, 0, none⟩)] w fun e w' => TkTo w r s p (bytesP l) (fun v => .string ⟨v.toArray⟩) e w' := by
  have HR := Lib.hid h
  have HTK := Lib.hid (take_l 34 (by decide) h (by omega))
  clear h
  go_enter Tryz.func24, Tryz.ntmps24
  go_wp2_with fail
  refine HTK.out.mono ?_
  intro e w1 ht1
  clear HTK
  by_cases h34 : pk l = 34
  · rw [show takeP 34 l = .ok () l.tail from if_pos h34] at ht1
    have HG := Lib.hid (show bytesP l = bytesF (l.tail.length + 1) l.tail [] from if_pos h34)
    obtain ⟨rfl, hr1, ht1⟩ := ht1
    have HR1 := Lib.hid hr1; have HT1 := Lib.hid ht1
    have hr1b := hr1.block
    have hz1 := ht1.size
    clear hr1 ht1 h34
    obtain ⟨B, hB⟩ : ∃ B, B = w1.heap.size := ⟨_, rfl⟩
    go_wp2_with fail
    have hbn := Bld.new w1
    rw [← hB] at hbn hr1b hz1 ⊢
    obtain ⟨w2, hw2⟩ : ∃ w2, w2 = w1.alloc (.cells #[.pointer none, .slice none 0 0] 56) := ⟨_, rfl⟩
    have hb12 : Below B w1 w2 := by rw [hw2, hB]; exact (Below.refl _ _).alloc (Nat.le_refl _) _
    rw [← hw2] at hbn ⊢
    have HR2 := Lib.hid (HR1.out.pastB hb12 hr1b)
    have HT2 := Lib.hid (HT1.out.then_below hb12 (by omega) (by omega))
    have HB2 := Lib.hid hbn
    have hz2 : B ≤ w2.heap.size := by rw [hB]; have := hb12.size; omega
    have HZ2 := Lib.hid hz2
    clear hw2 hbn hb12 hB hz2
    go_loopw [] (fun wr => ∃ (l2 acc : List UInt8) (f : Nat), acc.length + l2.length ≤ s.size ∧ B ≤ wr.heap.size ∧ Hid (l2.length < f ∧ bytesP l = bytesF f l2 acc) ∧ Hid (Bld B B acc wr) ∧ Hid (RdL wr r s l2 p) ∧ Hid (Turned w wr [] r)) (fun wr => s.size - lenOf wr r)
    case atStart => exact ⟨l.tail, [], l.tail.length + 1, by have := HR2.out.len; simp at this ⊢; omega, HZ2.out, Lib.hid ⟨by omega, HG.out⟩, HB2, HR2, HT2⟩
    case round =>
      obtain ⟨l2, acc, f, hal, hzr, HF, HBr, HRr, HTr⟩ := hrel
      have hm := HRr.out.lenOf
      have HM := Lib.hid hm
      clear hm
      obtain ⟨f', hf'⟩ : ∃ f', f = f' + 1 := ⟨f - 1, by have := HF.out.1; omega⟩
      subst hf'
      go_wp2_with fail
      refine (peek_t HRr.out).mono ?_
      rintro e w5 ⟨rfl, hr5, ht5⟩
      have HR5 := Lib.hid hr5; have HT5 := Lib.hid (HTr.out.trans ht5)
      have HB5 := Lib.hid (HBr.out.turned ht5 hr1b)
      have hz5 : B ≤ w5.heap.size := by have := ht5.size; omega
      clear hr5 ht5
      obtain ⟨k2, hk2'⟩ : ∃ k2, k2 = s.size - l2.length := ⟨_, rfl⟩
      have hkk2 : k2 ≤ 1000000 := by omega
      have HK := Lib.hid hk2'
      obtain ⟨d, hd⟩ : ∃ d, d = pk l2 := ⟨_, rfl⟩
      rw [← hd]
      have HC := Lib.hid hd
      clear hd hk2'
      by_cases hq : d = 34
      · have e1 : ((d.toNat : Int) != 34) = false := by rw [hq]; rfl
        have HE : Hid (bytesP l = .ok acc l2.tail) := Lib.hid (by rw [HF.out.2]; exact bytesF_end (by rw [← HC.out]; exact hq))
        have HS := Lib.hid (HR5.out.step HK.out (pk_ne (c := 34) (by decide) (by rw [← HC.out]; exact hq)))
        obtain ⟨c0, c1, c2, cf⟩ := HR5.out.cells HK.out
        have f1 := cf 1
        clear cf hq
        go_wp2_with fail
        obtain ⟨w6, hw6⟩ : ∃ w6, w6 = w5.setCell ⟨r, 1, none⟩ (.int .i64 ((k2 : Int) + 1)) := ⟨_, rfl⟩
        have HR6 : Hid (RdL w6 r s l2.tail p) := Lib.hid (by rw [hw6]; exact HS.out.1)
        have HT6 : Hid (Turned w w6 [] r) := Lib.hid (by rw [hw6]; exact HT5.out.trans HS.out.2)
        have HB6 : Hid (Bld B B acc w6) := Lib.hid (by rw [hw6]; exact HB5.out.turned HS.out.2 hr1b)
        have hz6 : B ≤ w6.heap.size := by rw [hw6]; simpa using hz5
        rw [← hw6]
        clear hw6 c0 c1 c2 f1 HS HR5 HT5 HB5
        refine (Tryz.Builder_String_any_f B B acc w6 HB6.out hz6).mono ?_
        rintro e w7 ⟨rfl, _, hb7⟩
        have HB7 := Lib.hid hb7
        clear hb7
        go_wp2_with fail
        go_ret
        exact TkTo.done HE.out (HR6.out.pastB HB7.out hr1b) (HT6.out.then_below HB7.out hz1 hz6)
      · have e1 : ((d.toNat : Int) != 34) = true := by
          simp only [bne_iff_ne, ne_eq]; intro hh; exact hq (byte_eq (d := 34) hh)
        have HQ : Hid (pk l2 ≠ 34) := Lib.hid (by rw [← HC.out]; exact hq)
        clear hq
        go_wp2_with fail
        refine (inner_l HR5.out hs).mono ?_
        intro e w6 ht6
        cases hi : innerP l2 with
        | bad a b =>
          rw [hi] at ht6
          obtain ⟨hf, ht6⟩ := ht6
          unfold Failed at hf
          subst hf
          exact ⟨rfl, TkTo.failed (l := a) (by rw [HF.out.2]; exact bytesF_bad HQ.out hi) rfl (HT5.out.trans ht6)⟩
        | ok c l3 =>
          rw [hi] at ht6
          obtain ⟨rfl, hr6, ht6⟩ := ht6
          obtain ⟨hsf, hlt⟩ := inner_ok hi
          have HR6 := Lib.hid hr6; have HT6 := Lib.hid (HT5.out.trans ht6)
          have HB6 := Lib.hid (HB5.out.turned ht6 hr1b)
          have hz6 : B ≤ w6.heap.size := by have := ht6.size; omega
          have HF6 : Hid (l3.length < f' ∧ bytesP l = bytesF f' l3 (acc ++ [c])) := Lib.hid ⟨by have := HF.out.1; omega, by rw [HF.out.2]; exact bytesF_go HQ.out hi⟩
          have hal6 : (acc ++ [c]).length + l3.length ≤ s.size := by simp; omega
          have HAL := Lib.hid hal6
          have HLT : Hid (s.size - l3.length > s.size - l2.length) := Lib.hid (by omega)
          clear hr6 ht6 hi hsf hlt hal6
          go_wp2_with fail
          refine (bbyte_any c HB6.out (by omega) hz6).mono ?_
          rintro e w7 ⟨rfl, hb7⟩
          have HR7 := Lib.hid (HR6.out.pastB hb7.2.1 hr1b)
          have HT7 := Lib.hid (HT6.out.then_below hb7.2.1 hz1 hz6)
          have HB7 := Lib.hid hb7.bld
          have hz7 : B ≤ w7.heap.size := Nat.le_trans hz6 hb7.2.1.size
          clear hb7
          go_wp2_with fail
          have hm2 := HR7.out.lenOf
          refine ⟨⟨l3, acc ++ [c], f', HAL.out, hz7, HF6, HB7, HR7, HT7⟩, ?_⟩
          rw [hm2, HM.out]
          have := HLT.out
          omega
  · rw [show takeP 34 l = .bad l 4 from if_neg h34] at ht1
    obtain ⟨hf, ht1⟩ := ht1
    unfold Failed at hf
    subst hf
    exact ⟨rfl, TkTo.failed (l := l) (if_neg h34) rfl ht1⟩
end Go.Proofs.YtgklnafliaplkaaGreatDoor
namespace Go.Proofs.YtgklnafliaplkaaGreatDoor
open Go.RowKit

set_option maxHeartbeats 4000000 in
set_option maxRecDepth 100000 in
theorem short_l {w : World} {r : Nat} {s : ByteArray} {l : List UInt8} {p : Nat} (h : RdL w r s l p) (hs : s.size ≤ 1000000) :
    Calls Tryz.prog 61 #[.pointer (some ⟨r, 0, none⟩)] w fun e w' => TkTo w r s p (shortP l) (fun v => .string ⟨v.toArray⟩) e w' := by
  obtain ⟨k, hk⟩ : ∃ k, k = s.size - l.length := ⟨_, rfl⟩
  have HR := Lib.hid h; have HK := Lib.hid hk
  obtain ⟨c0, c1, c2, cf⟩ := h.cells hk
  clear cf h hk
  go_enter Tryz.func61, Tryz.ntmps61
  go_wp2_with fail
  refine (bytes_l HR.out hs).mono ?_
  clear c0 c1 c2
  intro e w1 hd
  cases hdg : bytesP l with
  | bad a b =>
    rw [hdg] at hd
    obtain ⟨hf, ht⟩ := hd
    unfold Failed at hf
    subst hf
    exact ⟨rfl, TkTo.failed (l := a) (by simp only [shortP, hdg]) rfl ht⟩
  | ok v l' =>
    rw [hdg] at hd
    obtain ⟨rfl, hr1, ht1⟩ := hd
    have HR1 := Lib.hid hr1; have HT1 := Lib.hid ht1
    have hsz : (⟨v.toArray⟩ : ByteArray).size = v.length := by show v.toArray.size = _; simp
    obtain ⟨x, hx⟩ : ∃ x, x = (⟨v.toArray⟩ : ByteArray) := ⟨_, rfl⟩
    obtain ⟨n, hn⟩ : ∃ n, n = x.size := ⟨_, rfl⟩
    rw [← hx] at hsz
    simp only []
    rw [← hx]
    have HX := Lib.hid hx
    have HD := Lib.hid hdg
    rw [← hn] at hsz
    have HN := Lib.hid hn
    clear hr1 ht1 hdg hx
    by_cases hb : 256 < v.length
    · have HG : Hid (shortP l = .bad l 8) := Lib.hid (by simp only [shortP, HD.out, if_pos hb])
      have hb1 : (256 : Int) < (x.size : Int) := by omega
      have hb2 : (256 : Int) < (n : Int) := by omega
      clear hn hb
      go_wp2_with fail
      refine (fail_any (k : Int) 8 _).mono ?_
      rintro e w6 ⟨he, rfl⟩
      unfold Failed at he
      subst he
      exact ⟨rfl, TkTo.failed HG.out HK.out HT1.out⟩
    · have HG : Hid (shortP l = .ok v l') := Lib.hid (by simp only [shortP, HD.out, if_neg hb])
      have hb1 : ¬ (256 : Int) < (x.size : Int) := by omega
      have hb2 : ¬ (256 : Int) < (n : Int) := by omega
      clear hn hb
      go_wp2_with fail
      go_ret
      have h6 := TkTo.done (f := fun v : List UInt8 => Value.string ⟨v.toArray⟩) HG.out HR1.out HT1.out
      simp only [← HX.out] at h6
      exact h6
theorem wordP_cons (c : UInt8) (t l : List UInt8) : wordP (c :: t) l = if pk l = c then wordP t l.tail else .bad l 4 := rfl
set_option maxHeartbeats 4000000 in
set_option maxRecDepth 100000 in
theorem word_l {w : World} {r : Nat} {s : ByteArray} {l : List UInt8} {p : Nat} (z : ByteArray) (hz : ∀ c ∈ z.data.toList, c ≠ 0) (hzs : z.size ≤ 100) (h : RdL w r s l p) (hs : s.size ≤ 1000000) :
    Calls Tryz.prog 63 #[.pointer (some ⟨r, 0, none⟩), .string z] w fun e w' => TkTo w r s p (wordP z.data.toList l) (fun _ => .tuple #[]) e w' := by
  have HR := Lib.hid h; have HZ := Lib.hid hz
  clear h hz
  go_enter Tryz.func63, Tryz.ntmps63
  go_wp2_with fail
  go_loopw [7] (fun i wr => ∃ (k : Nat) (l2 : List UInt8), k ≤ z.size ∧ i = .int .i64 k ∧ Hid (wordP z.data.toList l = wordP (z.data.toList.drop k) l2) ∧ Hid (RdL wr r s l2 p) ∧ Hid (Turned w wr [] r)) (fun i _ => z.size - (intOf i).toNat)
  case atStart => exact ⟨0, l, Nat.zero_le _, rfl, Lib.hid rfl, HR, Lib.hid (Turned.of_below (Below.refl _ _) _ _)⟩
  case round =>
    obtain ⟨k, l2, hk0, rfl, HW, HRr, HTr⟩ := hrel
    by_cases hlt : k < z.size
    · have hik0 : (0 : Int) ≤ (k : Int) := by omega
      have hik1 : (k : Int) < (z.size : Int) := by omega
      obtain ⟨c, hc⟩ : ∃ c, c = z[k] := ⟨_, rfl⟩
      have hdr : z.data.toList.drop k = c :: z.data.toList.drop (k + 1) := by
        rw [List.drop_eq_getElem_cons (by simpa using hlt), hc]; rfl
      have hc0 : c ≠ 0 := HZ.out c (by
        have : c ∈ z.data.toList.drop k := by rw [hdr]; simp
        exact List.mem_of_mem_drop this)
      have HDR := Lib.hid hdr
      have HTK := Lib.hid (take_l c hc0 HRr.out (by omega))
      clear hdr hc0
      go_upto_region 3 with fail
      go_wp2_with fail
      rw [← hc]
      clear hc
      refine HTK.out.mono ?_
      intro e w1 ht1
      clear HTK
      by_cases hp : pk l2 = c
      · rw [show takeP c l2 = .ok () l2.tail from if_pos hp] at ht1
        obtain ⟨rfl, hr1, ht1⟩ := ht1
        have HR1 := Lib.hid hr1; have HT1 := Lib.hid (HTr.out.trans ht1)
        have HW1 : Hid (wordP z.data.toList l = wordP (z.data.toList.drop (k + 1)) l2.tail) := Lib.hid (by rw [HW.out, HDR.out, wordP_cons, if_pos hp])
        clear hr1 ht1 hp
        go_wp2_with fail
        refine ⟨⟨k + 1, l2.tail, by omega, by go_num, HW1, HR1, HT1⟩, by simp [intOf]; omega⟩
      · rw [show takeP c l2 = .bad l2 4 from if_neg hp] at ht1
        obtain ⟨hf, ht1⟩ := ht1
        unfold Failed at hf
        subst hf
        exact ⟨rfl, TkTo.failed (l := l2) (by rw [HW.out, HDR.out, wordP_cons, if_neg hp]) rfl (HTr.out.trans ht1)⟩
    · obtain rfl : k = z.size := by omega
      have HE : Hid (wordP z.data.toList l = .ok () l2) := Lib.hid (by rw [HW.out, List.drop_of_length_le (by simp)]; rfl)
      go_wp2_with fail
      first | go_end0 | go_ret
      exact TkTo.done (f := fun _ => Value.tuple #[]) HE.out HRr.out HTr.out
end Go.Proofs.YtgklnafliaplkaaGreatDoor
