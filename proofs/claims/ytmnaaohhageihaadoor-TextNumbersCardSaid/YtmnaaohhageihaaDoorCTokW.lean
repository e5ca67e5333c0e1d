/-
  The reader: short byte strings, words, names.
-/
import Derived.Test.YtmnaaohhageihaaDoorCTokS
namespace Go.Proofs.YtmnaaohhageihaaDoor
open Go.RowKit

set_option maxHeartbeats 4000000 in
set_option maxRecDepth 100000 in
theorem short_l {w : World} {r : Nat} {s : ByteArray} {l : List UInt8} {p : Nat} (h : RdL w r s l p) (hs : s.size ≤ 1000000) :
    Calls Tryd.prog 43 #[.pointer (some ⟨r, 0, none⟩)] w fun e w' => TkTo w r s p (shortP l) (fun v => .string ⟨v.toArray⟩) e w' := by
  obtain ⟨k, hk⟩ : ∃ k, k = s.size - l.length := ⟨_, rfl⟩
  have HR := Lib.hid h; have HK := Lib.hid hk
  obtain ⟨c0, c1, c2, cf⟩ := h.cells hk
  clear cf h hk
  go_enter Tryd.func43, Tryd.ntmps43
  go_wp2_with fail
  refine (bytes_l HR.out hs).mono ?_
  clear c0 c1 c2
  intro e w1 hd
  cases hdg : bytesP l with
  | bad a b =>
    rw [hdg] at hd
    obtain ⟨hf, ht⟩ := hd
    unfold Failed at hf
    subst hf
    exact ⟨rfl, TkTo.failed (l := a) (by simp only [shortP, hdg]) rfl ht⟩
  | ok v l' =>
    rw [hdg] at hd
    obtain ⟨rfl, hr1, ht1⟩ := hd
    have HR1 := Lib.hid hr1; have HT1 := Lib.hid ht1
    have hsz : (⟨v.toArray⟩ : ByteArray).size = v.length := by show v.toArray.size = _; simp
    obtain ⟨x, hx⟩ : ∃ x, x = (⟨v.toArray⟩ : ByteArray) := ⟨_, rfl⟩
    obtain ⟨n, hn⟩ : ∃ n, n = x.size := ⟨_, rfl⟩
    rw [← hx] at hsz
    simp only []
    rw [← hx]
    have HX := Lib.hid hx
    have HD := Lib.hid hdg
    rw [← hn] at hsz
    have HN := Lib.hid hn
    clear hr1 ht1 hdg hx
    by_cases hb : 256 < v.length
    · have HG : Hid (shortP l = .bad l 8) := Lib.hid (by simp only [shortP, HD.out, if_pos hb])
      have hb1 : (256 : Int) < (x.size : Int) := by omega
      have hb2 : (256 : Int) < (n : Int) := by omega
      clear hn hb
      go_wp2_with fail
      refine (fail_any (k : Int) 8 _).mono ?_
      rintro e w6 ⟨he, rfl⟩
      unfold Failed at he
      subst he
      exact ⟨rfl, TkTo.failed HG.out HK.out HT1.out⟩
    · have HG : Hid (shortP l = .ok v l') := Lib.hid (by simp only [shortP, HD.out, if_neg hb])
      have hb1 : ¬ (256 : Int) < (x.size : Int) := by omega
      have hb2 : ¬ (256 : Int) < (n : Int) := by omega
      clear hn hb
      go_wp2_with fail
      go_ret
      have h6 := TkTo.done (f := fun v : List UInt8 => Value.string ⟨v.toArray⟩) HG.out HR1.out HT1.out
      simp only [← HX.out] at h6
      exact h6
theorem wordP_cons (c : UInt8) (t l : List UInt8) : wordP (c :: t) l = if pk l = c then wordP t l.tail else .bad l 4 := rfl
set_option maxHeartbeats 4000000 in
set_option maxRecDepth 100000 in
theorem word_l {w : World} {r : Nat} {s : ByteArray} {l : List UInt8} {p : Nat} (z : ByteArray) (hz : ∀ c ∈ z.data.toList, c ≠ 0) (hzs : z.size ≤ 100) (h : RdL w r s l p) (hs : s.size ≤ 1000000) :
    Calls Tryd.prog 45 #[.pointer (some ⟨r, 0, none⟩), .string z] w fun e w' => TkTo w r s p (wordP z.data.toList l) (fun _ => .tuple #[]) e w' := by
  have HR := Lib.hid h; have HZ := Lib.hid hz
  clear h hz
  go_enter Tryd.func45, Tryd.ntmps45
  go_wp2_with fail
  go_loopw [7] (fun i wr => ∃ (k : Nat) (l2 : List UInt8), k ≤ z.size ∧ i = .int .i64 k ∧ Hid (wordP z.data.toList l = wordP (z.data.toList.drop k) l2) ∧ Hid (RdL wr r s l2 p) ∧ Hid (Turned w wr [] r)) (fun i _ => z.size - (intOf i).toNat)
  case atStart => exact ⟨0, l, Nat.zero_le _, rfl, Lib.hid rfl, HR, Lib.hid (Turned.of_below (Below.refl _ _) _ _)⟩
  case round =>
    obtain ⟨k, l2, hk0, rfl, HW, HRr, HTr⟩ := hrel
    by_cases hlt : k < z.size
    · have hik0 : (0 : Int) ≤ (k : Int) := by omega
      have hik1 : (k : Int) < (z.size : Int) := by omega
      obtain ⟨c, hc⟩ : ∃ c, c = z[k] := ⟨_, rfl⟩
      have hdr : z.data.toList.drop k = c :: z.data.toList.drop (k + 1) := by
        rw [List.drop_eq_getElem_cons (by simpa using hlt), hc]; rfl
      have hc0 : c ≠ 0 := HZ.out c (by
        have : c ∈ z.data.toList.drop k := by rw [hdr]; simp
        exact List.mem_of_mem_drop this)
      have HDR := Lib.hid hdr
      have HTK := Lib.hid (take_l c hc0 HRr.out (by omega))
      clear hdr hc0
      go_upto_region 3 with fail
      go_wp2_with fail
      rw [← hc]
      clear hc
      refine HTK.out.mono ?_
      intro e w1 ht1
      clear HTK
      by_cases hp : pk l2 = c
      · rw [show takeP c l2 = .ok () l2.tail from if_pos hp] at ht1
        obtain ⟨rfl, hr1, ht1⟩ := ht1
        have HR1 := Lib.hid hr1; have HT1 := Lib.hid (HTr.out.trans ht1)
        have HW1 : Hid (wordP z.data.toList l = wordP (z.data.toList.drop (k + 1)) l2.tail) := Lib.hid (by rw [HW.out, HDR.out, wordP_cons, if_pos hp])
        clear hr1 ht1 hp
        go_wp2_with fail
        refine ⟨⟨k + 1, l2.tail, by omega, by go_num, HW1, HR1, HT1⟩, by simp [intOf]; omega⟩
      · rw [show takeP c l2 = .bad l2 4 from if_neg hp] at ht1
        obtain ⟨hf, ht1⟩ := ht1
        unfold Failed at hf
        subst hf
        exact ⟨rfl, TkTo.failed (l := l2) (by rw [HW.out, HDR.out, wordP_cons, if_neg hp]) rfl (HTr.out.trans ht1)⟩
    · obtain rfl : k = z.size := by omega
      have HE : Hid (wordP z.data.toList l = .ok () l2) := Lib.hid (by rw [HW.out, List.drop_of_length_le (by simp)]; rfl)
      go_wp2_with fail
      first | go_end0 | go_ret
      exact TkTo.done (f := fun _ => Value.tuple #[]) HE.out HRr.out HTr.out
end Go.Proofs.YtmnaaohhageihaaDoor
