/-
  The reader: a byte string's bytes.
-/
import Derived.Test.YtmnaaohhageihaaDoorCTokN
namespace Go.Proofs.YtmnaaohhageihaaDoor
open Go.RowKit

set_option maxRecDepth 100000 in
theorem hex_index (c : UInt8) : Lib.indexByte [48, 49, 50, 51, 52, 53, 54, 55, 56, 57, 97, 98, 99, 100, 101, 102] c = (match hexV c with | some n => (n : Int) | none => -1) := by
  have h : ∀ n : Fin 256, Lib.indexByte [48, 49, 50, 51, 52, 53, 54, 55, 56, 57, 97, 98, 99, 100, 101, 102] (UInt8.ofNat n.val) = (match hexV (UInt8.ofNat n.val) with | some n => (n : Int) | none => -1) := by decide
  have h1 := h ⟨c.toNat, c.toNat_lt⟩
  simpa using h1
theorem hexV_lt {c : UInt8} {n : Nat} (h : hexV c = some n) : n < 16 := by
  unfold hexV at h
  split at h
  · rename_i hd
    simp only [digB, Bool.and_eq_true, decide_eq_true_eq] at hd
    injection h with h; omega
  · split at h
    · injection h with h; omega
    · cases h
theorem hexV_ne {l : List UInt8} {n : Nat} (h : hexV (pk l) = some n) : l ≠ [] := by rintro rfl; exact absurd h (by rw [show hexV (pk []) = none from by decide]; simp)
set_option maxHeartbeats 4000000 in
set_option maxRecDepth 100000 in
theorem hex_l {w : World} {r : Nat} {s : ByteArray} {l : List UInt8} {p : Nat} (h : RdL w r s l p) (hs : s.size ≤ 1000000) :
    Calls Tryd.prog 49 #[.pointer (some ⟨r, 0, none⟩)] w fun e w' => TkTo w r s p (hexP l) (fun n => .int .u8 (n : Int)) e w' := by
  obtain ⟨k, hk⟩ : ∃ k, k = s.size - l.length := ⟨_, rfl⟩
  have hk1 : k ≤ 1000000 := by omega
  have HR := Lib.hid h; have HK := Lib.hid hk
  clear h hk
  go_enter Tryd.func49, Tryd.ntmps49
  go_wp2_with fail
  refine (peek_t HR.out).mono ?_
  rintro e w1 ⟨rfl, hr1, ht1⟩
  have HR1 := Lib.hid hr1; have HT1 := Lib.hid ht1
  clear hr1 ht1
  go_wp2_with fail
  refine (Tryd.strings_IndexByte _ _ _).mono ?_
  rintro e w2 ⟨rfl, rfl⟩
  have hix : Lib.indexByte [48, 49, 50, 51, 52, 53, 54, 55, 56, 57, 97, 98, 99, 100, 101, 102] (((pk l).toNat : Int).toNat.toUInt8) = (match hexV (pk l) with | some n => (n : Int) | none => -1) := by
    have h1 := hex_index (pk l)
    simpa using h1
  obtain ⟨c0, c1, c2, cf⟩ := HR1.out.cells HK.out
  have f1 := cf 1
  clear cf
  cases hv : hexV (pk l) with
  | none =>
    rw [hv] at hix
    simp only at hix
    rw [hix]
    have HG : Hid (hexP l = .bad l 4) := Lib.hid (by simp only [hexP, hv])
    clear hv hix
    go_wp2_with fail
    refine (fail_any (k : Int) 4 _).mono ?_
    rintro e w3 ⟨he, rfl⟩
    unfold Failed at he
    subst he
    exact ⟨rfl, TkTo.failed HG.out HK.out HT1.out⟩
  | some n =>
    rw [hv] at hix
    simp only at hix
    rw [hix]
    have HG : Hid (hexP l = .ok n l.tail) := Lib.hid (by simp only [hexP, hv])
    have hn : n < 16 := hexV_lt hv
    have HS := Lib.hid (HR1.out.step HK.out (hexV_ne hv))
    have hn0 : ¬ (n : Int) < 0 := by omega
    clear hv hix
    go_wp2_with fail
    go_ret
    have h1 : IntKind.u8.wrap (n : Int) = (n : Int) := IntWalk.u8_in _ (by omega)
    first | exact TkTo.done HG.out HS.out.1 (HT1.out.trans HS.out.2) | (rw [h1]; exact TkTo.done HG.out HS.out.1 (HT1.out.trans HS.out.2))
end Go.Proofs.YtmnaaohhageihaaDoor
