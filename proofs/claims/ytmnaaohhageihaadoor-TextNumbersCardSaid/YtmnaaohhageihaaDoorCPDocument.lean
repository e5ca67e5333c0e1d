/-
  The reader: documents.
-/
import Derived.Test.YtmnaaohhageihaaDoorCPListL
namespace Go.Proofs.YtmnaaohhageihaaDoor
open Go.RowKit

set_option maxRecDepth 100000 in
theorem first_index (c : UInt8) : decide (Lib.indexByte [123, 60, 91, 116, 102, 34, 45, 48, 49, 50, 51, 52, 53, 54, 55, 56, 57] c < 0) = !firstB c := by
  have h : ∀ n : Fin 256, decide (Lib.indexByte [123, 60, 91, 116, 102, 34, 45, 48, 49, 50, 51, 52, 53, 54, 55, 56, 57] (UInt8.ofNat n.val) < 0) = !firstB (UInt8.ofNat n.val) := by decide
  have h1 := h ⟨c.toNat, c.toNat_lt⟩
  simpa using h1
theorem firstB_ne {l : List UInt8} (h : firstB (pk l) = true) : l ≠ [] := by rintro rfl; exact absurd h (by decide)
theorem doc_store {w w4 w5 X : World} {r b p : Nat} {s : ByteArray} {t : Out D} {d : D} {v0 v1 v2 v3 v4 : Value} {F : List Nat} {l : List UInt8} (ht : t = .ok d l p) (hO : OwnIn w5 w4.heap.size d v0 v1 v2 v3 v4 F) (hF : F.Nodup) (hR : RdL w5 r s l p) (h5 : Turned w4 w5 [] r) (h4 : Turned w w4 [] r) (hb : w.heap.size ≤ b) (hb4 : b < w4.heap.size) (hr : r < w.heap.size)
    (hX : ∀ k, k ≠ b → X.heap[k]? = w5.heap[k]?) (hXs : X.heap.size = w5.heap.size) (hXo : X.os = w5.os ∧ X.tape = w5.tape ∧ X.output = w5.output) : DocTo w r s t (.returned (.agg #[v0, v1, v2, v3, v4])) X := by
  subst ht
  have z4 := h4.size
  have z5 := h5.size
  have hl := hO.lt
  refine ⟨_, _, _, _, _, F, rfl, hO.same z4 fun k hk => hX k (by have := (hl k hk).1; omega), hF, hR.kept fun k hk => hX k (by omega), ?_⟩
  refine ⟨hXo.1.trans (h5.os.trans h4.os), hXo.2.1.trans (h5.tape.trans h4.tape), hXo.2.2.trans (h5.output.trans h4.output), by omega, fun k hk h1 h2 => ?_⟩
  exact (hX k (by omega)).trans ((h5.block k (by omega) h1 h2).trans (h4.block k hk h1 h2))
theorem five_sets (w : World) (b : Nat) (v0 v1 v2 v3 v4 : Value) :
    (∀ k, k ≠ b → (((((w.setCell ⟨b, 0, none⟩ v0).setCell ⟨b, 1, none⟩ v1).setCell ⟨b, 2, none⟩ v2).setCell ⟨b, 3, none⟩ v3).setCell ⟨b, 4, none⟩ v4).heap[k]? = w.heap[k]?) ∧ (((((w.setCell ⟨b, 0, none⟩ v0).setCell ⟨b, 1, none⟩ v1).setCell ⟨b, 2, none⟩ v2).setCell ⟨b, 3, none⟩ v3).setCell ⟨b, 4, none⟩ v4).heap.size = w.heap.size ∧
      ((((((w.setCell ⟨b, 0, none⟩ v0).setCell ⟨b, 1, none⟩ v1).setCell ⟨b, 2, none⟩ v2).setCell ⟨b, 3, none⟩ v3).setCell ⟨b, 4, none⟩ v4).os = w.os ∧ (((((w.setCell ⟨b, 0, none⟩ v0).setCell ⟨b, 1, none⟩ v1).setCell ⟨b, 2, none⟩ v2).setCell ⟨b, 3, none⟩ v3).setCell ⟨b, 4, none⟩ v4).tape = w.tape ∧ (((((w.setCell ⟨b, 0, none⟩ v0).setCell ⟨b, 1, none⟩ v1).setCell ⟨b, 2, none⟩ v2).setCell ⟨b, 3, none⟩ v3).setCell ⟨b, 4, none⟩ v4).output = w.output) := by
  refine ⟨fun k hk => ?_, by simp, by simp only [so_os], by simp only [so_tape], by simp only [so_out]⟩
  rw [Below.heap_setCell _ _ _ k (by exact hk), Below.heap_setCell _ _ _ k (by exact hk), Below.heap_setCell _ _ _ k (by exact hk), Below.heap_setCell _ _ _ k (by exact hk), Below.heap_setCell _ _ _ k (by exact hk)]
/-- A part more has begun. -/
theorem RdL.more {w : World} {r : Nat} {s : ByteArray} {l : List UInt8} {p : Nat} (h : RdL w r s l p) : RdL (w.setCell ⟨r, 2, none⟩ (.int .i64 ((p : Int) + 1))) r s l (p + 1) ∧ Turned w (w.setCell ⟨r, 2, none⟩ (.int .i64 ((p : Int) + 1))) [] r := by
  have ht : Turned w (w.setCell ⟨r, 2, none⟩ (.int .i64 ((p : Int) + 1))) [] r := (Turned.of_below (Below.refl _ _) _ _).setCell (.inr (.inl rfl)) _
  refine ⟨h.goes ht ?_ h.suf, ht⟩
  have h1 := h.rd
  unfold Rdr at h1 ⊢
  simp [World.setCell, Array.getElem?_modify, h1]
theorem docP_first {n : Nat} {l : List UInt8} {p : Nat} (h : firstB (pk (skipL l)) = false) : docP n l p = .bad (skipL l) 4 := by cases n <;> simp only [docP, h, if_true]
theorem docP_deep {l : List UInt8} {p : Nat} (h : firstB (pk (skipL l)) = true) : docP 0 l p = .bad (skipL l) 6 := by simp only [docP, h, Bool.true_eq_false, if_false]
theorem docP_full {n : Nat} {l : List UInt8} {p : Nat} (h : firstB (pk (skipL l)) = true) (hp : 512 < p + 1) : docP (n + 1) l p = .bad (skipL l) 2 := by simp only [docP, h, Bool.true_eq_false, if_false, if_pos hp]
theorem docP_part {n : Nat} {l : List UInt8} {p : Nat} (h : firstB (pk (skipL l)) = true) (hp : ¬ 512 < p + 1) : docP (n + 1) l p = partP (docP n) (skipL l) (p + 1) := by simp only [docP, h, Bool.true_eq_false, if_false, if_neg hp]
set_option maxHeartbeats 8000000 in
set_option maxRecDepth 100000 in
theorem doc_zero {r : Nat} {s : ByteArray} (hs : s.size ≤ 1000000) : DReads r s 0 := by
  intro l p w h hp
  have HR := Lib.hid h
  have hrb := h.block
  clear h
  go_enter Tryd.func21, Tryd.ntmps21
  go_wp2_with fail
  obtain ⟨w1, hw1⟩ : ∃ w1, w1 = w.alloc (.cells #[.int .i64 0, .int .i64 0, .string ⟨#[]⟩, .slice none 0 0, .slice none 0 0] 31) := ⟨_, rfl⟩
  have HR1 : Hid (RdL w1 r s l p) := Lib.hid (by rw [hw1]; exact HR.out.alloc _)
  have HT1 : Hid (Turned w w1 [] r) := Lib.hid (by rw [hw1]; exact Turned.of_below ((Below.refl _ _).alloc (Nat.le_refl _) _) _ _)
  rw [← hw1]
  clear hw1
  refine (blanks_l HR1.out (by omega)).mono ?_
  rintro e w2 ⟨rfl, hr2, ht2⟩
  have HR2 := Lib.hid hr2; have HT2 := Lib.hid (HT1.out.trans ht2)
  clear hr2 ht2
  obtain ⟨l1, hl1⟩ : ∃ l1, l1 = skipL l := ⟨_, rfl⟩
  have HL1 := Lib.hid hl1
  rw [← hl1] at HR2
  clear hl1
  go_wp2_with fail
  refine (peek_t HR2.out).mono ?_
  rintro e w3 ⟨rfl, hr3, ht3⟩
  have HR3 := Lib.hid hr3; have HT3 := Lib.hid (HT2.out.trans ht3)
  clear hr3 ht3
  obtain ⟨k, hk⟩ : ∃ k, k = s.size - l1.length := ⟨_, rfl⟩
  have HK := Lib.hid hk
  clear hk
  obtain ⟨c, hc⟩ : ∃ c, c = pk l1 := ⟨_, rfl⟩
  rw [← hc]
  have HC := Lib.hid hc
  clear hc
  go_wp2_with fail
  refine (Tryd.strings_IndexByte _ _ _).mono ?_
  rintro e w4 ⟨rfl, rfl⟩
  have hix : decide (Lib.indexByte [123, 60, 91, 116, 102, 34, 45, 48, 49, 50, 51, 52, 53, 54, 55, 56, 57] ((c.toNat : Int).toNat.toUInt8) < 0) = !firstB c := by
    have h1 := first_index c
    simpa using h1
  obtain ⟨ix, hixe⟩ : ∃ ix, ix = Lib.indexByte [123, 60, 91, 116, 102, 34, 45, 48, 49, 50, 51, 52, 53, 54, 55, 56, 57] ((c.toNat : Int).toNat.toUInt8) := ⟨_, rfl⟩
  simp only [← hixe] at hix ⊢
  clear hixe
  obtain ⟨c0, c1, c2, -⟩ := HR3.out.cells HK.out
  cases hf : firstB c with
  | false =>
    have hix0 : ix < 0 := by rw [hf] at hix; simpa using hix
    have HG : Hid (docP 0 l p = .bad l1 4) := Lib.hid (by rw [HL1.out]; exact docP_first (by rw [← HL1.out, ← HC.out]; exact hf))
    clear hf hix
    go_wp2_with fail
    refine (fail_any (k : Int) 4 _).mono ?_
    rintro e w5 ⟨he, rfl⟩
    unfold Failed at he
    subst he
    exact ⟨rfl, DocTo.failed HG.out HK.out HT3.out⟩
  | true =>
    have hix0 : ¬ ix < 0 := by rw [hf] at hix; simpa using hix
    have HG : Hid (docP 0 l p = .bad l1 6) := Lib.hid (by rw [HL1.out]; exact docP_deep (by rw [← HL1.out, ← HC.out]; exact hf))
    clear hf hix
    go_wp2_with fail
    refine (fail_any (k : Int) 6 _).mono ?_
    rintro e w5 ⟨he, rfl⟩
    unfold Failed at he
    subst he
    exact ⟨rfl, DocTo.failed HG.out HK.out HT3.out⟩
end Go.Proofs.YtmnaaohhageihaaDoor
