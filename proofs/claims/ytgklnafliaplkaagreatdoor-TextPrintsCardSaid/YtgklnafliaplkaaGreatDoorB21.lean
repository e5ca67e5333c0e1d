/-
  The reader: lists.
  The reader: documents.
-/
import Derived.Test.YtgklnafliaplkaaGreatDoorB19
import Derived.Test.YtgklnafliaplkaaGreatDoorB20
namespace Go.Proofs.YtgklnafliaplkaaGreatDoor
open Go.RowKit

theorem listP_ok {doc : List UInt8 → Nat → Out D} {l l' : List UInt8} {p p' : Nat} {ls : List D} (h : rowP (listI doc) 93 [] l p = .ok ls l' p') : listP doc l p = .ok (.mk 3 0 ⟨#[]⟩ [] ls) l' p' := by simp only [listP, h]
theorem listP_bad {doc : List UInt8 → Nat → Out D} {l a : List UInt8} {p b : Nat} (h : rowP (listI doc) 93 [] l p = .bad a b) : listP doc l p = .bad a b := by simp only [listP, h]
theorem listI_parts {doc : List UInt8 → Nat → Out D} {ls ls' : List D} {l l' : List UInt8} {p p' : Nat} (h : listI doc ls l p = .ok ls' l' p') : ∃ d, ls' = ls ++ [d] := by
  unfold listI at h
  rcases hx : doc l p with ⟨d, l2, p2⟩ | ⟨a, b⟩
  · rw [hx] at h; injection h with ha _ _; exact ⟨d, ha.symm⟩
  · rw [hx] at h; cases h
set_option maxHeartbeats 8000000 in
set_option maxRecDepth 100000 in
theorem list_l {r n : Nat} {s : ByteArray} (HD : DReads r s n) (hn : n ≤ 11) (hs : s.size ≤ 1000000)
    (e1 : ∀ args w, (callFunc 84 args).run Tryz.prog w = .ok (.enter 84 args) w)
    {w : World} {l : List UInt8} {p : Nat} (h : RdL w r s l p) (hne : l ≠ []) (hp2 : p ≤ 512) :
    Calls Tryz.prog 62 #[.pointer (some ⟨r, 0, none⟩), .int .i64 (12 - (n : Int))] w fun en w' => DocTo w r s (listP (docP n) l p) en w' := by
  have hmf : ∀ (fn : Fn) (first cap : Array Value) (w : World), (Instr.makeFunc fn first cap).run Tryz.prog w = .ok (.func fn first cap) w := fun _ _ _ _ => rfl
  have HR := Lib.hid h; have HNE := Lib.hid hne; have HDD := Lib.hid HD
  have hrb := h.block
  clear h hne HD
  obtain ⟨dp, hdp⟩ : ∃ dp : Int, dp = 12 - (n : Int) := ⟨_, rfl⟩
  have HDP := Lib.hid hdp
  rw [← hdp]
  clear hdp
  go_enter Tryz.func62, Tryz.ntmps62
  go_wp2_with fail
  obtain ⟨b, hbe⟩ : ∃ b, b = w.heap.size := ⟨_, rfl⟩
  obtain ⟨w3, hw3⟩ : ∃ w3, w3 = ((((w.alloc (.cells #[.pointer (some ⟨r, 0, none⟩)] 47)).alloc (.cells #[.int .i64 dp] 3)).alloc (.cells #[.int .i64 0, .int .i64 0, .string ⟨#[]⟩, .slice none 0 0, .slice none 0 0] 25)).alloc (.cells #[.int .i64 3, .int .i64 0, .string ⟨#[]⟩, .slice none 0 0, .slice none 0 0] 25)) := ⟨_, rfl⟩
  have hz3 : w3.heap.size = b + 4 := by rw [hw3, hbe]; simp
  have hbw : Below w.heap.size w w3 := by
    rw [hw3]
    exact ((((Below.refl _ _).alloc (Nat.le_refl _) _).alloc (by simp) _).alloc (by simp; omega) _).alloc (by simp; omega) _
  have k0 : w3.heap[b]? = some (.cells #[.pointer (some ⟨r, 0, none⟩)] 47 (0, 0)) := by
    rw [hw3]
    rw [Below.heap_alloc _ _ _ (by simp; omega), Below.heap_alloc _ _ _ (by simp; omega), Below.heap_alloc _ _ _ (by simp; omega)]
    exact heap_alloc_new' hbe.symm _
  have k1 : w3.heap[b + 1]? = some (.cells #[.int .i64 dp] 3 (0, 0)) := by
    rw [hw3]
    rw [Below.heap_alloc _ _ _ (by simp; omega), Below.heap_alloc _ _ _ (by simp; omega)]
    exact heap_alloc_new' (by simp; omega) _
  have k4 : Box5 w3 (b + 2) (.int .i64 0) (.int .i64 0) (.string ⟨#[]⟩) (.slice none 0 0) (.slice none 0 0) := by
    unfold Box5
    rw [hw3]
    rw [Below.heap_alloc _ _ _ (by simp; omega)]
    exact heap_alloc_new' (by simp; omega) _
  have k5 : Box5 w3 (b + 3) (.int .i64 3) (.int .i64 0) (.string ⟨#[]⟩) (.slice none 0 0) (.slice none 0 0) := by
    unfold Box5
    rw [hw3]
    exact heap_alloc_new' (by simp; omega) _
  have hR3 : RdL w3 r s l p := HR.out.past hbw
  rw [← hw3]
  have hp0 : PDoc w3 w3 (b + 3) r 3 0 ⟨#[]⟩ [] [] (.slice none 0 0) (.slice none 0 0) [] [] :=
    ⟨k5, World.ownsRow_nil _ _ _ _, World.ownsRow_nil _ _ _ _, by simp [OwnKids], by simp [blk, Value.ownBlock], Turned.of_below (Below.refl _ _) _ _⟩
  have hcell : ∀ X, Turned w3 X [r] (b + 3) → X.cell? ⟨b, 0, none⟩ = some (.pointer (some ⟨r, 0, none⟩)) ∧ X.cell? ⟨b + 1, 0, none⟩ = some (.int .i64 (12 - (n : Int))) := fun X hX => by
    have hh : ∀ k, b ≤ k → k < b + 3 → X.heap[k]? = w3.heap[k]? := fun k h1 h2 => hX.block k (by omega) (by simp; omega) (by omega)
    refine ⟨rdr_cell ((hh b (by omega) (by omega)).trans k0), ?_⟩
    rw [← HDP.out]; exact rdr_cell ((hh (b + 1) (by omega) (by omega)).trans k1)
  have hrow := row_any (σ := List D)
    (St := fun ls q W => (∃ v3 v4 cs F, PDoc w3 W (b + 3) r 3 0 ⟨#[]⟩ [] ls v3 v4 cs F) ∧ ls.length ≤ q ∧ q ≤ 512)
    (K := fun W => Turned w3 W [r] (b + 3)) (item := listI (docP n)) (caps := #[.pointer (some ⟨b + 3, 0, none⟩), .pointer (some ⟨b, 0, none⟩), .pointer (some ⟨b + 1, 0, none⟩)]) 93 (by decide) e1
    (fun ls l2 p2 W hst hr2 => by
      obtain ⟨⟨v3, v4, cs, F, hp⟩, hq, hq2⟩ := hst
      obtain ⟨q1, q2⟩ := hcell W hp.t
      refine Calls.mono (list1_any (db := b + 3) (rb := b) (pb := b + 1) HDD.out hn hp hr2 (by omega) (by omega) (by omega) (by omega) (by omega) q1 q2 (by omega) (by omega) (by omega) (by omega)) ?_
      intro en w' hto
      refine hto.imp fun st' l' p' ht hst' => ?_
      obtain ⟨d, rfl⟩ := listI_parts ht
      obtain ⟨g1, g2, _⟩ := listI_fine (docP_fine n) _ _ _ _ _ _ hq2 ht
      exact ⟨hst', by simp; omega, g2⟩)
    (fun ls l2 p2 W st' l' p' hst ht => (listI_fine (docP_fine n) _ _ _ _ _ _ hst.2.2 ht).2.2)
    (fun ls p2 W W' hst hT => by
      obtain ⟨⟨v3, v4, cs, F, hp⟩, h2⟩ := hst
      exact ⟨⟨v3, v4, cs, F, hp.past hT (by omega) (by omega)⟩, h2⟩)
    (fun ls p2 W hst => by
      obtain ⟨⟨v3, v4, cs, F, hp⟩, _⟩ := hst
      exact hp.t)
    [] hs HNE.out ⟨⟨_, _, _, _, hp0⟩, Nat.zero_le _, hp2⟩ hR3
  rw [← hbe]
  simp only [Nat.add_assoc, Nat.reduceAdd]
  have HBW := Lib.hid hbw
  have HK4 := Lib.hid k4
  have hbr : r < b := by omega
  have hbl1 : w.heap.size ≤ b := by omega
  have hzl : b + 4 ≤ w3.heap.size := by omega
  refine hrow.mono ?_
  clear hrow k0 k1 k4 k5 hR3 hp0 hcell hw3 hbw hz3 hbe e1
  intro en w4 hto
  rcases hrp : rowP (listI (docP n)) 93 [] l p with ⟨ls, l2, p2⟩ | ⟨a, c⟩
  rotate_left
  · rw [hrp] at hto
    obtain ⟨hf, hk⟩ := hto
    unfold Failed at hf
    subst hf
    exact ⟨rfl, DocTo.failed (l := a) (listP_bad hrp) rfl (turned_out (res := b + 2) hk (by omega) (by omega) HBW.out (fun _ _ => rfl) rfl ⟨rfl, rfl, rfl⟩)⟩
  rw [hrp] at hto
  obtain ⟨rfl, ⟨⟨v3, v4, cs, F, hp⟩, -⟩, hr4⟩ := hto
  have HP := Lib.hid hp; have HR4 := Lib.hid hr4; have HRP := Lib.hid hrp
  obtain ⟨A3, c3, rfl⟩ := ownsRow_slice hp.o3
  obtain ⟨A4, c4, rfl⟩ := ownsRow_slice hp.o4
  obtain ⟨d0, d1, d2, d3, d4⟩ := hp.bx.cells
  have hk4 := HK4.out.same (w' := w4) (hp.t.block (b + 2) (by omega) (by simp; omega) (by omega))
  obtain ⟨f0, f1, f2, f3, f4⟩ := hk4.cells
  have ff := hk4.frozen
  have HK4' := Lib.hid hk4
  clear hp hr4 hrp hk4
  go_wp2_with fail
  refine ret_cell5 rfl rfl (((((HK4'.out.set0 _).set1 _).set2 _).set3 _).set4 _).load rfl ?_
  exact pdoc_out (res := b + 2) HP.out (by omega) (by omega) (by omega) HBW.out hrb HR4.out (listP_ok HRP.out) (fun k hk => by
    rw [Below.heap_setCell _ _ _ k (by exact hk), Below.heap_setCell _ _ _ k (by exact hk), Below.heap_setCell _ _ _ k (by exact hk), Below.heap_setCell _ _ _ k (by exact hk), Below.heap_setCell _ _ _ k (by exact hk)]) (by simp) ⟨by simp only [so_os], by simp only [so_tape], by simp only [so_out]⟩
end Go.Proofs.YtgklnafliaplkaaGreatDoor
namespace Go.Proofs.YtgklnafliaplkaaGreatDoor
open Go.RowKit

set_option maxRecDepth 100000 in
theorem first_index (c : UInt8) : decide (Lib.indexByte [123, 60, 91, 116, 102, 34, 45, 48, 49, 50, 51, 52, 53, 54, 55, 56, 57] c < 0) = !firstB c := by
  have h : ∀ n : Fin 256, decide (Lib.indexByte [123, 60, 91, 116, 102, 34, 45, 48, 49, 50, 51, 52, 53, 54, 55, 56, 57] (UInt8.ofNat n.val) < 0) = !firstB (UInt8.ofNat n.val) := by decide
  have h1 := h ⟨c.toNat, c.toNat_lt⟩
  simpa using h1
theorem firstB_ne {l : List UInt8} (h : firstB (pk l) = true) : l ≠ [] := by rintro rfl; exact absurd h (by decide)
theorem doc_store {w w4 w5 X : World} {r b p : Nat} {s : ByteArray} {t : Out D} {d : D} {v0 v1 v2 v3 v4 : Value} {F : List Nat} {l : List UInt8} (ht : t = .ok d l p) (hO : OwnIn w5 w4.heap.size d v0 v1 v2 v3 v4 F) (hF : F.Nodup) (hR : RdL w5 r s l p) (h5 : Turned w4 w5 [] r) (h4 : Turned w w4 [] r) (hb : w.heap.size ≤ b) (hb4 : b < w4.heap.size) (hr : r < w.heap.size)
    (hX : ∀ k, k ≠ b → X.heap[k]? = w5.heap[k]?) (hXs : X.heap.size = w5.heap.size) (hXo : X.os = w5.os ∧ X.tape = w5.tape ∧ X.output = w5.output) : DocTo w r s t (.returned (.agg #[v0, v1, v2, v3, v4])) X := by
  subst ht
  have z4 := h4.size
  have z5 := h5.size
  have hl := hO.lt
  refine ⟨_, _, _, _, _, F, rfl, hO.same z4 fun k hk => hX k (by have := (hl k hk).1; omega), hF, hR.kept fun k hk => hX k (by omega), ?_⟩
  refine ⟨hXo.1.trans (h5.os.trans h4.os), hXo.2.1.trans (h5.tape.trans h4.tape), hXo.2.2.trans (h5.output.trans h4.output), by omega, fun k hk h1 h2 => ?_⟩
  exact (hX k (by omega)).trans ((h5.block k (by omega) h1 h2).trans (h4.block k hk h1 h2))
theorem five_sets (w : World) (b : Nat) (v0 v1 v2 v3 v4 : Value) :
    (∀ k, k ≠ b → (((((w.setCell ⟨b, 0, none⟩ v0).setCell ⟨b, 1, none⟩ v1).setCell ⟨b, 2, none⟩ v2).setCell ⟨b, 3, none⟩ v3).setCell ⟨b, 4, none⟩ v4).heap[k]? = w.heap[k]?) ∧ (((((w.setCell ⟨b, 0, none⟩ v0).setCell ⟨b, 1, none⟩ v1).setCell ⟨b, 2, none⟩ v2).setCell ⟨b, 3, none⟩ v3).setCell ⟨b, 4, none⟩ v4).heap.size = w.heap.size ∧
      ((((((w.setCell ⟨b, 0, none⟩ v0).setCell ⟨b, 1, none⟩ v1).setCell ⟨b, 2, none⟩ v2).setCell ⟨b, 3, none⟩ v3).setCell ⟨b, 4, none⟩ v4).os = w.os ∧ (((((w.setCell ⟨b, 0, none⟩ v0).setCell ⟨b, 1, none⟩ v1).setCell ⟨b, 2, none⟩ v2).setCell ⟨b, 3, none⟩ v3).setCell ⟨b, 4, none⟩ v4).tape = w.tape ∧ (((((w.setCell ⟨b, 0, none⟩ v0).setCell ⟨b, 1, none⟩ v1).setCell ⟨b, 2, none⟩ v2).setCell ⟨b, 3, none⟩ v3).setCell ⟨b, 4, none⟩ v4).output = w.output) := by
  refine ⟨fun k hk => ?_, by simp, by simp only [so_os], by simp only [so_tape], by simp only [so_out]⟩
  rw [Below.heap_setCell _ _ _ k (by exact hk), Below.heap_setCell _ _ _ k (by exact hk), Below.heap_setCell _ _ _ k (by exact hk), Below.heap_setCell _ _ _ k (by exact hk), Below.heap_setCell _ _ _ k (by exact hk)]
/-- A part more has begun. -/
theorem RdL.more {w : World} {r : Nat} {s : ByteArray} {l : List UInt8} {p : Nat} (h : RdL w r s l p) : RdL (w.setCell ⟨r, 2, none⟩ (.int .i64 ((p : Int) + 1))) r s l (p + 1) ∧ Turned w (w.setCell ⟨r, 2, none⟩ (.int .i64 ((p : Int) + 1))) [] r := by
  have ht : Turned w (w.setCell ⟨r, 2, none⟩ (.int .i64 ((p : Int) + 1))) [] r := (Turned.of_below (Below.refl _ _) _ _).setCell (.inr (.inl rfl)) _
  refine ⟨h.goes ht ?_ h.suf, ht⟩
  have h1 := h.rd
  unfold Rdr at h1 ⊢
  simp [World.setCell, Array.getElem?_modify, h1]
theorem docP_first {n : Nat} {l : List UInt8} {p : Nat} (h : firstB (pk (skipL l)) = false) : docP n l p = .bad (skipL l) 4 := by cases n <;> simp only [docP, h, if_true]
theorem docP_deep {l : List UInt8} {p : Nat} (h : firstB (pk (skipL l)) = true) : docP 0 l p = .bad (skipL l) 6 := by simp only [docP, h, Bool.true_eq_false, if_false]
theorem docP_full {n : Nat} {l : List UInt8} {p : Nat} (h : firstB (pk (skipL l)) = true) (hp : 512 < p + 1) : docP (n + 1) l p = .bad (skipL l) 2 := by simp only [docP, h, Bool.true_eq_false, if_false, if_pos hp]
theorem docP_part {n : Nat} {l : List UInt8} {p : Nat} (h : firstB (pk (skipL l)) = true) (hp : ¬ 512 < p + 1) : docP (n + 1) l p = partP (docP n) (skipL l) (p + 1) := by simp only [docP, h, Bool.true_eq_false, if_false, if_neg hp]
set_option maxHeartbeats 8000000 in
set_option maxRecDepth 100000 in
theorem doc_zero {r : Nat} {s : ByteArray} (hs : s.size ≤ 1000000) : DReads r s 0 := by
  intro l p w h hp
  have HR := Lib.hid h
  have hrb := h.block
  clear h
  go_enter Tryz.func36, Tryz.ntmps36
  go_wp2_with fail
  obtain ⟨w1, hw1⟩ : ∃ w1, w1 = w.alloc (.cells #[.int .i64 0, .int .i64 0, .string ⟨#[]⟩, .slice none 0 0, .slice none 0 0] 25) := ⟨_, rfl⟩
  have HR1 : Hid (RdL w1 r s l p) := Lib.hid (by rw [hw1]; exact HR.out.alloc _)
  have HT1 : Hid (Turned w w1 [] r) := Lib.hid (by rw [hw1]; exact Turned.of_below ((Below.refl _ _).alloc (Nat.le_refl _) _) _ _)
  rw [← hw1]
  clear hw1
  refine (blanks_l HR1.out (by omega)).mono ?_
  rintro e w2 ⟨rfl, hr2, ht2⟩
  have HR2 := Lib.hid hr2; have HT2 := Lib.hid (HT1.out.trans ht2)
  clear hr2 ht2
  obtain ⟨l1, hl1⟩ : ∃ l1, l1 = skipL l := ⟨_, rfl⟩
  have HL1 := Lib.hid hl1
  rw [← hl1] at HR2
  clear hl1
  go_wp2_with fail
  refine (peek_t HR2.out).mono ?_
  rintro e w3 ⟨rfl, hr3, ht3⟩
  have HR3 := Lib.hid hr3; have HT3 := Lib.hid (HT2.out.trans ht3)
  clear hr3 ht3
  obtain ⟨k, hk⟩ : ∃ k, k = s.size - l1.length := ⟨_, rfl⟩
  have HK := Lib.hid hk
  clear hk
  obtain ⟨c, hc⟩ : ∃ c, c = pk l1 := ⟨_, rfl⟩
  rw [← hc]
  have HC := Lib.hid hc
  clear hc
  go_wp2_with fail
  refine (Tryz.strings_IndexByte _ _ _).mono ?_
  rintro e w4 ⟨rfl, rfl⟩
  have hix : decide (Lib.indexByte [123, 60, 91, 116, 102, 34, 45, 48, 49, 50, 51, 52, 53, 54, 55, 56, 57] ((c.toNat : Int).toNat.toUInt8) < 0) = !firstB c := by
    have h1 := first_index c
    simpa using h1
  obtain ⟨ix, hixe⟩ : ∃ ix, ix = Lib.indexByte [123, 60, 91, 116, 102, 34, 45, 48, 49, 50, 51, 52, 53, 54, 55, 56, 57] ((c.toNat : Int).toNat.toUInt8) := ⟨_, rfl⟩
  simp only [← hixe] at hix ⊢
  clear hixe
  obtain ⟨c0, c1, c2, -⟩ := HR3.out.cells HK.out
  cases hf : firstB c with
  | false =>
    have hix0 : ix < 0 := by rw [hf] at hix; simpa using hix
    have HG : Hid (docP 0 l p = .bad l1 4) := Lib.hid (by rw [HL1.out]; exact docP_first (by rw [← HL1.out, ← HC.out]; exact hf))
    clear hf hix
    go_wp2_with fail
    refine (fail_any (k : Int) 4 _).mono ?_
    rintro e w5 ⟨he, rfl⟩
    unfold Failed at he
    subst he
    exact ⟨rfl, DocTo.failed HG.out HK.out HT3.out⟩
  | true =>
    have hix0 : ¬ ix < 0 := by rw [hf] at hix; simpa using hix
    have HG : Hid (docP 0 l p = .bad l1 6) := Lib.hid (by rw [HL1.out]; exact docP_deep (by rw [← HL1.out, ← HC.out]; exact hf))
    clear hf hix
    go_wp2_with fail
    refine (fail_any (k : Int) 6 _).mono ?_
    rintro e w5 ⟨he, rfl⟩
    unfold Failed at he
    subst he
    exact ⟨rfl, DocTo.failed HG.out HK.out HT3.out⟩
end Go.Proofs.YtgklnafliaplkaaGreatDoor
