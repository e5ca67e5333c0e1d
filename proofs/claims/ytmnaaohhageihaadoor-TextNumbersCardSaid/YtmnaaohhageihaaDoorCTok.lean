/-
  The reader over what is left of a text: peek, take, blanks, digits.
-/
import Derived.Test.YtmnaaohhageihaaDoorB11
import Derived.Test.YtmnaaohhageihaaDoorB06
import Derived.Test.YtmnaaohhageihaaDoorB10
namespace Go.Proofs.YtmnaaohhageihaaDoor
open Go.RowKit

/-- The reader at block r: of the text s, l is left; so many parts have begun. -/
structure RdL (w : World) (r : Nat) (s : ByteArray) (l : List UInt8) (p : Nat) : Prop where
  rd : Rdr w r s (s.size - l.length) p
  suf : l <:+ s.data.toList
  eg : ∃ ev, w.cell? ⟨1, 0, none⟩ = some ev ∧ (ev = .nilIface ∨ ∃ te pe, ev = .iface te pe)
  gr : 1 < r
theorem suf_len {s : ByteArray} {l : List UInt8} (h : l <:+ s.data.toList) : l.length ≤ s.size := by have := h.length_le; simpa using this
theorem RdL.len {w : World} {r : Nat} {s : ByteArray} {l : List UInt8} {p : Nat} (h : RdL w r s l p) : l.length ≤ s.size := suf_len h.suf
theorem suf_drop {s : ByteArray} {l : List UInt8} (h : l <:+ s.data.toList) : s.data.toList.drop (s.size - l.length) = l := by
  obtain ⟨t, ht⟩ := h
  have h1 : t.length + l.length = s.size := by have := congrArg List.length ht; simpa using this
  rw [← ht, show s.size - l.length = t.length by omega]; simp
theorem peekB_pk {s : ByteArray} {l : List UInt8} (h : l <:+ s.data.toList) : peekB s (s.size - l.length) = pk l := by
  have hl := suf_len h
  have hd := suf_drop h
  unfold peekB pk
  cases l with
  | nil => rw [dif_neg (by simp)]; rfl
  | cons c t =>
    have hk : s.size - (c :: t).length < s.size := by simp at hl ⊢; omega
    rw [dif_pos hk]
    have hk' : s.size - (c :: t).length < s.data.toList.length := by simpa using hk
    have h1 : s.data.toList[s.size - (c :: t).length]'hk' = c := by
      have h2 := List.getElem_drop (xs := s.data.toList) (i := s.size - (c :: t).length) (j := 0) (h := by rw [hd]; simp)
      simp only [hd, Nat.add_zero, List.getElem_cons_zero] at h2
      exact h2.symm
    exact h1
theorem RdL.block {w : World} {r : Nat} {s : ByteArray} {l : List UInt8} {p : Nat} (h : RdL w r s l p) : r < w.heap.size := by
  rcases Nat.lt_or_ge r w.heap.size with h1 | h1
  · exact h1
  · have h2 := h.rd; unfold Rdr at h2; simp [Array.getElem?_eq_none h1] at h2
theorem RdL.drewN {w : World} {r : Nat} {s : ByteArray} {l : List UInt8} {p : Nat} (h : RdL w r s l p) (n : Nat) : RdL (w.drewN n) r s l p := ⟨h.rd.drewN n, h.suf, h.eg, h.gr⟩
/-- .. behind what turns nothing but new memory, and the reader. -/
theorem RdL.goes {w w' : World} {r : Nat} {s : ByteArray} {l l' : List UInt8} {p p' : Nat} (h : RdL w r s l p) (t : Turned w w' [] r) (hr : Rdr w' r s (s.size - l'.length) p') (hs : l' <:+ s.data.toList) : RdL w' r s l' p' := by
  have hg := h.gr; have hb := h.block
  obtain ⟨ev, h1, h2⟩ := h.eg
  exact ⟨hr, hs, ⟨ev, (World.cell?_of_block (a := ⟨1, 0, none⟩) (t.block _ (by show 1 < _; omega) (by simp) (by show 1 ≠ r; omega))).trans h1, h2⟩, h.gr⟩
theorem RdL.past {w w' : World} {r : Nat} {s : ByteArray} {l : List UInt8} {p : Nat} (h : RdL w r s l p) (hb : Below w.heap.size w w') : RdL w' r s l p :=
  h.goes (Turned.of_below hb _ _) (by have h1 := h.rd; unfold Rdr at h1 ⊢; rw [hb.block _ h.block]; exact h1) h.suf
theorem RdL.cells {w : World} {r k : Nat} {s : ByteArray} {l : List UInt8} {p : Nat} (h : RdL w r s l p) (hk : k = s.size - l.length) : w.cell? ⟨r, 0, none⟩ = some (.string s) ∧ w.cell? ⟨r, 1, none⟩ = some (.int .i64 (k : Int)) ∧ w.cell? ⟨r, 2, none⟩ = some (.int .i64 (p : Int)) ∧ ∀ i, w.frozen? ⟨r, i, none⟩ = false := by
  subst hk; exact ⟨h.rd.cells.1, h.rd.cells.2.1, h.rd.cells.2.2, h.rd.frozen⟩
theorem tail_suf {l L : List UInt8} (h : l <:+ L) : l.tail <:+ L := (List.tail_suffix l).trans h
/-- r.at++ -/
theorem RdL.step {w : World} {r k : Nat} {s : ByteArray} {l : List UInt8} {p : Nat} (h : RdL w r s l p) (hk : k = s.size - l.length) (hl : l ≠ []) :
    RdL (w.setCell ⟨r, 1, none⟩ (.int .i64 ((k : Int) + 1))) r s l.tail p ∧ Turned w (w.setCell ⟨r, 1, none⟩ (.int .i64 ((k : Int) + 1))) [] r := by
  have ht : Turned w (w.setCell ⟨r, 1, none⟩ (.int .i64 ((k : Int) + 1))) [] r := (Turned.of_below (Below.refl _ _) _ _).setCell (.inr (.inl rfl)) _
  refine ⟨h.goes ht ?_ (tail_suf h.suf), ht⟩
  have h1 := h.len
  have h2 : s.size - l.tail.length = k + 1 := by
    have h3 : 0 < l.length := List.length_pos_iff.2 hl
    simp; omega
  rw [h2]
  exact h.rd.goes
theorem pk_ne {l : List UInt8} {c : UInt8} (hc : c ≠ 0) (h : pk l = c) : l ≠ [] := by rintro rfl; exact hc h.symm
/-- What a token's reader tells. -/
def TkTo {α : Type} (w : World) (r : Nat) (s : ByteArray) (p : Nat) (t : Tk α) (f : α → Value) (e : Ending) (w' : World) : Prop := match t with
  | .ok v l => e = .returned (f v) ∧ RdL w' r s l p ∧ Turned w w' [] r
  | .bad l er => Failed ((s.size - l.length : Nat) : Int) er e ∧ Turned w w' [] r
def takeP (c : UInt8) (l : List UInt8) : Tk Unit := if pk l = c then .ok () l.tail else .bad l 4
theorem peek_l {w : World} {r : Nat} {s : ByteArray} {l : List UInt8} {p : Nat} (h : RdL w r s l p) :
    Calls Tryd.prog 29 #[.pointer (some ⟨r, 0, none⟩)] w fun e w' => e = .returned (.int .u8 (pk l).toNat) ∧ ∃ n, w' = w.drewN n := by
  have h1 := peek_any h.rd (by omega)
  rw [peekB_pk h.suf] at h1
  exact h1
theorem peek_t {w : World} {r : Nat} {s : ByteArray} {l : List UInt8} {p : Nat} (h : RdL w r s l p) :
    Calls Tryd.prog 29 #[.pointer (some ⟨r, 0, none⟩)] w fun e w' => e = .returned (.int .u8 (pk l).toNat) ∧ RdL w' r s l p ∧ Turned w w' [] r := by
  refine Calls.mono (peek_l h) ?_
  rintro e w1 ⟨rfl, n, rfl⟩
  exact ⟨rfl, h.drewN n, turned_drewN w n r⟩
theorem skip_suf : ∀ l : List UInt8, skipL l <:+ l
  | [] => List.suffix_refl _
  | c :: t => by
    unfold skipL
    split
    · exact (skip_suf t).trans (List.suffix_cons _ _)
    · exact List.suffix_refl _
theorem skipB_skipL {s : ByteArray} : ∀ {l : List UInt8}, l <:+ s.data.toList → skipB s (s.size - l.length) = s.size - (skipL l).length
  | [], h => by
    have h1 := peekB_pk h
    rw [skipB_stop (by rw [h1]; decide)]; rfl
  | c :: t, h => by
    have h1 := peekB_pk h
    have hl := suf_len h
    have hp : pk (c :: t) = c := rfl
    by_cases hb : blankC c = true
    · have h2 := skipB_go (s := s) (k := s.size - (c :: t).length) (by rw [h1]; exact hb)
      rw [h2.2]
      have h3 : s.size - (c :: t).length + 1 = s.size - t.length := by simp at hl ⊢; omega
      rw [h3, skipB_skipL ((List.suffix_cons c t).trans h)]
      simp [skipL, hb]
    · rw [skipB_stop (by rw [h1]; exact Bool.eq_false_iff.2 hb)]
      simp [skipL, hb]
theorem blanks_l {w : World} {r : Nat} {s : ByteArray} {l : List UInt8} {p : Nat} (h : RdL w r s l p) (hs : s.size ≤ 140737488351232) :
    Calls Tryd.prog 22 #[.pointer (some ⟨r, 0, none⟩)] w fun e w' => e = .returned (.tuple #[]) ∧ RdL w' r s (skipL l) p ∧ Turned w w' [] r := by
  refine Calls.mono (blanks_any h.rd (by omega) hs) ?_
  rintro e w1 ⟨rfl, hr, ht⟩
  rw [skipB_skipL h.suf] at hr
  exact ⟨rfl, h.goes ht hr ((skip_suf l).trans h.suf), ht⟩
theorem take_l {w : World} {r : Nat} {s : ByteArray} {l : List UInt8} {p : Nat} (c : UInt8) (hc : c ≠ 0) (h : RdL w r s l p) (hs : s.size ≤ 140737488351232) :
    Calls Tryd.prog 28 #[.pointer (some ⟨r, 0, none⟩), .int .u8 c.toNat] w fun e w' => TkTo w r s p (takeP c l) (fun _ => .tuple #[]) e w' := by
  refine Calls.mono (take_any c h.rd (by omega) hs) ?_
  rw [peekB_pk h.suf]
  rintro e w1 (⟨hp, rfl, hr, ht⟩ | ⟨hp, hf, ht⟩)
  · unfold TkTo takeP
    rw [if_pos hp]
    have h1 := h.len
    have h3 : 0 < l.length := List.length_pos_iff.2 (pk_ne hc hp)
    have h2 : s.size - l.length + 1 = s.size - l.tail.length := by simp; omega
    rw [h2] at hr
    exact ⟨rfl, h.goes ht hr (tail_suf h.suf), ht⟩
  · unfold TkTo takeP
    rw [if_neg hp]
    exact ⟨hf, ht⟩
set_option maxHeartbeats 400000 in
theorem smallC_any (c : UInt8) (w : World) : Calls Tryd.prog 61 #[.int .u8 (c.toNat : Int)] w fun e w' => e = .returned (.bool (lowB c)) ∧ w = w' := by
  go_enter Tryd.func61, Tryd.ntmps61
  go_wp2
  all_goals (go_ret; refine ⟨tx_ret_bool ?_, rfl⟩; rw [Bool.eq_iff_iff]; simp [lowB]; omega)
set_option maxHeartbeats 400000 in
theorem digitC_any (c : UInt8) (w : World) : Calls Tryd.prog 52 #[.int .u8 (c.toNat : Int)] w fun e w' => e = .returned (.bool (digB c)) ∧ w = w' := by
  go_enter Tryd.func52, Tryd.ntmps52
  go_wp2
  all_goals (go_ret; refine ⟨tx_ret_bool ?_, rfl⟩; rw [Bool.eq_iff_iff]; simp [digB]; omega)
end Go.Proofs.YtmnaaohhageihaaDoor
