/-
  text.Unquote and text.Number.
-/
import Derived.Test.YtgklnafliaplkaaGreatDoorB19
namespace Go.Proofs.YtgklnafliaplkaaGreatDoor
open Go.RowKit

def unqS (o : Option (List UInt8)) : Value := match o with | some v => .string ⟨v.toArray⟩ | none => .string ⟨#[]⟩
def numS (o : Option Int) : Value := match o with | some v => .int .i64 v | none => .int .i64 0
set_option maxHeartbeats 4000000 in
set_option maxRecDepth 100000 in
theorem Unquote1_any {w : World} {r bb : Nat} {s : ByteArray} (h : RdL w r s s.data.toList 0) (hs : s.size ≤ 1000000) (hb : w.heap[bb]? = some (.cells #[.string ⟨#[]⟩] 9 (0, 0))) (hbr : bb < r) (hgb : 1 < bb) :
    Calls Tryz.prog 23 #[.pointer (some ⟨r, 0, none⟩), .pointer (some ⟨bb, 0, none⟩)] w (BoxTo w r s bb (fun v w' => w'.heap[bb]? = some (.cells #[.string ⟨v.toArray⟩] 9 (0, 0))) (bytesP s.data.toList)) := by
  have HR := Lib.hid h; have HB := Lib.hid hb
  have hrb := h.block
  clear h hb
  go_enter Tryz.func23, Tryz.ntmps23
  go_wp2_with fail
  refine (bytes_l HR.out hs).mono ?_
  intro e w1 hto
  rcases hx : bytesP s.data.toList with ⟨v, l6⟩ | ⟨a, q⟩
  rotate_left
  · rw [hx] at hto
    obtain ⟨hf, ht6⟩ := hto
    unfold Failed at hf
    subst hf
    exact ⟨rfl, by rw [hx]; exact ⟨rfl, ht6⟩⟩
  have HX := Lib.hid hx
  rw [hx] at hto
  obtain ⟨rfl, hr1, ht1⟩ := hto
  have hb1 : w1.heap[bb]? = some (.cells #[.string ⟨#[]⟩] 9 (0, 0)) := (ht1.block bb (by omega) (by simp) (by omega)).trans HB.out
  have c0 : w1.cell? ⟨bb, 0, none⟩ = some (.string ⟨#[]⟩) := rdr_cell hb1
  have f0 : w1.frozen? ⟨bb, 0, none⟩ = false := by simp [World.frozen?, hb1]
  have HR1 := Lib.hid hr1; have HT1 := Lib.hid ht1; have HB1 := Lib.hid hb1
  clear hr1 ht1 hb1 hx
  go_wp2_with fail
  go_end0
  have hgr := HR.out.gr
  obtain ⟨ev, e1, e2⟩ := HR1.out.eg
  have hset := cell1_set HB1.out (.string ⟨v.toArray⟩)
  have hfar : ∀ k, k ≠ bb → (w1.setCell ⟨bb, 0, none⟩ (.string ⟨v.toArray⟩)).heap[k]? = w1.heap[k]? := fun k hk => Below.heap_setCell w1 _ _ k hk
  rw [HX.out]
  refine ⟨rfl, ⟨0, ?_⟩, hset, ?_⟩
  · have h3 := HR1.out.rd
    refine ⟨?_, HR1.out.suf, ?_, HR1.out.gr⟩
    · unfold Rdr at h3 ⊢; rw [hfar r (by omega)]; exact h3
    · exact ⟨ev, (World.cell?_of_block (a := ⟨1, 0, none⟩) (hfar _ (by show 1 ≠ bb; omega))).trans e1, e2⟩
  · refine ⟨HT1.out.os, HT1.out.tape, HT1.out.output, by simpa using HT1.out.size, fun k hk h1 h2 => ?_⟩
    exact (hfar k (by simpa using h1)).trans (HT1.out.block k hk (by simp) h2)
set_option maxHeartbeats 4000000 in
set_option maxRecDepth 100000 in
theorem Unquote_any {w : World} (s : ByteArray) (hs : s.size ≤ 1000000) (hg : TG w) :
    Calls Tryz.prog 9 #[.string s] w fun e w' => e = .returned (.tuple #[unqS (unqP s.data.toList), .bool (unqP s.data.toList).isSome]) ∧ Below w.heap.size w w' := by
  have hmf : ∀ (fn : Fn) (first cap : Array Value) (w : World), (Instr.makeFunc fn first cap).run Tryz.prog w = .ok (.func fn first cap) w := fun _ _ _ _ => rfl
  have HG := Lib.hid hg
  clear hg
  go_enter Tryz.func9, Tryz.ntmps9
  go_wp2_with fail
  obtain ⟨b, hb⟩ : ∃ b, b = w.heap.size := ⟨_, rfl⟩
  obtain ⟨w1, hw1⟩ : ∃ w1, w1 = w.alloc (.cells #[.string ⟨#[]⟩] 9) := ⟨_, rfl⟩
  have hb1 : w1.heap[b]? = some (.cells #[.string ⟨#[]⟩] 9 (0, 0)) := by rw [hw1]; exact heap_alloc_new' hb.symm _
  have hz1 : w1.heap.size = b + 1 := by rw [hw1, hb]; simp
  have hbw : Below w.heap.size w w1 := by rw [hw1]; exact (Below.refl _ _).alloc (Nat.le_refl _) _
  have hg1 := HG.out.next hbw
  have hgr := HG.out.gr
  rw [← hw1, ← hb]
  have hread := read_box (α := List UInt8) (PB := fun v w' => w'.heap[b]? = some (.cells #[.string ⟨v.toArray⟩] 9 (0, 0))) (t := bytesP s.data.toList) (b := b) (s := s) (w := w1) (by omega) (enters_of Tryz.func23 (by kernel_rfl) rfl)
    (fun v w2 w3 h1 h2 => (h2 b (by omega) (by omega)).trans h1)
    (fun w2 hb2 hR => Unquote1_any (RdL.begin hR (hg1.next hb2).eg (by omega)) hs ((hb2.block b (by omega)).trans hb1) (by omega) (by omega))
  have HBW := Lib.hid hbw
  have hbl : w.heap.size ≤ b := by omega
  have hbl1 : b < w1.heap.size := by omega
  have hU : unqP s.data.toList = match bytesP s.data.toList with | .bad _ _ => none | .ok v l => if l = [] then some v else none := rfl
  have HU := Lib.hid hU
  clear hU hb hw1 hb1 hz1 hbw hg1 hgr
  refine hread.mono ?_
  clear hread
  intro e w2 hto
  obtain ⟨ht, hto⟩ := hto
  have hbel : Below w.heap.size w w2 := HBW.out.trans (Turned.below ht (by simp) hbl HBW.out.size)
  have HBEL := Lib.hid hbel
  clear hbel ht
  rcases hx : bytesP s.data.toList with ⟨v, l⟩ | ⟨a, er⟩
  · rw [hx] at hto HU
    simp only at hto HU
    by_cases hl : l = []
    · rw [if_pos hl] at hto HU
      obtain ⟨rfl, hbx⟩ := hto
      have c0 : w2.cell? ⟨b, 0, none⟩ = some (.string ⟨v.toArray⟩) := rdr_cell hbx
      clear hbx hx hl
      go_wp2_with fail
      go_ret2
      rw [HU.out]
      exact ⟨rfl, HBEL.out⟩
    · rw [if_neg hl] at hto HU
      subst hto
      clear hx hl
      go_wp2_with fail
      go_ret2
      rw [HU.out]
      exact ⟨rfl, HBEL.out⟩
  · have her := bytes_err hx
    rw [hx] at hto HU
    simp only at hto HU
    subst hto
    have hne : ((er : Int) != 0) = true := by simp; omega
    clear hx her
    go_wp2_with fail
    go_ret2
    rw [HU.out]
    exact ⟨rfl, HBEL.out⟩
set_option maxHeartbeats 4000000 in
set_option maxRecDepth 100000 in
theorem Number1_any {w : World} {r bb : Nat} {s : ByteArray} (h : RdL w r s s.data.toList 0) (hs : s.size ≤ 140737488351232) (hb : w.heap[bb]? = some (.cells #[.int .i64 0] 3 (0, 0))) (hbr : bb < r) (hgb : 1 < bb) :
    Calls Tryz.prog 26 #[.pointer (some ⟨r, 0, none⟩), .pointer (some ⟨bb, 0, none⟩)] w (BoxTo w r s bb (fun v w' => w'.heap[bb]? = some (.cells #[.int .i64 v] 3 (0, 0))) (numberP s.data.toList)) := by
  have HR := Lib.hid h; have HB := Lib.hid hb
  have hrb := h.block
  clear h hb
  go_enter Tryz.func26, Tryz.ntmps26
  go_wp2_with fail
  refine (number_l HR.out hs).mono ?_
  intro e w1 hto
  rcases hx : numberP s.data.toList with ⟨v, l6⟩ | ⟨a, q⟩
  rotate_left
  · rw [hx] at hto
    obtain ⟨hf, ht6⟩ := hto
    unfold Failed at hf
    subst hf
    exact ⟨rfl, by rw [hx]; exact ⟨rfl, ht6⟩⟩
  have HX := Lib.hid hx
  rw [hx] at hto
  obtain ⟨rfl, hr1, ht1⟩ := hto
  have hb1 : w1.heap[bb]? = some (.cells #[.int .i64 0] 3 (0, 0)) := (ht1.block bb (by omega) (by simp) (by omega)).trans HB.out
  have c0 : w1.cell? ⟨bb, 0, none⟩ = some (.int .i64 0) := rdr_cell hb1
  have f0 : w1.frozen? ⟨bb, 0, none⟩ = false := by simp [World.frozen?, hb1]
  have HR1 := Lib.hid hr1; have HT1 := Lib.hid ht1; have HB1 := Lib.hid hb1
  clear hr1 ht1 hb1 hx
  go_wp2_with fail
  go_end0
  have hgr := HR.out.gr
  obtain ⟨ev, e1, e2⟩ := HR1.out.eg
  have hset := cell1_set HB1.out (.int .i64 v)
  have hfar : ∀ k, k ≠ bb → (w1.setCell ⟨bb, 0, none⟩ (.int .i64 v)).heap[k]? = w1.heap[k]? := fun k hk => Below.heap_setCell w1 _ _ k hk
  rw [HX.out]
  refine ⟨rfl, ⟨0, ?_⟩, hset, ?_⟩
  · have h3 := HR1.out.rd
    refine ⟨?_, HR1.out.suf, ?_, HR1.out.gr⟩
    · unfold Rdr at h3 ⊢; rw [hfar r (by omega)]; exact h3
    · exact ⟨ev, (World.cell?_of_block (a := ⟨1, 0, none⟩) (hfar _ (by show 1 ≠ bb; omega))).trans e1, e2⟩
  · refine ⟨HT1.out.os, HT1.out.tape, HT1.out.output, by simpa using HT1.out.size, fun k hk h1 h2 => ?_⟩
    exact (hfar k (by simpa using h1)).trans (HT1.out.block k hk (by simp) h2)
set_option maxHeartbeats 4000000 in
set_option maxRecDepth 100000 in
theorem Number_any {w : World} (s : ByteArray) (hs : s.size ≤ 140737488351232) (hg : TG w) :
    Calls Tryz.prog 11 #[.string s] w fun e w' => e = .returned (.tuple #[numS (numP s.data.toList), .bool (numP s.data.toList).isSome]) ∧ Below w.heap.size w w' := by
  have hmf : ∀ (fn : Fn) (first cap : Array Value) (w : World), (Instr.makeFunc fn first cap).run Tryz.prog w = .ok (.func fn first cap) w := fun _ _ _ _ => rfl
  have HG := Lib.hid hg
  clear hg
  go_enter Tryz.func11, Tryz.ntmps11
  go_wp2_with fail
  obtain ⟨b, hb⟩ : ∃ b, b = w.heap.size := ⟨_, rfl⟩
  obtain ⟨w1, hw1⟩ : ∃ w1, w1 = w.alloc (.cells #[.int .i64 0] 3) := ⟨_, rfl⟩
  have hb1 : w1.heap[b]? = some (.cells #[.int .i64 0] 3 (0, 0)) := by rw [hw1]; exact heap_alloc_new' hb.symm _
  have hz1 : w1.heap.size = b + 1 := by rw [hw1, hb]; simp
  have hbw : Below w.heap.size w w1 := by rw [hw1]; exact (Below.refl _ _).alloc (Nat.le_refl _) _
  have hg1 := HG.out.next hbw
  have hgr := HG.out.gr
  rw [← hw1, ← hb]
  have hread := read_box (α := Int) (PB := fun v w' => w'.heap[b]? = some (.cells #[.int .i64 v] 3 (0, 0))) (t := numberP s.data.toList) (b := b) (s := s) (w := w1) (by omega) (enters_of Tryz.func26 (by kernel_rfl) rfl)
    (fun v w2 w3 h1 h2 => (h2 b (by omega) (by omega)).trans h1)
    (fun w2 hb2 hR => Number1_any (RdL.begin hR (hg1.next hb2).eg (by omega)) hs ((hb2.block b (by omega)).trans hb1) (by omega) (by omega))
  have HBW := Lib.hid hbw
  have hbl : w.heap.size ≤ b := by omega
  have hbl1 : b < w1.heap.size := by omega
  have hU : numP s.data.toList = match numberP s.data.toList with | .bad _ _ => none | .ok v l => if l = [] then some v else none := rfl
  have HU := Lib.hid hU
  clear hU hb hw1 hb1 hz1 hbw hg1 hgr
  refine hread.mono ?_
  clear hread
  intro e w2 hto
  obtain ⟨ht, hto⟩ := hto
  have hbel : Below w.heap.size w w2 := HBW.out.trans (Turned.below ht (by simp) hbl HBW.out.size)
  have HBEL := Lib.hid hbel
  clear hbel ht
  rcases hx : numberP s.data.toList with ⟨v, l⟩ | ⟨a, er⟩
  · rw [hx] at hto HU
    simp only at hto HU
    by_cases hl : l = []
    · rw [if_pos hl] at hto HU
      obtain ⟨rfl, hbx⟩ := hto
      have c0 : w2.cell? ⟨b, 0, none⟩ = some (.int .i64 v) := rdr_cell hbx
      clear hbx hx hl
      go_wp2_with fail
      go_ret2
      rw [HU.out]
      exact ⟨rfl, HBEL.out⟩
    · rw [if_neg hl] at hto HU
      subst hto
      clear hx hl
      go_wp2_with fail
      go_ret2
      rw [HU.out]
      exact ⟨rfl, HBEL.out⟩
  · have her := number_err hx
    rw [hx] at hto HU
    simp only at hto HU
    subst hto
    have hne : ((er : Int) != 0) = true := by simp; omega
    clear hx her
    go_wp2_with fail
    go_ret2
    rw [HU.out]
    exact ⟨rfl, HBEL.out⟩
end Go.Proofs.YtgklnafliaplkaaGreatDoor
