/-
  The reader: one more document of a list.
-/
import Derived.Test.YtgklnafliaplkaaGreatDoorB16
import Derived.Deep.RegionLaw
namespace Go.Proofs.YtgklnafliaplkaaGreatDoor
open Go.RowKit

set_option maxHeartbeats 100000000 in
set_option maxRecDepth 100000 in
theorem list1_any {r n : Nat} {s : ByteArray} (HD : DReads r s n) (hn : n ≤ 11) {w3 w : World} {db rb pb : Nat} {ls : List D} {l : List UInt8} {p : Nat} {v3 v4 : Value} {cs : List Value} {F : List Nat}
    (hp : PDoc w3 w db r 3 0 ⟨#[]⟩ [] ls v3 v4 cs F) (h : RdL w r s l p) (hpp : p ≤ 513) (hlen : ls.length ≤ 10000)
    (hr3 : r < w3.heap.size) (hd3 : db < w3.heap.size) (hrd' : r < db) (hrb : w.cell? ⟨rb, 0, none⟩ = some (.pointer (some ⟨r, 0, none⟩))) (hpb : w.cell? ⟨pb, 0, none⟩ = some (.int .i64 (12 - (n : Int)))) (hrl : rb < w3.heap.size) (hpl : pb < w3.heap.size) (_hrr : rb ≠ r) (_hpr : pb ≠ r) :
    Calls Tryz.prog 84 #[.pointer (some ⟨db, 0, none⟩), .pointer (some ⟨rb, 0, none⟩), .pointer (some ⟨pb, 0, none⟩)] w fun e w' =>
      StTo (fun ls' _ w' => ∃ v3' v4' cs' F', PDoc w3 w' db r 3 0 ⟨#[]⟩ [] ls' v3' v4' cs' F') (fun w' => Turned w3 w' [r] db) r s (listI (docP n) ls l p) e w' := by
  have hrd : r ≠ db := by omega
  have HP := Lib.hid hp; have HR := Lib.hid h; have HDD := Lib.hid HD
  obtain ⟨q0, q1, q2, q3, q4⟩ := hp.bx.cells
  have q5 := hp.bx.frozen
  have ag4 : v4.ownBlock ≠ some db := fun hh => by have := (hp.o4.lt _ hh).1; omega
  have hz := hp.t.size
  have hrw : rb < w.heap.size := by omega
  have hpw : pb < w.heap.size := by omega
  have hdw : db < w.heap.size := by omega
  have hdep : (12 : Int) - (n : Int) + 1 = 13 - (n : Int) := by omega
  obtain ⟨dp, hdp⟩ : ∃ dp : Int, dp = 12 - (n : Int) := ⟨_, rfl⟩
  have hdp1 : 0 ≤ dp := by omega
  have hdp2 : dp ≤ 12 := by omega
  have hdp3 : (13 : Int) - (n : Int) = dp + 1 := by omega
  rw [← hdp] at hpb
  obtain ⟨j0, hj, hy0, hy1, hy2⟩ := info_parts infoD
  have HJ := Lib.hid hj; have HJ0 := Lib.hid hy0; have HJ1 := Lib.hid hy1; have HJ2 := Lib.hid hy2
  have hwr : IntKind.i64.wrap (dp + 1) = 13 - (n : Int) := by rw [hdp3]; exact IntWalk.i64_in _ (by omega)
  have HD3 := Lib.hid hdp3
  clear hj hy0 hy1 hy2 hp h HD hdep hdp hdp3 q0 q1 q2 q3
  obtain ⟨A4, c4, rfl⟩ := ownsRow_slice HP.out.o4
  have hcl : cs.length = ls.length * 5 := HP.out.o4.1
  have hli : (ls.length : Int) < (ls.length : Int) + 1 := by omega
  go_enter Tryz.func84, Tryz.ntmps84
  go_wp2_with fail
  go_region_law (first
    | (refine step_append_lies _ (by rfl) _ _ _ (by rfl) w3.heap.size 25 j0 (.agg #[.int .i64 0, .int .i64 0, .string ByteArray.empty, .slice none 0 0, .slice none 0 0]) 5 80 Tryz.underlying23 HJ.out HJ0.out HJ1.out HJ2.out (by rfl) (by omega) (.slice A4 ls.length c4) ls.length cs (by rfl) (HO7.out.alloc _) ⟨w7.heap.size, 0, none⟩ 1 1
         [.int .i64 0, .int .i64 0, .string ⟨#[]⟩, .slice none 0 0, .slice none 0 0] (by rfl) (by rfl) (World.news_of_block (cs := #[.int .i64 0, .int .i64 0, .string ⟨#[]⟩, .slice none 0 0, .slice none 0 0]) (t := 25) (fr := (0, 0)) (heap_alloc_new w7 _)) (by simp [Value.oneCell']) (by omega) (by unfold maxLen; omega) (by omega) (by simp; omega) (w7.heap.size + 1) (by simp) ?_
       intro g8 cap8 w8 hown8 hgrow8 hat8 hlt8
       have mf8 : w8.frozen? ⟨db, 4, none⟩ = false := ((hgrow8.frozen_far ⟨db, 4, none⟩ (by simp; omega) (Ne.symm ag4)).trans ((frozen_alloc_lt hbl7 _ 4).trans (mf7 4)))
       have m48 := (hgrow8.cell_far ⟨db, 4, none⟩ (by simp; omega) (Ne.symm ag4)).trans ((cell_alloc_lt' hbl7 _ 4).trans m47)
       have hgr8 := Grew.late hgrow8 hat8
       obtain ⟨hrc, hrf⟩ := row_cells hown8
       have z0 : w8.cell? ⟨g8, ls.length * 5, none⟩ = some (.int .i64 0) := hrc _ _ (by rw [List.getElem?_append_right (by omega), hcl, Nat.sub_self]; rfl)
       have z1 : w8.cell? ⟨g8, ls.length * 5 + 1, none⟩ = some (.int .i64 0) := hrc _ _ (by rw [List.getElem?_append_right (by omega), hcl, Nat.add_sub_cancel_left]; rfl)
       have z2 : w8.cell? ⟨g8, ls.length * 5 + 2, none⟩ = some (.string ⟨#[]⟩) := hrc _ _ (by rw [List.getElem?_append_right (by omega), hcl, Nat.add_sub_cancel_left]; rfl)
       have z3 : w8.cell? ⟨g8, ls.length * 5 + 3, none⟩ = some (.slice none 0 0) := hrc _ _ (by rw [List.getElem?_append_right (by omega), hcl, Nat.add_sub_cancel_left]; rfl)
       have z4 : w8.cell? ⟨g8, ls.length * 5 + 4, none⟩ = some (.slice none 0 0) := hrc _ _ (by rw [List.getElem?_append_right (by omega), hcl, Nat.add_sub_cancel_left]; rfl)
       have HO8 := Lib.hid hown8; have HW8 := Lib.hid hgr8
       have gdb : g8 ≠ db := by
         rcases hgr8.at_ with hh | hh
         · rintro rfl; exact ag4 hh
         · omega
       clear hrc hown8 hgrow8 hat8 hgr8)
    | (refine step_append_lies _ (by rfl) _ _ _ (by rfl) w3.heap.size 25 j0 (.agg #[.int .i64 0, .int .i64 0, .string ByteArray.empty, .slice none 0 0, .slice none 0 0]) 5 80 Tryz.underlying23 HJ.out HJ0.out HJ1.out HJ2.out (by rfl) (by omega) (.slice A4 ls.length c4) ls.length cs (by rfl) HO7.out ⟨w.heap.size, 0, none⟩ 1 1
         [.int .i64 0, .int .i64 0, .string ⟨#[]⟩, .slice none 0 0, .slice none 0 0] (by rfl) (by rfl) (World.news_of_block (cs := #[.int .i64 0, .int .i64 0, .string ⟨#[]⟩, .slice none 0 0, .slice none 0 0]) (t := 25) (fr := (0, 0)) hzb) (by simp [Value.oneCell']) (by omega) (by unfold maxLen; omega) (by omega) (by omega) w7.heap.size (by rfl) ?_
       intro g8 cap8 w8 hown8 hgrow8 hat8 hlt8
       have mf8 : w8.frozen? ⟨db, 4, none⟩ = false := ((hgrow8.frozen_far ⟨db, 4, none⟩ hbl7 (Ne.symm ag4)).trans (mf7 4))
       have m48 := (hgrow8.cell_far ⟨db, 4, none⟩ hbl7 (Ne.symm ag4)).trans m47
       have hgr8 := Grew.early hgrow8 hat8
       obtain ⟨hrc, hrf⟩ := row_cells hown8
       have z0 : w8.cell? ⟨g8, ls.length * 5, none⟩ = some (.int .i64 0) := hrc _ _ (by rw [List.getElem?_append_right (by omega), hcl, Nat.sub_self]; rfl)
       have z1 : w8.cell? ⟨g8, ls.length * 5 + 1, none⟩ = some (.int .i64 0) := hrc _ _ (by rw [List.getElem?_append_right (by omega), hcl, Nat.add_sub_cancel_left]; rfl)
       have z2 : w8.cell? ⟨g8, ls.length * 5 + 2, none⟩ = some (.string ⟨#[]⟩) := hrc _ _ (by rw [List.getElem?_append_right (by omega), hcl, Nat.add_sub_cancel_left]; rfl)
       have z3 : w8.cell? ⟨g8, ls.length * 5 + 3, none⟩ = some (.slice none 0 0) := hrc _ _ (by rw [List.getElem?_append_right (by omega), hcl, Nat.add_sub_cancel_left]; rfl)
       have z4 : w8.cell? ⟨g8, ls.length * 5 + 4, none⟩ = some (.slice none 0 0) := hrc _ _ (by rw [List.getElem?_append_right (by omega), hcl, Nat.add_sub_cancel_left]; rfl)
       have HO8 := Lib.hid hown8; have HW8 := Lib.hid hgr8
       have gdb : g8 ≠ db := by
         rcases hgr8.at_ with hh | hh
         · rintro rfl; exact ag4 hh
         · omega
       clear hrc hown8 hgrow8 hat8 hgr8)
    | (go_wp2_with fail
       go_at_call 36
       refine (HDD.out l p _ (by first | with_reducible exact HR.out.drew | with_reducible exact (HR.out.alloc _).drew | with_reducible exact HR.out.drew.alloc _) hpp).mono ?_
       intro e w7 hd7
       rcases hdc : docP n l p with ⟨d, l', p'⟩ | ⟨a, b⟩
       rotate_left
       · rw [hdc] at hd7
         obtain ⟨hf, ht⟩ := hd7
         unfold Failed at hf
         subst hf
         have ht67 : Turned w w7 [] r := (by first | with_reducible exact turned_of_drew ht | with_reducible exact turned_of_alloc (turned_of_drew ht) | with_reducible exact turned_of_drew (turned_of_alloc ht))
         exact ⟨rfl, StTo.failed (l := a) (by simp only [listI, hdc]) rfl (HP.out.past ht67 hr3 hrd).t⟩
       rw [hdc] at hd7
       obtain ⟨y0, y1, y2, y3, y4, G, rfl, hG, hGn, hr7, ht7⟩ := hd7
       obtain ⟨A7, c7, A8, c8, rfl, rfl, rfl, rfl, rfl⟩ := hG.doc.forms
       have ht67 : Turned w w7 [] r := (by first | with_reducible exact turned_of_drew ht7 | with_reducible exact turned_of_alloc (turned_of_drew ht7) | with_reducible exact turned_of_drew (turned_of_alloc ht7))
       have HO7 : Hid (w7.ownsRow w3.heap.size 25 5 (.slice A4 ls.length c4) ls.length cs) := ownsRow_same HP.out.o4 fun j hj => ht67.block j (HP.out.o4.lt j (blk_mem.1 hj)).2 (by simp) (by have := (HP.out.o4.lt j (blk_mem.1 hj)).1; omega)
       have hbd : w7.heap[db]? = w.heap[db]? := ht67.block db (by omega) (by simp) (by omega)
       first
         | have hzb : w7.heap[w.heap.size]? = some (.cells #[.int .i64 0, .int .i64 0, .string ⟨#[]⟩, .slice none 0 0, .slice none 0 0] 25 (0, 0)) := (ht7.block w.heap.size (by show w.heap.size < (World.alloc w _).heap.size; rw [World.size_alloc]; omega) (by simp) (by omega)).trans (heap_alloc_new w _)
         | skip
       have hbl7 : db < w7.heap.size := by have := ht67.size; omega
       have hz7 : w.heap.size ≤ w7.heap.size := ht67.size
       have m47 : w7.cell? ⟨db, 4, none⟩ = some (.slice A4 ls.length c4) := (World.cell?_of_block (a := ⟨db, 4, none⟩) hbd).trans q4
       have mf7 : ∀ i, w7.frozen? ⟨db, i, none⟩ = false := fun i => (World.frozen?_of_block (a := ⟨db, i, none⟩) hbd).trans (q5 i)
       have HG7 := Lib.hid (ownIn_base (b := w.heap.size) hG (by simp only [size_drew', World.size_alloc]; omega)); have HGN := Lib.hid hGn; have HR7 := Lib.hid hr7; have HT7 := Lib.hid ht67; have HDC := Lib.hid hdc
       clear hG hGn hr7 ht7 ht67 hdc hbd))
  all_goals (
    go_end0
    with_reducible refine list1_end (d := d) HP.out hr3 hd3 hrd' HT7.out (Nat.le_refl _) HG7.out HGN.out HR7.out HDC.out HW8.out HO8.out ?_
    first
      | (apply Or.inl; with_reducible eq_refl)
      | (apply Or.inr; with_reducible eq_refl))
end Go.Proofs.YtgklnafliaplkaaGreatDoor
