/-
  What doc.Int, Bool, Bytes and List make.
  
  What stands while doc.Rec turns: the document that grows.
-/
import Derived.Test.YtlemlgllkcgigaaGreatDoorF28
import Derived.LoopN
namespace Go.Proofs.YtlemlgllkcgigaaGreatDoor
open Go.RowKit

theorem own_nokids {w : World} {W0 : Nat} (kind num : Int) (str : ByteArray) : OwnIn w W0 (.mk kind num str [] []) (.int .i64 kind) (.int .i64 num) (.string str) (.slice none 0 0) (.slice none 0 0) [] := by
  simp only [OwnIn]
  exact ⟨trivial, trivial, trivial, World.ownsRow_nil _ _ _ _, [], [], World.ownsRow_nil _ _ _ _, by simp [OwnKids], by simp [blk, Value.ownBlock]⟩
theorem made_nokids {W0 : Nat} {w w' : World} (kind num : Int) (str : ByteArray) (hb : Below W0 w w') : MadeDoc W0 w (.mk kind num str [] []) (.returned (.agg #[.int .i64 kind, .int .i64 num, .string str, .slice none 0 0, .slice none 0 0])) w' :=
  ⟨_, _, _, _, _, [], rfl, own_nokids kind num str, by simp, hb⟩

set_option maxRecDepth 100000 in
theorem int_v (n : Int) (w : World) : Calls Tryz.prog 36 #[.int .i64 n] w (MadeDoc w.heap.size w (.mk 4 n ⟨#[]⟩ [] [])) := by
  go_enter Tryz.func36, Tryz.ntmps36
  go_wp2_with fail
  exact ret_cell5 rfl rfl (Box5.new w _ _ _ _ _).load rfl (made_nokids _ _ _ ((Below.refl _ _).alloc (Nat.le_refl _) _))
set_option maxRecDepth 100000 in
theorem bytes_v (s : ByteArray) (w : World) : Calls Tryz.prog 88 #[.string s] w (MadeDoc w.heap.size w (.mk 6 0 s [] [])) := by
  go_enter Tryz.func88, Tryz.ntmps88
  go_wp2_with fail
  exact ret_cell5 rfl rfl (Box5.new w _ _ _ _ _).load rfl (made_nokids _ _ _ ((Below.refl _ _).alloc (Nat.le_refl _) _))
set_option maxRecDepth 100000 in
theorem bool_v (b : Bool) (w : World) : Calls Tryz.prog 90 #[.bool b] w (MadeDoc w.heap.size w (.mk 5 (if b then 1 else 0) ⟨#[]⟩ [] [])) := by
  cases b
  · go_enter Tryz.func90, Tryz.ntmps90
    go_wp2_with fail
    exact ret_cell5 rfl rfl ((Box5.new w _ _ _ _ _).alloc _).load rfl (made_nokids _ _ _ (((Below.refl _ _).alloc (Nat.le_refl _) _).alloc (by simp) _))
  · go_enter Tryz.func90, Tryz.ntmps90
    go_wp2_with fail
    exact ret_cell5 rfl rfl ((Box5.new w _ _ _ _ _).alloc _).load rfl (made_nokids _ _ _ (((Below.refl _ _).alloc (Nat.le_refl _) _).alloc (by simp) _))
set_option maxHeartbeats 1000000 in
set_option maxRecDepth 100000 in
theorem list_v (l : List D) (v : Value) (w : World) (B : Nat) (hlen : l.length ≤ 10000) (hf : D.Fits l) (hB : B ≤ w.heap.size) (hv : KidsV w B l v) : Calls Tryz.prog 87 #[v] w (MadeDoc w.heap.size w (.mk 3 0 ⟨#[]⟩ [] l)) := by
  have hs : ∃ A n c, v = .slice A n c := by obtain ⟨A, c, e, _⟩ := hv; exact ⟨A, _, c, e⟩
  have HV := Lib.hid hv; clear hv
  obtain ⟨A, n, c, rfl⟩ := hs
  have HF := Lib.hid hf; clear hf
  go_enter Tryz.func87, Tryz.ntmps87
  go_wp2_with fail
  refine (copies_v hlen HF.out (by simp; omega) (HV.out.keep (Nat.le_refl _) fun p hp => World.cell?_alloc_lt w _ p (by omega))).mono ?_
  rintro e w2 ⟨v4', cs, F, rfl, hown2, hkids2, hnd2, hb2⟩
  simp only [World.size_alloc] at hown2 hkids2 hb2
  obtain ⟨A'', c'', rfl⟩ := ownsRow_slice hown2
  have hz2 := hb2.size
  simp only [World.size_alloc] at hz2
  have hx2 : Box5 w2 w.heap.size (.int .i64 0) (.int .i64 0) (.string ⟨#[]⟩) (.slice none 0 0) (.slice none 0 0) := (Box5.new w _ _ _ _ _).same (hb2.block _ (by omega))
  have HO2 := Lib.hid hown2; have HK2 := Lib.hid hkids2; have HN2 := Lib.hid hnd2; have HB2 := Lib.hid hb2
  have HX2 := Lib.hid hx2
  obtain ⟨s0, s1, s2, s3, s4⟩ := hx2.cells
  have s5 := hx2.frozen
  clear hown2 hkids2 hnd2 hb2 hx2
  go_wp2_with fail
  have hfin := ((((HX2.out.set0 (.int .i64 3)).set1 (.int .i64 0)).set2 (.string ⟨#[]⟩)).set3 (.slice none 0 0)).set4 (.slice A'' l.length c'')
  clear s0 s1 s2 s3 s4 s5
  refine ret_cell5 rfl rfl hfin.load rfl ?_
  have hsame : ∀ k, w.heap.size + 1 ≤ k → (((((w2.setCell ⟨w.heap.size, 0, none⟩ (.int .i64 3)).setCell ⟨w.heap.size, 1, none⟩ (.int .i64 0)).setCell ⟨w.heap.size, 2, none⟩ (.string ⟨#[]⟩)).setCell ⟨w.heap.size, 3, none⟩ (.slice none 0 0)).setCell
      ⟨w.heap.size, 4, none⟩ (.slice A'' l.length c'')).heap[k]? = w2.heap[k]? := fun k hk => by
    rw [Below.heap_setCell _ _ _ k (by show k ≠ w.heap.size; omega), Below.heap_setCell _ _ _ k (by show k ≠ w.heap.size; omega), Below.heap_setCell _ _ _ k (by show k ≠ w.heap.size; omega), Below.heap_setCell _ _ _ k (by show k ≠ w.heap.size; omega), Below.heap_setCell _ _ _ k (by show k ≠ w.heap.size; omega)]
  have l2 := HO2.out.lt
  have l3 := HK2.out.lt
  have le0 : w.heap.size ≤ w.heap.size := Nat.le_refl _
  refine ⟨_, _, _, _, _, _, rfl, OwnIn.make (d := .mk 3 0 ⟨#[]⟩ [] l) (World.ownsRow_nil _ _ _ _)
    (ownsRow_base (ownsRow_same HO2.out fun k hk => hsame k (by have := l2 k (blk_mem.1 hk); omega)) (by omega)) (HK2.out.same (by omega) fun k hk => hsame k (by have := l3 k hk; omega)), ?_, ?_⟩
  · simpa [blk, Value.ownBlock] using HN2.out
  · exact (((((((Below.refl w.heap.size w).alloc le0 _).trans (HB2.out.mono (by omega))).setCell (by exact le0) _).setCell (by exact le0) _).setCell (by exact le0) _).setCell (by exact le0) _).setCell (by exact le0) _
end Go.Proofs.YtlemlgllkcgigaaGreatDoor
namespace Go.Proofs.YtlemlgllkcgigaaGreatDoor
open Go.RowKit
theorem frozen_row {w : World} {g : Nat} {cs : Array Value} {t : TypeId} (h : w.heap[g]? = some (.cells cs t (0, 0))) (i : Nat) : w.frozen? ⟨g, i, none⟩ = false := by
  simp [World.frozen?, h]
theorem row2_set0 {w : World} {g : Nat} {p q u : Value} {t : TypeId} (h : w.heap[g]? = some (.cells #[p, q] t (0, 0))) : (w.setCell ⟨g, 0, none⟩ u).heap[g]? = some (.cells #[u, q] t (0, 0)) := by
  simp [World.setCell, Array.getElem?_modify, h]
theorem row2_set1 {w : World} {g : Nat} {p q u : Value} {t : TypeId} (h : w.heap[g]? = some (.cells #[p, q] t (0, 0))) : (w.setCell ⟨g, 1, none⟩ u).heap[g]? = some (.cells #[p, u] t (0, 0)) := by
  simp [World.setCell, Array.getElem?_modify, h]
theorem drewN_row {w : World} {g : Nat} {o : Option Obj} (m : Nat) (h : w.heap[g]? = o) : (w.drewN m).heap[g]? = o := h
/-- What the sort of two leaves: the two swapped. -/
def Swapped (g : Nat) (w : World) (e : Ending) (w' : World) : Prop :=
  (∃ v, e = .returned v) ∧ ∃ m n : Nat, w' = (((w.drewN m).setCell ⟨g, 1, none⟩ (.int .i64 0)).setCell ⟨g, 0, none⟩ (.int .i64 1)).drewN n
set_option maxRecDepth 100000 in
theorem less_two (kb b off n c i j : Nat) (x y : ByteArray) (w : World) (hi : i < n) (hj : j < n) (hk : w.cell? ⟨kb, 0, none⟩ = some (.slice (some ⟨b, off, none⟩) n c))
    (hx : w.cell? ⟨b, off + i, none⟩ = some (.string x)) (hy : w.cell? ⟨b, off + j, none⟩ = some (.string y)) :
    Calls Tryz.prog 103 #[.int .i64 i, .int .i64 j, .pointer (some ⟨kb, 0, none⟩)] w (fun e w' => e = .returned (.int .i64 (scmp x y)) ∧ w' = w.drew) := by
  have hi0 : (0 : Int) ≤ (i : Int) := by omega
  have hj0 : (0 : Int) ≤ (j : Int) := by omega
  have hil : (i : Int) < (n : Int) := by omega
  have hjl : (j : Int) < (n : Int) := by omega
  go_enter Tryz.func103, Tryz.ntmps103
  go_wp2_with fail
  refine wp_region_still_tail 9 (by kernel_rfl) (by kernel_rfl) ?_
  change wpStill _ _ (World.drew w) (fun a' => wpList _ _ _ _ a' (World.drew w)) _ _
  simp only [List.take_succ_cons, List.take_zero, List.drop_succ_cons, List.drop_zero]
  repeat still_step
  still_call (cmpStr_any _ _ _)
  repeat still_step
  refine wpStill_nil ?_
  go_wp2_with fail
  go_ret
  exact ⟨rfl, rfl⟩
theorem less_quiet {kb b off n c i j : Nat} {x y : ByteArray} {w : World} (hi : i < n) (hj : j < n) (hk : w.cell? ⟨kb, 0, none⟩ = some (.slice (some ⟨b, off, none⟩) n c))
    (hx : w.cell? ⟨b, off + i, none⟩ = some (.string x)) (hy : w.cell? ⟨b, off + j, none⟩ = some (.string y)) :
    Calls Tryz.prog 103 #[.int .i64 i, .int .i64 j, .pointer (some ⟨kb, 0, none⟩)] w (fun e w' => e = .returned (.int .i64 (scmp x y)) ∧ ∃ m, w' = w.drewN m) :=
  (less_two kb b off n c i j x y w hi hj hk hx hy).mono fun _ _ ⟨h, hw⟩ => ⟨h, 1, hw⟩
set_option maxRecDepth 100000 in
theorem insertion_two (kb b off c g : Nat) (x y : ByteArray) (w : World) (hk : w.cell? ⟨kb, 0, none⟩ = some (.slice (some ⟨b, off, none⟩) 2 c))
    (hx : w.cell? ⟨b, off, none⟩ = some (.string x)) (hy : w.cell? ⟨b, off + 1, none⟩ = some (.string y)) (hlt : scmp y x < 0) (h0 : w.cell? ⟨g, 0, none⟩ = some (.int .i64 0)) (h1 : w.cell? ⟨g, 1, none⟩ = some (.int .i64 1)) (f0 : w.frozen? ⟨g, 0, none⟩ = false) (f1 : w.frozen? ⟨g, 1, none⟩ = false) :
    Calls Tryz.prog 157 #[.slice (some ⟨g, 0, none⟩) 2 2, .int .i64 0, .int .i64 2, .func (.func 103) #[] #[.pointer (some ⟨kb, 0, none⟩)]] w (Swapped g w) := by
  go_enter Tryz.func157, Tryz.ntmps157
  go_wp2_with fail
  refine wp_loop_rounds 2 ?_
  rw [rounds_succ]
  go_wp2_with fail
  refine wp_loop_rounds 2 ?_
  rw [rounds_succ]
  go_wp2_with fail
  go_quiet ((go_at_call 103; exact Calls.quiet_of (less_quiet (i := 1) (j := 0) (n := 2) (by omega) (by omega) hk hy hx)))
  go_wp2_with fail
  go_region
  all_goals go_wp2_with fail
  all_goals rw [rounds_succ]
  all_goals go_wp2_with fail
  all_goals go_quiet (fail)
  all_goals go_wp2_with fail
  all_goals rw [rounds_succ]
  all_goals go_wp2_with fail
  all_goals go_end0
  all_goals exact ⟨⟨_, rfl⟩, _, _, rfl⟩
set_option maxRecDepth 100000 in
theorem stable_two (kb b off c g : Nat) (x y : ByteArray) (w : World) (hk : w.cell? ⟨kb, 0, none⟩ = some (.slice (some ⟨b, off, none⟩) 2 c))
    (hx : w.cell? ⟨b, off, none⟩ = some (.string x)) (hy : w.cell? ⟨b, off + 1, none⟩ = some (.string y)) (hlt : scmp y x < 0) (h0 : w.cell? ⟨g, 0, none⟩ = some (.int .i64 0)) (h1 : w.cell? ⟨g, 1, none⟩ = some (.int .i64 1)) (f0 : w.frozen? ⟨g, 0, none⟩ = false) (f1 : w.frozen? ⟨g, 1, none⟩ = false) :
    Calls Tryz.prog 136 #[.slice (some ⟨g, 0, none⟩) 2 2, .int .i64 2, .func (.func 103) #[] #[.pointer (some ⟨kb, 0, none⟩)]] w (Swapped g w) := by
  go_enter Tryz.func136, Tryz.ntmps136
  go_wp2_with fail
  refine wp_loop_rounds 1 ?_
  rw [rounds_succ]
  go_wp2_with fail
  refine (insertion_two kb b off c g x y w hk hx hy hlt h0 h1 f0 f1).mono ?_
  rintro e w' ⟨⟨v, rfl⟩, m, n, hw⟩
  have HW := Lib.hid hw; clear hw
  go_wp2_with fail
  refine wp_loop_rounds 1 ?_
  rw [rounds_succ]
  go_wp2_with fail
  go_end0
  exact ⟨⟨_, rfl⟩, m, n, HW.out⟩
set_option maxRecDepth 100000 in
theorem sort_two (kb b off c g : Nat) (x y : ByteArray) (w : World) (hk : w.cell? ⟨kb, 0, none⟩ = some (.slice (some ⟨b, off, none⟩) 2 c))
    (hx : w.cell? ⟨b, off, none⟩ = some (.string x)) (hy : w.cell? ⟨b, off + 1, none⟩ = some (.string y)) (hlt : scmp y x < 0) (h0 : w.cell? ⟨g, 0, none⟩ = some (.int .i64 0)) (h1 : w.cell? ⟨g, 1, none⟩ = some (.int .i64 1)) (f0 : w.frozen? ⟨g, 0, none⟩ = false) (f1 : w.frozen? ⟨g, 1, none⟩ = false) :
    Calls Tryz.prog 102 #[.slice (some ⟨g, 0, none⟩) 2 2, .func (.func 103) #[] #[.pointer (some ⟨kb, 0, none⟩)]] w (Swapped g w) := by
  go_enter Tryz.func102, Tryz.ntmps102
  go_wp2_with fail
  refine (stable_two kb b off c g x y w hk hx hy hlt h0 h1 f0 f1).mono ?_
  rintro e w' ⟨⟨v, rfl⟩, m, n, hw⟩
  have HW := Lib.hid hw; clear hw
  go_wp2_with fail
  go_end0
  exact ⟨⟨_, rfl⟩, m, n, HW.out⟩
set_option maxRecDepth 100000 in
/-- Two keys that come falling: the places of the second and the first. -/
theorem rising_two (x y : ByteArray) (b off c : Nat) (w : World) (hb : b < w.heap.size) (hlt : scmp y x < 0) (h0 : w.cell? ⟨b, off, none⟩ = some (.string x)) (h1 : w.cell? ⟨b, off + 1, none⟩ = some (.string y)) :
    Calls Tryz.prog 65 #[.slice (some ⟨b, off, none⟩) 2 c] w (fun e w' => e = .returned (.slice (some ⟨w.heap.size + 1, 0, none⟩) 2 2) ∧ w'.cell? ⟨w.heap.size + 1, 0, none⟩ = some (.int .i64 1) ∧ w'.cell? ⟨w.heap.size + 1, 1, none⟩ = some (.int .i64 0) ∧ Below w.heap.size w w') := by
  have hmk : ∀ w, (Instr.makeSlice 78 (.int .i64 2) (.int .i64 2)).run Tryz.prog w = .ok (.slice (some ⟨w.heap.size, 0, none⟩) 2 2) (w.alloc (.cells #[.int .i64 0, .int .i64 0] 3)) := fun _ => by kernel_rfl
  go_enter Tryz.func65, Tryz.ntmps65
  go_wp2_with fail
  refine wp_loop_rounds 3 ?_
  rw [rounds_succ]
  go_wp2_with fail
  rw [rounds_succ]
  go_wp2_with fail
  rw [rounds_succ]
  go_wp2_with fail
  have e0 : (((w.alloc (.cells #[.slice (some ⟨b, off, none⟩) 2 c] 22)).alloc (.cells #[.int .i64 0, .int .i64 1] 3))).heap[w.heap.size + 1]? = some (.cells #[.int .i64 0, .int .i64 1] 3 (0, 0)) := by simpa using heap_alloc_new (w.alloc (.cells #[.slice (some ⟨b, off, none⟩) 2 c] 22)) (.cells #[.int .i64 0, .int .i64 1] 3)
  have ek : (((w.alloc (.cells #[.slice (some ⟨b, off, none⟩) 2 c] 22)).alloc (.cells #[.int .i64 0, .int .i64 1] 3))).heap[w.heap.size]? = some (.cells #[.slice (some ⟨b, off, none⟩) 2 c] 22 (0, 0)) :=
    (Below.heap_alloc (w.alloc _) _ w.heap.size (by simp)).trans (heap_alloc_new w _)
  have keep : ∀ p : Addr, p.block < w.heap.size → (((w.alloc (.cells #[.slice (some ⟨b, off, none⟩) 2 c] 22)).alloc (.cells #[.int .i64 0, .int .i64 1] 3))).cell? p = w.cell? p := fun p hp =>
    (World.cell?_alloc_lt (w.alloc _) _ p (by simp; omega)).trans (World.cell?_alloc_lt w _ p hp)
  refine (sort_two w.heap.size b off c (w.heap.size + 1) x y _ (cell_of_row _ _ 0 _ _ _ ek) ((keep _ hb).trans h0) ((keep _ hb).trans h1) hlt (cell_of_row _ _ 0 _ _ _ e0) (cell_of_row _ _ 1 _ _ _ e0) (frozen_row e0 0) (frozen_row e0 1)).mono ?_
  rintro e w' ⟨⟨v, rfl⟩, m, n, hw⟩
  have HW := Lib.hid hw; clear hw
  go_wp2_with fail
  go_ret
  have hw := HW.out
  subst hw
  have e1 := row2_set0 (u := .int .i64 1) (row2_set1 (u := .int .i64 0) (drewN_row m e0))
  refine ⟨rfl, ?_, ?_, ?_⟩
  · exact cell_of_row _ _ 0 _ _ _ e1
  · exact cell_of_row _ _ 1 _ _ _ e1
  · refine (((((((Below.refl w.heap.size w).alloc (Nat.le_refl _) _).alloc (by simp) _).trans ((below_drewN _ m).mono (by simp; omega))).setCell (by show w.heap.size ≤ w.heap.size + 1; omega) _).setCell (by show w.heap.size ≤ w.heap.size + 1; omega) _).trans ((below_drewN _ n).mono (by simp [World.setCell]; omega)))
end Go.Proofs.YtlemlgllkcgigaaGreatDoor
namespace Go.Proofs.YtlemlgllkcgigaaGreatDoor
open Go.RowKit

/-- The variable box holds a record of these keys and these kids, in blocks of their own, made since w3. -/
structure RecSt (w3 w : World) (box : Nat) (xs : List ByteArray) (ls : List D) (v3 v4 : Value) (cs : List Value) (F : List Nat) : Prop where
  bx : Box5 w box (.int .i64 1) (.int .i64 0) (.string ⟨#[]⟩) v3 v4
  o3 : w.ownsRow w3.heap.size 9 1 v3 xs.length (xs.map Value.string)
  o4 : w.ownsRow w3.heap.size 29 5 v4 ls.length cs
  ok : OwnKids w w3.heap.size ls cs F
  nd : (blk v3 ++ (blk v4 ++ F)).Nodup
  t : Turned w3 w [] box
theorem RecSt.drewN {w3 w : World} {box : Nat} {xs : List ByteArray} {ls : List D} {v3 v4 : Value} {cs : List Value} {F : List Nat} (h : RecSt w3 w box xs ls v3 v4 cs F) (n : Nat) : RecSt w3 (w.drewN n) box xs ls v3 v4 cs F :=
  ⟨h.bx, h.o3, h.o4, h.ok.same (Nat.le_refl _) fun _ _ => rfl, h.nd, ⟨h.t.os, h.t.tape, h.t.output, h.t.size, h.t.block⟩⟩
theorem RecSt.key {w3 w4 w5 : World} {box : Nat} {xs : List ByteArray} {ls : List D} {v3 v4 : Value} {cs : List Value} {F : List Nat} (h : RecSt w3 w4 box xs ls v3 v4 cs F) (hbox : box < w3.heap.size) {g cap : Nat} {S : ByteArray}
    (hown : w5.ownsRow w3.heap.size 9 1 (.slice (some ⟨g, 0, none⟩) (xs.length + 1) cap) (xs.length + 1) (xs.map Value.string ++ [.string S])) (ob : Obj) (hgrow : (w4.alloc ob).drew.grownBy w5 v3.ownBlock) (hat : v3.ownBlock = some g ∨ g = w4.heap.size + 1) :
    RecSt w3 (w5.setCell ⟨box, 3, none⟩ (.slice (some ⟨g, 0, none⟩) (xs.length + 1) cap)) box (xs ++ [S]) ls (.slice (some ⟨g, 0, none⟩) (xs.length + 1) cap) v4 cs F := by
  have hz := h.t.size
  have l3 := h.o3.lt
  have l4 := h.o4.lt
  have lk := h.ok.lt
  have hgb : g ≠ box := by
    rcases hat with e | e
    · have := (l3 g e).1; omega
    · omega
  have keep : ∀ k, k < w4.heap.size → v3.ownBlock ≠ some k → w5.heap[k]? = w4.heap[k]? := fun k hk hne =>
    (hgrow.block k (by show k < (w4.alloc ob).heap.size; rw [World.size_alloc]; omega) (fun e => hne e.symm)).trans (Below.heap_alloc w4 ob k hk)
  have far : ∀ k, k ≠ box → (w5.setCell ⟨box, 3, none⟩ (.slice (some ⟨g, 0, none⟩) (xs.length + 1) cap)).heap[k]? = w5.heap[k]? := fun k hk => Below.heap_setCell _ _ _ k hk
  have hnd := h.nd
  simp only [List.nodup_append, List.mem_append, ne_eq] at hnd
  obtain ⟨_, ⟨n4, nF, n4F⟩, n3d⟩ := hnd
  have hb3 : v3.ownBlock ≠ some box := fun e => by have := (l3 box e).1; omega
  refine ⟨?_, ?_, ?_, ?_, ?_, ?_⟩
  · exact (h.bx.same (keep box (by omega) hb3)).set3 _
  · rw [List.length_append, List.map_append]
    exact ownsRow_same hown fun k hk => far k (by
      have : k = g := by simpa [blk, Value.ownBlock] using hk
      omega)
  · exact ownsRow_same h.o4 fun k hk => (far k (by have := (l4 k (blk_mem.1 hk)).1; omega)).trans (keep k (l4 k (blk_mem.1 hk)).2 fun e => n3d k (blk_mem.2 e) k (.inl hk) rfl)
  · exact h.ok.same (Nat.le_refl _) fun k hk => (far k (by have := (lk k hk).1; omega)).trans (keep k (lk k hk).2 fun e => n3d k (blk_mem.2 e) k (.inr hk) rfl)
  · have hb : blk (.slice (some ⟨g, 0, none⟩) (xs.length + 1) cap) = [g] := rfl
    rw [hb, List.nodup_append, List.nodup_append]
    refine ⟨by simp, ⟨n4, nF, n4F⟩, fun a ha b hb hab => ?_⟩
    simp only [List.mem_singleton] at ha
    subst ha; subst hab
    rcases hat with e | e
    · exact n3d a (blk_mem.2 e) a (List.mem_append.1 hb) rfl
    · rcases List.mem_append.1 hb with hb | hb
      · have := (l4 a (blk_mem.1 hb)).2; omega
      · have := (lk a hb).2; omega
  · refine ⟨hgrow.os.trans h.t.os, hgrow.tape.trans h.t.tape, hgrow.output.trans h.t.output, ?_, fun k hk hk1 hk2 => ?_⟩
    · have h1 : (w4.alloc ob).heap.size ≤ w5.heap.size := hgrow.size
      rw [World.size_alloc] at h1
      simp [World.setCell]; omega
    · exact (far k hk2).trans ((keep k (by omega) fun e => by have := (l3 k e).1; omega).trans (h.t.block k hk hk1 hk2))
theorem RecSt.kid {w3 w6 w7 w8 : World} {box : Nat} {xs : List ByteArray} {ls : List D} {v3 v4 : Value} {cs : List Value} {F G : List Nat} (h : RecSt w3 w6 box xs ls v3 v4 cs F) (hbox : box < w3.heap.size) {x : D} {y0 y1 y2 y3 y4 : Value} (hb7 : Below w6.heap.size w6 w7)
    (hG : OwnIn w7 w6.heap.size x y0 y1 y2 y3 y4 G) (hGN : G.Nodup) {g cap : Nat}
    (hown : w8.ownsRow w3.heap.size 29 5 (.slice (some ⟨g, 0, none⟩) (ls.length + 1) cap) (ls.length + 1) (cs ++ [y0, y1, y2, y3, y4])) (ob : Obj) (hgrow : (w7.alloc ob).grownBy w8 v4.ownBlock) (hat : v4.ownBlock = some g ∨ g = w7.heap.size + 1) :
    RecSt w3 (w8.setCell ⟨box, 4, none⟩ (.slice (some ⟨g, 0, none⟩) (ls.length + 1) cap)) box xs (ls ++ [x]) v3 (.slice (some ⟨g, 0, none⟩) (ls.length + 1) cap) (cs ++ [y0, y1, y2, y3, y4]) (F ++ G) := by
  have hz := h.t.size
  have hz7 := hb7.size
  have l3 := h.o3.lt
  have l4 := h.o4.lt
  have lk := h.ok.lt
  have lG := hG.lt
  have hgb : g ≠ box := by
    rcases hat with e | e
    · have := (l4 g e).1; omega
    · omega
  have keep7 : ∀ k, k < w7.heap.size → v4.ownBlock ≠ some k → w8.heap[k]? = w7.heap[k]? := fun k hk hne =>
    (hgrow.block k (by rw [World.size_alloc]; omega) (fun e => hne e.symm)).trans (Below.heap_alloc w7 ob k hk)
  have keep : ∀ k, k < w6.heap.size → v4.ownBlock ≠ some k → w8.heap[k]? = w6.heap[k]? := fun k hk hne => (keep7 k (by omega) hne).trans (hb7.block k hk)
  have far : ∀ k, k ≠ box → (w8.setCell ⟨box, 4, none⟩ (.slice (some ⟨g, 0, none⟩) (ls.length + 1) cap)).heap[k]? = w8.heap[k]? := fun k hk => Below.heap_setCell _ _ _ k hk
  have hnd := h.nd
  simp only [List.nodup_append, List.mem_append, ne_eq] at hnd
  obtain ⟨n3, ⟨n4, nF, n4F⟩, n3d⟩ := hnd
  have hb4 : v4.ownBlock ≠ some box := fun e => by have := (l4 box e).1; omega
  refine ⟨?_, ?_, ?_, ?_, ?_, ?_⟩
  · exact (h.bx.same (keep box (by omega) hb4)).set4 _
  · exact ownsRow_same h.o3 fun k hk => (far k (by have := (l3 k (blk_mem.1 hk)).1; omega)).trans (keep k (l3 k (blk_mem.1 hk)).2 fun e => n3d k hk k (.inl (blk_mem.2 e)) rfl)
  · rw [List.length_append]
    exact ownsRow_same hown fun k hk => far k (by
      have : k = g := by simpa [blk, Value.ownBlock] using hk
      omega)
  · exact OwnKids.push (hG.same (by omega) fun k hk => (far k (by have := (lG k hk).1; omega)).trans (keep7 k (lG k hk).2 fun e => by have := (l4 k e).2; have := (lG k hk).1; omega))
      (h.ok.same (Nat.le_refl _) fun k hk => (far k (by have := (lk k hk).1; omega)).trans (keep k (lk k hk).2 fun e => n4F k (blk_mem.2 e) k hk rfl))
  · have hb : blk (.slice (some ⟨g, 0, none⟩) (ls.length + 1) cap) = [g] := rfl
    rw [hb, List.nodup_append, List.nodup_append, List.nodup_append]
    refine ⟨n3, ⟨by simp, ⟨nF, hGN, fun a ha b hb hab => by subst hab; have := (lk a ha).2; have := (lG a hb).1; omega⟩, fun a ha b hb hab => ?_⟩, fun a ha b hb hab => ?_⟩
    · simp only [List.mem_singleton] at ha
      subst ha; subst hab
      rcases List.mem_append.1 hb with hb | hb
      · rcases hat with e | e
        · exact n4F a (blk_mem.2 e) a hb rfl
        · have := (lk a hb).2; omega
      · rcases hat with e | e
        · have := (l4 a e).2; have := (lG a hb).1; omega
        · have := (lG a hb).2; omega
    · subst hab
      rcases List.mem_append.1 hb with hb | hb
      · simp only [List.mem_singleton] at hb
        subst hb
        rcases hat with e | e
        · exact n3d a ha a (.inl (blk_mem.2 e)) rfl
        · have := (l3 a (blk_mem.1 ha)).2; omega
      · rcases List.mem_append.1 hb with hb | hb
        · exact n3d a ha a (.inr hb) rfl
        · have := (l3 a (blk_mem.1 ha)).2; have := (lG a hb).1; omega
  · refine ⟨hgrow.os.trans (hb7.os.trans h.t.os), hgrow.tape.trans (hb7.tape.trans h.t.tape), hgrow.output.trans (hb7.output.trans h.t.output), ?_, fun k hk hk1 hk2 => ?_⟩
    · have h1 : (w7.alloc ob).heap.size ≤ w8.heap.size := hgrow.size
      rw [World.size_alloc] at h1
      simp [World.setCell]; omega
    · exact (far k hk2).trans ((keep k (by omega) fun e => by have := (l4 k e).1; omega).trans (h.t.block k hk hk1 hk2))
end Go.Proofs.YtlemlgllkcgigaaGreatDoor
