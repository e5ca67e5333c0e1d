/-
  The reader: lists.
-/
import Derived.Test.YtmnaaohhageihaaDoorCPKeyed
import Derived.Test.YtmnaaohhageihaaDoorCPList1
namespace Go.Proofs.YtmnaaohhageihaaDoor
open Go.RowKit

theorem listP_ok {doc : List UInt8 → Nat → Out D} {l l' : List UInt8} {p p' : Nat} {ls : List D} (h : rowP (listI doc) 93 [] l p = .ok ls l' p') : listP doc l p = .ok (.mk 3 0 ⟨#[]⟩ [] ls) l' p' := by simp only [listP, h]
theorem listP_bad {doc : List UInt8 → Nat → Out D} {l a : List UInt8} {p b : Nat} (h : rowP (listI doc) 93 [] l p = .bad a b) : listP doc l p = .bad a b := by simp only [listP, h]
theorem listI_parts {doc : List UInt8 → Nat → Out D} {ls ls' : List D} {l l' : List UInt8} {p p' : Nat} (h : listI doc ls l p = .ok ls' l' p') : ∃ d, ls' = ls ++ [d] := by
  unfold listI at h
  rcases hx : doc l p with ⟨d, l2, p2⟩ | ⟨a, b⟩
  · rw [hx] at h; injection h with ha _ _; exact ⟨d, ha.symm⟩
  · rw [hx] at h; cases h
set_option maxHeartbeats 8000000 in
set_option maxRecDepth 100000 in
theorem list_l {r n : Nat} {s : ByteArray} (HD : DReads r s n) (hn : n ≤ 11) (hs : s.size ≤ 1000000)
    (e1 : ∀ args w, (callFunc 63 args).run Tryd.prog w = .ok (.enter 63 args) w)
    {w : World} {l : List UInt8} {p : Nat} (h : RdL w r s l p) (hne : l ≠ []) (hp2 : p ≤ 512) :
    Calls Tryd.prog 44 #[.pointer (some ⟨r, 0, none⟩), .int .i64 (12 - (n : Int))] w fun en w' => DocTo w r s (listP (docP n) l p) en w' := by
  have hmf : ∀ (fn : Fn) (first cap : Array Value) (w : World), (Instr.makeFunc fn first cap).run Tryd.prog w = .ok (.func fn first cap) w := fun _ _ _ _ => rfl
  have HR := Lib.hid h; have HNE := Lib.hid hne; have HDD := Lib.hid HD
  have hrb := h.block
  clear h hne HD
  obtain ⟨dp, hdp⟩ : ∃ dp : Int, dp = 12 - (n : Int) := ⟨_, rfl⟩
  have HDP := Lib.hid hdp
  rw [← hdp]
  clear hdp
  go_enter Tryd.func44, Tryd.ntmps44
  go_wp2_with fail
  obtain ⟨b, hbe⟩ : ∃ b, b = w.heap.size := ⟨_, rfl⟩
  obtain ⟨w3, hw3⟩ : ∃ w3, w3 = ((((w.alloc (.cells #[.pointer (some ⟨r, 0, none⟩)] 47)).alloc (.cells #[.int .i64 dp] 3)).alloc (.cells #[.int .i64 0, .int .i64 0, .string ⟨#[]⟩, .slice none 0 0, .slice none 0 0] 31)).alloc (.cells #[.int .i64 3, .int .i64 0, .string ⟨#[]⟩, .slice none 0 0, .slice none 0 0] 31)) := ⟨_, rfl⟩
  have hz3 : w3.heap.size = b + 4 := by rw [hw3, hbe]; simp
  have hbw : Below w.heap.size w w3 := by
    rw [hw3]
    exact ((((Below.refl _ _).alloc (Nat.le_refl _) _).alloc (by simp) _).alloc (by simp; omega) _).alloc (by simp; omega) _
  have k0 : w3.heap[b]? = some (.cells #[.pointer (some ⟨r, 0, none⟩)] 47 (0, 0)) := by
    rw [hw3]
    rw [Below.heap_alloc _ _ _ (by simp; omega), Below.heap_alloc _ _ _ (by simp; omega), Below.heap_alloc _ _ _ (by simp; omega)]
    exact heap_alloc_new' hbe.symm _
  have k1 : w3.heap[b + 1]? = some (.cells #[.int .i64 dp] 3 (0, 0)) := by
    rw [hw3]
    rw [Below.heap_alloc _ _ _ (by simp; omega), Below.heap_alloc _ _ _ (by simp; omega)]
    exact heap_alloc_new' (by simp; omega) _
  have k4 : Box5 w3 (b + 2) (.int .i64 0) (.int .i64 0) (.string ⟨#[]⟩) (.slice none 0 0) (.slice none 0 0) := by
    unfold Box5
    rw [hw3]
    rw [Below.heap_alloc _ _ _ (by simp; omega)]
    exact heap_alloc_new' (by simp; omega) _
  have k5 : Box5 w3 (b + 3) (.int .i64 3) (.int .i64 0) (.string ⟨#[]⟩) (.slice none 0 0) (.slice none 0 0) := by
    unfold Box5
    rw [hw3]
    exact heap_alloc_new' (by simp; omega) _
  have hR3 : RdL w3 r s l p := HR.out.past hbw
  rw [← hw3]
  have hp0 : PDoc w3 w3 (b + 3) r 3 0 ⟨#[]⟩ [] [] (.slice none 0 0) (.slice none 0 0) [] [] :=
    ⟨k5, World.ownsRow_nil _ _ _ _, World.ownsRow_nil _ _ _ _, by simp [OwnKids], by simp [blk, Value.ownBlock], Turned.of_below (Below.refl _ _) _ _⟩
  have hcell : ∀ X, Turned w3 X [r] (b + 3) → X.cell? ⟨b, 0, none⟩ = some (.pointer (some ⟨r, 0, none⟩)) ∧ X.cell? ⟨b + 1, 0, none⟩ = some (.int .i64 (12 - (n : Int))) := fun X hX => by
    have hh : ∀ k, b ≤ k → k < b + 3 → X.heap[k]? = w3.heap[k]? := fun k h1 h2 => hX.block k (by omega) (by simp; omega) (by omega)
    refine ⟨rdr_cell ((hh b (by omega) (by omega)).trans k0), ?_⟩
    rw [← HDP.out]; exact rdr_cell ((hh (b + 1) (by omega) (by omega)).trans k1)
  have hrow := row_any (σ := List D)
    (St := fun ls q W => (∃ v3 v4 cs F, PDoc w3 W (b + 3) r 3 0 ⟨#[]⟩ [] ls v3 v4 cs F) ∧ ls.length ≤ q ∧ q ≤ 512)
    (K := fun W => Turned w3 W [r] (b + 3)) (item := listI (docP n)) (caps := #[.pointer (some ⟨b + 3, 0, none⟩), .pointer (some ⟨b, 0, none⟩), .pointer (some ⟨b + 1, 0, none⟩)]) 93 (by decide) e1
    (fun ls l2 p2 W hst hr2 => by
      obtain ⟨⟨v3, v4, cs, F, hp⟩, hq, hq2⟩ := hst
      obtain ⟨q1, q2⟩ := hcell W hp.t
      refine Calls.mono (list1_any (db := b + 3) (rb := b) (pb := b + 1) HDD.out hn hp hr2 (by omega) (by omega) (by omega) (by omega) (by omega) q1 q2 (by omega) (by omega) (by omega) (by omega)) ?_
      intro en w' hto
      refine hto.imp fun st' l' p' ht hst' => ?_
      obtain ⟨d, rfl⟩ := listI_parts ht
      obtain ⟨g1, g2, _⟩ := listI_fine (docP_fine n) _ _ _ _ _ _ hq2 ht
      exact ⟨hst', by simp; omega, g2⟩)
    (fun ls l2 p2 W st' l' p' hst ht => (listI_fine (docP_fine n) _ _ _ _ _ _ hst.2.2 ht).2.2)
    (fun ls p2 W W' hst hT => by
      obtain ⟨⟨v3, v4, cs, F, hp⟩, h2⟩ := hst
      exact ⟨⟨v3, v4, cs, F, hp.past hT (by omega) (by omega)⟩, h2⟩)
    (fun ls p2 W hst => by
      obtain ⟨⟨v3, v4, cs, F, hp⟩, _⟩ := hst
      exact hp.t)
    [] hs HNE.out ⟨⟨_, _, _, _, hp0⟩, Nat.zero_le _, hp2⟩ hR3
  rw [← hbe]
  simp only [Nat.add_assoc, Nat.reduceAdd]
  have HBW := Lib.hid hbw
  have HK4 := Lib.hid k4
  have hbr : r < b := by omega
  have hbl1 : w.heap.size ≤ b := by omega
  have hzl : b + 4 ≤ w3.heap.size := by omega
  refine hrow.mono ?_
  clear hrow k0 k1 k4 k5 hR3 hp0 hcell hw3 hbw hz3 hbe e1
  intro en w4 hto
  rcases hrp : rowP (listI (docP n)) 93 [] l p with ⟨ls, l2, p2⟩ | ⟨a, c⟩
  rotate_left
  · rw [hrp] at hto
    obtain ⟨hf, hk⟩ := hto
    unfold Failed at hf
    subst hf
    exact ⟨rfl, DocTo.failed (l := a) (listP_bad hrp) rfl (turned_out (res := b + 2) hk (by omega) (by omega) HBW.out (fun _ _ => rfl) rfl ⟨rfl, rfl, rfl⟩)⟩
  rw [hrp] at hto
  obtain ⟨rfl, ⟨⟨v3, v4, cs, F, hp⟩, -⟩, hr4⟩ := hto
  have HP := Lib.hid hp; have HR4 := Lib.hid hr4; have HRP := Lib.hid hrp
  obtain ⟨A3, c3, rfl⟩ := ownsRow_slice hp.o3
  obtain ⟨A4, c4, rfl⟩ := ownsRow_slice hp.o4
  obtain ⟨d0, d1, d2, d3, d4⟩ := hp.bx.cells
  have hk4 := HK4.out.same (w' := w4) (hp.t.block (b + 2) (by omega) (by simp; omega) (by omega))
  obtain ⟨f0, f1, f2, f3, f4⟩ := hk4.cells
  have ff := hk4.frozen
  have HK4' := Lib.hid hk4
  clear hp hr4 hrp hk4
  go_wp2_with fail
  refine ret_cell5 rfl rfl (((((HK4'.out.set0 _).set1 _).set2 _).set3 _).set4 _).load rfl ?_
  exact pdoc_out (res := b + 2) HP.out (by omega) (by omega) (by omega) HBW.out hrb HR4.out (listP_ok HRP.out) (fun k hk => by
    rw [Below.heap_setCell _ _ _ k (by exact hk), Below.heap_setCell _ _ _ k (by exact hk), Below.heap_setCell _ _ _ k (by exact hk), Below.heap_setCell _ _ _ k (by exact hk), Below.heap_setCell _ _ _ k (by exact hk)]) (by simp) ⟨by simp only [so_os], by simp only [so_tape], by simp only [so_out]⟩
end Go.Proofs.YtmnaaohhageihaaDoor
