/-
  What text.read defers: it recovers a fault, and lays it into the results; where nothing panicked it does nothing.
-/
import Derived.Test.YtmnaaohhageihaaDoorB11
import Derived.Defers
import Derived.Recover
import Derived.Tactics2
import Derived.Laws.Pointers
import Derived.Deep.RegionHeld3
namespace Go.Proofs.YtmnaaohhageihaaDoor
open Go.RowKit

set_option maxHeartbeats 2000000 in
theorem rescue_idle (pa pe : Value) (w : World) :
    CallsD Tryd.prog 26 #[pa, pe] .returning w fun e u' w' => e = .returned (.tuple #[]) ∧ u' = .returning ∧ w' = w := by
  refine callsD_of_wpS Tryd.func26 rfl fun c₀ cs hu => ?_
  apply wpS_seq
  apply wpS_region
  simp [wpOpsS, go_sem, recoverD, hu, Tryd.ntmps26, Exit.thenS]
  apply wpS_seq
  apply wpS_region
  simp [wpOpsS, go_sem, recoverD, hu, Exit.thenS]
  refine wpS_cond (t := false) (by simp [Act.eval, Array.replicate]) ?_
  simp only [Bool.false_eq_true, if_false]
  refine wpS_of_wp (wp_skip ?_)
  cases c₀
  simp_all [bodyPostS, results, Tryd.results26]
set_option maxHeartbeats 2000000 in
set_option maxRecDepth 100000 in
theorem rescue_any {a e : Nat} (at_ err : Int) (older : List PanicEntry) (w : World) (ha : w.heap[a]? = some (.cells #[.int .i64 0] 3 (0, 0))) (he : w.heap[e]? = some (.cells #[.int .i64 0] 36 (0, 0))) (hne : a ≠ e) :
    CallsD Tryd.prog 26 #[.pointer (some ⟨a, 0, none⟩), .pointer (some ⟨e, 0, none⟩)] (.panicking ({ v := faultV at_ err, recovered := false } :: older)) w fun en u' w' =>
      en = .returned (.tuple #[]) ∧ u' = .panicking ({ v := faultV at_ err, recovered := true } :: older) ∧ w' = (((w.alloc (.cells #[.int .i64 at_, .int .i64 err] 62)).setCell ⟨a, 0, none⟩ (.int .i64 at_)).setCell ⟨e, 0, none⟩ (.int .i64 err)).drew := by
  unfold faultV
  have hta : ∀ W : World, (Instr.typeAssert (.iface 62 (.agg #[.int .i64 at_, .int .i64 err])) 20 62 false).run Tryd.prog W = .ok (.agg #[.int .i64 at_, .int .i64 err]) W := fun W => by first | rfl | simp [Instr.typeAssert, go_sem]
  refine callsD_of_wpS Tryd.func26 rfl fun c₀ cs hu => ?_
  apply wpS_seq
  apply wpS_region
  simp [wpOpsS, go_sem, recoverD, hu, Tryd.ntmps26, Exit.thenS]
  apply wpS_seq
  apply wpS_region
  simp [wpOpsS, go_sem, recoverD, Exit.thenS]
  refine wpS_cond (t := true) (by simp [Act.eval, Array.replicate]) ?_
  simp only [if_true]
  refine wpS_of_wp ?_
  obtain ⟨V, hV⟩ : ∃ V, V = Value.iface 62 (.agg #[.int .i64 at_, .int .i64 err]) := ⟨_, rfl⟩
  change Code.wp _ _ _ { tmps := #[.pointer (some ⟨a, 0, none⟩), .pointer (some ⟨e, 0, none⟩), .iface 62 (.agg #[.int .i64 at_, .int .i64 err]), undef, .iface 62 (.agg #[.int .i64 at_, .int .i64 err]), .iface 62 (.agg #[.int .i64 at_, .int .i64 err]), .bool true, undef, undef, undef, undef, undef, undef], defers := [] } _
  go_wp2_with fail
  have b0 : (w.alloc (.cells #[.int .i64 at_, .int .i64 err] 62)).cell? ⟨w.heap.size, 0, none⟩ = some (.int .i64 at_) := rdr_cell (heap_alloc_new w _)
  have b1 : (w.alloc (.cells #[.int .i64 at_, .int .i64 err] 62)).cell? ⟨w.heap.size, 1, none⟩ = some (.int .i64 err) := rdr_cell (heap_alloc_new w _)
  have hal : a < w.heap.size := by
    rcases Nat.lt_or_ge a w.heap.size with h | h
    · exact h
    · simp [Array.getElem?_eq_none h] at ha
  have hel : e < w.heap.size := by
    rcases Nat.lt_or_ge e w.heap.size with h | h
    · exact h
    · simp [Array.getElem?_eq_none h] at he
  obtain ⟨w1, hw1⟩ : ∃ w1, w1 = w.alloc (.cells #[.int .i64 at_, .int .i64 err] 62) := ⟨_, rfl⟩
  have ha1 : w1.heap[a]? = some (.cells #[.int .i64 0] 3 (0, 0)) := by rw [hw1]; exact (Below.heap_alloc w _ a hal).trans ha
  have he1 : w1.heap[e]? = some (.cells #[.int .i64 0] 36 (0, 0)) := by rw [hw1]; exact (Below.heap_alloc w _ e hel).trans he
  rw [← hw1] at b0 b1 ⊢
  have HW1 := Lib.hid hw1
  clear hw1
  have ca : w1.cell? ⟨a, 0, none⟩ = some (.int .i64 0) := rdr_cell ha1
  have ce : w1.cell? ⟨e, 0, none⟩ = some (.int .i64 0) := rdr_cell he1
  have fa : w1.frozen? ⟨a, 0, none⟩ = false := by simp [World.frozen?, ha1]
  have fe : w1.frozen? ⟨e, 0, none⟩ = false := by simp [World.frozen?, he1]
  have hx : ∀ (q : Addr) (u : Value), q.block ≠ w.heap.size → ((w1.setCell q u).cell? ⟨w.heap.size, 0, none⟩ = some (.int .i64 at_) ∧ (w1.setCell q u).cell? ⟨w.heap.size, 1, none⟩ = some (.int .i64 err)) := fun q u hq =>
    ⟨(World.cell?_of_block (a := ⟨w.heap.size, 0, none⟩) (Below.heap_setCell _ _ _ _ (Ne.symm hq))).trans b0, (World.cell?_of_block (a := ⟨w.heap.size, 1, none⟩) (Below.heap_setCell _ _ _ _ (Ne.symm hq))).trans b1⟩
  have fw : ∀ (q : Addr) (u : Value), (w1.setCell q u).frozen? ⟨e, 0, none⟩ = w1.frozen? ⟨e, 0, none⟩ := fun q u => by simp
  have cw : (w1.setCell ⟨a, 0, none⟩ (.int .i64 at_)).cell? ⟨e, 0, none⟩ = some (.int .i64 0) := (World.cell?_of_block (a := ⟨e, 0, none⟩) (Below.heap_setCell _ _ _ _ (Ne.symm hne))).trans ce
  have HX1 := Lib.hid (hx ⟨a, 0, none⟩ (.int .i64 at_) (by show a ≠ _; omega))
  have HX2 := Lib.hid (hx ⟨e, 0, none⟩ (.int .i64 err) (by show e ≠ _; omega))
  have HX3 : Hid ((((w1.setCell ⟨a, 0, none⟩ (.int .i64 at_)).setCell ⟨e, 0, none⟩ (.int .i64 err)).cell? ⟨w.heap.size, 0, none⟩ = some (.int .i64 at_) ∧ ((w1.setCell ⟨a, 0, none⟩ (.int .i64 at_)).setCell ⟨e, 0, none⟩ (.int .i64 err)).cell? ⟨w.heap.size, 1, none⟩ = some (.int .i64 err))) := Lib.hid (by
    have h1 := hx ⟨a, 0, none⟩ (.int .i64 at_) (by show a ≠ _; omega)
    have hn : w.heap.size ≠ e := by omega
    exact ⟨(World.cell?_of_block (a := ⟨w.heap.size, 0, none⟩) (Below.heap_setCell _ _ _ _ hn)).trans h1.1, (World.cell?_of_block (a := ⟨w.heap.size, 1, none⟩) (Below.heap_setCell _ _ _ _ hn)).trans h1.2⟩)
  clear hx
  go_region_held3 (fun w' => w'.cell? ⟨w.heap.size, 0, none⟩ = some (.int .i64 at_) ∧ w'.cell? ⟨w.heap.size, 1, none⟩ = some (.int .i64 err))
    (first | exact ⟨b0, b1⟩ | exact HX1.out | exact HX2.out | exact HX3.out) (fail)
  have hw1 := HW1.out
  clear HW1 HX1 HX2 HX3
  subst hw1
  clear b0 b1 ca ce fa fe fw cw ha1 he1
  exact ⟨rfl, _, rfl, .tuple #[], by simp [results, Tryd.results26], rfl, rfl, rfl⟩
end Go.Proofs.YtmnaaohhageihaaDoor
