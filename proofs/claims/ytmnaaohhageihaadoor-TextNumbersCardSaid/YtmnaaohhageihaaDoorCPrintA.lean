/-
  text.Print.
-/
import Derived.Test.YtmnaaohhageihaaDoorCPrint
namespace Go.Proofs.YtmnaaohhageihaaDoor
open Go.RowKit

theorem writes_any {B b BB : Nat} (hBB : BB ≤ B) (hg : 3 < B) : ∀ m, DWrites B b BB m
  | 0 => fun d _ _ _ _ _ _ _ hdp => by have := D.depth_eq d; omega
  | m + 1 => write_succ hBB hg (writes_any hBB hg m)
set_option maxHeartbeats 4000000 in
set_option maxRecDepth 100000 in
theorem Print_any {d : D} {v0 v1 v2 v3 v4 : Value} {BB : Nat} {w : World} (hf : d.Fit) (hn : d.Nums) (hd : DocIn w BB d v0 v1 v2 v3 v4) (hBB : BB ≤ w.heap.size) (hg : TG w) (hlen : (printD d).length ≤ 900000) :
    Calls Tryd.prog 8 #[.agg #[v0, v1, v2, v3, v4]] w fun e w' => e = .returned (.string ⟨(printD d).toArray⟩) ∧ Below w.heap.size w w' := by
  obtain ⟨A3, c3, A4, c4, rfl, rfl, rfl, rfl, rfl⟩ := hd.forms
  have HG := Lib.hid hg; have HD := Lib.hid hd; have HF := Lib.hid hf; have HN := Lib.hid hn
  clear hd hg hf hn
  go_enter Tryd.func8, Tryd.ntmps8
  go_wp2_with fail
  obtain ⟨w1, hw1⟩ : ∃ w1, w1 = w.alloc (.cells #[.int .i64 d.kind, .int .i64 d.num, .string d.str, .slice A3 d.keys.length c3, .slice A4 d.kids.length c4] 31) := ⟨_, rfl⟩
  have hb1 : Below w.heap.size w w1 := by rw [hw1]; exact (Below.refl _ _).alloc (Nat.le_refl _) _
  have hz1 : w1.heap.size = w.heap.size + 1 := by rw [hw1]; simp
  have hbn := Bld.new w1
  have hb2 : Below w1.heap.size w1 (w1.alloc (.cells #[.pointer none, .slice none 0 0] 42)) := (Below.refl _ _).alloc (Nat.le_refl _) _
  have hg1 := HG.out.next hb1
  have hg2 := hg1.next hb2
  have hcall := writes_any (B := w1.heap.size) (b := w1.heap.size) (BB := BB) (by omega) hg1.tl d.depth d _ _ _ _ _ [] _ (Nat.le_refl _) HF.out HN.out (HD.out.keep (Nat.le_refl _) fun p hp => (hb2.cell (by omega)).trans (hb1.cell (by omega))) hbn hb2.size hg2.tab (by simpa using hlen)
  have HC := Lib.hid hcall; have HB1 := Lib.hid hb1; have HB2 := Lib.hid hb2
  rw [← hw1]
  have hz1' : w.heap.size + 1 = w1.heap.size := hz1.symm
  rw [hz1']
  clear hcall hb1 hb2 hg1 hg2 hbn hw1 hz1 hz1'
  refine HC.out.mono ?_
  rintro e w3 ⟨rfl, h3⟩
  rw [List.nil_append] at h3
  have HS := Lib.hid (Tryd.Builder_String_any_f w1.heap.size w1.heap.size (printD d) w3 h3.bld (Nat.le_trans HB2.out.size h3.2.1.size))
  have HB3 := Lib.hid (HB2.out.trans h3.2.1)
  clear h3 HC
  go_wp2_with fail
  refine HS.out.mono ?_
  rintro e w4 ⟨rfl, -, hb4⟩
  have HB4 := Lib.hid (HB1.out.trans ((HB3.out.trans hb4).mono HB1.out.size))
  clear hb4 HS
  go_wp2_with fail
  go_ret
  exact ⟨rfl, HB4.out⟩
end Go.Proofs.YtmnaaohhageihaaDoor
