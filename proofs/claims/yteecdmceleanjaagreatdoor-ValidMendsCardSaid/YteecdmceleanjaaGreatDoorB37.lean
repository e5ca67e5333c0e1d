/-
  What doc.Int, Bool, Bytes and List make.
  The document's own Right of types: as the program's.
-/
import Derived.Test.YteecdmceleanjaaGreatDoorB31
import Derived.Test.YteecdmceleanjaaGreatDoorB33
import Derived.Test.YteecdmceleanjaaGreatDoorB32
import Derived.Test.YteecdmceleanjaaGreatDoorB34
import Derived.Test.YteecdmceleanjaaGreatDoorB35
import Derived.Test.YteecdmceleanjaaGreatDoorB36
namespace Go.Proofs.YteecdmceleanjaaGreatDoor
open Go.RowKit

end Go.Proofs.YteecdmceleanjaaGreatDoor
namespace Go.Proofs.YteecdmceleanjaaGreatDoor
open Go.RowKit

theorem rpart_any (m : Nat) : ∀ (t : T) (v : Value) (w : World) (B : Nat), t.depth ≤ m → t.Fit → B ≤ w.heap.size → TypeV w B t v →
    Calls Tryz.prog 109 #[v] w fun e w' => e = .returned (.bool (allT t)) ∧ Below w.heap.size w w' := by
  induction m with
  | zero => intro t; intro _ _ _ h; have := t.depth_pos; omega
  | succ m ih =>
    intro t v w B hm hf hB ht
    obtain ⟨v0, v1, v2, v3, v4, v5, rfl, hin⟩ := ht
    obtain ⟨A3, d3, A4, d4, A5, d5, rfl, rfl, rfl, rfl, rfl, rfl⟩ := hin.forms
    by_cases hn : NoShape t
    · have hp := hf.parts
      refine (rpart_no hp.1 hp.2.1 hp.2.2.1 hn).mono ?_
      rintro e w' ⟨rfl, hb⟩
      exact ⟨by rw [allT_shape hn], hb⟩
    have hk : t.kind = 1 ∨ (t.kind = 2 ∨ t.kind = 3) ∨ (t.kind = 4 ∨ t.kind = 5 ∨ t.kind = 6) ∨ t.kind = 7 := by unfold NoShape at hn; omega
    rcases hk with hk | hk | hk | hk
    · exact rpart_rec m (Lib.hid ih) hm hn hk hB hf hin.fields_
    · exact rpart_many m (Lib.hid ih) hm hn hk hB hf hin.of_
    · exact rpart_flat hn hk
    · exact rpart_enum hn hk hB hf hin.names_
set_option maxHeartbeats 4000000 in
set_option maxRecDepth 100000 in
theorem rtright_any {t : T} {v : Value} {w : World} {B : Nat} (hs : t.size ≤ 10000) (hd : t.depth ≤ 900) (hf : t.Fit) (hB : B ≤ w.heap.size) (ht : TypeV w B t v) :
    Calls Tryz.prog 69 #[v] w fun e w' => e = .returned (.bool (rightT t)) ∧ Below w.heap.size w w' := by
  obtain ⟨v0, v1, v2, v3, v4, v5, rfl, hin⟩ := ht
  have HIN := Lib.hid hin; have HF := Lib.hid hf
  obtain ⟨A3, d3, A4, d4, A5, d5, rfl, rfl, rfl, rfl, rfl, rfl⟩ := hin.forms
  clear hin hf
  go_enter Tryz.func69, Tryz.ntmps69
  go_wp2_with fail
  obtain ⟨W2, hW2⟩ : ∃ W2, W2 = w.alloc (.cells #[.int .i64 t.kind, .int .i64 t.lo, .int .i64 t.hi, .slice A3 t.names.length d3, .slice A4 t.fields.length d4, .slice A5 t.of.length d5] 26) := ⟨_, rfl⟩
  have HBX : Hid (Box6 W2 w.heap.size (.int .i64 t.kind) (.int .i64 t.lo) (.int .i64 t.hi) (.slice A3 t.names.length d3) (.slice A4 t.fields.length d4) (.slice A5 t.of.length d5)) := by rw [hW2]; exact Box6.new w _ _ _ _ _ _
  have HBL : Hid (Below w.heap.size w W2) := by rw [hW2]; exact (Below.refl _ _).alloc (Nat.le_refl _) _
  have hz2 := HBL.out.size
  rw [← hW2]
  clear hW2
  have tv : ∀ W, Below w.heap.size w W → TypeV W B t (.agg #[.int .i64 t.kind, .int .i64 t.lo, .int .i64 t.hi, .slice A3 t.names.length d3, .slice A4 t.fields.length d4, .slice A5 t.of.length d5]) := fun W h => ⟨_, _, _, _, _, _, rfl, HIN.out.keep (Nat.le_refl _) fun p hp => h.cell (by omega)⟩
  have TV := Lib.hid tv
  clear tv
  refine (rtsize_any t.depth t _ _ B (Nat.le_refl _) hs (by omega) (TV.out _ HBL.out)).mono ?_
  rintro e w3 ⟨rfl, hb3⟩
  have HB3 := Lib.hid (HBL.out.trans (hb3.mono hz2))
  have HX3 := Lib.hid (HBX.out.same (hb3.block _ HBX.out.lt))
  have hz3 := HB3.out.size
  clear hb3
  by_cases h1 : t.size ≤ 128
  rotate_left
  · have E : Hid (rightT t = false) := by show rightT t = false; unfold rightT; rw [decide_eq_false h1]; rfl
    have g1 : (128 : Int) < (t.size : Int) := by omega
    clear h1
    go_wp2_with fail
    go_ret
    exact ⟨ret_bool E.out.symm, HB3.out⟩
  have g1 : (t.size : Int) ≤ 128 := by omega
  obtain ⟨x0, x1, x2, x3, x4, x5⟩ := HX3.out.cells
  have hxl := HX3.out.lt
  go_wp2_with fail
  refine (rtdepth_any t.depth t _ _ B (Nat.le_refl _) (by omega) HF.out (by omega) (TV.out _ HB3.out)).mono ?_
  rintro e w4 ⟨rfl, hb4⟩
  have HB4 := Lib.hid (HB3.out.trans (hb4.mono hz3))
  have HX4 := Lib.hid (HX3.out.same (hb4.block _ HX3.out.lt))
  have hz4 := HB4.out.size
  clear hb4 x0 x1 x2 x3 x4 x5 hxl
  by_cases h2 : t.depth ≤ 12
  rotate_left
  · have E : Hid (rightT t = false) := by show rightT t = false; unfold rightT; rw [decide_eq_false h2, Bool.false_and, Bool.and_false]
    have g2 : (12 : Int) < (t.depth : Int) := by omega
    clear h2
    go_wp2_with fail
    go_ret
    exact ⟨ret_bool E.out.symm, HB4.out⟩
  have g2 : (t.depth : Int) ≤ 12 := by omega
  have E : Hid (rightT t = allT t) := by show rightT t = _; unfold rightT; rw [decide_eq_true h1, decide_eq_true h2]; rfl
  obtain ⟨x0, x1, x2, x3, x4, x5⟩ := HX4.out.cells
  have hxl := HX4.out.lt
  go_wp2_with fail
  refine (rpart_any t.depth t _ _ B (Nat.le_refl _) HF.out (by omega) (TV.out _ HB4.out)).mono ?_
  rintro e w5 ⟨rfl, hb5⟩
  have HB5 := Lib.hid (HB4.out.trans (hb5.mono hz4))
  clear hb5 x0 x1 x2 x3 x4 x5 hxl
  go_wp2_with fail
  go_ret
  exact ⟨ret_bool E.out.symm, HB5.out⟩
end Go.Proofs.YteecdmceleanjaaGreatDoor
