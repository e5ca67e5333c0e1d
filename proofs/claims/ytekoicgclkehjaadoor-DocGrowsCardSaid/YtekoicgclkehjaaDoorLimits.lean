/-
  The walk of DocLimits.
-/
import Derived.Test.YtekoicgclkehjaaDoorNest
import Derived.Test.YtekoicgclkehjaaDoorSmall
namespace Go.Proofs.YtekoicgclkehjaaDoor
open Go.RowKit
/-- The state of the loop: the box, and the document in it, of blocks behind the box. -/
structure LimSt (w wr : World) (b : Nat) (d : D) (v0 v1 v2 v3 v4 : Value) (F : List Nat) : Prop where
  box : Box5 wr b v0 v1 v2 v3 v4
  own : OwnIn wr (b + 1) d v0 v1 v2 v3 v4 F
  below : Below w.heap.size w wr
  old : w.heap.size ≤ b
theorem LimSt.lt {w wr : World} {b : Nat} {d : D} {v0 v1 v2 v3 v4 : Value} {F : List Nat} (h : LimSt w wr b d v0 v1 v2 v3 v4 F) : b < wr.heap.size := h.box.lt
theorem LimSt.next {w wr w' : World} {b c : Nat} {d d' : D} {v0 v1 v2 v3 v4 u0 u1 u2 u3 u4 : Value} {F G : List Nat} (h : LimSt w wr b d v0 v1 v2 v3 v4 F) (hc : b < c) (ho : OwnIn w' c d' u0 u1 u2 u3 u4 G) (hb : Below wr.heap.size wr w') :
    LimSt w (((((w'.setCell ⟨b, 0, none⟩ u0).setCell ⟨b, 1, none⟩ u1).setCell ⟨b, 2, none⟩ u2).setCell ⟨b, 3, none⟩ u3).setCell ⟨b, 4, none⟩ u4) b d' u0 u1 u2 u3 u4 G := by
  have hbx : Box5 w' b v0 v1 v2 v3 v4 := h.box.same (hb.block _ h.lt)
  have ho' := h.old
  refine ⟨((((hbx.set0 u0).set1 u1).set2 u2).set3 u3).set4 u4, ho.same (by omega) fun k hk => ?_, ?_, h.old⟩
  · have hne : k ≠ b := by have := (ho.lt k hk).1; omega
    rw [Below.heap_setCell _ _ _ k hne, Below.heap_setCell _ _ _ k hne, Below.heap_setCell _ _ _ k hne, Below.heap_setCell _ _ _ k hne, Below.heap_setCell _ _ _ k hne]
  · exact (((((h.below.trans (hb.mono h.below.size)).setCell (by exact ho') _).setCell (by exact ho') _).setCell (by exact ho') _).setCell (by exact ho') _).setCell (by exact ho') _
theorem LimSt.v {w wr : World} {b : Nat} {d : D} {v0 v1 v2 v3 v4 : Value} {F : List Nat} (h : LimSt w wr b d v0 v1 v2 v3 v4 F) : DocV wr wr.heap.size d (.agg #[v0, v1, v2, v3, v4]) := ⟨_, _, _, _, _, rfl, h.own.doc⟩
theorem kids_one {w : World} {b B : Nat} {d : D} {u0 u1 u2 u3 u4 : Value} {t : TypeId} (hb : b < B) (h : w.heap[b]? = some (.cells #[u0, u1, u2, u3, u4] t (0, 0))) (hd : DocIn w B d u0 u1 u2 u3 u4) :
    KidsV w B [d] (.slice (some ⟨b, 0, none⟩) 1 1) := by
  refine ⟨some ⟨b, 0, none⟩, 1, rfl, by simp, fun _ => ⟨b, 0, rfl, hb, ?_⟩⟩
  simp only [KidsIn]
  exact ⟨⟨u0, u1, u2, u3, u4, cell_of_row _ _ 0 _ _ _ h, cell_of_row _ _ 1 _ _ _ h, cell_of_row _ _ 2 _ _ _ h, cell_of_row _ _ 3 _ _ _ h, cell_of_row _ _ 4 _ _ _ h, hd⟩, trivial⟩
theorem nest_list {W : World} {x : Int} {k : Nat} {u0 u1 u2 u3 u4 : Value} (hd : DocIn W W.heap.size (nest x k) u0 u1 u2 u3 u4) :
    Calls Tryd.prog 20 #[.slice (some ⟨W.heap.size, 0, none⟩) 1 1] (W.alloc (.cells #[u0, u1, u2, u3, u4] 25)) fun e w' =>
      ∃ v0 v1 v2 v3 v4 G, e = .returned (.agg #[v0, v1, v2, v3, v4]) ∧ OwnIn w' (W.heap.size + 1) (nest x (k + 1)) v0 v1 v2 v3 v4 G ∧ Below W.heap.size W w' := by
  have h := list_v [nest x k] _ (W.alloc (.cells #[u0, u1, u2, u3, u4] 25)) (W.heap.size + 1) (by simp) (by simp [D.Fits, nest_fit]) (by simp) (kids_one (by omega) (heap_alloc_new W _) (hd.keep (by omega) fun _ hp => World.cell?_alloc_lt W _ _ hp))
  refine h.mono fun e w' h' => ?_
  obtain ⟨v0, v1, v2, v3, v4, G, rfl, ho, _, hb⟩ := h'
  refine ⟨v0, v1, v2, v3, v4, G, rfl, by simpa [nest] using ho, below_al hb⟩
set_option maxHeartbeats 2000000 in
set_option maxRecDepth 100000 in
theorem limits_out (n x : Int) (w : World) (hg : Glob w) (hn : n < 0 ∨ 30 < n) : Calls Tryd.prog 6 #[.int .i64 n, .int .i64 x] w fun e w' => e = .returned (.bool true) ∧ Below w.heap.size w w' := by
  have HG := Lib.hid hg; clear hg
  rcases hn with h | h
  · go_enter Tryd.func6, Tryd.ntmps6
    go_wp2_with fail
    refine (small_v _ HG.out).mono ?_
    rintro e w1 ⟨rfl, hb1⟩
    go_wp2_with fail
    go_ret
    exact ⟨rfl, hb1⟩
  · have h0 : ¬ n < 0 := by omega
    go_enter Tryd.func6, Tryd.ntmps6
    go_wp2_with fail
    refine (small_v _ HG.out).mono ?_
    rintro e w1 ⟨rfl, hb1⟩
    go_wp2_with fail
    go_ret
    exact ⟨rfl, hb1⟩
set_option maxHeartbeats 4000000 in
set_option maxRecDepth 100000 in
theorem limits_in (m : Nat) (x : Int) (w : World) (hg : Glob w) (hm : m ≤ 30) : Calls Tryd.prog 6 #[.int .i64 (m : Int), .int .i64 x] w fun e w' => e = .returned (.bool true) ∧ Below w.heap.size w w' := by
  have HG := Lib.hid hg; clear hg
  have h0 : ¬ (m : Int) < 0 := by omega
  have h1 : ¬ (30 : Int) < (m : Int) := by omega
  go_enter Tryd.func6, Tryd.ntmps6
  go_wp2_with fail
  refine (small_v _ HG.out).mono ?_
  rintro e w1 ⟨rfl, hb1⟩
  have HB1 := Lib.hid hb1; clear hb1
  go_wp2_with fail
  refine (int_x _ _).mono ?_
  rintro e w2 ⟨rfl, hb2⟩
  have HB2 := Lib.hid (HB1.out.trans (hb2.mono HB1.out.size)); clear hb2
  go_wp2_with fail
  go_loopw [7] (fun i wr => ∃ (k : Nat) (v0 v1 v2 v3 v4 : Value) (F : List Nat), k ≤ m ∧ i = .int .i64 k ∧ LimSt w wr w2.heap.size (nest x k) v0 v1 v2 v3 v4 F) (fun i _ => m - (intOf i).toNat)
  case atStart => exact ⟨0, _, _, _, _, _, [], Nat.zero_le _, rfl, Box5.new w2 _ _ _ _ _, by simpa [nest] using own_nokids 4 x ⟨#[]⟩, HB2.out.alloc HB2.out.size _, HB2.out.size⟩
  case round =>
    obtain ⟨k, v0, v1, v2, v3, v4, F, hk, rfl, hst⟩ := hrel
    obtain ⟨A3, c3, A4, c4, rfl, rfl, rfl, rfl, rfl⟩ := hst.own.doc.forms
    have HST := Lib.hid hst
    have hlb := hst.lt
    obtain ⟨q0, q1, q2, q3, q4⟩ := hst.box.cells
    clear hst
    by_cases hlt : k < m
    · go_wp2_with fail
      refine (nest_list HST.out.own.doc).mono ?_
      rintro e w3 ⟨u0, u1, u2, u3, u4, G, rfl, ho, hb⟩
      obtain ⟨A5, c5, A6, c6, rfl, rfl, rfl, rfl, rfl⟩ := ho.doc.forms
      have hst' := HST.out.next (by omega) ho hb
      have HST' := Lib.hid hst'
      have hbx : Box5 w3 w2.heap.size _ _ _ _ _ := HST.out.box.same (hb.block _ HST.out.lt)
      obtain ⟨r0, r1, r2, r3, r4⟩ := hbx.cells
      have r5 := hbx.frozen
      clear hst' ho hb hbx
      go_wp2_with fail
      go_roundw
      case rel => exact ⟨k + 1, _, _, _, _, _, G, by omega, by go_num, HST'.out⟩
      case measure => simp [intOf]; omega
    · obtain rfl : k = m := by omega
      have ER := Lib.hid (nest_right x k hm)
      have HH : Held wr w2.heap.size (nest x k) _ _ _ _ _ := ⟨HST.out.box, HST.out.own.doc⟩
      have HBW := Lib.hid HST.out.below
      have HH' := Lib.hid HH; clear HH HST
      go_wp2_with fail
      refine (depth_v (by rw [nest_depth]; omega) (nest_fit x k) (Nat.le_refl _) HH'.out.v).mono ?_
      rintro e w3 ⟨rfl, hb3⟩
      rw [nest_depth, show ((k + 1 : Nat) : Int) = (k : Int) + 1 from by omega]
      have H3 := Lib.hid (HH'.out.next hb3)
      have HB3 := Lib.hid (HBW.out.trans (hb3.mono HBW.out.size))
      clear q0 q1 q2 q3 q4 hb3 HH' HBW
      obtain ⟨q0, q1, q2, q3, q4⟩ := H3.out.box.cells
      go_wp2_with fail
      refine (size_any (nest x k).depth (nest x k) _ _ _ _ _ w3 w3.heap.size (Nat.le_refl _) (by rw [nest_size]; omega) (Nat.le_refl _) H3.out.doc).mono ?_
      rintro e w4 ⟨rfl, hb4⟩
      rw [nest_size, show ((k + 1 : Nat) : Int) = (k : Int) + 1 from by omega]
      have H4 := Lib.hid (H3.out.next hb4)
      have HB4 := Lib.hid (HB3.out.trans (hb4.mono HB3.out.size))
      clear q0 q1 q2 q3 q4 hb4 H3 HB3
      obtain ⟨q0, q1, q2, q3, q4⟩ := H4.out.box.cells
      go_wp2_with fail
      refine (right_v (nest_fit x k) (Nat.le_refl _) H4.out.v).mono ?_
      rintro e w5 ⟨rfl, hb5⟩
      rw [ER.out]
      have HB5 := Lib.hid (HB4.out.trans (hb5.mono HB4.out.size))
      clear q0 q1 q2 q3 q4 hb5 H4 HB4 ER
      go_wp2_with fail
      go_ret
      exact ⟨rfl, HB5.out⟩
end Go.Proofs.YtekoicgclkehjaaDoor
