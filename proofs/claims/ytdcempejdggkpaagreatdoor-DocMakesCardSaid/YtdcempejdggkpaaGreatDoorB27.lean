/-
  What doc.Int, Bool, Bytes and List make.
-/
import Derived.Test.YtdcempejdggkpaaGreatDoorB26
namespace Go.Proofs.YtdcempejdggkpaaGreatDoor
open Go.RowKit

theorem own_nokids {w : World} {W0 : Nat} (kind num : Int) (str : ByteArray) : OwnIn w W0 (.mk kind num str [] []) (.int .i64 kind) (.int .i64 num) (.string str) (.slice none 0 0) (.slice none 0 0) [] := by
  simp only [OwnIn]
  exact ⟨trivial, trivial, trivial, World.ownsRow_nil _ _ _ _, [], [], World.ownsRow_nil _ _ _ _, by simp [OwnKids], by simp [blk, Value.ownBlock]⟩
theorem made_nokids {W0 : Nat} {w w' : World} (kind num : Int) (str : ByteArray) (hb : Below W0 w w') : MadeDoc W0 w (.mk kind num str [] []) (.returned (.agg #[.int .i64 kind, .int .i64 num, .string str, .slice none 0 0, .slice none 0 0])) w' :=
  ⟨_, _, _, _, _, [], rfl, own_nokids kind num str, by simp, hb⟩

set_option maxRecDepth 100000 in
theorem int_v (n : Int) (w : World) : Calls Tryz.prog 10 #[.int .i64 n] w (MadeDoc w.heap.size w (.mk 4 n ⟨#[]⟩ [] [])) := by
  go_enter Tryz.func10, Tryz.ntmps10
  go_wp2_with fail
  exact ret_cell5 rfl rfl (Box5.new w _ _ _ _ _).load rfl (made_nokids _ _ _ ((Below.refl _ _).alloc (Nat.le_refl _) _))
set_option maxRecDepth 100000 in
theorem bytes_v (s : ByteArray) (w : World) : Calls Tryz.prog 11 #[.string s] w (MadeDoc w.heap.size w (.mk 6 0 s [] [])) := by
  go_enter Tryz.func11, Tryz.ntmps11
  go_wp2_with fail
  exact ret_cell5 rfl rfl (Box5.new w _ _ _ _ _).load rfl (made_nokids _ _ _ ((Below.refl _ _).alloc (Nat.le_refl _) _))
set_option maxRecDepth 100000 in
theorem bool_v (b : Bool) (w : World) : Calls Tryz.prog 12 #[.bool b] w (MadeDoc w.heap.size w (.mk 5 (if b then 1 else 0) ⟨#[]⟩ [] [])) := by
  cases b
  · go_enter Tryz.func12, Tryz.ntmps12
    go_wp2_with fail
    exact ret_cell5 rfl rfl ((Box5.new w _ _ _ _ _).alloc _).load rfl (made_nokids _ _ _ (((Below.refl _ _).alloc (Nat.le_refl _) _).alloc (by simp) _))
  · go_enter Tryz.func12, Tryz.ntmps12
    go_wp2_with fail
    exact ret_cell5 rfl rfl ((Box5.new w _ _ _ _ _).alloc _).load rfl (made_nokids _ _ _ (((Below.refl _ _).alloc (Nat.le_refl _) _).alloc (by simp) _))
set_option maxHeartbeats 1000000 in
set_option maxRecDepth 100000 in
theorem list_v (l : List D) (v : Value) (w : World) (B : Nat) (hlen : l.length ≤ 10000) (hf : D.Fits l) (hB : B ≤ w.heap.size) (hv : KidsV w B l v) : Calls Tryz.prog 6 #[v] w (MadeDoc w.heap.size w (.mk 3 0 ⟨#[]⟩ [] l)) := by
  have hs : ∃ A n c, v = .slice A n c := by obtain ⟨A, c, e, _⟩ := hv; exact ⟨A, _, c, e⟩
  have HV := Lib.hid hv; clear hv
  obtain ⟨A, n, c, rfl⟩ := hs
  have HF := Lib.hid hf; clear hf
  go_enter Tryz.func6, Tryz.ntmps6
  go_wp2_with fail
  refine (copies_v hlen HF.out (by simp; omega) (HV.out.keep (Nat.le_refl _) fun p hp => World.cell?_alloc_lt w _ p (by omega))).mono ?_
  rintro e w2 ⟨v4', cs, F, rfl, hown2, hkids2, hnd2, hb2⟩
  simp only [World.size_alloc] at hown2 hkids2 hb2
  obtain ⟨A'', c'', rfl⟩ := ownsRow_slice hown2
  have hz2 := hb2.size
  simp only [World.size_alloc] at hz2
  have hx2 : Box5 w2 w.heap.size (.int .i64 0) (.int .i64 0) (.string ⟨#[]⟩) (.slice none 0 0) (.slice none 0 0) := (Box5.new w _ _ _ _ _).same (hb2.block _ (by omega))
  have HO2 := Lib.hid hown2; have HK2 := Lib.hid hkids2; have HN2 := Lib.hid hnd2; have HB2 := Lib.hid hb2
  have HX2 := Lib.hid hx2
  obtain ⟨s0, s1, s2, s3, s4⟩ := hx2.cells
  have s5 := hx2.frozen
  clear hown2 hkids2 hnd2 hb2 hx2
  go_wp2_with fail
  have hfin := ((((HX2.out.set0 (.int .i64 3)).set1 (.int .i64 0)).set2 (.string ⟨#[]⟩)).set3 (.slice none 0 0)).set4 (.slice A'' l.length c'')
  clear s0 s1 s2 s3 s4 s5
  refine ret_cell5 rfl rfl hfin.load rfl ?_
  have hsame : ∀ k, w.heap.size + 1 ≤ k → (((((w2.setCell ⟨w.heap.size, 0, none⟩ (.int .i64 3)).setCell ⟨w.heap.size, 1, none⟩ (.int .i64 0)).setCell ⟨w.heap.size, 2, none⟩ (.string ⟨#[]⟩)).setCell ⟨w.heap.size, 3, none⟩ (.slice none 0 0)).setCell
      ⟨w.heap.size, 4, none⟩ (.slice A'' l.length c'')).heap[k]? = w2.heap[k]? := fun k hk => by
    rw [Below.heap_setCell _ _ _ k (by show k ≠ w.heap.size; omega), Below.heap_setCell _ _ _ k (by show k ≠ w.heap.size; omega), Below.heap_setCell _ _ _ k (by show k ≠ w.heap.size; omega), Below.heap_setCell _ _ _ k (by show k ≠ w.heap.size; omega), Below.heap_setCell _ _ _ k (by show k ≠ w.heap.size; omega)]
  have l2 := HO2.out.lt
  have l3 := HK2.out.lt
  have le0 : w.heap.size ≤ w.heap.size := Nat.le_refl _
  refine ⟨_, _, _, _, _, _, rfl, OwnIn.make (d := .mk 3 0 ⟨#[]⟩ [] l) (World.ownsRow_nil _ _ _ _)
    (ownsRow_base (ownsRow_same HO2.out fun k hk => hsame k (by have := l2 k (blk_mem.1 hk); omega)) (by omega)) (HK2.out.same (by omega) fun k hk => hsame k (by have := l3 k hk; omega)), ?_, ?_⟩
  · simpa [blk, Value.ownBlock] using HN2.out
  · exact (((((((Below.refl w.heap.size w).alloc le0 _).trans (HB2.out.mono (by omega))).setCell (by exact le0) _).setCell (by exact le0) _).setCell (by exact le0) _).setCell (by exact le0) _).setCell (by exact le0) _
end Go.Proofs.YtdcempejdggkpaaGreatDoor
