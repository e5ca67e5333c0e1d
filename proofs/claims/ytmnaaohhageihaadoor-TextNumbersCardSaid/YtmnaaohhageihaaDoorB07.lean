/-
  What doc.Int, Bool and Bytes make.
-/
import Derived.Test.YtmnaaohhageihaaDoorB03
namespace Go.Proofs.YtmnaaohhageihaaDoor
open Go.RowKit

theorem own_nokids {w : World} {W0 : Nat} (kind num : Int) (str : ByteArray) : OwnIn w W0 (.mk kind num str [] []) (.int .i64 kind) (.int .i64 num) (.string str) (.slice none 0 0) (.slice none 0 0) [] := by
  simp only [OwnIn]
  exact ⟨trivial, trivial, trivial, World.ownsRow_nil _ _ _ _, [], [], World.ownsRow_nil _ _ _ _, by simp [OwnKids], by simp [blk, Value.ownBlock]⟩
theorem made_nokids {W0 : Nat} {w w' : World} (kind num : Int) (str : ByteArray) (hb : Below W0 w w') : MadeDoc W0 w (.mk kind num str [] []) (.returned (.agg #[.int .i64 kind, .int .i64 num, .string str, .slice none 0 0, .slice none 0 0])) w' :=
  ⟨_, _, _, _, _, [], rfl, own_nokids kind num str, by simp, hb⟩

set_option maxRecDepth 100000 in
theorem int_v (n : Int) (w : World) : Calls Tryd.prog 9 #[.int .i64 n] w (MadeDoc w.heap.size w (.mk 4 n ⟨#[]⟩ [] [])) := by
  go_enter Tryd.func9, Tryd.ntmps9
  go_wp2_with fail
  exact ret_cell5 rfl rfl (Box5.new w _ _ _ _ _).load rfl (made_nokids _ _ _ ((Below.refl _ _).alloc (Nat.le_refl _) _))
set_option maxRecDepth 100000 in
theorem bytes_v (s : ByteArray) (w : World) : Calls Tryd.prog 47 #[.string s] w (MadeDoc w.heap.size w (.mk 6 0 s [] [])) := by
  go_enter Tryd.func47, Tryd.ntmps47
  go_wp2_with fail
  exact ret_cell5 rfl rfl (Box5.new w _ _ _ _ _).load rfl (made_nokids _ _ _ ((Below.refl _ _).alloc (Nat.le_refl _) _))
set_option maxRecDepth 100000 in
theorem bool_v (b : Bool) (w : World) : Calls Tryd.prog 46 #[.bool b] w (MadeDoc w.heap.size w (.mk 5 (if b then 1 else 0) ⟨#[]⟩ [] [])) := by
  cases b
  · go_enter Tryd.func46, Tryd.ntmps46
    go_wp2_with fail
    exact ret_cell5 rfl rfl ((Box5.new w _ _ _ _ _).alloc _).load rfl (made_nokids _ _ _ (((Below.refl _ _).alloc (Nat.le_refl _) _).alloc (by simp) _))
  · go_enter Tryd.func46, Tryd.ntmps46
    go_wp2_with fail
    exact ret_cell5 rfl rfl ((Box5.new w _ _ _ _ _).alloc _).load rfl (made_nokids _ _ _ (((Below.refl _ _).alloc (Nat.le_refl _) _).alloc (by simp) _))
end Go.Proofs.YtmnaaohhageihaaDoor
