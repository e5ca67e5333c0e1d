/-
  What the law's own case asks, reckoned.
  The law's own case comes out right.
-/
import Derived.Test.YtdcempejdggkpaaGreatDoorB37
import Derived.Test.YtdcempejdggkpaaGreatDoorB11
import Derived.Test.YtdcempejdggkpaaGreatDoorB38
import Derived.Deep.RegionHeld3
import Derived.Deep.DeepCutAuto
import Derived.Lib.Hide
namespace Go.Proofs.YtdcempejdggkpaaGreatDoor
open Go.RowKit
def dNine : D := .mk 4 9 ⟨#[]⟩ [] []
def dListPut : D := .mk 3 0 ⟨#[]⟩ [] [.mk 4 5 ⟨#[]⟩ [] [], .mk 4 7 ⟨#[]⟩ [] [], dNine]
def dPut : D := .mk 1 0 ⟨#[]⟩ [⟨#[97]⟩, ⟨#[98]⟩] [dListPut, dDict]
def dDictDrop : D := .mk 2 0 ⟨#[]⟩ [⟨#[]⟩] [.mk 5 1 ⟨#[]⟩ [] []]
def dDrop : D := .mk 1 0 ⟨#[]⟩ [⟨#[97]⟩, ⟨#[98]⟩] [dList, dDictDrop]
theorem get_1 : getV dSome [⟨#[97]⟩, ⟨#[49]⟩] = (.mk 4 7 ⟨#[]⟩ [] [], true) := by kernel_rfl
theorem get_2 : getV dSome [⟨#[97]⟩, ⟨#[50]⟩] = (D.zero, false) := by kernel_rfl
theorem put_2 : putV dSome dNine [⟨#[97]⟩, ⟨#[50]⟩] = (dPut, 0) := by kernel_rfl
theorem get_3 : getV dPut [⟨#[97]⟩, ⟨#[50]⟩] = (dNine, true) := by kernel_rfl
theorem drop_x : dropV dSome [⟨#[98]⟩, ⟨#[120]⟩] = (dDrop, 0) := by kernel_rfl
theorem get_4 : getV dDrop [⟨#[98]⟩, ⟨#[120]⟩] = (D.zero, false) := by kernel_rfl
theorem put_9 : putV dSome dNine [⟨#[97]⟩, ⟨#[57]⟩] = (D.zero, 3) := by kernel_rfl
theorem right_1 : rightB dSome = true := by kernel_rfl
theorem size_1 : dSome.size = 7 := by kernel_rfl
theorem depth_1 : dSome.depth = 3 := by kernel_rfl
theorem cmp_1 : D.cmp dSome dPut = -1 := by kernel_rfl
theorem name_1 : nameB ⟨#[97, 95, 49]⟩ = true := by kernel_rfl
theorem name_2 : nameB ⟨#[95, 97]⟩ = false := by kernel_rfl
end Go.Proofs.YtdcempejdggkpaaGreatDoor
namespace Go.Proofs.YtdcempejdggkpaaGreatDoor
open Go.RowKit
theorem path2 {w : World} {b B : Nat} {x y : ByteArray} {t : TypeId} (hb : b < B) (h : w.heap[b]? = some (.cells #[.string x, .string y] t (0, 0))) : Strs w B (.slice (some ⟨b, 0, none⟩) 2 2) [x, y] :=
  ⟨some ⟨b, 0, none⟩, 2, rfl, by simp, fun _ => ⟨b, 0, rfl, hb, fun i hi => by
    match i, hi with
    | 0, _ => exact cell_of_row _ _ 0 _ _ _ h
    | 1, _ => exact cell_of_row _ _ 1 _ _ _ h⟩⟩
theorem path2c {w : World} {b B : Nat} {x y : ByteArray} (hb : b < B) (h : w.cell? ⟨b, 0, none⟩ = some (.string x) ∧ w.cell? ⟨b, 1, none⟩ = some (.string y)) : Strs w B (.slice (some ⟨b, 0, none⟩) 2 2) [x, y] :=
  ⟨some ⟨b, 0, none⟩, 2, rfl, by simp, fun _ => ⟨b, 0, rfl, hb, fun i hi => by
    match i, hi with
    | 0, _ => exact h.1
    | 1, _ => exact h.2⟩⟩
theorem shorts2 {x y : ByteArray} (hx : Short x) (hy : Short y) : ∀ s ∈ [x, y], Short s := by
  intro s hs
  simp only [List.mem_cons, List.not_mem_nil, or_false] at hs
  rcases hs with rfl | rfl
  · exact hx
  · exact hy
theorem short1 {s : ByteArray} (h : s.size ≤ 100) : Short s := by unfold Short; omega
theorem glob_of {W w' : World} (h : Glob W) (hb : Below W.heap.size W w') : Glob w' := h.below hb h.size
theorem docv_alloc {W : World} {d : D} {v : Value} (o : Obj) (hd : DocV W W.heap.size d v) : DocV (W.alloc o) (W.alloc o).heap.size d v :=
  hd.keep (by simp) fun _ hp => World.cell?_alloc_lt W o _ hp
def Got (W : World) (k n : Int) (s : ByteArray) (ks : List ByteArray) (l : List D) (u : Value) (e : Ending) (w' : World) : Prop :=
  ∃ A3 c3 A4 c4, e = .returned (.tuple #[.agg #[.int .i64 k, .int .i64 n, .string s, .slice A3 ks.length c3, .slice A4 l.length c4], u]) ∧
    DocIn w' w'.heap.size (.mk k n s ks l) (.int .i64 k) (.int .i64 n) (.string s) (.slice A3 ks.length c3) (.slice A4 l.length c4) ∧ Below W.heap.size W w'
theorem got_of {W w1 : World} {k n : Int} {s : ByteArray} {ks : List ByteArray} {l : List D} {u : Value} {e : Ending} {w' : World} (hb : Below W.heap.size W w1) (h : MadeDoc2 w1.heap.size w1 (.mk k n s ks l) u e w') : Got W k n s ks l u e w' := by
  obtain ⟨v0, v1, v2, v3, v4, F, rfl, ho, _, hb1⟩ := h
  obtain ⟨A3, c3, A4, c4, rfl, rfl, rfl, rfl, rfl⟩ := ho.doc.forms
  exact ⟨A3, c3, A4, c4, rfl, ho.doc, hb.trans (hb1.mono hb.size)⟩
theorem get_step {W : World} {b : Nat} {d : D} {v : Value} {x y : ByteArray} {k n : Int} {s : ByteArray} {ks : List ByteArray} {l : List D} {ok : Bool} (hb : b = W.heap.size) (hf : d.Fit) (hx : Short x) (hy : Short y) (hg : Glob W) (hd : DocV W W.heap.size d v) (hr : getV d [x, y] = (.mk k n s ks l, ok)) :
    Calls Tryz.prog 14 #[v, .slice (some ⟨b, 0, none⟩) 2 2] (W.alloc (.cells #[.string x, .string y] 9)) (Got W k n s ks l (.bool ok)) := by
  subst hb
  have h := get_v (ps := [x, y]) hf (by simp) (shorts2 hx hy) (hg.alloc _) (Nat.le_refl _) (docv_alloc (.cells #[.string x, .string y] 9) hd) (path2 (by simp) (heap_alloc_new W _))
  rw [hr] at h
  exact h.mono fun e w' h' => got_of ((Below.refl _ _).alloc (Nat.le_refl _) _) h'
theorem drop_step {W : World} {b : Nat} {d : D} {v : Value} {x y : ByteArray} {k n : Int} {s : ByteArray} {ks : List ByteArray} {l : List D} {er : Int} (hb : b = W.heap.size) (hf : d.Fit) (hx : Short x) (hy : Short y) (hg : Glob W) (hd : DocV W W.heap.size d v) (hr : dropV d [x, y] = (.mk k n s ks l, er)) :
    Calls Tryz.prog 16 #[v, .slice (some ⟨b, 0, none⟩) 2 2] (W.alloc (.cells #[.string x, .string y] 9)) (Got W k n s ks l (.int .i64 er)) := by
  subst hb
  have h := drop_v (ps := [x, y]) hf (by simp) (shorts2 hx hy) (hg.alloc _) (Nat.le_refl _) (docv_alloc (.cells #[.string x, .string y] 9) hd) (path2 (by simp) (heap_alloc_new W _))
  rw [hr] at h
  exact h.mono fun e w' h' => got_of ((Below.refl _ _).alloc (Nat.le_refl _) _) h'
/-- A box, and the document that it holds. -/
structure Held (w : World) (b : Nat) (d : D) (v0 v1 v2 v3 v4 : Value) : Prop where
  box : Box5 w b v0 v1 v2 v3 v4
  doc : DocIn w w.heap.size d v0 v1 v2 v3 v4
theorem Held.lt {w : World} {b : Nat} {d : D} {v0 v1 v2 v3 v4 : Value} (h : Held w b d v0 v1 v2 v3 v4) : b < w.heap.size := h.box.lt
theorem Held.next {w w' : World} {b : Nat} {d : D} {v0 v1 v2 v3 v4 : Value} (h : Held w b d v0 v1 v2 v3 v4) (hb : Below w.heap.size w w') : Held w' b d v0 v1 v2 v3 v4 :=
  ⟨h.box.same (hb.block _ h.lt), h.doc.keep hb.size fun _ hp => hb.cell hp⟩
theorem Held.alloc {w : World} {b : Nat} {d : D} {v0 v1 v2 v3 v4 : Value} (h : Held w b d v0 v1 v2 v3 v4) (o : Obj) : Held (w.alloc o) b d v0 v1 v2 v3 v4 := h.next ((Below.refl _ _).alloc (Nat.le_refl _) o)
theorem Held.new {w : World} {d : D} {v0 v1 v2 v3 v4 : Value} (h : DocIn w w.heap.size d v0 v1 v2 v3 v4) : Held (w.alloc (.cells #[v0, v1, v2, v3, v4] 27)) w.heap.size d v0 v1 v2 v3 v4 :=
  ⟨Box5.new w _ _ _ _ _, h.keep (by simp) fun _ hp => World.cell?_alloc_lt w _ _ hp⟩
theorem Held.v {w : World} {b : Nat} {d : D} {v0 v1 v2 v3 v4 : Value} (h : Held w b d v0 v1 v2 v3 v4) : DocV w w.heap.size d (.agg #[v0, v1, v2, v3, v4]) := ⟨_, _, _, _, _, rfl, h.doc⟩
theorem Held.drew {w : World} {b : Nat} {d : D} {v0 v1 v2 v3 v4 : Value} (h : Held w b d v0 v1 v2 v3 v4) : Held w.drew b d v0 v1 v2 v3 v4 := h.next ((Below.refl _ _).drew)
def Got2 (W : World) (k n : Int) (s : ByteArray) (ks : List ByteArray) (l : List D) (u : Value) (e : Ending) (w' : World) : Prop :=
  ∃ A3 c3 A4 c4 F, e = .returned (.tuple #[.agg #[.int .i64 k, .int .i64 n, .string s, .slice A3 ks.length c3, .slice A4 l.length c4], u]) ∧
    OwnIn w' W.heap.size (.mk k n s ks l) (.int .i64 k) (.int .i64 n) (.string s) (.slice A3 ks.length c3) (.slice A4 l.length c4) F ∧ Below W.heap.size W w'
theorem put_step {W w1 : World} {b : Nat} {d z : D} {v u : Value} {x y : ByteArray} {k n : Int} {s : ByteArray} {ks : List ByteArray} {l : List D} {er : Int} (hf : d.Fit) (hfz : z.Fit) (hx : Short x) (hy : Short y) (hg : Glob W) (hW : Below W.heap.size W w1)
    (hd : DocV W W.heap.size d v) (hz : DocV w1 w1.heap.size z u) (hp : Strs w1 w1.heap.size (.slice (some ⟨b, 0, none⟩) 2 2) [x, y]) (hold : OldKey d [x, y]) (hr : putV d z [x, y] = (.mk k n s ks l, er)) :
    Calls Tryz.prog 15 #[v, u, .slice (some ⟨b, 0, none⟩) 2 2] w1 (Got2 w1 k n s ks l (.int .i64 er)) := by
  have h := put_old (ps := [x, y]) hf hfz (by simp) (shorts2 hx hy) (glob_of hg hW) (Nat.le_refl _) (hd.keep hW.size fun _ hp => hW.cell hp) hz hp hold
  rw [hr] at h
  refine h.mono fun e w' h' => ?_
  obtain ⟨v0, v1, v2, v3, v4, F, rfl, ho, _, hb1⟩ := h'
  obtain ⟨A3, c3, A4, c4, rfl, rfl, rfl, rfl, rfl⟩ := ho.doc.forms
  exact ⟨A3, c3, A4, c4, F, rfl, ho, hb1⟩
theorem fill5 {w5 : World} {B b6 : Nat} {d : D} {v0 v1 v2 v3 v4 z0 z1 z2 z3 z4 : Value} {F : List Nat} (ho : OwnIn w5 B d v0 v1 v2 v3 v4 F) (hb : b6 < B) (kz : Box5 w5 b6 z0 z1 z2 z3 z4) :
    Held (((((w5.setCell ⟨b6, 0, none⟩ v0).setCell ⟨b6, 1, none⟩ v1).setCell ⟨b6, 2, none⟩ v2).setCell ⟨b6, 3, none⟩ v3).setCell ⟨b6, 4, none⟩ v4) b6 d v0 v1 v2 v3 v4 := by
  refine ⟨((((kz.set0 v0).set1 v1).set2 v2).set3 v3).set4 v4, ?_⟩
  refine (ho.same (Nat.le_refl _) fun k hk => ?_).doc
  have hne : k ≠ b6 := by have := (ho.lt k hk).1; omega
  rw [Below.heap_setCell _ _ _ k hne, Below.heap_setCell _ _ _ k hne, Below.heap_setCell _ _ _ k hne, Below.heap_setCell _ _ _ k hne, Below.heap_setCell _ _ _ k hne]
theorem lt_next {X w : World} (h : Below X.heap.size X w) : ∀ b, b < X.heap.size → b < w.heap.size := fun _ hb => Nat.lt_of_lt_of_le hb h.size
theorem ne_next {X w : World} (h : Below X.heap.size X w) : ∀ b, b < X.heap.size → ¬ b = w.heap.size := fun _ hb => by have := h.size; omega
theorem ne_next' {X w : World} (h : Below X.heap.size X w) : ∀ b, b < X.heap.size → ¬ w.heap.size = b := fun _ hb => by have := h.size; omega
theorem bl_alloc {W X : World} (h : Below W.heap.size W X) (o : Obj) : Below W.heap.size W (X.alloc o) := h.alloc h.size o
theorem bl_drew {W X : World} (h : Below W.heap.size W X) : Below W.heap.size W X.drew := h.drew
theorem bl_step {W X w4 : World} (h : Below W.heap.size W X) (hb : Below X.heap.size X w4) : Below W.heap.size W w4 := h.trans (hb.mono h.size)
theorem bl_set {W X : World} (h : Below W.heap.size W X) {p : Addr} (hp : W.heap.size ≤ p.block) (u : Value) : Below W.heap.size W (X.setCell p u) := h.setCell hp u
theorem at_new {X : World} {b : Nat} {cs : Array Value} {t : TypeId} (hb : b = X.heap.size) : (X.alloc (.cells cs t)).heap[b]? = some (.cells cs t (0, 0)) := by subst hb; exact heap_alloc_new X _
theorem at_old {X : World} {o : Obj} {b : Nat} {r : Option Obj} (hb : b < X.heap.size) (h : X.heap[b]? = r) : (X.alloc o).heap[b]? = r := (Below.heap_alloc _ _ _ hb).trans h
theorem at_drew {X : World} {b : Nat} {r : Option Obj} (h : X.heap[b]? = r) : X.drew.heap[b]? = r := h
theorem at_next {X w : World} {b : Nat} {r : Option Obj} (hb : Below X.heap.size X w) (hlt : b < X.heap.size) (h : X.heap[b]? = r) : w.heap[b]? = r := (hb.block _ hlt).trans h
theorem old_2 : OldKey dSome [⟨#[97]⟩, ⟨#[50]⟩] := by
  intro is x h1 h2 _
  have e : D.locate dSome [⟨#[97]⟩] = some [0] := by kernel_rfl
  rw [show ([⟨#[97]⟩, ⟨#[50]⟩] : List ByteArray).dropLast = [⟨#[97]⟩] from rfl, e] at h1
  obtain rfl := Option.some.inj h1
  have e2 : D.subAt dSome [0] = some dList := by kernel_rfl
  obtain rfl := Option.some.inj (e2.symm.trans h2)
  rfl
theorem old_9 : OldKey dSome [⟨#[97]⟩, ⟨#[57]⟩] := by
  intro is x h1 h2 _
  have e : D.locate dSome [⟨#[97]⟩] = some [0] := by kernel_rfl
  rw [show ([⟨#[97]⟩, ⟨#[57]⟩] : List ByteArray).dropLast = [⟨#[97]⟩] from rfl, e] at h1
  obtain rfl := Option.some.inj h1
  have e2 : D.subAt dSome [0] = some dList := by kernel_rfl
  obtain rfl := Option.some.inj (e2.symm.trans h2)
  rfl
theorem below_al {w w' : World} {o : Obj} (h : Below (w.alloc o).heap.size (w.alloc o) w') : Below w.heap.size w w' :=
  ((Below.refl _ _).alloc (Nat.le_refl _) o).trans (h.mono (by simp))
theorem lt_al {w w' : World} {o : Obj} (h : Below (w.alloc o).heap.size (w.alloc o) w') : w.heap.size < w'.heap.size := by have := h.size; simp at this; omega
theorem right_some {W : World} {v : Value} (h : DocV W W.heap.size dSome v) : Calls Tryz.prog 17 #[v] W fun e w' => e = .returned (.bool true) ∧ Below W.heap.size W w' := by
  have := right_v dSome_fit (Nat.le_refl _) h
  rw [right_1] at this; exact this
theorem size_some {W : World} {v : Value} (h : DocV W W.heap.size dSome v) : Calls Tryz.prog 18 #[v] W fun e w' => e = .returned (.int .i64 7) ∧ Below W.heap.size W w' := by
  obtain ⟨v0, v1, v2, v3, v4, rfl, hd⟩ := h
  have := size_any dSome.depth dSome _ _ _ _ _ W W.heap.size (Nat.le_refl _) (by rw [size_1]; omega) (Nat.le_refl _) hd
  rw [size_1] at this; exact this
theorem depth_some {W : World} {v : Value} (h : DocV W W.heap.size dSome v) : Calls Tryz.prog 19 #[v] W fun e w' => e = .returned (.int .i64 3) ∧ Below W.heap.size W w' := by
  have := depth_v (by rw [depth_1]; omega) dSome_fit (Nat.le_refl _) h
  rw [depth_1] at this; exact this
theorem dPut_fit : dPut.Fit := by simp only [dPut, dListPut, dNine, dDict, D.Fit, D.Fits]; decide
theorem dDrop_fit : dDrop.Fit := by simp only [dDrop, dList, dDictDrop, D.Fit, D.Fits]; decide
theorem dNine_fit : dNine.Fit := by simp only [dNine, D.Fit, D.Fits]; decide
theorem cmp_some {W : World} {v u : Value} (h : DocV W W.heap.size dSome v) (h' : DocV W W.heap.size dPut u) : Calls Tryz.prog 22 #[v, u] W fun e w' => e = .returned (.int .i64 (-1)) ∧ Below W.heap.size W w' := by
  have := compare_v dSome_fit dPut_fit (Nat.le_refl _) h h'
  rw [cmp_1] at this; exact this
theorem same_some {W : World} {v u : Value} (h : DocV W W.heap.size dSome v) (h' : DocV W W.heap.size dSome u) : Calls Tryz.prog 20 #[v, u] W fun e w' => e = .returned (.bool true) ∧ Below W.heap.size W w' := by
  have := same_v dSome_fit dSome_fit (Nat.le_refl _) h h'
  rw [show D.same dSome dSome = true from by kernel_rfl] at this; exact this
theorem copy_some {W : World} {v : Value} (h : DocV W W.heap.size dSome v) : Calls Tryz.prog 21 #[v] W fun e w' => ∃ v0 v1 v2 v3 v4, e = .returned (.agg #[v0, v1, v2, v3, v4]) ∧ DocIn w' w'.heap.size dSome v0 v1 v2 v3 v4 ∧ Below W.heap.size W w' :=
  (copy_v dSome_fit (Nat.le_refl _) h).mono fun _ _ ⟨v0, v1, v2, v3, v4, _, he, ho, _, hb⟩ => ⟨v0, v1, v2, v3, v4, he, ho.doc, hb⟩
theorem name_yes (W : World) : Calls Tryz.prog 23 #[.string ⟨#[97, 95, 49]⟩] W fun e w' => e = .returned (.bool true) ∧ W = w' := by
  have := name_any ⟨#[97, 95, 49]⟩ W
  rw [name_1] at this; exact this
theorem name_no (W : World) : Calls Tryz.prog 23 #[.string ⟨#[95, 97]⟩] W fun e w' => e = .returned (.bool false) ∧ W = w' := by
  have := name_any ⟨#[95, 97]⟩ W
  rw [name_2] at this; exact this
theorem twelve {w9 w' : World} {b1 b2 b6 b8 : Nat} {d x y z : D} {v0 v1 v2 v3 v4 x0 x1 x2 x3 x4 y0 y1 y2 y3 y4 z0 z1 z2 z3 z4 : Value} (hb : Below w9.heap.size w9 w') (hd : Held w9 b1 d v0 v1 v2 v3 v4) (hx : Held w9 b2 x x0 x1 x2 x3 x4) (hy : Held w9 b6 y y0 y1 y2 y3 y4) (hz : Held w9 b8 z z0 z1 z2 z3 z4) :
    w'.cell? ⟨b1, 0, none⟩ = some v0 ∧ w'.cell? ⟨b1, 1, none⟩ = some v1 ∧ w'.cell? ⟨b1, 2, none⟩ = some v2 ∧ w'.cell? ⟨b1, 3, none⟩ = some v3 ∧ w'.cell? ⟨b1, 4, none⟩ = some v4 ∧ w'.cell? ⟨b2, 1, none⟩ = some x1 ∧
      w'.cell? ⟨b6, 0, none⟩ = some y0 ∧ w'.cell? ⟨b6, 1, none⟩ = some y1 ∧ w'.cell? ⟨b6, 2, none⟩ = some y2 ∧ w'.cell? ⟨b6, 3, none⟩ = some y3 ∧ w'.cell? ⟨b6, 4, none⟩ = some y4 ∧ w'.cell? ⟨b8, 1, none⟩ = some z1 := by
  obtain ⟨a0, a1, a2, a3, a4⟩ := (hd.next hb).box.cells
  obtain ⟨_, c1, _, _, _⟩ := (hx.next hb).box.cells
  obtain ⟨e0, e1, e2, e3, e4⟩ := (hy.next hb).box.cells
  obtain ⟨_, f1, _, _, _⟩ := (hz.next hb).box.cells
  exact ⟨a0, a1, a2, a3, a4, c1, e0, e1, e2, e3, e4, f1⟩
def MidE (w9 : World) (s15 : Value) (wx : World) : Prop := s15 = .int .i64 3 ∧ Below w9.heap.size w9 wx
def Mid (w3 : World) (d : D) (er : Int) (s6 s7 : Value) (wx : World) : Prop :=
  ∃ b A c A' c', s6 = .pointer (some ⟨b, 0, none⟩) ∧ s7 = .int .i64 er ∧ Held wx b d (.int .i64 d.kind) (.int .i64 d.num) (.string d.str) (.slice A d.keys.length c) (.slice A' d.kids.length c') ∧ Below w3.heap.size w3 wx
set_option maxHeartbeats 3000000 in
set_option maxRecDepth 100000 in
theorem small_v (w : World) (hg : Glob w) : Calls Tryz.prog 4 #[] w fun e w' => e = .returned (.bool true) ∧ Below w.heap.size w w' := by
  have HG := Lib.hid hg; clear hg
  go_enter Tryz.func4, Tryz.ntmps4
  go_wp2_with fail
  refine (some_v _).mono ?_
  rintro e w1 ⟨v0, v1, v2, v3, v4, F, rfl, ho, _, hb1⟩
  obtain ⟨A3, c3, A4, c4, rfl, rfl, rfl, rfl, rfl⟩ := ho.doc.forms
  have HD := Lib.hid (Held.new ho.doc)
  have HG1 := Lib.hid (glob_of HG.out hb1)
  have HB := Lib.hid hb1
  clear ho hb1 HG
  go_wp2_with fail
  -- Get(d, "a", "1")
  refine (get_step (by simp) dSome_fit (short1 (by decide)) (short1 (by decide)) (HG1.out.alloc _) HD.out.v get_1).mono ?_
  rintro e w2 ⟨A5, c5, A6, c6, rfl, hx, hb⟩
  have l2 := lt_al hb
  have HG2 := Lib.hid (glob_of (HG1.out.alloc _) hb)
  have HD2 := Lib.hid (HD.out.next hb)
  have HB2 := Lib.hid (HB.out.trans ((below_al hb).mono HB.out.size))
  have HX2 := Lib.hid (Held.new hx)
  obtain ⟨q0, q1, q2, q3, q4⟩ := HD2.out.box.cells
  clear HG1 HD HB hx hb
  go_wp2_with fail
  -- Get(d, "a", "2")
  refine (get_step (by simp) dSome_fit (short1 (by decide)) (short1 (by decide)) (HG2.out.alloc _) (HD2.out.alloc _).v get_2).mono ?_
  rintro e w3 ⟨A7, c7, A8, c8, rfl, hx, hb⟩
  have l3 := lt_al hb
  have HG3 := Lib.hid (glob_of (HG2.out.alloc _) hb)
  have HD3 := Lib.hid (HD2.out.next (below_al hb))
  have HX3 := Lib.hid (HX2.out.next hb)
  have HB3 := Lib.hid (HB2.out.trans ((below_al hb).mono HB2.out.size))
  have l13 : w1.heap.size < w3.heap.size := by omega
  clear q0 q1 q2 q3 q4 HG2 HD2 HB2 HX2 hx hb
  obtain ⟨q0, q1, q2, q3, q4⟩ := HD3.out.box.cells
  go_upto_region 4 with fail
  go_cut [6, 7] (fun s6 s7 wx => Mid w3 dPut 0 s6 s7 wx)
  case first =>
    obtain ⟨r0, r1, r2, r3, r4⟩ := (HD3.out.alloc (.cells #[.int .i64 0, .int .i64 0, .string ⟨#[]⟩, .slice A7 0 c7, .slice A8 0 c8] 27)).box.cells
    have n1a : ¬ (w1.heap.size = w3.heap.size) := by omega
    have n1b : ¬ (w3.heap.size = w1.heap.size) := by omega
    have n2a : ¬ (w1.heap.size = w3.heap.size + 1) := by omega
    have n2b : ¬ (w3.heap.size + 1 = w1.heap.size) := by omega
    have n3a : ¬ (w1.heap.size = w3.heap.size + 1 + 1) := by omega
    have n6a : ¬ (w1.heap.size = w3.heap.size + 2) := by omega
    have n6b : ¬ (w3.heap.size + 2 = w1.heap.size) := by omega
    have n7a : ¬ (w1.heap.size = w3.heap.size + 3) := by omega
    have n7b : ¬ (w3.heap.size + 3 = w1.heap.size) := by omega
    have n3b : ¬ (w3.heap.size + 1 + 1 = w1.heap.size) := by omega
    go_region_held3 (fun w' => w'.cell? ⟨w1.heap.size, 0, none⟩ = some (.int .i64 dSome.kind) ∧ w'.cell? ⟨w1.heap.size, 1, none⟩ = some (.int .i64 dSome.num) ∧ w'.cell? ⟨w1.heap.size, 2, none⟩ = some (.string dSome.str) ∧ w'.cell? ⟨w1.heap.size, 3, none⟩ = some (.slice A3 dSome.keys.length c3) ∧ w'.cell? ⟨w1.heap.size, 4, none⟩ = some (.slice A4 dSome.kids.length c4))
      (first | go_keep)
      ((first
        | (go_at_call 10; (refine (int_x _ _).mono ?_); (rintro e w4 ⟨rfl, hb4⟩); (have hB4 : Below w3.heap.size w3 w4 := bl_step (by repeat (first | exact Below.refl _ _ | apply bl_alloc | apply bl_drew)) hb4); (obtain ⟨k0, k1, k2, k3, k4⟩ := (HD3.out.box.same (hB4.block _ l13)).cells); (have hz4 := hb4.size); (try simp at hz4); (obtain ⟨hc4, hf4⟩ := below_add hb4); (first | ((have hz6 : w3.heap.size + 1 + 1 + 1 ≤ w4.heap.size := hz4); (have t0l : w3.heap.size < w4.heap.size := by omega); (have t0n : ¬ (w3.heap.size = w4.heap.size) := by omega); (have t0m : ¬ (w4.heap.size = w3.heap.size) := by omega); (have t1l : w3.heap.size + 1 < w4.heap.size := by omega); (have t1n : ¬ (w3.heap.size + 1 = w4.heap.size) := by omega); (have t1m : ¬ (w4.heap.size = w3.heap.size + 1) := by omega); (have t2l : w3.heap.size + 1 + 1 < w4.heap.size := by omega); (have t2n : ¬ (w3.heap.size + 1 + 1 = w4.heap.size) := by omega); (have t2m : ¬ (w4.heap.size = w3.heap.size + 1 + 1) := by omega); (have t3l : w3.heap.size + 2 < w4.heap.size := by omega); (have t3n : ¬ (w3.heap.size + 2 = w4.heap.size) := by omega); (have t3m : ¬ (w4.heap.size = w3.heap.size + 2) := by omega)) | ((have hz6 : w3.heap.size + 1 + 1 ≤ w4.heap.size := hz4); (have t0l : w3.heap.size < w4.heap.size := by omega); (have t0n : ¬ (w3.heap.size = w4.heap.size) := by omega); (have t0m : ¬ (w4.heap.size = w3.heap.size) := by omega); (have t1l : w3.heap.size + 1 < w4.heap.size := by omega); (have t1n : ¬ (w3.heap.size + 1 = w4.heap.size) := by omega); (have t1m : ¬ (w4.heap.size = w3.heap.size + 1) := by omega)) | ((have t0l : w3.heap.size < w4.heap.size := by omega); (have t0n : ¬ (w3.heap.size = w4.heap.size) := by omega); (have t0m : ¬ (w4.heap.size = w3.heap.size) := by omega))); (have n4a : ¬ (w1.heap.size = w4.heap.size) := by omega); (have n4b : ¬ (w4.heap.size = w1.heap.size) := by omega); (have n5a : ¬ (w1.heap.size = w4.heap.size + 1) := by omega); (have n5b : ¬ (w4.heap.size + 1 = w1.heap.size) := by omega); (have n8a : ¬ (w1.heap.size = w4.heap.size + 2) := by omega); (have n8b : ¬ (w4.heap.size + 2 = w1.heap.size) := by omega))
        | (go_at_call 15; (refine (put_step (W := w3) (z := dNine) dSome_fit (by simp only [dNine, D.Fit, D.Fits]; decide) (short1 (by decide)) (short1 (by decide)) HG3.out (by repeat (first | exact Below.refl _ _ | exact hB4 | apply bl_alloc | apply bl_drew)) HD3.out.v ⟨_, _, _, _, _, rfl, leaf_in _ _ 4 9 _⟩
            (path2c (by first | omega | (simp; done) | (simp; omega)) (by first | (go_keep; done) | exact ⟨(hb4.cell (by first | (simp; done) | (simp; omega))).trans (by go_simp), (hb4.cell (by first | (simp; done) | (simp; omega))).trans (by go_simp)⟩)) old_2 put_2).mono ?_);
            (rintro e w5 ⟨A9, c9, A10, c10, FY, rfl, hy, hb5⟩); (have hB5 : Below w3.heap.size w3 w5 := bl_step (by repeat (first | exact Below.refl _ _ | exact hB4 | apply bl_alloc | apply bl_drew)) hb5); (obtain ⟨m0, m1, m2, m3, m4⟩ := (HD3.out.box.same (hB5.block _ l13)).cells); (have hz5 := hb5.size); (try simp at hz5); (obtain ⟨hc5, hf5⟩ := below_add hb5))))
    all_goals (go_wp2_with fail; go_meet; have hy' : OwnIn w5 _ dPut (.int .i64 1) (.int .i64 0) (.string ⟨#[]⟩) (.slice A9 2 c9) (.slice A10 2 c10) FY := hy; refine ⟨_, A9, c9, A10, c10, rfl, rfl, (?_ : Held _ _ dPut (.int .i64 1) (.int .i64 0) (.string ⟨#[]⟩) (.slice A9 2 c9) (.slice A10 2 c10)), ?_⟩)
    all_goals first
      | (with_reducible exact Held.new hy'.doc)
      | (with_reducible exact (Held.new hy'.doc).drew)
      | ((with_reducible refine fill5 hy' ?_ (z0 := .int .i64 0) (z1 := .int .i64 0) (z2 := .string ⟨#[]⟩) (z3 := .slice none 0 0) (z4 := .slice none 0 0) ?_)
         · first | omega | (simp; done) | (simp; omega)
         · unfold Box5
           repeat (first | ((with_reducible refine at_new ?_); (focus (first | rfl | (simp; done)))) | ((with_reducible refine at_next hb5 ?_ ?_); (focus (first | omega | (simp; done) | (simp; omega)))) | ((with_reducible refine at_next hb4 ?_ ?_); (focus (first | omega | (simp; done) | (simp; omega)))) | ((with_reducible refine at_old ?_ ?_); (focus (first | omega | (simp; done) | (simp; omega)))) | (with_reducible refine at_drew ?_)))
      | ((repeat (first | (with_reducible exact Below.refl _ _) | (with_reducible exact hB5) | with_reducible apply bl_alloc | with_reducible apply bl_drew | ((with_reducible refine bl_set ?_ ?_ _); rotate_left; (focus (first | omega | (simp; done) | (simp; omega)))))); done)
  case rest =>
    obtain ⟨b6, A9, c9, A10, c10, rfl, rfl, hy, hb⟩ := hcut
    have HG4 := Lib.hid (glob_of HG3.out hb)
    have HD4 := Lib.hid (HD3.out.next hb)
    have HX4 := Lib.hid (HX3.out.next hb)
    have HY4 := Lib.hid hy
    have HB4 := Lib.hid (HB3.out.trans (hb.mono HB3.out.size))
    have l14 : w1.heap.size < wc.heap.size := HD4.out.lt
    have l24 : w2.heap.size < wc.heap.size := HX4.out.lt
    have l64 : b6 < wc.heap.size := hy.lt
    clear q0 q1 q2 q3 q4 HG3 HD3 HX3 HB3 hb
    obtain ⟨q0, q1, q2, q3, q4⟩ := hy.box.cells
    clear hy
    go_wp2_with fail
    -- Get(y, "a", "2")
    refine (get_step rfl dPut_fit (short1 (by decide)) (short1 (by decide)) HG4.out HY4.out.v get_3).mono ?_
    rintro e w5 ⟨A11, c11, A12, c12, rfl, hx, hb⟩
    have HG5 := Lib.hid (glob_of HG4.out hb)
    have HD5 := Lib.hid (HD4.out.next hb)
    have HX5 := Lib.hid (HX4.out.next hb)
    have HY5 := Lib.hid (HY4.out.next hb)
    have HZ5 := Lib.hid (Held.new hx)
    have HB5 := Lib.hid (HB4.out.trans (hb.mono HB4.out.size))
    have l15 : w1.heap.size < w5.heap.size := HD5.out.lt
    clear q0 q1 q2 q3 q4 HG4 HD4 HX4 HY4 HB4 hx hb
    obtain ⟨q0, q1, q2, q3, q4⟩ := HD5.out.box.cells
    go_wp2_with fail
    -- Drop(d, "b", "x")
    refine (drop_step (by simp) dSome_fit (short1 (by decide)) (short1 (by decide)) (HG5.out.alloc _) (HD5.out.alloc _).v drop_x).mono ?_
    rintro e w6 ⟨A13, c13, A14, c14, rfl, hx, hb⟩
    have HG6 := Lib.hid (glob_of (HG5.out.alloc _) hb)
    have HD6 := Lib.hid (HD5.out.next (below_al hb))
    have HX6 := Lib.hid (HX5.out.next (below_al hb))
    have HY6 := Lib.hid (HY5.out.next (below_al hb))
    have HZ6 := Lib.hid (HZ5.out.next hb)
    have HW6 := Lib.hid (Held.new hx)
    have HB6 := Lib.hid (HB5.out.trans ((below_al hb).mono HB5.out.size))
    have l15 : w1.heap.size < w5.heap.size := HD5.out.lt
    clear q0 q1 q2 q3 q4 HG5 HD5 HX5 HY5 HZ5 HB5 hx hb
    obtain ⟨q0, q1, q2, q3, q4⟩ := HW6.out.box.cells
    go_wp2_with fail
    -- Get(w, "b", "x")
    refine (get_step (by simp) dDrop_fit (short1 (by decide)) (short1 (by decide)) (HG6.out.alloc _) HW6.out.v get_4).mono ?_
    rintro e w7 ⟨A15, c15, A16, c16, rfl, hx, hb⟩
    have HG7 := Lib.hid ((glob_of (HG6.out.alloc _) hb).alloc (.cells #[.int .i64 0, .int .i64 0, .string ⟨#[]⟩, .slice A15 0 c15, .slice A16 0 c16] 27))
    have HD7 := Lib.hid ((HD6.out.next (below_al hb)).alloc (.cells #[.int .i64 0, .int .i64 0, .string ⟨#[]⟩, .slice A15 0 c15, .slice A16 0 c16] 27))
    have HX7 := Lib.hid ((HX6.out.next (below_al hb)).alloc (.cells #[.int .i64 0, .int .i64 0, .string ⟨#[]⟩, .slice A15 0 c15, .slice A16 0 c16] 27))
    have HY7 := Lib.hid ((HY6.out.next (below_al hb)).alloc (.cells #[.int .i64 0, .int .i64 0, .string ⟨#[]⟩, .slice A15 0 c15, .slice A16 0 c16] 27))
    have HZ7 := Lib.hid ((HZ6.out.next (below_al hb)).alloc (.cells #[.int .i64 0, .int .i64 0, .string ⟨#[]⟩, .slice A15 0 c15, .slice A16 0 c16] 27))
    have HB7 := Lib.hid ((HB6.out.trans ((below_al hb).mono HB6.out.size)).alloc (by have := HB6.out.size; have := (below_al hb).size; omega) (.cells #[.int .i64 0, .int .i64 0, .string ⟨#[]⟩, .slice A15 0 c15, .slice A16 0 c16] 27))
    clear q0 q1 q2 q3 q4 HG6 HD6 HX6 HY6 HZ6 HW6 HB6 hx hb
    go_upto_region 8 with fail
    generalize w7.alloc (.cells #[.int .i64 0, .int .i64 0, .string ⟨#[]⟩, .slice A15 0 c15, .slice A16 0 c16] 27) = w9 at HG7 HD7 HX7 HY7 HZ7 HB7 ⊢
    have l1 := HD7.out.lt
    have l2 := HX7.out.lt
    have l6 := HY7.out.lt
    have l5 := HZ7.out.lt
    have S0 := twelve (Below.refl _ _) HD7.out HX7.out HY7.out HZ7.out
    go_cut [14, 15] (fun s14 s15 wx => MidE w9 s15 wx)
    case first =>
      go_region_held3 (fun w' => w'.cell? ⟨w1.heap.size, 0, none⟩ = some (.int .i64 dSome.kind) ∧ w'.cell? ⟨w1.heap.size, 1, none⟩ = some (.int .i64 dSome.num) ∧ w'.cell? ⟨w1.heap.size, 2, none⟩ = some (.string dSome.str) ∧ w'.cell? ⟨w1.heap.size, 3, none⟩ = some (.slice A3 dSome.keys.length c3) ∧ w'.cell? ⟨w1.heap.size, 4, none⟩ = some (.slice A4 dSome.kids.length c4) ∧ w'.cell? ⟨w2.heap.size, 1, none⟩ = some (.int .i64 7) ∧
        w'.cell? ⟨b6, 0, none⟩ = some (.int .i64 dPut.kind) ∧ w'.cell? ⟨b6, 1, none⟩ = some (.int .i64 dPut.num) ∧ w'.cell? ⟨b6, 2, none⟩ = some (.string dPut.str) ∧ w'.cell? ⟨b6, 3, none⟩ = some (.slice A9 dPut.keys.length c9) ∧ w'.cell? ⟨b6, 4, none⟩ = some (.slice A10 dPut.kids.length c10) ∧ w'.cell? ⟨w5.heap.size, 1, none⟩ = some (.int .i64 9))
        ((exact twelve (by repeat (first | (with_reducible exact Below.refl _ _) | (with_reducible assumption) | with_reducible apply bl_alloc | with_reducible apply bl_drew | ((with_reducible refine bl_set ?_ ?_ _); rotate_left; (focus (first | omega | (simp; done) | (simp; omega)))))) HD7.out HX7.out HY7.out HZ7.out))
        ((first
        | (go_at_call 10; (refine (int_x _ _).mono ?_); (rintro e wa ⟨rfl, hba⟩); (have hBa : Below w9.heap.size w9 wa := bl_step (by repeat (first | (with_reducible exact Below.refl _ _) | (with_reducible assumption) | with_reducible apply bl_alloc | with_reducible apply bl_drew | ((with_reducible refine bl_set ?_ ?_ _); rotate_left; (focus (first | omega | (simp; done) | (simp; omega)))))) hba); (have Sa := twelve hBa HD7.out HX7.out HY7.out HZ7.out); (have hza := hba.size); (try simp at hza); (obtain ⟨hca, hfa⟩ := below_add hba); (first | ((have hz6 : w9.heap.size + 1 + 1 ≤ wa.heap.size := hza); (have t0l : w9.heap.size < wa.heap.size := by omega); (have t0n : ¬ (w9.heap.size = wa.heap.size) := by omega); (have t0m : ¬ (wa.heap.size = w9.heap.size) := by omega); (have t1l : w9.heap.size + 1 < wa.heap.size := by omega); (have t1n : ¬ (w9.heap.size + 1 = wa.heap.size) := by omega); (have t1m : ¬ (wa.heap.size = w9.heap.size + 1) := by omega)) | ((have hz6 : w9.heap.size + 1 ≤ wa.heap.size := hza); (have t0l : w9.heap.size < wa.heap.size := by omega); (have t0n : ¬ (w9.heap.size = wa.heap.size) := by omega); (have t0m : ¬ (wa.heap.size = w9.heap.size) := by omega)) | skip))
        | (go_at_call 15; (refine (put_step (W := w9) (z := dNine) dSome_fit dNine_fit (short1 (by decide)) (short1 (by decide)) HG7.out (by repeat (first | (with_reducible exact Below.refl _ _) | (with_reducible assumption) | with_reducible apply bl_alloc | with_reducible apply bl_drew | ((with_reducible refine bl_set ?_ ?_ _); rotate_left; (focus (first | omega | (simp; done) | (simp; omega)))))) HD7.out.v ⟨_, _, _, _, _, rfl, leaf_in _ _ 4 9 _⟩ (path2c (by first | omega | (simp; done) | (simp; omega)) (by first | (go_keep; done) | exact ⟨(hba.cell (by first | (simp; done) | (simp; omega))).trans (by go_simp), (hba.cell (by first | (simp; done) | (simp; omega))).trans (by go_simp)⟩)) old_9 put_9).mono ?_); (rintro e wb ⟨A17, c17, A18, c18, FY, rfl, hy, hbb⟩); (have hBb : Below w9.heap.size w9 wb := bl_step (by repeat (first | (with_reducible exact Below.refl _ _) | (with_reducible assumption) | with_reducible apply bl_alloc | with_reducible apply bl_drew | ((with_reducible refine bl_set ?_ ?_ _); rotate_left; (focus (first | omega | (simp; done) | (simp; omega)))))) hbb); (have Sb := twelve hBb HD7.out HX7.out HY7.out HZ7.out); (have hzb := hbb.size); (try simp at hzb); (obtain ⟨hcb, hfb⟩ := below_add hbb); clear hy)))
      all_goals (go_wp2_with fail; go_meet; refine ⟨rfl, ?_⟩; (repeat (first | (with_reducible exact Below.refl _ _) | (with_reducible assumption) | with_reducible apply bl_alloc | with_reducible apply bl_drew | ((with_reducible refine bl_set ?_ ?_ _); rotate_left; (focus (first | omega | (simp; done) | (simp; omega)))))))
    case rest =>
      obtain ⟨rfl, hbe⟩ := hcut
      have Se := twelve hbe HD7.out HX7.out HY7.out HZ7.out
      go_wp2_with fail
      dsimp only [List.append]
      go_region_held3 (fun w' => w'.cell? ⟨w1.heap.size, 0, none⟩ = some (.int .i64 dSome.kind) ∧ w'.cell? ⟨w1.heap.size, 1, none⟩ = some (.int .i64 dSome.num) ∧ w'.cell? ⟨w1.heap.size, 2, none⟩ = some (.string dSome.str) ∧ w'.cell? ⟨w1.heap.size, 3, none⟩ = some (.slice A3 dSome.keys.length c3) ∧ w'.cell? ⟨w1.heap.size, 4, none⟩ = some (.slice A4 dSome.kids.length c4) ∧ w'.cell? ⟨w2.heap.size, 1, none⟩ = some (.int .i64 7) ∧
        w'.cell? ⟨b6, 0, none⟩ = some (.int .i64 dPut.kind) ∧ w'.cell? ⟨b6, 1, none⟩ = some (.int .i64 dPut.num) ∧ w'.cell? ⟨b6, 2, none⟩ = some (.string dPut.str) ∧ w'.cell? ⟨b6, 3, none⟩ = some (.slice A9 dPut.keys.length c9) ∧ w'.cell? ⟨b6, 4, none⟩ = some (.slice A10 dPut.kids.length c10) ∧ w'.cell? ⟨w5.heap.size, 1, none⟩ = some (.int .i64 9))
        ((exact twelve (by repeat (first | (with_reducible exact Below.refl _ _) | (with_reducible assumption) | with_reducible apply bl_alloc | with_reducible apply bl_drew | ((with_reducible refine bl_set ?_ ?_ _); rotate_left; (focus (first | omega | (simp; done) | (simp; omega)))))) HD7.out HX7.out HY7.out HZ7.out))
        ((first
        | (go_at_call 17; (refine (right_some (HD7.out.next (by repeat (first | (with_reducible exact Below.refl _ _) | (with_reducible assumption) | with_reducible apply bl_alloc | with_reducible apply bl_drew | ((with_reducible refine bl_set ?_ ?_ _); rotate_left; (focus (first | omega | (simp; done) | (simp; omega))))))).v).mono ?_); (rintro e wr ⟨rfl, hbr⟩); (have hBr : Below w9.heap.size w9 wr := bl_step (by repeat (first | (with_reducible exact Below.refl _ _) | (with_reducible assumption) | with_reducible apply bl_alloc | with_reducible apply bl_drew | ((with_reducible refine bl_set ?_ ?_ _); rotate_left; (focus (first | omega | (simp; done) | (simp; omega)))))) hbr); (have Sr := twelve hBr HD7.out HX7.out HY7.out HZ7.out))
        | (go_at_call 18; (refine (size_some (HD7.out.next (by repeat (first | (with_reducible exact Below.refl _ _) | (with_reducible assumption) | with_reducible apply bl_alloc | with_reducible apply bl_drew | ((with_reducible refine bl_set ?_ ?_ _); rotate_left; (focus (first | omega | (simp; done) | (simp; omega))))))).v).mono ?_); (rintro e ws ⟨rfl, hbs⟩); (have hBs : Below w9.heap.size w9 ws := bl_step (by repeat (first | (with_reducible exact Below.refl _ _) | (with_reducible assumption) | with_reducible apply bl_alloc | with_reducible apply bl_drew | ((with_reducible refine bl_set ?_ ?_ _); rotate_left; (focus (first | omega | (simp; done) | (simp; omega)))))) hbs); (have Ss := twelve hBs HD7.out HX7.out HY7.out HZ7.out))
        | (go_at_call 19; (refine (depth_some (HD7.out.next (by repeat (first | (with_reducible exact Below.refl _ _) | (with_reducible assumption) | with_reducible apply bl_alloc | with_reducible apply bl_drew | ((with_reducible refine bl_set ?_ ?_ _); rotate_left; (focus (first | omega | (simp; done) | (simp; omega))))))).v).mono ?_); (rintro e wd ⟨rfl, hbd⟩); (have hBd : Below w9.heap.size w9 wd := bl_step (by repeat (first | (with_reducible exact Below.refl _ _) | (with_reducible assumption) | with_reducible apply bl_alloc | with_reducible apply bl_drew | ((with_reducible refine bl_set ?_ ?_ _); rotate_left; (focus (first | omega | (simp; done) | (simp; omega)))))) hbd); (have Sd := twelve hBd HD7.out HX7.out HY7.out HZ7.out))
        | (go_at_call 21; (refine (copy_some (HD7.out.next (by repeat (first | (with_reducible exact Below.refl _ _) | (with_reducible assumption) | with_reducible apply bl_alloc | with_reducible apply bl_drew | ((with_reducible refine bl_set ?_ ?_ _); rotate_left; (focus (first | omega | (simp; done) | (simp; omega))))))).v).mono ?_); (rintro e wk ⟨k0, k1, k2, k3, k4, rfl, hk, hbk⟩); (have hBk : Below w9.heap.size w9 wk := bl_step (by repeat (first | (with_reducible exact Below.refl _ _) | (with_reducible assumption) | with_reducible apply bl_alloc | with_reducible apply bl_drew | ((with_reducible refine bl_set ?_ ?_ _); rotate_left; (focus (first | omega | (simp; done) | (simp; omega)))))) hbk); (have Sk := twelve hBk HD7.out HX7.out HY7.out HZ7.out))
        | (go_at_call 20; (refine (same_some (HD7.out.next (by repeat (first | (with_reducible exact Below.refl _ _) | (with_reducible assumption) | with_reducible apply bl_alloc | with_reducible apply bl_drew | ((with_reducible refine bl_set ?_ ?_ _); rotate_left; (focus (first | omega | (simp; done) | (simp; omega))))))).v ⟨_, _, _, _, _, rfl, hk⟩).mono ?_); (rintro e wm ⟨rfl, hbm⟩); (have hBm : Below w9.heap.size w9 wm := bl_step (by repeat (first | (with_reducible exact Below.refl _ _) | (with_reducible assumption) | with_reducible apply bl_alloc | with_reducible apply bl_drew | ((with_reducible refine bl_set ?_ ?_ _); rotate_left; (focus (first | omega | (simp; done) | (simp; omega)))))) hbm); (have Sm := twelve hBm HD7.out HX7.out HY7.out HZ7.out))
        | (go_at_call 22; (refine (cmp_some (HD7.out.next (by repeat (first | (with_reducible exact Below.refl _ _) | (with_reducible assumption) | with_reducible apply bl_alloc | with_reducible apply bl_drew | ((with_reducible refine bl_set ?_ ?_ _); rotate_left; (focus (first | omega | (simp; done) | (simp; omega))))))).v (HY7.out.next (by repeat (first | (with_reducible exact Below.refl _ _) | (with_reducible assumption) | with_reducible apply bl_alloc | with_reducible apply bl_drew | ((with_reducible refine bl_set ?_ ?_ _); rotate_left; (focus (first | omega | (simp; done) | (simp; omega))))))).v).mono ?_); (rintro e wp ⟨rfl, hbp⟩); (have hBp : Below w9.heap.size w9 wp := bl_step (by repeat (first | (with_reducible exact Below.refl _ _) | (with_reducible assumption) | with_reducible apply bl_alloc | with_reducible apply bl_drew | ((with_reducible refine bl_set ?_ ?_ _); rotate_left; (focus (first | omega | (simp; done) | (simp; omega)))))) hbp); (have Sp := twelve hBp HD7.out HX7.out HY7.out HZ7.out))
        | (go_at_call 23; (first | ((with_reducible refine (name_yes _).mono ?_); rintro e wy ⟨rfl, rfl⟩) | ((with_reducible refine (name_no _).mono ?_); rintro e wy ⟨rfl, rfl⟩)))))
      all_goals (go_wp2_with fail; go_ret; refine ⟨rfl, HB7.out.trans (Below.mono (B := w9.heap.size) ?_ HB7.out.size)⟩; (repeat (first | (with_reducible exact Below.refl _ _) | (with_reducible assumption) | with_reducible apply bl_alloc | with_reducible apply bl_drew | ((with_reducible refine bl_set ?_ ?_ _); rotate_left; (focus (first | omega | (simp; done) | (simp; omega)))))))
end Go.Proofs.YtdcempejdggkpaaGreatDoor
