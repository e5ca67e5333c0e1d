/-
  The walk of DocLists.
-/
import Derived.Test.YtekoicgclkehjaaDoorGrow
import Derived.Test.YtekoicgclkehjaaDoorOpen
import Derived.Deep.QuietTactic
import Derived.BigQuiet
import Derived.IntWalk
import Derived.Test.YtekoicgclkehjaaDoorListsP
import Derived.Test.YtekoicgclkehjaaDoorLimits
import Derived.Laws.IdiomStrings
namespace Go.Proofs.YtekoicgclkehjaaDoor
open Go.RowKit
/-- The state of the first loop: the kids so far are the call's own. -/
structure KidSt (w1 wr : World) (l : List Int) (u : Value) (cs : List Value) (F : List Nat) : Prop where
  own : wr.ownsRow w1.heap.size 25 5 u l.length cs
  kids : OwnKids wr w1.heap.size (l.map numD) cs F
  nodup : (blk u ++ F).Nodup
  below : Below w1.heap.size w1 wr
theorem conv_dig {m : Nat} (hm : m ≤ 9) (Y : World) (g : Nat) (hc : Y.cell? ⟨g, 0, none⟩ = some (.int .u8 (48 + (m : Int)))) :
    (convert 45 9 (.slice (some ⟨g, 0, none⟩) 1 1)).run Tryd.prog Y = .ok (.string (dig m)) Y := by
  have hn : (UInt8.ofNat (48 + m)).toNat = 48 + m := by simp [UInt8.toNat_ofNat]; omega
  exact run_convert_bytes_back Y 45 9 5 ⟨g, 0, none⟩ 1 [UInt8.ofNat (48 + m)] Tryd.underlying45 Tryd.underlying5 Tryd.underlying9 fun j hj => by
    obtain rfl : j = 0 := by simpa using hj
    rw [show (Addr.mk g 0 none).add 0 = ⟨g, 0, none⟩ from rfl, hc]
    simp only [List.getElem_cons_zero, hn]
    rfl
theorem dig_short (m : Nat) : Short (dig m) := by unfold Short dig; simp [ByteArray.size]
theorem path1 {w : World} {b B : Nat} {x : ByteArray} (hb : b < B) (h : w.cell? ⟨b, 0, none⟩ = some (.string x)) : Strs w B (.slice (some ⟨b, 0, none⟩) 1 1) [x] :=
  ⟨some ⟨b, 0, none⟩, 1, rfl, by simp, fun _ => ⟨b, 0, rfl, hb, fun i hi => by
    match i, hi with
    | 0, _ => exact h⟩⟩
theorem shorts1 {x : ByteArray} (hx : Short x) : ∀ s ∈ [x], Short s := by
  intro s hs
  simp only [List.mem_cons, List.not_mem_nil, or_false] at hs
  subst hs; exact hx
theorem list_forms {w : World} {B : Nat} {l : List Int} {v0 v1 v2 v3 v4 : Value} (h : DocIn w B (listD l) v0 v1 v2 v3 v4) : ∃ A3 c3 A4 c4, v0 = .int .i64 3 ∧ v1 = .int .i64 0 ∧ v2 = .string ⟨#[]⟩ ∧ v3 = .slice A3 0 c3 ∧ v4 = .slice A4 l.length c4 := by
  obtain ⟨A3, c3, A4, c4, e0, e1, e2, e3, e4⟩ := h.forms
  exact ⟨A3, c3, A4, c4, e0, e1, e2, e3, by simpa [listD, D.kids] using e4⟩
theorem num_forms {w : World} {B : Nat} {n : Int} {v0 v1 v2 v3 v4 : Value} (h : DocIn w B (numD n) v0 v1 v2 v3 v4) : ∃ A3 c3 A4 c4, v0 = .int .i64 4 ∧ v1 = .int .i64 n ∧ v2 = .string ⟨#[]⟩ ∧ v3 = .slice A3 0 c3 ∧ v4 = .slice A4 0 c4 := by
  obtain ⟨A3, c3, A4, c4, e0, e1, e2, e3, e4⟩ := h.forms
  exact ⟨A3, c3, A4, c4, e0, e1, e2, e3, e4⟩
theorem get1 {W : World} {b m : Nat} {l : List Int} {v : Value} (hb : b = W.heap.size) (hl : l.length ≤ 9) (hm : m < l.length) (hg : Glob W) (hd : DocV W W.heap.size (listD l) v) :
    Calls Tryd.prog 11 #[v, .slice (some ⟨b, 0, none⟩) 1 1] (W.alloc (.cells #[.string (dig m)] 9)) (fun e w' => ∃ A3 c3 A4 c4, e = .returned (.tuple #[.agg #[.int .i64 4, .int .i64 l[m], .string ⟨#[]⟩, .slice A3 0 c3, .slice A4 0 c4], .bool true]) ∧
      DocIn w' w'.heap.size (numD l[m]) (.int .i64 4) (.int .i64 l[m]) (.string ⟨#[]⟩) (.slice A3 0 c3) (.slice A4 0 c4) ∧ Below W.heap.size W w') := by
  subst hb
  have h := get_v (ps := [dig m]) (list_fit (l := l) (by omega)) (by simp) (shorts1 (dig_short m)) (hg.alloc _) (Nat.le_refl _) (docv_alloc (.cells #[.string (dig m)] 9) hd) (path1 (by simp) (cell_of_row _ _ 0 _ _ _ (heap_alloc_new W _)))
  rw [get_dig (by omega) hm] at h
  refine h.mono fun e w' h' => ?_
  obtain ⟨v0, v1, v2, v3, v4, F, rfl, ho, _, hb1⟩ := h'
  obtain ⟨A3, c3, A4, c4, rfl, rfl, rfl, rfl, rfl⟩ := num_forms ho.doc
  exact ⟨A3, c3, A4, c4, rfl, ho.doc, below_al hb1⟩
theorem drop1 {W : World} {b m : Nat} {l : List Int} {v : Value} (hb : b = W.heap.size) (hl : l.length ≤ 9) (hm : m < l.length) (hg : Glob W) (hd : DocV W W.heap.size (listD l) v) :
    Calls Tryd.prog 13 #[v, .slice (some ⟨b, 0, none⟩) 1 1] (W.alloc (.cells #[.string (dig m)] 9)) (fun e w' => ∃ A3 c3 A4 c4, e = .returned (.tuple #[.agg #[.int .i64 3, .int .i64 0, .string ⟨#[]⟩, .slice A3 0 c3, .slice A4 (l.length - 1) c4], .int .i64 0]) ∧
      DocIn w' w'.heap.size (listD (l.take m ++ l.drop (m + 1))) (.int .i64 3) (.int .i64 0) (.string ⟨#[]⟩) (.slice A3 0 c3) (.slice A4 (l.length - 1) c4) ∧ Below W.heap.size W w') := by
  subst hb
  have h := drop_v (ps := [dig m]) (list_fit (l := l) (by omega)) (by simp) (shorts1 (dig_short m)) (hg.alloc _) (Nat.le_refl _) (docv_alloc (.cells #[.string (dig m)] 9) hd) (path1 (by simp) (cell_of_row _ _ 0 _ _ _ (heap_alloc_new W _)))
  rw [drop_dig (by omega) hl hm] at h
  refine h.mono fun e w' h' => ?_
  obtain ⟨v0, v1, v2, v3, v4, F, rfl, ho, _, hb1⟩ := h'
  have e : (l.take m ++ l.drop (m + 1)).length = l.length - 1 := by simp; omega
  obtain ⟨A3, c3, A4, c4, rfl, rfl, rfl, rfl, rfl⟩ := list_forms ho.doc
  have hd := ho.doc
  rw [e] at hd ⊢
  exact ⟨A3, c3, A4, c4, rfl, hd, below_al hb1⟩
theorem put1 {W w1 : World} {b : Nat} {l : List Int} {x : Int} {v u : Value} (hl : l.length ≤ 9) (hg : Glob W) (hW : Below W.heap.size W w1) (hd : DocV W W.heap.size (listD l) v) (hz : DocV w1 w1.heap.size (numD x) u) (hp : Strs w1 w1.heap.size (.slice (some ⟨b, 0, none⟩) 1 1) [dig l.length]) :
    Calls Tryd.prog 10 #[v, u, .slice (some ⟨b, 0, none⟩) 1 1] w1 (fun e w' => ∃ A3 c3 A4 c4 F, e = .returned (.tuple #[.agg #[.int .i64 3, .int .i64 0, .string ⟨#[]⟩, .slice A3 0 c3, .slice A4 (l.length + 1) c4], .int .i64 0]) ∧
      OwnIn w' w1.heap.size (listD (l ++ [x])) (.int .i64 3) (.int .i64 0) (.string ⟨#[]⟩) (.slice A3 0 c3) (.slice A4 (l.length + 1) c4) F ∧ Below w1.heap.size w1 w') := by
  have h := put_old (ps := [dig l.length]) (list_fit (l := l) (by omega)) (num_fit x) (by simp) (shorts1 (dig_short _)) (glob_of hg hW) (Nat.le_refl _) (hd.keep hW.size fun _ hp => hW.cell hp) hz hp (old_list l _)
  rw [put_dig hl] at h
  refine h.mono fun e w' h' => ?_
  obtain ⟨v0, v1, v2, v3, v4, F, rfl, ho, _, hb1⟩ := h'
  have e : (l ++ [x]).length = l.length + 1 := by simp
  obtain ⟨A3, c3, A4, c4, rfl, rfl, rfl, rfl, rfl⟩ := list_forms ho.doc
  rw [e] at ho ⊢
  exact ⟨A3, c3, A4, c4, F, rfl, ho, hb1⟩
theorem five_keep {w9 w' : World} {b1 : Nat} {d : D} {v0 v1 v2 v3 v4 : Value} (hb : Below w9.heap.size w9 w') (hd : Held w9 b1 d v0 v1 v2 v3 v4) :
    w'.cell? ⟨b1, 0, none⟩ = some v0 ∧ w'.cell? ⟨b1, 1, none⟩ = some v1 ∧ w'.cell? ⟨b1, 2, none⟩ = some v2 ∧ w'.cell? ⟨b1, 3, none⟩ = some v3 ∧ w'.cell? ⟨b1, 4, none⟩ = some v4 := (hd.next hb).box.cells
def MidL (w9 : World) (l : List Int) (s14 s15 : Value) (wx : World) : Prop :=
  ∃ b A c A' c', s14 = .pointer (some ⟨b, 0, none⟩) ∧ s15 = .int .i64 0 ∧ Held wx b (listD l) (.int .i64 3) (.int .i64 0) (.string ⟨#[]⟩) (.slice A 0 c) (.slice A' l.length c') ∧ Below w9.heap.size w9 wx

theorem num_any {W W' : World} {B B' : Nat} {n : Int} {v0 v1 v2 v3 v4 : Value} (h : DocIn W B (numD n) v0 v1 v2 v3 v4) : DocIn W' B' (numD n) v0 v1 v2 v3 v4 := by
  simp only [numD, DocIn] at h ⊢
  obtain ⟨h0, h1, h2, ⟨A, c, e, hc, _⟩, A', c', e', hc', _⟩ := h
  exact ⟨h0, h1, h2, ⟨A, c, e, hc, fun h => by simp at h⟩, A', c', e', hc', fun h => by simp at h⟩
theorem zero_box {W : World} {g o : Nat} {n : Int} (h : Box5 W g (.int .i64 0) (.int .i64 0) (.string ⟨#[]⟩) (.slice none 0 0) (.slice none 0 0)) (hn : n ≠ 0) : W.cell? ⟨g, o, none⟩ ≠ some (.int .i64 n) := by
  obtain ⟨c0, c1, c2, c3, c4⟩ := h.cells
  intro hc
  match o with
  | 0 => rw [c0] at hc; simp at hc; exact hn hc.symm
  | 1 => rw [c1] at hc; simp at hc; exact hn hc.symm
  | 2 => rw [c2] at hc; simp at hc
  | 3 => rw [c3] at hc; simp at hc
  | 4 => rw [c4] at hc; simp at hc
  | k + 5 =>
    unfold Box5 at h
    unfold World.cell? at hc
    rw [h] at hc
    simp at hc
theorem list_box {W : World} {g : Nat} {L : List Int} {A A' : Option Addr} {c c' : Nat} (hp : DocIn W W.heap.size (listD L) (.int .i64 3) (.int .i64 0) (.string ⟨#[]⟩) (.slice A 0 c) (.slice A' L.length c'))
    (hb : Box5 W g (.int .i64 0) (.int .i64 0) (.string ⟨#[]⟩) (.slice none 0 0) (.slice none 0 0)) :
    Held (((((W.setCell ⟨g, 0, none⟩ (.int .i64 3)).setCell ⟨g, 1, none⟩ (.int .i64 0)).setCell ⟨g, 2, none⟩ (.string ⟨#[]⟩)).setCell ⟨g, 3, none⟩ (.slice A 0 c)).setCell ⟨g, 4, none⟩ (.slice A' L.length c')) g (listD L) (.int .i64 3) (.int .i64 0) (.string ⟨#[]⟩) (.slice A 0 c) (.slice A' L.length c') := by
  refine ⟨((((hb.set0 _).set1 _).set2 _).set3 _).set4 _, ?_⟩
  have hc : ∀ b n, b ≠ g → (((((W.setCell ⟨g, 0, none⟩ (.int .i64 3)).setCell ⟨g, 1, none⟩ (.int .i64 0)).setCell ⟨g, 2, none⟩ (.string ⟨#[]⟩)).setCell ⟨g, 3, none⟩ (.slice A 0 c)).setCell ⟨g, 4, none⟩ (.slice A' L.length c')).cell? ⟨b, n, none⟩ = W.cell? ⟨b, n, none⟩ := fun b n hne => by
    rw [World.cell?_setCell_far _ _ _ _ (Ne.symm hne), World.cell?_setCell_far _ _ _ _ (Ne.symm hne), World.cell?_setCell_far _ _ _ _ (Ne.symm hne), World.cell?_setCell_far _ _ _ _ (Ne.symm hne), World.cell?_setCell_far _ _ _ _ (Ne.symm hne)]
  have hk := hp.kids_
  simp only [listD, D.kids, List.length_map] at hk
  simp only [listD, DocIn, List.length_map]
  refine ⟨trivial, trivial, trivial, ⟨A, c, rfl, Nat.zero_le _, fun h => by simp at h⟩, A', c', rfl, hk.2.1, fun h => ?_⟩
  obtain ⟨b0, off, e, hlt, hin⟩ := hk.2.2 h
  have hne : b0 ≠ g := by
    rintro rfl
    obtain ⟨u0, u1, u2, u3, u4, x0, _, _, _, _, hd⟩ := KidsIn.at_ hin 0 (by simpa using h)
    rw [List.getElem_map] at hd
    obtain ⟨_, _, _, _, rfl, _⟩ := num_forms hd
    exact zero_box hb (by decide) x0
  refine ⟨b0, off, e, by simpa using hlt, KidsIn.of_at fun k hk' => ?_⟩
  obtain ⟨u0, u1, u2, u3, u4, x0, x1, x2, x3, x4, hd⟩ := KidsIn.at_ hin k hk'
  rw [List.getElem_map] at hd ⊢
  exact ⟨u0, u1, u2, u3, u4, (hc _ _ hne).trans x0, (hc _ _ hne).trans x1, (hc _ _ hne).trans x2, (hc _ _ hne).trans x3, (hc _ _ hne).trans x4, num_any hd⟩
theorem list_kid {W : World} {B : Nat} {L : List Int} {v0 v1 v2 v3 : Value} {A' : Option Addr} {n c' : Nat} (hp : DocIn W B (listD L) v0 v1 v2 v3 (.slice A' n c')) {k : Nat} (hk : k < L.length) :
    ∃ b off, A' = some ⟨b, off, none⟩ ∧ b < B ∧ W.cell? ⟨b, off + k * 5 + 1, none⟩ = some (.int .i64 L[k]) := by
  have h := hp.kids_
  simp only [listD, D.kids, List.length_map] at h
  obtain ⟨b, off, e, hlt, hin⟩ := h.2.2 (by omega)
  obtain ⟨u0, u1, u2, u3, u4, _, x1, _, _, _, hd⟩ := KidsIn.at_ hin k (by simpa using hk)
  rw [List.getElem_map] at hd
  obtain ⟨_, _, _, _, rfl, rfl, _⟩ := num_forms hd
  rw [Nat.zero_add] at x1
  exact ⟨b, off, e, hlt, x1⟩
/-- What is known of each operation of Put's statement. -/
def PutPhi (w9 : World) (l : List Int) (x : Int) (VD SL : Value) : Nat → Value → World → Prop
  | 0, v, _ => v = VD
  | 1, v, _ => v = .int .i64 x
  | 2, v, _ => v = .agg #[.int .i64 4, .int .i64 x, .string ⟨#[]⟩, .slice none 0 0, .slice none 0 0]
  | 3, v, _ => v = SL
  | 4, v, _ => v = .int .i64 (l.length : Int)
  | 5, v, _ => v = .int .i64 (48 + (l.length : Int))
  | 6, v, _ => v = .int .u8 (48 + (l.length : Int))
  | 7, v, w => ∃ g, v = .slice (some ⟨g, 0, none⟩) 1 1 ∧ g < w.heap.size ∧ w.cell? ⟨g, 0, none⟩ = some (.int .u8 (48 + (l.length : Int)))
  | 8, v, _ => v = .string (dig l.length)
  | 9, v, w => ∃ g, v = .slice (some ⟨g, 0, none⟩) 1 1 ∧ g < w.heap.size ∧ w.cell? ⟨g, 0, none⟩ = some (.string (dig l.length))
  | 10, v, w => ∃ A3 c3 A4 c4, v = .tuple #[.agg #[.int .i64 3, .int .i64 0, .string ⟨#[]⟩, .slice A3 0 c3, .slice A4 (l.length + 1) c4], .int .i64 0] ∧ DocIn w w.heap.size (listD (l ++ [x])) (.int .i64 3) (.int .i64 0) (.string ⟨#[]⟩) (.slice A3 0 c3) (.slice A4 (l.length + 1) c4)
  | 11, v, w => ∃ A3 c3 A4 c4, v = .tuple #[.agg #[.int .i64 3, .int .i64 0, .string ⟨#[]⟩, .slice A3 0 c3, .slice A4 (l.length + 1) c4], .int .i64 0] ∧ DocIn w w.heap.size (listD (l ++ [x])) (.int .i64 3) (.int .i64 0) (.string ⟨#[]⟩) (.slice A3 0 c3) (.slice A4 (l.length + 1) c4)
  | 12, v, w => ∃ A3 c3 A4 c4, v = .agg #[.int .i64 3, .int .i64 0, .string ⟨#[]⟩, .slice A3 0 c3, .slice A4 (l.length + 1) c4] ∧ DocIn w w.heap.size (listD (l ++ [x])) (.int .i64 3) (.int .i64 0) (.string ⟨#[]⟩) (.slice A3 0 c3) (.slice A4 (l.length + 1) c4)
  | 13, v, _ => v = .int .i64 0
  | 14, v, w => ∃ g, v = .pointer (some ⟨g, 0, none⟩) ∧ w9.heap.size ≤ g ∧ Box5 w g (.int .i64 0) (.int .i64 0) (.string ⟨#[]⟩) (.slice none 0 0) (.slice none 0 0)
  | _, _, _ => True
theorem put_stable (w9 : World) (l : List Int) (x : Int) (VD SL : Value) : ∀ i v w w', PutPhi w9 l x VD SL i v w → Below w.heap.size w w' → PutPhi w9 l x VD SL i v w' := by
  intro i v w w' h hb
  have hz := hb.size
  have hD : ∀ {A3 A4 : Option Addr} {c3 c4 : Nat}, DocIn w w.heap.size (listD (l ++ [x])) (.int .i64 3) (.int .i64 0) (.string ⟨#[]⟩) (.slice A3 0 c3) (.slice A4 (l.length + 1) c4) → DocIn w' w'.heap.size (listD (l ++ [x])) (.int .i64 3) (.int .i64 0) (.string ⟨#[]⟩) (.slice A3 0 c3) (.slice A4 (l.length + 1) c4) := fun h => h.keep hz fun p hp => hb.cell hp
  match i, h with
  | 0, h => exact h
  | 1, h => exact h
  | 2, h => exact h
  | 3, h => exact h
  | 4, h => exact h
  | 5, h => exact h
  | 6, h => exact h
  | 7, ⟨g, e, h1, h2⟩ => exact ⟨g, e, by omega, (hb.cell (p := ⟨g, 0, none⟩) h1).trans h2⟩
  | 8, h => exact h
  | 9, ⟨g, e, h1, h2⟩ => exact ⟨g, e, by omega, (hb.cell (p := ⟨g, 0, none⟩) h1).trans h2⟩
  | 10, ⟨A3, c3, A4, c4, e, h⟩ => exact ⟨A3, c3, A4, c4, e, hD h⟩
  | 11, ⟨A3, c3, A4, c4, e, h⟩ => exact ⟨A3, c3, A4, c4, e, hD h⟩
  | 12, ⟨A3, c3, A4, c4, e, h⟩ => exact ⟨A3, c3, A4, c4, e, hD h⟩
  | 13, h => exact h
  | 14, ⟨g, e, h1, h2⟩ => exact ⟨g, e, h1, h2.same (hb.block g h2.lt)⟩
  | n + 15, _ => trivial
set_option maxHeartbeats 8000000 in
set_option maxRecDepth 100000 in
theorem lists_in (l : List Int) (b off c m : Nat) (x : Int) (w : World) (hg : Glob w) (hl : l.length ≤ 9) (hm : m < l.length) (_hc : l.length ≤ c) (hb : b < w.heap.size)
    (hcell : ∀ (i : Nat) (h : i < l.length), w.cell? ⟨b, off + i, none⟩ = some (.int .i64 l[i])) :
    Calls Tryd.prog 7 #[.slice (some ⟨b, off, none⟩) l.length c, .int .i64 (m : Int), .int .i64 x] w fun e w' => e = .returned (.bool true) ∧ Below w.heap.size w w' := by
  have HG := Lib.hid hg; have HC := Lib.hid hcell; clear hg hcell
  have h0 : decide ((9 : Int) < (l.length : Int)) = false := decide_eq_false (by omega)
  have h1 : decide ((m : Int) < 0) = false := decide_eq_false (by omega)
  have h2 : decide (l.length ≤ m) = false := decide_eq_false (by omega)
  obtain ⟨i0, hi, hz0, hz1, hz2⟩ := info_parts infoD
  have HI := Lib.hid hi; have HZ0 := Lib.hid hz0; have HZ1 := Lib.hid hz1; have HZ2 := Lib.hid hz2
  clear hi hz0 hz1 hz2
  have hcv := conv_dig (show m ≤ 9 by omega)
  have hcw := conv_dig hl
  go_enter Tryd.func7, Tryd.ntmps7
  go_wp2_with fail
  refine (small_v _ HG.out).mono ?_
  rintro e w1 ⟨rfl, hb1⟩
  have HB1 := Lib.hid hb1; have hs1 := hb1.size; clear hb1
  go_wp2_with fail
  go_loopw [8, 9] (fun u i wr => ∃ (k : Nat) (cs : List Value) (F : List Nat), k ≤ l.length ∧ i = .int .i64 k ∧ wr.ownsRow w1.heap.size 25 5 u k cs ∧ OwnKids wr w1.heap.size ((l.map numD).take k) cs F ∧ (blk u ++ F).Nodup ∧ Below w1.heap.size w1 wr) (fun _ i _ => l.length - (intOf i).toNat)
  case atStart => exact ⟨0, [], [], Nat.zero_le _, rfl, World.ownsRow_nil _ _ _ _, by simp [OwnKids], by simp [blk, Value.ownBlock], Below.refl _ _⟩
  case round =>
    obtain ⟨k, cs, F, hk, rfl, hown, hokids, hnd, hbw⟩ := hrel
    have HO := Lib.hid hown; have HOK := Lib.hid hokids; have HND := Lib.hid hnd
    clear hown hokids hnd
    have hz := hbw.size
    by_cases hlt : k < l.length
    · have hck : wr.cell? ⟨b, off + k, none⟩ = some (.int .i64 l[k]) := ((hbw.cell (p := ⟨b, off + k, none⟩) (by show b < w1.heap.size; omega)).trans (HB1.out.cell (p := ⟨b, off + k, none⟩) hb)).trans (HC.out k hlt)
      go_wp2_with fail
      refine (int_x _ _).mono ?_
      rintro e w2 ⟨rfl, hb3⟩
      have hz2 := hb3.size
      have hg : OwnIn w2 (wr.heap.size + 1) ((l.map numD)[k]'(by simpa using hlt)) (.int .i64 4) (.int .i64 l[k]) (.string ⟨#[]⟩) (.slice none 0 0) (.slice none 0 0) [] := by
        rw [List.getElem_map]; exact own_nokids 4 l[k] ⟨#[]⟩
      have HG := Lib.hid hg; clear hg
      have hO2 : Hid (w2.ownsRow w1.heap.size 25 5 u8 k cs) := ownsRow_same HO.out fun j hj => hb3.block j (HO.out.lt j (blk_mem.1 hj)).2
      go_wp2_with (at_builtin; refine wpList_append_lies _ rfl _ _ 23 rfl w1.heap.size 25 i0 (.agg #[.int .i64 0, .int .i64 0, .string ByteArray.empty, .slice none 0 0, .slice none 0 0]) 5 80 Tryd.underlying23 HI.out HZ0.out HZ1.out HZ2.out (by rfl) (by omega) _ k cs rfl (hO2.out.alloc _) ⟨w2.heap.size, 0, none⟩ 1 _ [.int .i64 4, .int .i64 l[k], .string ⟨#[]⟩, .slice none 0 0, .slice none 0 0] rfl rfl (World.news_of_block (heap_alloc_new w2 _)) (oneCell_agg HG.out.doc) (by omega) (by unfold maxLen; omega) (by omega) (by simp; omega) (w2.heap.size + 1) (by simp) ?_; intro g cap w3 hown3 hgrow3 hat3 hlt3)
      go_roundw
      case rel =>
        obtain ⟨r1, r2, r3⟩ := push_rel (n := k + 1) (cap := cap) (l := l.map numD) (by simpa using hlt) HND.out HO.out HOK.out hbw (by omega) hb3 HG.out List.nodup_nil _ hgrow3 hat3
        exact ⟨k + 1, _, _, by omega, by go_num, hown3, r1, r2, r3⟩
      case measure => simp [intOf]; omega
    · have hkl : k = l.length := by omega
      have HR : Hid (KidSt w1 wr l u8 cs F) := ⟨by rw [← hkl]; exact HO.out, by have := HOK.out; rwa [List.take_of_length_le (by simp; omega)] at this, HND.out, hbw⟩
      clear hkl HO HOK HND
      have hkv := kids_v (OwnIn.make (w := wr) (base := w1.heap.size) (d := listD l) (v3 := .slice none 0 0) (World.ownsRow_nil _ _ _ _) (by simpa [listD, D.kids] using HR.out.own) HR.out.kids).doc
      have HKV := Lib.hid hkv; clear hkv
      go_wp2_with fail
      refine (list_v (l.map numD) u8 wr wr.heap.size (by simp; omega) (nums_fit l) (Nat.le_refl _) HKV.out).mono ?_
      rintro e w2 ⟨v0, v1, v2, v3, v4, F2, rfl, ho, _, hb2⟩
      have ho' : OwnIn w2 wr.heap.size (listD l) v0 v1 v2 v3 v4 F2 := ho
      obtain ⟨A3, c3, A4, c4, rfl, rfl, rfl, rfl, rfl⟩ := list_forms ho'.doc
      have HG2 := Lib.hid (((HG.out.below ((HB1.out.trans (hbw.mono HB1.out.size)).trans (hb2.mono (by omega))) HG.out.size).alloc (.cells #[.int .i64 3, .int .i64 0, .string ⟨#[]⟩, .slice A3 0 c3, .slice A4 l.length c4] 25)).alloc (.cells #[.int .u8 (48 + (m : Int))] 5))
      have HB2 := Lib.hid ((((HB1.out.trans (hbw.mono HB1.out.size)).trans (hb2.mono (by omega))).alloc (by have := hb2.size; omega) (.cells #[.int .i64 3, .int .i64 0, .string ⟨#[]⟩, .slice A3 0 c3, .slice A4 l.length c4] 25)).alloc (by have := hb2.size; simp; omega) (.cells #[.int .u8 (48 + (m : Int))] 5))
      have HD2 := Lib.hid ((Held.new ho'.doc).alloc (.cells #[.int .u8 (48 + (m : Int))] 5))
      clear ho ho' hb2 hbw HR HKV HG HB1
      go_wp2_with fail
      refine (get1 (by simp) hl hm HG2.out HD2.out.v).mono ?_
      rintro e w3 ⟨A5, c5, A6, c6, rfl, hx, hb3⟩
      have HG3 := Lib.hid ((glob_of HG2.out hb3).alloc (.cells #[.int .i64 4, .int .i64 l[m], .string ⟨#[]⟩, .slice A5 0 c5, .slice A6 0 c6] 25))
      have HD3 := Lib.hid ((HD2.out.next hb3).alloc (.cells #[.int .i64 4, .int .i64 l[m], .string ⟨#[]⟩, .slice A5 0 c5, .slice A6 0 c6] 25))
      have HX3 := Lib.hid (Held.new hx)
      have HB3 := Lib.hid ((HB2.out.trans (hb3.mono HB2.out.size)).alloc (by have := HB2.out.size; have := hb3.size; omega) (.cells #[.int .i64 4, .int .i64 l[m], .string ⟨#[]⟩, .slice A5 0 c5, .slice A6 0 c6] 25))
      clear hx hb3 HG2 HB2 HD2
      go_upto_region 12 with fail
      generalize w3.alloc (.cells #[.int .i64 4, .int .i64 l[m], .string ⟨#[]⟩, .slice A5 0 c5, .slice A6 0 c6] 25) = w9 at HG3 HD3 HX3 HB3 ⊢
      have l2 := HD3.out.lt
      have l3 := HX3.out.lt
      have S0 := five_keep (Below.refl _ _) HD3.out
      go_cut [14, 15] (fun s14 s15 wx => MidL w9 (l ++ [x]) s14 s15 wx)
      case first =>
        have hwi : IntKind.i64.wrap (48 + (l.length : Int)) = 48 + (l.length : Int) := IntWalk.i64_in _ (by omega)
        have hwu : IntKind.u8.wrap (48 + (l.length : Int)) = 48 + (l.length : Int) := IntWalk.u8_in _ (by omega)
        have W9 : ∀ wq : World, Below w9.drew.heap.size w9.drew wq → Below w9.heap.size w9 wq := fun wq h => (Below.refl _ _).drew.trans h
        have HW9 := Lib.hid W9; clear W9
        refine wp_region_grow_calm 15 157 [false, false, false, false, false, false, false, false, false, false, false, false, false, true, false] (PutPhi w9 l x (.agg #[.int .i64 3, .int .i64 0, .string ⟨#[]⟩, .slice A3 0 c3, .slice A4 l.length c4]) (.slice (some ⟨b, off, none⟩) l.length c)) (by kernel_rfl) (by kernel_rfl) rfl (put_stable _ _ _ _ _) ?_ ?_
        · simp only [List.take_succ_cons, List.take_zero]
          refine ⟨?_, ?_, ?_, ?_, ?_, ?_, ?_, ?_, ?_, ?_, ?_, ?_, ?_, ?_, ?_, trivial⟩
          · intro vs wq hq hdep K hK
            simp only [depFacts, putAll, Act.put, List.setIfInBounds_toArray, List.set_cons_zero, List.set_cons_succ, Nat.zero_add, Nat.reduceAdd] at hdep hK ⊢
            obtain ⟨z0, z1, z2, z3, z4⟩ := five_keep (HW9.out wq hq) HD3.out
            go_simp
            exact hK _ _ (Below.refl _ _) rfl
          · intro vs wq hq hdep K hK
            simp only [depFacts, putAll, Act.put, List.setIfInBounds_toArray, List.set_cons_zero, List.set_cons_succ, Nat.zero_add, Nat.reduceAdd] at hdep hK ⊢
            go_simp
            exact hK _ _ (Below.refl _ _) rfl
          · intro vs wq hq hdep K hK
            simp only [depFacts, putAll, Act.put, List.setIfInBounds_toArray, List.set_cons_zero, List.set_cons_succ, Nat.zero_add, Nat.reduceAdd] at hdep hK ⊢
            have h1 : vs 1 = .int .i64 x := hdep.1 rfl
            rw [h1] at hK ⊢
            go_simp
            go_at_call 19
            refine (int_x _ _).mono ?_
            rintro e w' ⟨rfl, hb⟩
            exact hK _ _ hb rfl
          · intro vs wq hq hdep K hK
            simp only [depFacts, putAll, Act.put, List.setIfInBounds_toArray, List.set_cons_zero, List.set_cons_succ, Nat.zero_add, Nat.reduceAdd] at hdep hK ⊢
            go_simp
            exact hK _ _ (Below.refl _ _) rfl
          · intro vs wq hq hdep K hK
            simp only [depFacts, putAll, Act.put, List.setIfInBounds_toArray, List.set_cons_zero, List.set_cons_succ, Nat.zero_add, Nat.reduceAdd] at hdep hK ⊢
            have h1 : vs 3 = .slice (some ⟨b, off, none⟩) l.length c := hdep.1 rfl
            rw [h1] at hK ⊢
            go_simp
            exact hK _ _ (Below.refl _ _) rfl
          · intro vs wq hq hdep K hK
            simp only [depFacts, putAll, Act.put, List.setIfInBounds_toArray, List.set_cons_zero, List.set_cons_succ, Nat.zero_add, Nat.reduceAdd] at hdep hK ⊢
            have h1 : vs 4 = .int .i64 (l.length : Int) := hdep.1 rfl
            rw [h1] at hK ⊢
            go_simp
            exact hK _ _ (Below.refl _ _) rfl
          · intro vs wq hq hdep K hK
            simp only [depFacts, putAll, Act.put, List.setIfInBounds_toArray, List.set_cons_zero, List.set_cons_succ, Nat.zero_add, Nat.reduceAdd] at hdep hK ⊢
            have h1 : vs 5 = .int .i64 (48 + (l.length : Int)) := hdep.1 rfl
            rw [h1] at hK ⊢
            go_simp
            exact hK _ _ (Below.refl _ _) rfl
          · intro vs wq hq hdep K hK
            simp only [depFacts, putAll, Act.put, List.setIfInBounds_toArray, List.set_cons_zero, List.set_cons_succ, Nat.zero_add, Nat.reduceAdd] at hdep hK ⊢
            have h1 : vs 6 = .int .u8 (48 + (l.length : Int)) := hdep.1 rfl
            rw [h1] at hK ⊢
            go_simp
            exact hK _ _ ((Below.refl _ _).alloc (Nat.le_refl _) _) ⟨wq.heap.size, rfl, by simp, cell_of_row _ _ 0 _ _ _ (heap_alloc_new wq _)⟩
          · intro vs wq hq hdep K hK
            simp only [depFacts, putAll, Act.put, List.setIfInBounds_toArray, List.set_cons_zero, List.set_cons_succ, Nat.zero_add, Nat.reduceAdd] at hdep hK ⊢
            obtain ⟨g, h1, h2, h3⟩ : ∃ g, vs 7 = .slice (some ⟨g, 0, none⟩) 1 1 ∧ g < wq.heap.size ∧ wq.cell? ⟨g, 0, none⟩ = some (.int .u8 (48 + (l.length : Int))) := hdep.1 rfl
            rw [h1] at hK ⊢
            go_simp
            exact hK _ _ (Below.refl _ _) rfl
          · intro vs wq hq hdep K hK
            simp only [depFacts, putAll, Act.put, List.setIfInBounds_toArray, List.set_cons_zero, List.set_cons_succ, Nat.zero_add, Nat.reduceAdd] at hdep hK ⊢
            have h1 : vs 8 = .string (dig l.length) := hdep.1 rfl
            rw [h1] at hK ⊢
            go_simp
            exact hK _ _ ((Below.refl _ _).alloc (Nat.le_refl _) _) ⟨wq.heap.size, rfl, by simp, cell_of_row _ _ 0 _ _ _ (heap_alloc_new wq _)⟩
          · intro vs wq hq hdep K hK
            simp only [depFacts, putAll, Act.put, List.setIfInBounds_toArray, List.set_cons_zero, List.set_cons_succ, Nat.zero_add, Nat.reduceAdd] at hdep hK ⊢
            have h0 : vs 0 = (.agg #[.int .i64 3, .int .i64 0, .string ⟨#[]⟩, .slice A3 0 c3, .slice A4 l.length c4]) := hdep.1 rfl
            have h1 : vs 2 = .agg #[.int .i64 4, .int .i64 x, .string ⟨#[]⟩, .slice none 0 0, .slice none 0 0] := hdep.2.1 rfl
            obtain ⟨g, h2, h3, h4⟩ : ∃ g, vs 9 = .slice (some ⟨g, 0, none⟩) 1 1 ∧ g < wq.heap.size ∧ wq.cell? ⟨g, 0, none⟩ = some (.string (dig l.length)) := hdep.2.2.1 rfl
            rw [h0, h1, h2] at hK ⊢
            go_simp
            go_at_call 10
            refine (put1 (W := w9) hl HG3.out (HW9.out wq hq) HD3.out.v ⟨_, _, _, _, _, rfl, leaf_in _ _ 4 x _⟩ (path1 h3 h4)).mono ?_
            rintro e w' ⟨A7, c7, A8, c8, FY, rfl, hy, hb⟩
            exact hK _ _ hb ⟨A7, c7, A8, c8, rfl, hy.doc⟩
          · intro vs wq hq hdep K hK
            simp only [depFacts, putAll, Act.put, List.setIfInBounds_toArray, List.set_cons_zero, List.set_cons_succ, Nat.zero_add, Nat.reduceAdd] at hdep hK ⊢
            obtain ⟨A7, c7, A8, c8, h1, h2⟩ : ∃ A3 c3 A4 c4, vs 10 = .tuple #[.agg #[.int .i64 3, .int .i64 0, .string ⟨#[]⟩, .slice A3 0 c3, .slice A4 (l.length + 1) c4], .int .i64 0] ∧ DocIn wq wq.heap.size (listD (l ++ [x])) (.int .i64 3) (.int .i64 0) (.string ⟨#[]⟩) (.slice A3 0 c3) (.slice A4 (l.length + 1) c4) := hdep.1 rfl
            rw [h1] at hK ⊢
            go_simp
            exact hK _ _ (Below.refl _ _) ⟨A7, c7, A8, c8, rfl, h2⟩
          · intro vs wq hq hdep K hK
            simp only [depFacts, putAll, Act.put, List.setIfInBounds_toArray, List.set_cons_zero, List.set_cons_succ, Nat.zero_add, Nat.reduceAdd] at hdep hK ⊢
            obtain ⟨A7, c7, A8, c8, h1, h2⟩ : ∃ A3 c3 A4 c4, vs 11 = .tuple #[.agg #[.int .i64 3, .int .i64 0, .string ⟨#[]⟩, .slice A3 0 c3, .slice A4 (l.length + 1) c4], .int .i64 0] ∧ DocIn wq wq.heap.size (listD (l ++ [x])) (.int .i64 3) (.int .i64 0) (.string ⟨#[]⟩) (.slice A3 0 c3) (.slice A4 (l.length + 1) c4) := hdep.1 rfl
            rw [h1] at hK ⊢
            go_simp
            exact hK _ _ (Below.refl _ _) ⟨A7, c7, A8, c8, rfl, h2⟩
          · intro vs wq hq hdep
            simp only [depFacts, putAll, Act.put, List.setIfInBounds_toArray, List.set_cons_zero, List.set_cons_succ, Nat.zero_add, Nat.reduceAdd] at hdep ⊢
            obtain ⟨A7, c7, A8, c8, h1, h2⟩ : ∃ A3 c3 A4 c4, vs 11 = .tuple #[.agg #[.int .i64 3, .int .i64 0, .string ⟨#[]⟩, .slice A3 0 c3, .slice A4 (l.length + 1) c4], .int .i64 0] ∧ DocIn wq wq.heap.size (listD (l ++ [x])) (.int .i64 3) (.int .i64 0) (.string ⟨#[]⟩) (.slice A3 0 c3) (.slice A4 (l.length + 1) c4) := hdep.1 rfl
            rw [h1]
            refine ⟨.int .i64 0, fun w' => ?_, rfl⟩
            go_simp
          · intro vs wq hq hdep K hK
            simp only [depFacts, putAll, Act.put, List.setIfInBounds_toArray, List.set_cons_zero, List.set_cons_succ, Nat.zero_add, Nat.reduceAdd] at hdep hK ⊢
            go_simp
            exact hK _ _ ((Below.refl _ _).alloc (Nat.le_refl _) _) ⟨wq.heap.size, rfl, (HW9.out wq hq).size, Box5.new wq _ _ _ _ _⟩
        · intro vs wq hq hall
          simp only [putAll, Act.put, List.setIfInBounds_toArray, List.set_cons_zero, List.set_cons_succ, List.take_succ_cons, List.take_zero, List.drop_succ_cons, List.drop_zero, allFacts, Nat.zero_add, Nat.reduceAdd] at hall ⊢
          obtain ⟨_, _, _, _, _, _, _, _, _, _, _, _, f12, f13, f14, _⟩ := hall
          obtain ⟨A7, c7, A8, c8, e12, hp⟩ : ∃ A3 c3 A4 c4, vs 12 = .agg #[.int .i64 3, .int .i64 0, .string ⟨#[]⟩, .slice A3 0 c3, .slice A4 (l.length + 1) c4] ∧ DocIn wq wq.heap.size (listD (l ++ [x])) (.int .i64 3) (.int .i64 0) (.string ⟨#[]⟩) (.slice A3 0 c3) (.slice A4 (l.length + 1) c4) := f12
          have e13 : vs 13 = .int .i64 0 := f13
          obtain ⟨g, e14, hg, hbx⟩ : ∃ g, vs 14 = .pointer (some ⟨g, 0, none⟩) ∧ w9.heap.size ≤ g ∧ Box5 wq g (.int .i64 0) (.int .i64 0) (.string ⟨#[]⟩) (.slice none 0 0) (.slice none 0 0) := f14
          rw [e12, e13, e14]
          have HP := Lib.hid hp; have HBX := Lib.hid hbx; have HG9 := Lib.hid hg; have HQ := Lib.hid (HW9.out wq hq)
          obtain ⟨k0, k1, k2, k3, k4⟩ := hbx.cells
          have k5 := hbx.frozen
          clear hp hbx hg f13
          go_wp2_with fail
          refine NoPanic.normal ?_
          go_wp2_with fail
          go_meet
          refine ⟨g, A7, c7, A8, c8, rfl, rfl, ?_, ?_⟩
          · have := list_box (L := l ++ [x]) (A := A7) (c := c7) (A' := A8) (c' := c8) (by simpa using HP.out) HBX.out
            simpa using this
          · exact (((((HQ.out).setCell (by exact HG9.out) _).setCell (by exact HG9.out) _).setCell (by exact HG9.out) _).setCell (by exact HG9.out) _).setCell (by exact HG9.out) _
      case rest =>
        obtain ⟨bp, P3, p3, P4, p4, rfl, rfl, hP, hbP⟩ := hcut
        have HPc := Lib.hid hP
        have HGc := Lib.hid (glob_of HG3.out hbP)
        have HDc := Lib.hid (HD3.out.next hbP)
        have HXc := Lib.hid (HX3.out.next hbP)
        have HBc := Lib.hid (HB3.out.trans (hbP.mono HB3.out.size))
        obtain ⟨q0, q1, q2, q3, q4⟩ := HDc.out.box.cells
        clear hP hbP HD3 HX3 HB3 S0 HG3 l2 l3
        go_wp2_with fail
        refine (drop1 (by simp) hl hm HGc.out HDc.out.v).mono ?_
        rintro e w4 ⟨Q3, r3, Q4, r4, rfl, hq, hb4⟩
        have HX4 := Lib.hid ((HXc.out.next hb4).alloc (.cells #[.int .i64 3, .int .i64 0, .string ⟨#[]⟩, .slice Q3 0 r3, .slice Q4 (l.length - 1) r4] 25))
        have HP4 := Lib.hid ((HPc.out.next hb4).alloc (.cells #[.int .i64 3, .int .i64 0, .string ⟨#[]⟩, .slice Q3 0 r3, .slice Q4 (l.length - 1) r4] 25))
        have HQ4 := Lib.hid (Held.new hq)
        have HB4 := Lib.hid ((HBc.out.trans (hb4.mono HBc.out.size)).alloc (by have := HBc.out.size; have := hb4.size; omega) (.cells #[.int .i64 3, .int .i64 0, .string ⟨#[]⟩, .slice Q3 0 r3, .slice Q4 (l.length - 1) r4] 25))
        clear q0 q1 q2 q3 q4 hq hb4 HXc HPc HDc HBc HGc
        go_upto_region 14 with fail
        generalize w4.alloc (.cells #[.int .i64 3, .int .i64 0, .string ⟨#[]⟩, .slice Q3 0 r3, .slice Q4 (l.length - 1) r4] 25) = w5 at HX4 HP4 HQ4 HB4 ⊢
        have hx1 := HX4.out.box.cells.2.1
        have hp4 : w5.cell? ⟨bp, 4, none⟩ = some (.slice P4 (l.length + 1) p4) := by simpa using HP4.out.box.cells.2.2.2.2
        have hq4 := HQ4.out.box.cells.2.2.2.2
        have hcm : w5.cell? ⟨b, off + m, none⟩ = some (.int .i64 l[m]) := (HB4.out.cell (p := ⟨b, off + m, none⟩) hb).trans (HC.out m hm)
        have hq1 : (((l.length - 1 : Nat) : Int) != (l.length : Int) - 1) = false := by
          have e : ((l.length - 1 : Nat) : Int) = (l.length : Int) - 1 := by omega
          rw [e]; simp
        have hm0 : (0 : Int) ≤ (m : Int) := by omega
        have hm1 : (m : Int) < (l.length : Int) := by omega
        go_quiet (fail)
        clear hx1 hp4 hq4 hcm hq1
        go_wp2_with fail
        go_loopw [18] (fun i wr => ∃ k : Nat, k ≤ l.length - 1 ∧ i = .int .i64 k ∧ Below w5.heap.size w5 wr) (fun i _ => l.length - (intOf i).toNat)
        case atStart => exact ⟨0, Nat.zero_le _, rfl, below_dr (Below.refl _ _) _⟩
        case round =>
          obtain ⟨k, hk2, rfl, hbw⟩ := hrel
          have HBW := Lib.hid hbw
          have hq4 := (HQ4.out.next hbw).box.cells.2.2.2.2
          by_cases hlt2 : k < l.length - 1
          · have hLl : (l.take m ++ l.drop (m + 1)).length = l.length - 1 := by simp; omega
            obtain ⟨g, o, rfl, hg, hkid⟩ := list_kid (HQ4.out.next hbw).doc (k := k) (by omega)
            have hk3 : (k : Int) < ((l.length - 1 : Nat) : Int) := by omega
            have hk4 : (0 : Int) ≤ (k : Int) := by omega
            by_cases hkm : k < m
            · have e : (l.take m ++ l.drop (m + 1))[k]'(by omega) = l[k]'(by omega) := by rw [List.getElem_append_left (by simp; omega)]; simp
              rw [e] at hkid
              have hcm : wr.cell? ⟨b, off + k, none⟩ = some (.int .i64 (l[k]'(by omega))) := ((hbw.cell (p := ⟨b, off + k, none⟩) (by show b < w5.heap.size; have := HB4.out.size; omega)).trans (HB4.out.cell (p := ⟨b, off + k, none⟩) hb)).trans (HC.out k (by omega))
              have hk5 : (k : Int) < (l.length : Int) := by omega
              have hk6 : decide ((m : Int) ≤ (k : Int)) = false := decide_eq_false (by omega)
              clear hbw
              go_wp2_with fail
              go_quiet (fail)
              go_wp2_with fail
              go_roundw
              case rel => exact ⟨k + 1, by omega, by go_num, below_dr HBW.out _⟩
              case measure => simp [intOf]; omega
            · have e : (l.take m ++ l.drop (m + 1))[k]'(by omega) = l[k + 1]'(by omega) := by
                rw [List.getElem_append_right (by simp; omega)]
                simp only [List.getElem_drop, List.length_take]
                congr 1; omega
              rw [e] at hkid
              have hcm : wr.cell? ⟨b, off + (k + 1), none⟩ = some (.int .i64 (l[k + 1]'(by omega))) := ((hbw.cell (p := ⟨b, off + (k + 1), none⟩) (by show b < w5.heap.size; have := HB4.out.size; omega)).trans (HB4.out.cell (p := ⟨b, off + (k + 1), none⟩) hb)).trans (HC.out (k + 1) (by omega))
              have hcm2 : wr.cell? ⟨b, off + k + 1, none⟩ = some (.int .i64 (l[k + 1]'(by omega))) := hcm
              have hk5 : (k : Int) + 1 < (l.length : Int) := by omega
              have hk7 : (0 : Int) ≤ (k : Int) + 1 := by omega
              have hk6 : decide ((m : Int) ≤ (k : Int)) = true := decide_eq_true (by omega)
              clear hbw
              go_wp2_with fail
              go_quiet (fail)
              go_wp2_with fail
              go_roundw
              case rel => exact ⟨k + 1, by omega, by go_num, below_dr HBW.out _⟩
              case measure => simp [intOf]; omega
          · have hp4 : wr.cell? ⟨bp, 4, none⟩ = some (.slice P4 (l.length + 1) p4) := by simpa using (HP4.out.next hbw).box.cells.2.2.2.2
            obtain ⟨g, o, rfl, hg, hkid⟩ := list_kid (HP4.out.next hbw).doc (k := l.length) (by simp)
            have e : (l ++ [x])[l.length]'(by simp) = x := by simp
            rw [e] at hkid
            clear e hbw
            go_wp2_with fail
            go_ret
            exact ⟨rfl, HB4.out.trans (HBW.out.mono HB4.out.size)⟩
set_option maxHeartbeats 2000000 in
set_option maxRecDepth 100000 in
theorem lists_out (A : Option Addr) (n c : Nat) (k x : Int) (w : World) (hg : Glob w) (h : 9 < n ∨ k < 0 ∨ (n : Int) ≤ k) :
    Calls Tryd.prog 7 #[.slice A n c, .int .i64 k, .int .i64 x] w fun e w' => e = .returned (.bool true) ∧ Below w.heap.size w w' := by
  have HG := Lib.hid hg; clear hg
  by_cases h9 : 9 < n
  · have h0 : decide ((9 : Int) < (n : Int)) = true := decide_eq_true (by omega)
    go_enter Tryd.func7, Tryd.ntmps7
    go_wp2_with fail
    refine (small_v _ HG.out).mono ?_
    rintro e w1 ⟨rfl, hb1⟩
    go_wp2_with fail
    go_ret
    exact ⟨rfl, hb1⟩
  have h0 : decide ((9 : Int) < (n : Int)) = false := decide_eq_false (by omega)
  by_cases hk : k < 0
  · go_enter Tryd.func7, Tryd.ntmps7
    go_wp2_with fail
    refine (small_v _ HG.out).mono ?_
    rintro e w1 ⟨rfl, hb1⟩
    go_wp2_with fail
    go_ret
    exact ⟨rfl, hb1⟩
  have h1 : decide (k < 0) = false := decide_eq_false hk
  have h2 : (n : Int) ≤ k := by omega
  go_enter Tryd.func7, Tryd.ntmps7
  go_wp2_with fail
  refine (small_v _ HG.out).mono ?_
  rintro e w1 ⟨rfl, hb1⟩
  go_wp2_with fail
  go_ret
  exact ⟨rfl, hb1⟩
end Go.Proofs.YtekoicgclkehjaaDoor
