/-
  schema.over, Size and Depth.
-/
import Derived.Test.YtnjmknofojjlmaaDoorOver
import Derived.Test.YtnjmknofojjlmaaDoorName
import Derived.Laws.EntriesVeiled
import Derived.Shelf.Abstract
namespace Go.Proofs.YtnjmknofojjlmaaDoor
open Go.RowKit

set_option maxHeartbeats 2000000 in
set_option maxRecDepth 100000 in
theorem over_any {step : Int → T → Nat → Int × Bool} {G c B : Nat} (eg : ∀ args w, (callFunc G args).run Tryd.prog w = .ok (.enter G args) w) (hsee : Sees step G c B) (hbd : Bounded step) (hBc : B ≤ c) (m : Nat) (n : Int) (t : T) (b o : Nat) (w : World)
    (hm : t.depth ≤ m) (hn : Num w c n) (hn0 : 0 ≤ n) (hn1 : n ≤ 1000) (hk : t.size ≤ 10000) (hd : t.depth ≤ 900) (hf : t.Fit) (hb : b < B) (ht : TypeAt w B b o t) :
    Calls Tryd.prog 20 #[.pointer (some ⟨b, o, none⟩), .func (.func G) #[] #[.pointer (some ⟨c, 0, none⟩)]] w fun e w' => e = .returned (.bool (goT step m n t 1).2) ∧ Num w' c (goT step m n t 1).1 ∧ But c w w' := by
  have hcl := hn.lt
  have HV := Lib.hid fun (W : World) => visit_any (s := w.heap.size) (v := w.heap.size + 1) eg hsee hbd hBc (by omega) (by omega) m n t 1 0 b o W hm
  have hmf : ∀ (fn : Fn) (first cap : Array Value) (w : World), (Instr.makeFunc fn first cap).run Tryd.prog w = .ok (.func fn first cap) w := fun _ _ _ _ => rfl
  have HN := Lib.hid hn; have HT := Lib.hid ht; have HF := Lib.hid hf
  clear hsee hbd hn ht eg hf
  go_enter Tryd.func20, Tryd.ntmps20
  go_wp2_with fail
  have hbl : Below w.heap.size w ((w.alloc (.cells #[.func (.func G) #[] #[.pointer (some ⟨c, 0, none⟩)]] 50)).alloc (.cells #[.func (.func 43) #[] #[.pointer (some ⟨w.heap.size, 0, none⟩), .pointer (some ⟨w.heap.size + 1, 0, none⟩)]] 50)) := ((Below.refl _ _).alloc (Nat.le_refl _) _).alloc (by simp) _
  have HBL := Lib.hid hbl
  clear hbl
  refine (HV.out _ (HN.out.same (HBL.out.block c hcl)) hn0 (by omega) (by omega) (by omega) HF.out hb (HT.out.keep (Nat.le_refl _) (fun p hp => HBL.out.cell (by omega)) hb) (by simp; omega) (by simp) (by go_simp) (by go_simp)).mono ?_
  rintro e w1 ⟨rfl, hn2, hb2, -, -⟩
  have HN2 := Lib.hid hn2
  have HB2 : Hid (But c w w1) := (But.of_below HBL.out).trans hb2
  clear hn2 hb2 HBL
  go_wp2_with fail
  go_ret
  exact ⟨rfl, HN2.out, HB2.out⟩

def sizeStep (n : Int) (_ : T) (_ : Nat) : Int × Bool := (n + 1, true)
def depthStep (n : Int) (_ : T) (d : Nat) : Int × Bool := (max n d, true)
theorem goT_size (m : Nat) : ∀ (n : Int) (t : T) (d : Nat), t.depth ≤ m → goT sizeStep m n t d = (n + t.size, true) := by
  induction m with
  | zero => intro n t d h; have := t.depth_pos; omega
  | succ m ih =>
    intro n t d h
    have key : ∀ (l : List T) (n : Int), (∀ x ∈ l, x.depth ≤ m) → walkL (fun n t => goT sizeStep m n t (d + 1)) n l = (n + T.sizes l, true) := by
      intro l
      induction l with
      | nil => intro n _; simp [walkL, T.sizes]
      | cons x r ihl =>
        intro n hx
        simp only [walkL]
        rw [ih n x (d + 1) (hx x (by simp))]
        simp only [if_true, T.sizes]
        rw [ihl _ fun y hy => hx y (by simp [hy])]
        simp; omega
    unfold goT
    simp only [sizeStep, if_true]
    rw [key _ _ fun x hx => ?_]
    · rw [T.size_eq t]; simp only [T.kids, T.sizes_append]; simp; omega
    · rw [T.depth_eq] at h
      rcases List.mem_append.1 hx with hx | hx <;> (obtain ⟨i, hi, rfl⟩ := List.mem_iff_getElem.1 hx; have := T.depth_le_depths hi; omega)
theorem goT_depth (m : Nat) : ∀ (n : Int) (t : T) (d : Nat), t.depth ≤ m → goT depthStep m n t d = (max n (d + t.depth - 1), true) := by
  induction m with
  | zero => intro n t d h; have := t.depth_pos; omega
  | succ m ih =>
    intro n t d h
    have key : ∀ (l : List T) (n : Int), (d : Int) ≤ n → (∀ x ∈ l, x.depth ≤ m) → walkL (fun n t => goT depthStep m n t (d + 1)) n l = (max n (d + T.depths l), true) := by
      intro l
      induction l with
      | nil => intro n hn _; simp [walkL, T.depths]; omega
      | cons x r ihl =>
        intro n hn hx
        simp only [walkL]
        rw [ih n x (d + 1) (hx x (by simp))]
        simp only [if_true, T.depths]
        rw [ihl _ (by omega) fun y hy => hx y (by simp [hy])]
        have := x.depth_pos
        simp; omega
    unfold goT
    simp only [depthStep, if_true]
    rw [key _ _ (by omega) fun x hx => ?_]
    · rw [T.depth_eq t]; simp only [T.kids, T.depths_append]; simp; omega
    · rw [T.depth_eq] at h
      rcases List.mem_append.1 hx with hx | hx <;> (obtain ⟨i, hi, rfl⟩ := List.mem_iff_getElem.1 hx; have := T.depth_le_depths hi; omega)
set_option maxHeartbeats 1000000 in
theorem sees_size (c B : Nat) : Sees sizeStep 40 c B := by
  intro n t d b o w hn h0 h1 _ _ _ _
  have HN := Lib.hid hn
  have e1 := hn.cell
  have e2 := hn.frozen
  clear hn
  go_enter Tryd.func40, Tryd.ntmps40
  go_wp2_with fail
  go_ret
  exact ⟨rfl, HN.out.set _, (But.refl c w).setCell 0 _⟩
set_option maxHeartbeats 1000000 in
theorem sees_depth (c B : Nat) : Sees depthStep 23 c B := by
  intro n t d b o w hn h0 h1 hd _ _ _
  have HN := Lib.hid hn
  have e1 := hn.cell
  have e2 := hn.frozen
  clear hn
  go_enter Tryd.func23, Tryd.ntmps23
  go_wp2_with fail
  · go_ret
    exact ⟨rfl, by show Num _ c (max n (d : Int)); rw [show max n (d : Int) = (d : Int) from by omega]; exact HN.out.set _, (But.refl c w).setCell 0 _⟩
  · go_ret
    exact ⟨rfl, by show Num _ c (max n (d : Int)); rw [show max n (d : Int) = n from by omega]; exact HN.out.set _, (But.refl c w).setCell 0 _⟩
/-- A type's variable. -/
def Box6 (w : World) (b : Nat) (v0 v1 v2 v3 v4 v5 : Value) : Prop := w.heap[b]? = some (.cells #[v0, v1, v2, v3, v4, v5] 26 (0, 0))
section
variable {w w' : World} {b : Nat} {v0 v1 v2 v3 v4 v5 : Value}
theorem Box6.lt (h : Box6 w b v0 v1 v2 v3 v4 v5) : b < w.heap.size := by
  rcases Nat.lt_or_ge b w.heap.size with hlt | hge
  · exact hlt
  · unfold Box6 at h; rw [Array.getElem?_eq_none hge] at h; cases h
theorem Box6.cells (h : Box6 w b v0 v1 v2 v3 v4 v5) : w.cell? ⟨b, 0, none⟩ = some v0 ∧ w.cell? ⟨b, 1, none⟩ = some v1 ∧ w.cell? ⟨b, 2, none⟩ = some v2 ∧ w.cell? ⟨b, 3, none⟩ = some v3 ∧ w.cell? ⟨b, 4, none⟩ = some v4 ∧ w.cell? ⟨b, 5, none⟩ = some v5 :=
  ⟨cell_of_row w b 0 _ _ _ h, cell_of_row w b 1 _ _ _ h, cell_of_row w b 2 _ _ _ h, cell_of_row w b 3 _ _ _ h, cell_of_row w b 4 _ _ _ h, cell_of_row w b 5 _ _ _ h⟩
theorem Box6.frozen (h : Box6 w b v0 v1 v2 v3 v4 v5) (i : Nat) : w.frozen? ⟨b, i, none⟩ = false := by
  unfold Box6 at h
  simp [World.frozen?, h]
theorem Box6.new (w : World) (v0 v1 v2 v3 v4 v5 : Value) : Box6 (w.alloc (.cells #[v0, v1, v2, v3, v4, v5] 26)) w.heap.size v0 v1 v2 v3 v4 v5 := heap_alloc_new w _
theorem Box6.same (h : Box6 w b v0 v1 v2 v3 v4 v5) (hs : w'.heap[b]? = w.heap[b]?) : Box6 w' b v0 v1 v2 v3 v4 v5 := hs.trans h
theorem Box6.at_ {B : Nat} {t : T} (h : Box6 w b v0 v1 v2 v3 v4 v5) (hi : TypeIn w B t v0 v1 v2 v3 v4 v5) : TypeAt w B b 0 t := by
  obtain ⟨c0, c1, c2, c3, c4, c5⟩ := h.cells
  exact ⟨v0, v1, v2, v3, v4, v5, c0, c1, c2, c3, c4, c5, hi⟩
end
theorem boxed_at {w : World} {B : Nat} {t : T} {v0 v1 v2 v3 v4 v5 : Value} (hB : B ≤ w.heap.size) (h : TypeIn w B t v0 v1 v2 v3 v4 v5) : TypeAt (w.alloc (.cells #[v0, v1, v2, v3, v4, v5] 26)) (w.heap.size + 1) w.heap.size 0 t :=
  (Box6.new w v0 v1 v2 v3 v4 v5).at_ (h.keep (by omega) fun p hp => World.cell?_alloc_lt w _ p (by omega))
theorem num_new (w : World) (n : Int) : Num (w.alloc (.cells #[.int .i64 n] 3)) w.heap.size n := heap_alloc_new w _
set_option maxHeartbeats 1000000 in
theorem tsize_any {t : T} {v : Value} {w : World} {B : Nat} (hs : t.size ≤ 10000) (hd : t.depth ≤ 900) (hf : t.Fit) (hB : B ≤ w.heap.size) (ht : TypeV w B t v) :
    Calls Tryd.prog 16 #[v] w fun e w' => e = .returned (.int .i64 (t.size : Nat)) ∧ Below w.heap.size w w' := by
  obtain ⟨v0, v1, v2, v3, v4, v5, rfl, hin⟩ := ht
  have hat := boxed_at hB hin
  obtain ⟨A3, d3, A4, d4, A5, d5, rfl, rfl, rfl, rfl, rfl, rfl⟩ := hin.forms
  have HA := Lib.hid hat
  have hmf : ∀ (fn : Fn) (first cap : Array Value) (w : World), (Instr.makeFunc fn first cap).run Tryd.prog w = .ok (.func fn first cap) w := fun _ _ _ _ => rfl
  clear hin hat
  go_enter Tryd.func16, Tryd.ntmps16
  go_wp2_with fail
  have hat2 := TypeAt.keep (B' := w.heap.size + 1) (Nat.le_refl _) (fun p hp => World.cell?_alloc_lt (w.alloc (.cells #[.int .i64 t.kind, .int .i64 t.lo, .int .i64 t.hi, .slice A3 t.names.length d3, .slice A4 t.fields.length d4, .slice A5 t.of.length d5] 26)) (.cells #[.int .i64 0] 3) p (by simp; omega)) (Nat.lt_succ_self _) HA.out
  have hnum : Num ((w.alloc (.cells #[.int .i64 t.kind, .int .i64 t.lo, .int .i64 t.hi, .slice A3 t.names.length d3, .slice A4 t.fields.length d4, .slice A5 t.of.length d5] 26)).alloc (.cells #[.int .i64 0] 3)) (w.heap.size + 1) 0 := by have := num_new (w.alloc (.cells #[.int .i64 t.kind, .int .i64 t.lo, .int .i64 t.hi, .slice A3 t.names.length d3, .slice A4 t.fields.length d4, .slice A5 t.of.length d5] 26)) 0; rwa [World.size_alloc] at this
  refine (over_any (enters_of Tryd.func40 (by kernel_rfl) rfl) (sees_size _ (w.heap.size + 1)) (fun n t d h0 h1 => by simp only [sizeStep]; omega) (Nat.le_refl _) t.depth 0 t w.heap.size 0 _ (Nat.le_refl _) hnum (by omega) (by omega) hs hd hf (by omega) hat2).mono ?_
  rintro e w1 ⟨rfl, hn1, hb1⟩
  rw [goT_size _ _ _ _ (Nat.le_refl _)] at hn1 ⊢
  have HN1 := Lib.hid hn1
  have HB1 : Hid (Below w.heap.size w w1) := (((Below.refl _ _).alloc (Nat.le_refl _) _).alloc (by simp) _).trans (hb1.below (by omega) (by simp; omega))
  have e1 := hn1.cell
  clear hn1 hb1 hat2 hnum
  go_wp2_with fail
  go_ret
  exact ⟨ret_int (by simp), HB1.out⟩
set_option maxHeartbeats 1000000 in
theorem tdepth_any {t : T} {v : Value} {w : World} {B : Nat} (hs : t.size ≤ 10000) (hd : t.depth ≤ 900) (hf : t.Fit) (hB : B ≤ w.heap.size) (ht : TypeV w B t v) :
    Calls Tryd.prog 7 #[v] w fun e w' => e = .returned (.int .i64 (t.depth : Nat)) ∧ Below w.heap.size w w' := by
  obtain ⟨v0, v1, v2, v3, v4, v5, rfl, hin⟩ := ht
  have hat := boxed_at hB hin
  obtain ⟨A3, d3, A4, d4, A5, d5, rfl, rfl, rfl, rfl, rfl, rfl⟩ := hin.forms
  have HA := Lib.hid hat
  have hmf : ∀ (fn : Fn) (first cap : Array Value) (w : World), (Instr.makeFunc fn first cap).run Tryd.prog w = .ok (.func fn first cap) w := fun _ _ _ _ => rfl
  clear hin hat
  go_enter Tryd.func7, Tryd.ntmps7
  go_wp2_with fail
  have hat2 := TypeAt.keep (B' := w.heap.size + 1) (Nat.le_refl _) (fun p hp => World.cell?_alloc_lt (w.alloc (.cells #[.int .i64 t.kind, .int .i64 t.lo, .int .i64 t.hi, .slice A3 t.names.length d3, .slice A4 t.fields.length d4, .slice A5 t.of.length d5] 26)) (.cells #[.int .i64 0] 3) p (by simp; omega)) (Nat.lt_succ_self _) HA.out
  have hnum : Num ((w.alloc (.cells #[.int .i64 t.kind, .int .i64 t.lo, .int .i64 t.hi, .slice A3 t.names.length d3, .slice A4 t.fields.length d4, .slice A5 t.of.length d5] 26)).alloc (.cells #[.int .i64 0] 3)) (w.heap.size + 1) 0 := by have := num_new (w.alloc (.cells #[.int .i64 t.kind, .int .i64 t.lo, .int .i64 t.hi, .slice A3 t.names.length d3, .slice A4 t.fields.length d4, .slice A5 t.of.length d5] 26)) 0; rwa [World.size_alloc] at this
  refine (over_any (enters_of Tryd.func23 (by kernel_rfl) rfl) (sees_depth _ (w.heap.size + 1)) (fun n t d h0 h1 => by simp only [depthStep]; omega) (Nat.le_refl _) t.depth 0 t w.heap.size 0 _ (Nat.le_refl _) hnum (by omega) (by omega) hs hd hf (by omega) hat2).mono ?_
  rintro e w1 ⟨rfl, hn1, hb1⟩
  rw [goT_depth _ _ _ _ (Nat.le_refl _)] at hn1 ⊢
  have HN1 := Lib.hid hn1
  have HB1 : Hid (Below w.heap.size w w1) := (((Below.refl _ _).alloc (Nat.le_refl _) _).alloc (by simp) _).trans (hb1.below (by omega) (by simp; omega))
  have e1 := hn1.cell
  clear hn1 hb1 hat2 hnum
  go_wp2_with fail
  go_ret
  exact ⟨ret_int (by have := t.depth_pos; show max (0 : Int) ((1 : Nat) + t.depth - 1) = _; omega), HB1.out⟩
end Go.Proofs.YtnjmknofojjlmaaDoor
