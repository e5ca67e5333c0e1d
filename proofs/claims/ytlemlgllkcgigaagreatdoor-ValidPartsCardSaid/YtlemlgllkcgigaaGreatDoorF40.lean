/-
  What the laws of layer 5 share: what is small, the table of tens, where a law stands; a document is of a type just where it has no faults.
  Records whose keys are some fields' names, in their order: plain lemmas.
  Least has no faults, what is mended has none, and what has none is mended to itself: of types whose dictionaries and lists need not have more than one.
  ValidMore, ValidParts: what is put into a record, or a dictionary, and its faults: plain lemmas.
  What the cards of layer 5 share: what the row's list gives of the table of tens, and documents and types as the row reads them.
  Rows of faults that can be read; how long they are, and their paths.
-/
import Derived.Test.YtlemlgllkcgigaaGreatDoorF39
import Derived.Test.YtlemlgllkcgigaaGreatDoorF06
import Derived.Test.YtlemlgllkcgigaaGreatDoorF12
import Derived.Test.YtlemlgllkcgigaaGreatDoorF34
import Derived.Test.YtlemlgllkcgigaaGreatDoorF30
import Derived.Test.YtlemlgllkcgigaaGreatDoorF25
import Derived.Test.YtlemlgllkcgigaaGreatDoorProg
import Derived.Deep.Slices
import Derived.Test.YtlemlgllkcgigaaGreatDoorF01
import Derived.ChangeMaps5
import Derived.Test.YtlemlgllkcgigaaGreatDoorF07
import Derived.LaidMore
import Derived.Deep.DeepHandedRow
import Derived.Test.YtlemlgllkcgigaaGreatDoorRows
import Derived.Stop.LaidErr
import Derived.MakeChecks
import Derived.Lib.LaidTab
import Derived.Test.YtlemlgllkcgigaaGreatDoorF16
import Derived.Test.YtlemlgllkcgigaaGreatDoorF19
namespace Go.Proofs.YtlemlgllkcgigaaGreatDoor
open Go.RowKit

theorem fitsV_eq (t : T) (d : D) : fitsV t d = 0 ∨ fitsV t d = 7 ∨ fitsV t d = 8 := by
  have := fitsV_is t d; omega
theorem faults_err (m : Nat) : ∀ (t : T) (d : D) (p : List ByteArray), t.depth ≤ m → ∀ f ∈ t.faults d p, f.2 ≠ 0 := by
  induction m with
  | zero => intro t _ _ h; have := T.depth_pos t; omega
  | succ m ih =>
    intro t d p hm f hf
    rw [faults_eq, List.mem_append] at hf
    rcases hf with hf | hf
    · split at hf
      · cases hf
      · simp only [List.mem_singleton] at hf; subst hf; assumption
    by_cases h7 : fitsV t d = 7
    · rw [if_pos h7] at hf; cases hf
    rw [if_neg h7] at hf
    by_cases hk : t.kind = 1
    · rw [if_pos hk, List.mem_append] at hf
      rcases hf with hf | hf
      · have hF : ∀ l : List F, (∀ f ∈ l, f.type.depth ≤ m) → ∀ f ∈ faultsF l d p, f.2 ≠ 0 := by
          intro l
          induction l with
          | nil => intro _ f hf; simp [faultsF] at hf
          | cons g r ihl =>
            intro hl f hf
            simp only [faultsF, List.mem_append] at hf
            rcases hf with hf | hf
            · rw [faultsF1_eq] at hf
              split at hf
              · exact ih _ _ _ (hl g (by simp)) f hf
              · split at hf
                · cases hf
                · simp only [List.mem_singleton] at hf; subst hf; simp
            · exact ihl (fun g hg => hl g (by simp [hg])) f hf
        refine hF t.fields (fun f hf => ?_) f hf
        obtain ⟨i, hi, e⟩ := List.getElem_of_mem hf
        have := T.field_depth (t := t) (i := i) hi
        rw [e] at this; omega
      · obtain ⟨s, _, rfl⟩ := List.mem_map.1 hf; simp
    · rw [if_neg hk] at hf
      cases ho : t.of with
      | nil => rw [ho] at hf; simp [faultsO] at hf
      | cons x r =>
        have hxd : x.depth ≤ m := by have := T.of_depth (t := t) (i := 0) (by rw [ho]; simp); simp only [ho, List.getElem_cons_zero] at this; omega
        rw [ho] at hf
        simp only [faultsO, List.mem_flatten, List.mem_map] at hf
        obtain ⟨l, ⟨ki, _, rfl⟩, hf⟩ := hf
        exact ih x _ _ hxd f hf
theorem allV_err (t : T) (d : D) : ∀ f ∈ allV t d, f.2 ≠ 0 := by
  unfold allV; split
  · exact faults_err _ t d [] (Nat.le_refl _)
  · intro f hf; simp only [List.mem_singleton] at hf; subst hf; simp
theorem isV_iff (t : T) (d : D) : isV t d = decide (allV t d = []) := by
  unfold isV firstV
  have h := allV_err t d
  cases e : allV t d with
  | nil => rfl
  | cons f r => rw [e] at h; simpa using h f (by simp)
theorem isV_len (t : T) (d : D) : isV t d = decide ((allV t d).length = 0) := by
  rw [isV_iff]; simp
/-- The table of tens stands. -/
def Tab (w : World) : Prop := Lib.TabIs Tryz.prog w "internal/strconv.uint64pow10" .u64 Lib.pow10Tab ∧ 1 < w.heap.size
theorem Tab.next {w w' : World} (h : Tab w) (hb : Below w.heap.size w w') : Tab w' := ⟨tab_same h.1 (hb.block _ h.2), Nat.lt_of_lt_of_le h.2 hb.size⟩
noncomputable def fewV2 (t : T) (d : D) : Bool := t_fewB t && fewB d
set_option maxHeartbeats 4000000 in
set_option maxRecDepth 100000 in
theorem vfew_any {t : T} {d : D} {v u : Value} {w : World} {B : Nat} (hB : B ≤ w.heap.size) (ht : TypeV w B t v) (hd : DocV w B d u) :
    Calls Tryz.prog 10 #[v, u] w fun e w' => e = .returned (.bool (fewV2 t d)) ∧ Below w.heap.size w w' := by
  obtain ⟨v0, v1, v2, v3, v4, v5, rfl, ht⟩ := ht
  obtain ⟨u0, u1, u2, u3, u4, rfl, hd⟩ := hd
  have ST := Lib.hid (TD.start hB ht hd)
  have E : Hid (fewV2 t d = (t_fewB t && fewB d)) := Lib.hid rfl
  clear ht hd
  go_enter Tryz.func10, Tryz.ntmps10
  go_wp2_with fail
  generalize (w.alloc (.cells #[v0, v1, v2, v3, v4, v5] 26)).alloc (.cells #[u0, u1, u2, u3, u4] 29) = w1 at *
  refine (t_few_v ST.out.le ST.out.tv).mono ?_
  rintro e w2 ⟨rfl, hb2⟩
  have ST2 := Lib.hid (ST.out.next (hb2.mono ST.out.sz))
  clear hb2
  obtain ⟨x0, x1, x2, x3, x4, x5⟩ := ST2.out.bt.cells
  obtain ⟨y0, y1, y2, y3, y4⟩ := ST2.out.bd.cells
  have sz2 := ST2.out.sz
  generalize t_fewB t = p at *
  go_wp2_with fail
  refine (few_v ST2.out.le ST2.out.dv).mono ?_
  rintro e w3 ⟨rfl, hb3⟩
  have HB3 : Hid (Below w.heap.size w w3) := Lib.hid (ST2.out.bl.trans (hb3.mono ST2.out.bl.size))
  clear hb3
  generalize fewB d = q at *
  cases p
  · go_wp2_with fail
    go_ret
    exact ⟨ret_bool (by rw [E.out]; rfl), HB3.out⟩
  · go_wp2_with fail
    go_ret
    exact ⟨ret_bool (by rw [E.out]; rfl), HB3.out⟩
/-- What is small. -/
structure Small5 (t : T) (d : D) : Prop where
  tf : t.Fit
  ts : t.size ≤ 199
  td : t.depth ≤ 20
  df : d.Fit
  ds : d.size ≤ 699
  dd : d.depth ≤ 20
  d6 : d.Fit6
theorem small5_of {t : T} {d : D} (h : fewV2 t d = true) : Small5 t d := by
  unfold fewV2 at h
  rw [Bool.and_eq_true] at h
  have ho : okFew t 20 := by simpa [t_fewB] using h.1
  have hd : FewP d 20 := by simpa [fewB] using h.2
  exact ⟨fit_of_allP t ho.2.2, ho.2.1, ho.1, hd.fit.fit, hd.size, hd.depth, hd.fit⟩
theorem bl_alloc {w X : World} (h : Below w.heap.size w X) (o : Obj) : Below w.heap.size w (X.alloc o) := h.alloc h.size o
/-- Where the law stands. -/
structure LawSt (w0 w : World) (t : T) (d : D) (v0 v1 v2 v3 v4 v5 u0 u1 u2 u3 u4 : Value) : Prop where
  td : TD w0 w w0.heap.size t d v0 v1 v2 v3 v4 v5 u0 u1 u2 u3 u4
  tab : Tab w
theorem LawSt.next {w0 w w' : World} {t : T} {d : D} {v0 v1 v2 v3 v4 v5 u0 u1 u2 u3 u4 : Value} (h : LawSt w0 w t d v0 v1 v2 v3 v4 v5 u0 u1 u2 u3 u4) (hb : Below w.heap.size w w') : LawSt w0 w' t d v0 v1 v2 v3 v4 v5 u0 u1 u2 u3 u4 :=
  ⟨h.td.next (hb.mono h.td.sz), h.tab.next hb⟩
theorem LawSt.start {w : World} {t : T} {d : D} {v0 v1 v2 v3 v4 v5 u0 u1 u2 u3 u4 : Value} (ht : TypeIn w w.heap.size t v0 v1 v2 v3 v4 v5) (hd : DocIn w w.heap.size d u0 u1 u2 u3 u4) (htab : Tab w) :
    LawSt w ((w.alloc (.cells #[v0, v1, v2, v3, v4, v5] 26)).alloc (.cells #[u0, u1, u2, u3, u4] 29)) t d v0 v1 v2 v3 v4 v5 u0 u1 u2 u3 u4 :=
  ⟨TD.start (Nat.le_refl _) ht hd, (htab.next ((Below.refl _ _).alloc (Nat.le_refl _) _)).next ((Below.refl _ _).alloc (Nat.le_refl _) _)⟩
end Go.Proofs.YtlemlgllkcgigaaGreatDoor
namespace Go.Proofs.YtlemlgllkcgigaaGreatDoor
open Go.RowKit

theorem scmp_refl (a : ByteArray) : scmp a a = 0 := scmp_ordered.refl a trivial
/-- Rising keys. -/
def Up (l : List ByteArray) : Prop := l.Pairwise fun a b => scmp a b = -1
theorem up_of_next : ∀ {l : List ByteArray}, (∀ (j : Nat) (h : j + 1 < l.length), scmp l[j] l[j + 1] = -1) → Up l
  | [], _ => List.Pairwise.nil
  | [a], _ => by unfold Up; simp
  | a :: b :: r, h => by
    have h1 : Up (b :: r) := up_of_next fun j hj => h (j + 1) (by simpa using hj)
    have h0 : scmp a b = -1 := by simpa using h 0 (by simp)
    refine List.pairwise_cons.2 ⟨fun x hx => ?_, h1⟩
    rcases List.mem_cons.1 hx with rfl | hx
    · exact h0
    · exact scmp_ordered.trans a b x trivial trivial trivial h0 ((List.pairwise_cons.1 h1).1 x hx)
theorem Up.at_ {l : List ByteArray} (h : Up l) {i j : Nat} (hi : i < l.length) (hj : j < l.length) (hij : i < j) : scmp l[i] l[j] = -1 := List.pairwise_iff_getElem.1 h i j hi hj hij
theorem up_idx {l : List ByteArray} (h : Up l) {k : Nat} (hk : k < l.length) : Lib.idxOfS l l[k] = k :=
  idx_hit hk rfl fun j hj hjk e => by have := h.at_ hj hk hjk; rw [e, scmp_refl] at this; cases this
theorem idx_not {l : List ByteArray} {x : ByteArray} (h : x ∉ l) : ¬ 0 ≤ Lib.idxOfS l x := fun e => h ((Lib.idxOfS_nonneg_iff l x).1 e)
theorem up_mem {l : List ByteArray} (h : Up l) {x : ByteArray} (hx : x ∈ l) : ∃ (k : Nat) (hk : k < l.length), l[k] = x ∧ Lib.idxOfS l x = k := by
  obtain ⟨k, hk, rfl⟩ := List.mem_iff_getElem.1 hx
  exact ⟨k, hk, rfl, up_idx h hk⟩
theorem Up.ne {a b : ByteArray} (h : scmp a b = -1) : a ≠ b := fun e => by rw [e, scmp_refl] at h; cases h
/-- Two rising rows of the same keys are one. -/
theorem up_eq : ∀ {a b : List ByteArray}, Up a → Up b → (∀ x, x ∈ a ↔ x ∈ b) → a = b
  | [], [], _, _, _ => rfl
  | [], y :: b, _, _, h => absurd ((h y).2 (by simp)) (by simp)
  | x :: a, [], _, _, h => absurd ((h x).1 (by simp)) (by simp)
  | x :: a, y :: b, ha, hb, h => by
    have h1 := List.pairwise_cons.1 ha; have h2 := List.pairwise_cons.1 hb
    have hxy : x = y := by
      rcases List.mem_cons.1 ((h x).1 (by simp)) with e | hx
      · exact e
      · rcases List.mem_cons.1 ((h y).2 (by simp)) with e | hy
        · exact e.symm
        · have e1 := h1.1 y hy; have e2 := h2.1 x hx
          have := scmp_ordered.flip x y trivial trivial; omega
    subst hxy
    rw [up_eq h1.2 h2.2 fun z => ?_]
    constructor
    · intro hz
      rcases List.mem_cons.1 ((h z).1 (by simp [hz])) with e | hz'
      · exact absurd e.symm (Up.ne (h1.1 z hz))
      · exact hz'
    · intro hz
      rcases List.mem_cons.1 ((h z).2 (by simp [hz])) with e | hz'
      · exact absurd e.symm (Up.ne (h2.1 z hz))
      · exact hz'
theorem names_up {t : T} (hk : t.kind = 1) (h : soundT t = true) : Up (t.fields.map F.name) := by
  unfold soundT at h
  rw [if_pos hk] at h
  simp only [Bool.and_eq_true] at h
  have hf := h.2.2.2
  unfold fieldedB rowB at hf
  simp only [Bool.and_eq_true, decide_eq_true_eq] at hf
  refine up_of_next fun j hj => ?_
  have := hf.2 (j + 1) (by simpa [fieldNames] using hj)
  rw [rowAt_succ (by simpa [fieldNames] using hj), Bool.and_eq_true, decide_eq_true_eq] at this
  simpa [fieldNames] using this.2
theorem keys_up {d : D} (hk : d.kind = 1 ∨ d.kind = 2) (h : soundB d = true) : Up d.keys := by
  simp only [soundB, Bool.and_eq_true] at h
  have h3 := h.2.2
  have h4 : keyedB d = true := by
    unfold formB at h3
    rcases hk with hk | hk
    · rwa [if_pos hk] at h3
    · rwa [if_neg (by omega), if_pos hk] at h3
  simp only [keyedB, Bool.and_eq_true, decide_eq_true_eq] at h4
  refine up_of_next fun j hj => ?_
  have := h4.2 (j + 1) hj
  unfold keyAt at this
  rw [List.getElem?_eq_getElem hj] at this
  simp only [Bool.and_eq_true] at this
  have h5 := this.2
  rw [List.getElem?_eq_getElem (by omega : j < d.keys.length)] at h5
  simpa using h5
/-- The keys and the kids of a record that has these parts for its fields. -/
def rowK (g : F → Option D) (l : List F) : List ByteArray := (l.filter fun f => (g f).isSome).map F.name
def rowV (g : F → Option D) (l : List F) : List D := l.filterMap g
theorem rowK_cons (g : F → Option D) (f : F) (l : List F) : rowK g (f :: l) = (if (g f).isSome then [f.name] else []) ++ rowK g l := by
  unfold rowK; rw [List.filter_cons]; split <;> simp
theorem rowV_cons (g : F → Option D) (f : F) (l : List F) : rowV g (f :: l) = (g f).toList ++ rowV g l := by
  unfold rowV; rw [List.filterMap_cons]; cases g f <;> simp
theorem rowK_len (g : F → Option D) : ∀ l : List F, (rowK g l).length = (rowV g l).length
  | [] => rfl
  | f :: l => by rw [rowK_cons, rowV_cons, List.length_append, List.length_append, rowK_len g l]; cases g f <;> simp
theorem rowK_mem {g : F → Option D} {l : List F} {k : ByteArray} (h : k ∈ rowK g l) : ∃ f ∈ l, f.name = k ∧ (g f).isSome = true := by
  obtain ⟨f, hf, e⟩ := List.mem_map.1 h
  rw [List.mem_filter] at hf
  exact ⟨f, hf.1, e, hf.2⟩
theorem rowK_sub (g : F → Option D) (l : List F) : (rowK g l).Sublist (l.map F.name) := (List.filter_sublist).map _
theorem rowK_up {g : F → Option D} {l : List F} (h : Up (l.map F.name)) : Up (rowK g l) := List.Pairwise.sublist (rowK_sub g l) h
theorem idx_cons (k : ByteArray) (ks : List ByteArray) (hu : Up (k :: ks)) (x : ByteArray) : Lib.idxOfS (k :: ks) x = if x = k then 0 else if 0 ≤ Lib.idxOfS ks x then Lib.idxOfS ks x + 1 else -1 := by
  have h2 := (List.pairwise_cons.1 hu).2
  by_cases e : x = k
  · subst e; rw [if_pos rfl]; exact up_idx hu (k := 0) (by simp)
  rw [if_neg e]
  by_cases hx : x ∈ ks
  · obtain ⟨j, hj, e1, e2⟩ := up_mem h2 hx
    rw [e2, if_pos (by omega)]
    have := up_idx hu (k := j + 1) (by simpa using hj)
    simp only [List.getElem_cons_succ] at this
    rw [e1] at this; rw [this]; simp
  · rw [if_neg (idx_not hx)]
    exact idx_miss fun j hj e' => by
      have hm : x ∈ k :: ks := e' ▸ List.getElem_mem hj
      rcases List.mem_cons.1 hm with h | h
      · exact e h
      · exact hx h
theorem row_get {g : F → Option D} : ∀ {l : List F}, Up (l.map F.name) → ∀ f ∈ l, (g f = none → ¬ 0 ≤ Lib.idxOfS (rowK g l) f.name) ∧ ∀ x dd, g f = some x → 0 ≤ Lib.idxOfS (rowK g l) f.name ∧ (rowV g l).getD (Lib.idxOfS (rowK g l) f.name).toNat dd = x
  | [], _, f, hf => by cases hf
  | a :: l, hu, f, hf => by
    have hu' := List.pairwise_cons.1 (show List.Pairwise _ (a.name :: l.map F.name) from hu)
    have hup := rowK_up (g := g) hu
    rw [rowK_cons] at hup ⊢
    rw [rowV_cons]
    rcases List.mem_cons.1 hf with rfl | hf
    · cases hg : g f with
      | none =>
        refine ⟨fun _ => idx_not fun hm => ?_, fun x _ h => (by cases h)⟩
        simp only [Option.isSome_none, Bool.false_eq_true, if_false, List.nil_append] at hm
        obtain ⟨b, hb, e, _⟩ := rowK_mem hm
        exact Up.ne (hu'.1 b.name (List.mem_map.2 ⟨b, hb, rfl⟩)) e.symm
      | some y =>
        refine ⟨fun h => (by cases h), fun x dd h => ?_⟩
        injection h with h; subst h
        rw [hg] at hup
        simp only [Option.isSome_some, if_true, List.cons_append, List.nil_append] at hup ⊢
        rw [idx_cons _ _ hup, if_pos rfl]
        exact ⟨by omega, by simp⟩
    · have ih := row_get (g := g) (show Up _ from hu'.2) f hf
      have hne : f.name ≠ a.name := fun e => Up.ne (hu'.1 f.name (List.mem_map.2 ⟨f, hf, rfl⟩)) e.symm
      cases hg : g a with
      | none => simpa using ih
      | some y =>
        rw [hg] at hup
        simp only [Option.isSome_some, if_true, List.cons_append, List.nil_append, Option.toList_some] at hup ⊢
        rw [idx_cons _ _ hup, if_neg hne]
        refine ⟨fun h => ?_, fun x dd h => ?_⟩
        · rw [if_neg (ih.1 h)]; omega
        · obtain ⟨h1, h2⟩ := ih.2 x dd h
          rw [if_pos h1]
          refine ⟨by omega, ?_⟩
          rw [show (Lib.idxOfS (rowK g l) f.name + 1).toNat = (Lib.idxOfS (rowK g l) f.name).toNat + 1 by omega]
          simpa using h2
theorem fieldOf_there {t : T} {k : ByteArray} (hk : t.kind = 1) (h : ∃ f ∈ t.fields, f.name = k) : ¬ fieldOf t k < 0 := by
  intro h0
  unfold fieldOf at h0
  rw [if_pos hk] at h0
  rcases fieldIdx_cases (calledB k) t.fields with ⟨_, h1⟩ | ⟨i, hi, h1, _⟩
  · obtain ⟨f, hf, e⟩ := h
    obtain ⟨i, hi, rfl⟩ := List.mem_iff_getElem.1 hf
    have := h1 i hi
    simp [calledB, e] at this
  · rw [h1] at h0; omega
theorem fieldOf_mem {t : T} {k : ByteArray} (hk : t.kind = 1) (h : ¬ fieldOf t k < 0) : ∃ f ∈ t.fields, f.name = k := by
  unfold fieldOf at h
  rw [if_pos hk] at h
  rcases fieldIdx_cases (calledB k) t.fields with ⟨h0, _⟩ | ⟨i, hi, _, h2, _⟩
  · rw [h0] at h; exact absurd (by omega) h
  · exact ⟨_, List.getElem_mem hi, by simpa [calledB] using h2⟩
theorem faultsF_nil {d : D} {p : List ByteArray} : ∀ {l : List F}, (∀ f ∈ l, faultsF1 f d p = []) → faultsF l d p = []
  | [], _ => rfl
  | f :: r, h => by simp only [faultsF, h f (by simp), faultsF_nil (l := r) fun g hg => h g (by simp [hg]), List.nil_append]
theorem faultsF_none {d : D} {p : List ByteArray} : ∀ {l : List F}, faultsF l d p = [] → ∀ f ∈ l, faultsF1 f d p = []
  | [], _, f, hf => by cases hf
  | g :: r, h, f, hf => by
    simp only [faultsF, List.append_eq_nil_iff] at h
    rcases List.mem_cons.1 hf with rfl | hf
    · exact h.1
    · exact faultsF_none h.2 f hf
theorem fits_rec {t : T} (hk : t.kind = 1) {d : D} (hd : d.kind = 1) : fitsV t d = 0 := by
  unfold fitsV
  rw [if_pos (by rw [hd]; unfold kindV; rw [if_pos hk]), if_pos (ranged_rec hk)]
/-- A record with right parts for its fields has no faults. -/
theorem rec_ok {t : T} (hk : t.kind = 1) (hu : Up (t.fields.map F.name)) {g : F → Option D} (hg : ∀ f ∈ t.fields, (g f = none → f.opt = true) ∧ ∀ x, g f = some x → ∀ p, f.type.faults x p = []) (n : Int) (s : ByteArray) (p : List ByteArray) : t.faults (.mk 1 n s (rowK g t.fields) (rowV g t.fields)) p = [] := by
  obtain ⟨d, hd⟩ : ∃ d : D, d = .mk 1 n s (rowK g t.fields) (rowV g t.fields) := ⟨_, rfl⟩
  have hK : d.keys = rowK g t.fields := by rw [hd]; rfl
  have hV : d.kids = rowV g t.fields := by rw [hd]; rfl
  have h1 : d.kind = 1 := by rw [hd]; rfl
  rw [← hd]
  clear hd
  rw [faults_eq, fits_rec hk h1, if_pos rfl, if_neg (by decide), if_pos hk, List.nil_append, List.append_eq_nil_iff, List.map_eq_nil_iff]
  refine ⟨faultsF_nil fun f hf => ?_, ?_⟩
  · rw [faultsF1_eq, hK, hV]
    have hr := row_get hu f hf (g := g)
    cases hgf : g f with
    | none => rw [if_neg (hr.1 hgf), if_pos ((hg f hf).1 hgf)]
    | some x =>
      obtain ⟨h1, h2⟩ := hr.2 x (.mk 0 0 ⟨#[]⟩ [] []) hgf
      rw [if_pos h1, h2]
      exact (hg f hf).2 x hgf _
  · unfold moreV
    rw [hK, List.filter_eq_nil_iff]
    intro k hkk
    obtain ⟨f, hf, e, _⟩ := rowK_mem hkk
    simpa using fieldOf_there hk ⟨f, hf, e⟩
end Go.Proofs.YtlemlgllkcgigaaGreatDoor
namespace Go.Proofs.YtlemlgllkcgigaaGreatDoor
open Go.RowKit

mutual
/-- Need no dictionary, and no list, have more than one? -/
def narrowB : T → Bool
  | .mk k lo _ _ fs of => !((decide (k = 2) || decide (k = 3)) && decide (1 < lo)) && (narrowF fs && narrowL of)
def narrowF : List F → Bool
  | [] => true
  | f :: r => narrowF1 f && narrowF r
def narrowF1 : F → Bool
  | .mk _ _ t => narrowB t
def narrowL : List T → Bool
  | [] => true
  | t :: r => narrowB t && narrowL r
end
theorem narrowF1_eq (f : F) : narrowF1 f = narrowB f.type := by obtain ⟨_, _, _⟩ := f; rfl
theorem narrowB_eq (t : T) : narrowB t = (!((decide (t.kind = 2) || decide (t.kind = 3)) && decide (1 < t.lo)) && (narrowF t.fields && narrowL t.of)) := by obtain ⟨_, _, _, _, _, _⟩ := t; simp only [narrowB, T.kind, T.lo, T.fields, T.of]; rfl
theorem narrowF_mem : ∀ {l : List F}, narrowF l = true → ∀ f ∈ l, narrowB f.type = true
  | [], _, _, h => by cases h
  | g :: r, hn, f, h => by
    simp only [narrowF, Bool.and_eq_true] at hn
    rcases List.mem_cons.1 h with rfl | h
    · rw [← narrowF1_eq]; exact hn.1
    · exact narrowF_mem hn.2 f h
theorem narrowL_mem : ∀ {l : List T}, narrowL l = true → ∀ t ∈ l, narrowB t = true
  | [], _, _, h => by cases h
  | g :: r, hn, f, h => by
    simp only [narrowL, Bool.and_eq_true] at hn
    rcases List.mem_cons.1 h with rfl | h
    · exact hn.1
    · exact narrowL_mem hn.2 f h
theorem narrow_lo {t : T} (h : narrowB t = true) (hk : t.kind = 2 ∨ t.kind = 3) : t.lo ≤ 1 := by
  rw [narrowB_eq, Bool.and_eq_true] at h
  have h1 := h.1
  rcases hk with hk | hk <;> rw [hk] at h1 <;> simp at h1 <;> omega
theorem narrow_field {t : T} (h : narrowB t = true) {f : F} (hf : f ∈ t.fields) : narrowB f.type = true := by
  rw [narrowB_eq, Bool.and_eq_true, Bool.and_eq_true] at h; exact narrowF_mem h.2.1 f hf
theorem narrow_of {t : T} (h : narrowB t = true) {x : T} (hx : x ∈ t.of) : narrowB x = true := by
  rw [narrowB_eq, Bool.and_eq_true, Bool.and_eq_true] at h; exact narrowL_mem h.2.2 x hx
theorem allT_sound {t : T} (h : allT t = true) : soundT t = true := by rw [allT_eq, Bool.and_eq_true] at h; exact h.1
theorem allT_field {t : T} (h : allT t = true) {f : F} (hf : f ∈ t.fields) : allT f.type = true := by
  rw [allT_eq, Bool.and_eq_true] at h
  exact allL_mem h.2 (by simp only [T.kids, List.mem_append, List.mem_map]; exact .inl ⟨f, hf, rfl⟩)
theorem allT_of {t : T} (h : allT t = true) {x : T} (hx : x ∈ t.of) : allT x = true := by
  rw [allT_eq, Bool.and_eq_true] at h
  exact allL_mem h.2 (by simp only [T.kids, List.mem_append]; exact .inr hx)
theorem field_depth_mem {t : T} {f : F} (hf : f ∈ t.fields) : f.type.depth + 1 ≤ t.depth := by
  obtain ⟨i, hi, rfl⟩ := List.mem_iff_getElem.1 hf
  have := T.field_depth (t := t) hi; omega
theorem of_depth_mem {t x : T} (hx : x ∈ t.of) : x.depth + 1 ≤ t.depth := by
  obtain ⟨i, hi, rfl⟩ := List.mem_iff_getElem.1 hx
  have := T.of_depth (t := t) hi; omega
theorem lo_hi {t : T} (h : soundT t = true) (hk : t.kind = 2 ∨ t.kind = 3 ∨ t.kind = 4 ∨ t.kind = 6) : t.lo ≤ t.hi := by
  unfold soundT at h
  rcases hk with hk | hk | hk | hk
  · rw [if_neg (by omega), if_pos (by omega)] at h
    simp only [Bool.and_eq_true, decide_eq_true_eq] at h; exact h.2.2.2.1
  · rw [if_neg (by omega), if_pos (by omega)] at h
    simp only [Bool.and_eq_true, decide_eq_true_eq] at h; exact h.2.2.2.1
  · rw [if_neg (by omega), if_neg (by omega), if_pos (by omega)] at h
    simp only [Bool.and_eq_true, decide_eq_true_eq] at h; exact h.2.2.1
  · rw [if_neg (by omega), if_neg (by omega), if_neg (by omega), if_neg (by omega), if_pos (by omega)] at h
    simp only [Bool.and_eq_true, decide_eq_true_eq] at h; exact h.2.2.2.1
theorem faults_leaf {t : T} {d : D} {p : List ByteArray} (hk : t.kind ≠ 1) (ho : t.of = []) (h0 : fitsV t d = 0) : t.faults d p = [] := by
  rw [faults_eq, h0, if_pos rfl, if_neg (by decide), if_neg hk, ho]; rfl
theorem kidsFl_nil {x : T} {d : D} {p : List ByteArray} (h : ∀ (i : Nat) (hi : i < d.kids.length) (q : List ByteArray), x.faults d.kids[i] q = []) : ∀ k, k ≤ d.kids.length → kidsFl x d p k = []
  | 0, _ => kidsFl_zero x d p
  | k + 1, hk => by rw [kidsFl_succ x d p k (by omega), kidsFl_nil h k (by omega), h k (by omega)]; rfl
theorem kidsFl_none {x : T} {d : D} {p : List ByteArray} : ∀ k, k ≤ d.kids.length → kidsFl x d p k = [] → ∀ (i : Nat) (hi : i < d.kids.length), i < k → x.faults d.kids[i] (p ++ [partV d i]) = []
  | 0, _, _, i, _, h => by omega
  | k + 1, hk, h, i, hi, hik => by
    rw [kidsFl_succ x d p k (by omega), List.append_eq_nil_iff] at h
    rcases Nat.lt_or_ge i k with h1 | h1
    · exact kidsFl_none k (by omega) h.1 i hi h1
    · obtain rfl : i = k := by omega
      exact h.2
/-- What each field of a record has, in the least one. -/
def leastG (f : F) : Option D := if f.opt then none else some f.type.least
theorem keysF_row : ∀ l : List F, keysF l = rowK leastG l
  | [] => rfl
  | f :: r => by rw [rowK_cons, keysF, keysF_row r]; cases h : f.opt <;> simp [leastG, h]
theorem leastF_row : ∀ l : List F, leastF l = rowV leastG l
  | [] => rfl
  | f :: r => by rw [rowV_cons, leastF, leastF_row r, leastF1_eq]; cases h : f.opt <;> simp [leastG, h]
theorem least_rec {t : T} (hk : t.kind = 1) (hok : LeastOk t) : t.least = .mk 1 0 ⟨#[]⟩ (rowK leastG t.fields) (rowV leastG t.fields) := by
  rw [least_eq, hk, hok.of0 (by omega) (by omega), keysF_row, leastF_row]
  simp [leastKind, leastNum, leastStr, keysO, leastO]
theorem least_many {t x : T} (hk : t.kind = 2 ∨ t.kind = 3) (hok : LeastOk t) (hx : t.of = [x]) : t.least = .mk t.kind 0 ⟨#[]⟩ (if t.kind = 2 then kKeys (leastN t.lo) else []) (List.replicate (leastN t.lo) x.least) := by
  rw [least_eq, hx, hok.fs (by omega)]
  rcases hk with hk | hk <;> rw [hk] <;> simp [leastKind, leastNum, leastStr, keysO, leastO, keysF, leastF]
theorem least_lone {t : T} (hk : 4 ≤ t.kind) (hok : LeastOk t) : t.least = .mk (leastKind t.kind) (leastNum t.kind t.lo t.hi) (leastStr t.kind t.lo t.names) [] [] := by
  rw [least_eq, hok.of0 (by omega) (by omega), hok.fs (by omega)]
  simp [keysO, leastO, keysF, leastF]
theorem leastN_narrow {t : T} (h : narrowB t = true) (hok : LeastOk t) (hk : t.kind = 2 ∨ t.kind = 3) : ((leastN t.lo : Nat) : Int) = t.lo ∧ leastN t.lo ≤ 1 := by
  have h1 := narrow_lo h hk; have h2 := hok.lo (by omega)
  unfold leastN; omega
theorem fits_least {t : T} (hall : allT t = true) (hn : narrowB t = true) : fitsV t t.least = 0 := by
  have hs := allT_sound hall
  have hok := leastOk_of hs
  have hk := hok.kind
  by_cases h1 : t.kind = 1
  · rw [least_rec h1 hok]; exact fits_rec h1 rfl
  by_cases h23 : t.kind = 2 ∨ t.kind = 3
  · obtain ⟨x, hx⟩ := hok.of1 h23
    obtain ⟨e1, e2⟩ := leastN_narrow hn hok h23
    have hlh := lo_hi hs (by omega)
    rw [least_many h23 hok hx]
    unfold fitsV
    rw [if_pos (by simp only [D.kind]; unfold kindV; rcases h23 with h | h <;> rw [h] <;> rfl), if_pos]
    unfold rangedV
    rw [if_pos h23]
    simp only [D.kids, List.length_replicate, betweenB, Bool.and_eq_true, decide_eq_true_eq]
    omega
  rw [least_lone (by omega) hok]
  unfold fitsV
  rw [if_pos (by simp only [D.kind]; unfold kindV leastKind; rcases (by omega : t.kind = 4 ∨ t.kind = 5 ∨ t.kind = 6 ∨ t.kind = 7) with h | h | h | h <;> rw [h] <;> rfl), if_pos]
  unfold rangedV
  rw [if_neg h23]
  by_cases h4 : t.kind = 4
  · have := lo_hi hs (by omega)
    rw [if_pos h4]; simp only [D.num, leastNum, if_pos h4, betweenB, Bool.and_eq_true, decide_eq_true_eq]; omega
  rw [if_neg h4]
  by_cases h6 : t.kind = 6
  · have := lo_hi hs (by omega); have := hok.lo (by omega)
    rw [if_pos h6]; simp only [D.str, leastStr, if_pos h6, aStr_size, betweenB, Bool.and_eq_true, decide_eq_true_eq]; omega
  rw [if_neg h6]
  by_cases h7 : t.kind = 7
  · rw [if_pos h7]
    simp only [D.str, leastStr, if_neg h6, if_pos h7]
    rw [Lib.containsS_iff]
    obtain ⟨x, r, e⟩ := List.exists_cons_of_length_pos (hok.ns h7)
    rw [e]; simp
  · rw [if_neg h7]
/-- Least has no faults. -/
theorem least_ok (m : Nat) : ∀ (t : T) (p : List ByteArray), t.depth ≤ m → allT t = true → narrowB t = true → t.faults t.least p = [] := by
  induction m with
  | zero => intro t _ h; have := T.depth_pos t; omega
  | succ m ih =>
    intro t p hm hall hn
    have hs := allT_sound hall
    have hok := leastOk_of hs
    have hk := hok.kind
    have hfit := fits_least hall hn
    by_cases h1 : t.kind = 1
    · rw [least_rec h1 hok]
      refine rec_ok h1 (names_up h1 hs) (fun f hf => ⟨fun h => ?_, fun x h q => ?_⟩) 0 ⟨#[]⟩ p
      · unfold leastG at h; by_cases ho : f.opt = true
        · exact ho
        · rw [if_neg ho] at h; cases h
      · unfold leastG at h
        by_cases ho : f.opt = true
        · rw [if_pos ho] at h; cases h
        · rw [if_neg ho] at h; injection h with h; subst h
          exact ih f.type q (by have := field_depth_mem hf; omega) (allT_field hall hf) (narrow_field hn hf)
    by_cases h23 : t.kind = 2 ∨ t.kind = 3
    · obtain ⟨x, hx⟩ := hok.of1 h23
      have hxm : x ∈ t.of := by rw [hx]; simp
      rw [faults_kids h1 (by omega) (.inl hx), hfit, if_pos rfl, List.nil_append]
      have hkids : t.least.kids = List.replicate (leastN t.lo) x.least := by rw [least_many h23 hok hx]; rfl
      refine kidsFl_nil (fun i hi q => ?_) _ (Nat.le_refl _)
      have : t.least.kids[i] = x.least := by simp only [hkids, List.getElem_replicate]
      rw [this]
      exact ih x q (by have := of_depth_mem hxm; omega) (allT_of hall hxm) (narrow_of hn hxm)
    · exact faults_leaf h1 (hok.of0 (by omega) (by omega)) hfit
/-- What each field of a record has, mended. -/
def mendG (d : D) (f : F) : Option D := if 0 ≤ Lib.idxOfS d.keys f.name then some (f.type.mend (d.kids.getD (Lib.idxOfS d.keys f.name).toNat (.mk 0 0 ⟨#[]⟩ [] []))).1 else if f.opt then none else some f.type.least
theorem mendF_keys (d : D) : ∀ l : List F, ((mendF l d).map fun x => x.1) = rowK (mendG d) l
  | [] => rfl
  | f :: r => by
    rw [rowK_cons, mendF, List.map_append, mendF_keys d r, mendF1_eq]
    by_cases h : 0 ≤ Lib.idxOfS d.keys f.name
    · simp [mendG, h]
    · cases ho : f.opt <;> simp [mendG, h, ho]
theorem mendF_kids (d : D) : ∀ l : List F, ((mendF l d).map fun x => x.2.1) = rowV (mendG d) l
  | [] => rfl
  | f :: r => by
    rw [rowV_cons, mendF, List.map_append, mendF_kids d r, mendF1_eq]
    by_cases h : 0 ≤ Lib.idxOfS d.keys f.name
    · simp [mendG, h]
    · cases ho : f.opt <;> simp [mendG, h, ho]
theorem mend_rec {t : T} {d : D} (hk : t.kind = 1) (h0 : fitsV t d = 0) : (t.mend d).1 = .mk d.kind 0 ⟨#[]⟩ (rowK (mendG d) t.fields) (rowV (mendG d) t.fields) := by
  rw [mend_eq, if_pos h0, if_pos hk]; simp only [mendF_keys, mendF_kids]
theorem mend_many {t x : T} {d : D} (hk : t.kind = 2 ∨ t.kind = 3) (h0 : fitsV t d = 0) (hx : t.of = [x]) : t.mend d = (.mk d.kind 0 ⟨#[]⟩ d.keys (d.kids.map fun y => (x.mend y).1), (d.kids.map fun y => (x.mend y).2).sum) := by
  rw [mend_eq, if_pos h0, if_neg (by omega), if_pos hk, hx]; simp [mendO, List.map_map, Function.comp_def]
theorem mend_lone {t : T} {d : D} (hk : 4 ≤ t.kind) (h0 : fitsV t d = 0) : t.mend d = (d, 0) := by
  rw [mend_eq, if_pos h0, if_neg (by omega), if_neg (by omega)]
theorem mend_bad {t : T} {d : D} (h0 : fitsV t d ≠ 0) : t.mend d = (t.least, 1) := by rw [mend_eq, if_neg h0]
theorem kid_in {d : D} (hd : partB d = true) {i : Nat} (hi : i < d.kids.length) : partB d.kids[i] = true := by
  rw [partB_eq, Bool.and_eq_true] at hd; exact partsB_at hd.2 hi
theorem part_sound {d : D} (hd : partB d = true) : soundB d = true := by rw [partB_eq, Bool.and_eq_true] at hd; exact hd.1
theorem idx_kid {d : D} (hd : partB d = true) {k : ByteArray} (h : 0 ≤ Lib.idxOfS d.keys k) (dd : D) : ∃ (i : Nat) (hi : i < d.kids.length), (Lib.idxOfS d.keys k).toNat = i ∧ d.kids.getD (Lib.idxOfS d.keys k).toNat dd = d.kids[i] := by
  have h1 := idxOfS_lt _ _ h
  have h2 := (docOk_of (part_sound hd)).keys
  have h3 : (Lib.idxOfS d.keys k).toNat < d.kids.length := by omega
  exact ⟨_, h3, rfl, by rw [List.getD_eq_getElem?_getD, List.getElem?_eq_getElem h3]; rfl⟩
/-- What is mended has no faults. -/
theorem mend_ok (m : Nat) : ∀ (t : T) (d : D) (p : List ByteArray), t.depth ≤ m → allT t = true → narrowB t = true → partB d = true → t.faults (t.mend d).1 p = [] := by
  induction m with
  | zero => intro t _ _ h; have := T.depth_pos t; omega
  | succ m ih =>
    intro t d p hm hall hn hd
    by_cases h0 : fitsV t d = 0
    case neg => rw [mend_bad h0]; exact least_ok (m + 1) t p hm hall hn
    have hs := allT_sound hall
    have hok := leastOk_of hs
    have hk := hok.kind
    by_cases h1 : t.kind = 1
    · have hdk := (faults_rec (p := p) h1 (d := d) (by omega)).2.1
      rw [mend_rec h1 h0, hdk]
      refine rec_ok h1 (names_up h1 hs) (fun f hf => ⟨fun h => ?_, fun x h q => ?_⟩) 0 ⟨#[]⟩ p
      · unfold mendG at h
        by_cases hi : 0 ≤ Lib.idxOfS d.keys f.name
        · rw [if_pos hi] at h; cases h
        · rw [if_neg hi] at h
          by_cases ho : f.opt = true
          · exact ho
          · rw [if_neg ho] at h; cases h
      · unfold mendG at h
        by_cases hi : 0 ≤ Lib.idxOfS d.keys f.name
        · rw [if_pos hi] at h; injection h with h; subst h
          obtain ⟨i, hil, _, e⟩ := idx_kid hd hi (.mk 0 0 ⟨#[]⟩ [] [])
          rw [e]
          exact ih f.type _ q (by have := field_depth_mem hf; omega) (allT_field hall hf) (narrow_field hn hf) (kid_in hd hil)
        · rw [if_neg hi] at h
          by_cases ho : f.opt = true
          · rw [if_pos ho] at h; cases h
          · rw [if_neg ho] at h; injection h with h; subst h
            exact least_ok m f.type q (by have := field_depth_mem hf; omega) (allT_field hall hf) (narrow_field hn hf)
    by_cases h23 : t.kind = 2 ∨ t.kind = 3
    · obtain ⟨x, hx⟩ := hok.of1 h23
      have hxm : x ∈ t.of := by rw [hx]; simp
      have e := mend_many h23 h0 hx
      obtain ⟨y, hy⟩ : ∃ y, y = (t.mend d).1 := ⟨_, rfl⟩
      have hyk : y.kind = d.kind := by rw [hy, e]; rfl
      have hyl : y.kids = d.kids.map fun z => (x.mend z).1 := by rw [hy, e]; rfl
      rw [← hy]
      have hfy : fitsV t y = 0 := by
        unfold fitsV rangedV at h0 ⊢
        rw [if_pos h23] at h0 ⊢
        rw [hyk, hyl, List.length_map]; exact h0
      rw [faults_kids h1 (by omega) (.inl hx), hfy, if_pos rfl, List.nil_append]
      refine kidsFl_nil (fun i hi q => ?_) _ (Nat.le_refl _)
      have hil : i < d.kids.length := by rw [hyl] at hi; simpa using hi
      have : y.kids[i] = (x.mend d.kids[i]).1 := by simp only [hyl, List.getElem_map]
      rw [this]
      exact ih x _ q (by have := of_depth_mem hxm; omega) (allT_of hall hxm) (narrow_of hn hxm) (kid_in hd hil)
    · rw [mend_lone (by omega) h0]
      exact faults_leaf h1 (hok.of0 (by omega) (by omega)) h0
theorem sum_zero : ∀ {l : List Nat}, l.sum = 0 → ∀ x ∈ l, x = 0
  | [], _, _, h => by cases h
  | a :: r, hs, x, h => by
    rw [List.sum_cons] at hs
    rcases List.mem_cons.1 h with rfl | h
    · omega
    · exact sum_zero (by omega) x h
theorem mendF_mem {d : D} {f : F} : ∀ {l : List F}, f ∈ l → ∀ x ∈ mendF1 f d, x ∈ mendF l d
  | g :: r, hf, x, hx => by
    simp only [mendF, List.mem_append]
    rcases List.mem_cons.1 hf with rfl | hf
    · exact .inl hx
    · exact .inr (mendF_mem hf x hx)
/-- Who has nothing to mend has no fault. -/
theorem mend_none (m : Nat) : ∀ (t : T) (d : D) (p : List ByteArray), t.depth ≤ m → allT t = true → partB d = true → (t.mend d).2 = 0 → t.faults d p = [] := by
  induction m with
  | zero => intro t _ _ h; have := T.depth_pos t; omega
  | succ m ih =>
    intro t d p hm hall hd hz
    by_cases h0 : fitsV t d = 0
    case neg => rw [mend_bad h0] at hz; cases hz
    have hs := allT_sound hall
    have hok := leastOk_of hs
    have hk := hok.kind
    by_cases h1 : t.kind = 1
    · rw [mend_eq, if_pos h0, if_pos h1] at hz
      simp only at hz
      have hz1 : (moreV t d.keys).length = 0 := by omega
      have hz2 : ((mendF t.fields d).map fun x => x.2.2).sum = 0 := by omega
      rw [faults_eq, h0, if_pos rfl, if_neg (by decide), if_pos h1, List.nil_append, List.append_eq_nil_iff, List.map_eq_nil_iff]
      refine ⟨faultsF_nil fun f hf => ?_, List.eq_nil_of_length_eq_zero hz1⟩
      have hmem : ∀ x ∈ mendF1 f d, x.2.2 = 0 := fun x hx => sum_zero hz2 _ (List.mem_map.2 ⟨x, mendF_mem hf x hx, rfl⟩)
      rw [mendF1_eq] at hmem
      rw [faultsF1_eq]
      by_cases hi : 0 ≤ Lib.idxOfS d.keys f.name
      · rw [if_pos hi] at hmem ⊢
        obtain ⟨i, hil, _, e⟩ := idx_kid hd hi (.mk 0 0 ⟨#[]⟩ [] [])
        have := hmem _ (List.mem_singleton.2 rfl)
        rw [e] at this ⊢
        exact ih f.type _ _ (by have := field_depth_mem hf; omega) (allT_field hall hf) (kid_in hd hil) this
      · rw [if_neg hi] at hmem ⊢
        by_cases ho : f.opt = true
        · rw [if_pos ho]
        · rw [if_neg ho] at hmem
          exact absurd (hmem _ (List.mem_singleton.2 rfl)) (by simp)
    by_cases h23 : t.kind = 2 ∨ t.kind = 3
    · obtain ⟨x, hx⟩ := hok.of1 h23
      have hxm : x ∈ t.of := by rw [hx]; simp
      rw [mend_many h23 h0 hx] at hz
      rw [faults_kids h1 (by omega) (.inl hx), h0, if_pos rfl, List.nil_append]
      refine kidsFl_nil (fun i hi q => ?_) _ (Nat.le_refl _)
      exact ih x _ q (by have := of_depth_mem hxm; omega) (allT_of hall hxm) (kid_in hd hi) (sum_zero hz _ (List.mem_map.2 ⟨_, List.getElem_mem hi, rfl⟩))
    · exact faults_leaf h1 (hok.of0 (by omega) (by omega)) h0
theorem size_zero {s : ByteArray} (h : s.size = 0) : s = ⟨#[]⟩ := by
  obtain ⟨a⟩ := s
  have : a.size = 0 := h
  rw [Array.eq_empty_of_size_eq_zero this]
theorem flat_of {d : D} (hd : partB d = true) (hk : d.kind = 1 ∨ d.kind = 2 ∨ d.kind = 3) : d.num = 0 ∧ d.str = ⟨#[]⟩ := by
  have h := part_sound hd
  simp only [soundB, Bool.and_eq_true] at h
  have h1 := h.1; have h2 := h.2.1
  simp only [numB, strB, Bool.or_eq_true, Bool.and_eq_true, decide_eq_true_eq] at h1 h2
  exact ⟨by omega, size_zero (by omega)⟩
theorem D.eta (d : D) : d = .mk d.kind d.num d.str d.keys d.kids := by obtain ⟨_, _, _, _, _⟩ := d; rfl
theorem rowV_map {g : F → Option D} {h : ByteArray → D} : ∀ {l : List F}, (∀ f ∈ l, ∀ x, g f = some x → x = h f.name) → rowV g l = (rowK g l).map h
  | [], _ => rfl
  | f :: r, hh => by
    rw [rowK_cons, rowV_cons, List.map_append, rowV_map (l := r) fun f hf => hh f (by simp [hf])]
    cases hg : g f with
    | none => simp
    | some x => simp [hh f (by simp) x hg]
/-- What has no fault is mended to itself. -/
theorem mend_same (m : Nat) : ∀ (t : T) (d : D) (p : List ByteArray), t.depth ≤ m → allT t = true → partB d = true → t.faults d p = [] → t.mend d = (d, 0) := by
  induction m with
  | zero => intro t _ _ h; have := T.depth_pos t; omega
  | succ m ih =>
    intro t d p hm hall hd hf0
    have h0 : fitsV t d = 0 := by
      have h := hf0
      rw [faults_eq, List.append_eq_nil_iff] at h
      by_cases e : fitsV t d = 0
      · exact e
      · rw [if_neg e] at h; cases h.1
    have hs := allT_sound hall
    have hok := leastOk_of hs
    have hk := hok.kind
    have hdok := docOk_of (part_sound hd)
    by_cases h1 : t.kind = 1
    · have hdk := (faults_rec (p := p) h1 (d := d) (by omega)).2.1
      obtain ⟨hnum, hstr⟩ := flat_of hd (.inl hdk)
      have hkl := hdok.same (.inl hdk)
      have hup := keys_up (.inl hdk) (part_sound hd)
      have hnu := names_up h1 hs
      have h := hf0
      rw [faults_eq, h0, if_pos rfl, if_neg (by decide), if_pos h1, List.nil_append, List.append_eq_nil_iff, List.map_eq_nil_iff] at h
      have hff := faultsF_none h.1
      have hmore := h.2
      have hget : ∀ f ∈ t.fields, (0 ≤ Lib.idxOfS d.keys f.name → f.type.mend (d.kids.getD (Lib.idxOfS d.keys f.name).toNat (.mk 0 0 ⟨#[]⟩ [] [])) = (d.kids.getD (Lib.idxOfS d.keys f.name).toNat (.mk 0 0 ⟨#[]⟩ [] []), 0)) ∧ (¬ 0 ≤ Lib.idxOfS d.keys f.name → f.opt = true) := fun f hf => by
        have h4 := hff f hf
        rw [faultsF1_eq] at h4
        refine ⟨fun hi => ?_, fun hi => ?_⟩
        · rw [if_pos hi] at h4
          obtain ⟨i, hil, _, e⟩ := idx_kid hd hi (.mk 0 0 ⟨#[]⟩ [] [])
          rw [e] at h4 ⊢
          exact ih f.type _ _ (by have := field_depth_mem hf; omega) (allT_field hall hf) (kid_in hd hil) h4
        · rw [if_neg hi] at h4
          by_cases ho : f.opt = true
          · exact ho
          · rw [if_neg ho] at h4; cases h4
      have hsome : ∀ f ∈ t.fields, ((mendG d f).isSome = true ↔ f.name ∈ d.keys) := fun f hf => by
        unfold mendG
        by_cases hi : 0 ≤ Lib.idxOfS d.keys f.name
        · rw [if_pos hi]; simpa using (Lib.idxOfS_nonneg_iff _ _).1 hi
        · rw [if_neg hi, if_pos ((hget f hf).2 hi)]
          simpa using fun hm => hi ((Lib.idxOfS_nonneg_iff _ _).2 hm)
      have hkeys : rowK (mendG d) t.fields = d.keys := up_eq (rowK_up hnu) hup fun x => by
        constructor
        · intro hx
          obtain ⟨f, hf, rfl, h5⟩ := rowK_mem hx
          exact (hsome f hf).1 h5
        · intro hx
          have h6 : ¬ fieldOf t x < 0 := fun h7 => by
            have : x ∈ moreV t d.keys := by unfold moreV; rw [List.mem_filter]; exact ⟨hx, by simpa using h7⟩
            rw [hmore] at this; cases this
          obtain ⟨f, hf, rfl⟩ := fieldOf_mem h1 h6
          exact List.mem_map.2 ⟨f, List.mem_filter.2 ⟨hf, (hsome f hf).2 hx⟩, rfl⟩
      have hkids : rowV (mendG d) t.fields = d.kids := by
        rw [rowV_map (h := fun k => d.kids.getD (Lib.idxOfS d.keys k).toNat (.mk 0 0 ⟨#[]⟩ [] [])) fun f hf x hx => ?_, hkeys]
        · refine List.ext_getElem (by simpa using hkl) fun i hi1 hi2 => ?_
          rw [List.getElem_map, up_idx hup (by rw [hkl]; exact hi2), Int.toNat_natCast, List.getD_eq_getElem?_getD, List.getElem?_eq_getElem hi2]; rfl
        · unfold mendG at hx
          by_cases hi : 0 ≤ Lib.idxOfS d.keys f.name
          · rw [if_pos hi, (hget f hf).1 hi] at hx; injection hx with hx; exact hx.symm
          · rw [if_neg hi, if_pos ((hget f hf).2 hi)] at hx; cases hx
      have hsum : ((mendF t.fields d).map fun x => x.2.2).sum = 0 := by
        have : ∀ l : List F, (∀ f ∈ l, f ∈ t.fields) → ((mendF l d).map fun x => x.2.2).sum = 0 := by
          intro l
          induction l with
          | nil => intro _; rfl
          | cons f r ihl =>
            intro hl
            rw [mendF, List.map_append, List.sum_append, ihl fun g hg => hl g (by simp [hg]), mendF1_eq]
            have h5 := hget f (hl f (by simp))
            by_cases hi : 0 ≤ Lib.idxOfS d.keys f.name
            · rw [if_pos hi, h5.1 hi]; rfl
            · rw [if_neg hi, if_pos (h5.2 hi)]; rfl
        exact this t.fields fun _ h => h
      have e1 : (t.mend d).1 = d := by
        rw [mend_rec h1 h0, hkeys, hkids]
        have := D.eta d
        rw [hnum, hstr] at this
        exact this.symm
      have e2 : (t.mend d).2 = 0 := by
        rw [mend_eq, if_pos h0, if_pos h1]
        simp only [hsum, hmore, List.length_nil]
      exact Prod.ext e1 e2
    by_cases h23 : t.kind = 2 ∨ t.kind = 3
    · obtain ⟨x, hx⟩ := hok.of1 h23
      have hxm : x ∈ t.of := by rw [hx]; simp
      have hdk : d.kind = t.kind := by
        have e := h0
        unfold fitsV at e
        by_cases h : d.kind = kindV t
        · rw [h]; unfold kindV; rcases h23 with h | h <;> rw [h] <;> rfl
        · rw [if_neg h] at e; cases e
      obtain ⟨hnum, hstr⟩ := flat_of hd (by omega)
      have h := hf0
      rw [faults_kids h1 (by omega) (.inl hx), h0, if_pos rfl, List.nil_append] at h
      have hall2 : ∀ (i : Nat) (hi : i < d.kids.length), x.mend d.kids[i] = (d.kids[i], 0) := fun i hi => ih x _ _ (by have := of_depth_mem hxm; omega) (allT_of hall hxm) (kid_in hd hi) (kidsFl_none _ (Nat.le_refl _) h i hi hi)
      rw [mend_many h23 h0 hx]
      have e1 : (d.kids.map fun y => (x.mend y).1) = d.kids := List.ext_getElem (by simp) fun i _ hi => by rw [List.getElem_map, hall2 i hi]
      have e2 : (d.kids.map fun y => (x.mend y).2).sum = 0 := by
        have : ∀ z ∈ (d.kids.map fun y => (x.mend y).2), z = 0 := fun z hz => by
          obtain ⟨y, hy, rfl⟩ := List.mem_map.1 hz
          obtain ⟨i, hi, rfl⟩ := List.mem_iff_getElem.1 hy
          rw [hall2 i hi]
        generalize (d.kids.map fun y => (x.mend y).2) = L at this
        induction L with
        | nil => rfl
        | cons a r ihL => rw [List.sum_cons, this a (by simp), ihL fun z hz => this z (by simp [hz])]
      rw [e1, e2]
      have := D.eta d
      rw [hnum, hstr] at this
      exact Prod.ext this.symm rfl
    · exact mend_lone (by omega) h0
end Go.Proofs.YtlemlgllkcgigaaGreatDoor
namespace Go.Proofs.YtlemlgllkcgigaaGreatDoor
open Go.RowKit

/-- The kid at a key, of a record or a dictionary. -/
theorem kid_none {d : D} (hd : partB d = true) (hk : d.kind = 1 ∨ d.kind = 2) {s : ByteArray} : kidAt d s = none ↔ s ∉ d.keys := by
  have hl := (docOk_of (part_sound hd)).same hk
  obtain ⟨_, h1, h2⟩ := kidAt_look s hk hl
  unfold kidAt
  cases h : stepD d s with
  | none => simpa using h1 h
  | some i =>
    have hi := h2 i h
    have hil : i < d.kids.length := by
      have := (List.getElem?_eq_some_iff.1 hi).1; omega
    simp only [Option.bind_some, List.getElem?_eq_getElem hil]
    exact ⟨fun e => (by cases e), fun e => absurd (List.mem_of_getElem? hi) e⟩
theorem kid_some {d : D} (hd : partB d = true) (hk : d.kind = 1 ∨ d.kind = 2) {s : ByteArray} {y : D} (h : kidAt d s = some y) : ∃ (i : Nat) (hi : i < d.keys.length) (hi2 : i < d.kids.length), d.keys[i] = s ∧ d.kids[i] = y ∧ Lib.idxOfS d.keys s = i := by
  have hl := (docOk_of (part_sound hd)).same hk
  obtain ⟨_, h1, h2⟩ := kidAt_look s hk hl
  unfold kidAt at h
  cases hs : stepD d s with
  | none => rw [hs] at h; cases h
  | some i =>
    rw [hs] at h
    simp only [Option.bind_some] at h
    obtain ⟨hi2, e2⟩ := List.getElem?_eq_some_iff.1 h
    obtain ⟨hi, e1⟩ := List.getElem?_eq_some_iff.1 (h2 i hs)
    exact ⟨i, hi, hi2, e1, e2, by rw [← e1]; exact up_idx (keys_up hk (part_sound hd)) hi⟩
theorem kid_at {d : D} (hd : partB d = true) (hk : d.kind = 1 ∨ d.kind = 2) {i : Nat} (hi : i < d.keys.length) (hi2 : i < d.kids.length) : kidAt d d.keys[i] = some d.kids[i] := by
  cases h : kidAt d d.keys[i] with
  | none => exact absurd (List.getElem_mem hi) ((kid_none hd hk).1 h)
  | some y =>
    obtain ⟨j, hj, hj2, e1, e2, e3⟩ := kid_some hd hk h
    have : i = j := by rw [up_idx (keys_up hk (part_sound hd)) hi] at e3; omega
    subst this; rw [e2]
/-- A field's faults by its kid. -/
theorem faultsF1_kid {f : F} {d : D} (hd : partB d = true) (hk : d.kind = 1) (p : List ByteArray) : faultsF1 f d p = match kidAt d f.name with | some y => f.type.faults y (p ++ [f.name]) | none => if f.opt then [] else [(p ++ [f.name], 9)] := by
  rw [faultsF1_eq]
  cases h : kidAt d f.name with
  | none => rw [if_neg (idx_not ((kid_none hd (.inl hk)).1 h))]
  | some y =>
    obtain ⟨i, hi, hi2, e1, e2, e3⟩ := kid_some hd (.inl hk) h
    rw [e3, if_pos (by omega), Int.toNat_natCast, List.getD_eq_getElem?_getD, List.getElem?_eq_getElem hi2, Option.getD_some, e2]
/-- No fault below one path: none below another one. -/
theorem nil_path (m : Nat) : ∀ (t : T) (d : D) (p q : List ByteArray), t.depth ≤ m → t.faults d p = [] → t.faults d q = [] := by
  induction m with
  | zero => intro t _ _ _ h; have := T.depth_pos t; omega
  | succ m ih =>
    intro t d p q hm h
    rw [faults_eq, List.append_eq_nil_iff] at h ⊢
    refine ⟨?_, ?_⟩
    · have h1 := h.1
      split at h1
      · rename_i h0; rw [if_pos h0]
      · cases h1
    · have h2 := h.2
      split
      · rfl
      · rename_i h7
        rw [if_neg h7] at h2
        by_cases hk : t.kind = 1
        · rw [if_pos hk, List.append_eq_nil_iff, List.map_eq_nil_iff] at h2 ⊢
          refine ⟨faultsF_nil fun f hf => ?_, h2.2⟩
          have h3 := faultsF_none h2.1 f hf
          rw [faultsF1_eq] at h3 ⊢
          split
          · rename_i hi; rw [if_pos hi] at h3; exact ih _ _ _ _ (by have := field_depth_mem hf; omega) h3
          · rename_i hi
            rw [if_neg hi] at h3
            split
            · rfl
            · rename_i ho; rw [if_neg ho] at h3; cases h3
        · rw [if_neg hk] at h2 ⊢
          cases ho : t.of with
          | nil => rfl
          | cons x r =>
            have hxm : x ∈ t.of := by rw [ho]; simp
            rw [ho, kidsFl_all] at h2
            rw [kidsFl_all]
            have h3 := kidsFl_none _ (Nat.le_refl _) h2
            have : ∀ k, k ≤ d.kids.length → kidsFl x d q k = [] := by
              intro k
              induction k with
              | zero => intro _; exact kidsFl_zero x d q
              | succ k ihk =>
                intro hk2
                rw [kidsFl_succ x d q k (by omega), ihk (by omega), ih x _ _ _ (by have := of_depth_mem hxm; omega) (h3 k (by omega) (by omega))]; rfl
            exact this _ (Nat.le_refl _)
theorem isV_right {t : T} {d : D} (h : bothB t d = true) : isV t d = decide (t.faults d [] = []) := by
  rw [isV_iff]; unfold allV; rw [if_pos h]
theorem isV_both {t : T} {d : D} (h : isV t d = true) : bothB t d = true := by
  rw [isV_iff] at h
  unfold allV at h
  by_cases hb : bothB t d = true
  · exact hb
  · rw [if_neg hb] at h; cases h
/-- What is of the type, of records. -/
theorem is_rec {t : T} {d : D} (hk : t.kind = 1) (h : isV t d = true) : d.kind = 1 ∧ (∀ f ∈ t.fields, faultsF1 f d [] = []) ∧ moreV t d.keys = [] := by
  have hb := isV_both h
  rw [isV_right hb] at h
  have hf : t.faults d [] = [] := of_decide_eq_true h
  have h0 : fitsV t d = 0 := by
    rw [faults_eq, List.append_eq_nil_iff] at hf
    by_cases e : fitsV t d = 0
    · exact e
    · rw [if_neg e] at hf; cases hf.1
  have hdk := (faults_rec (p := []) hk (d := d) (by omega)).2.1
  rw [faults_eq, h0, if_pos rfl, if_neg (by decide), if_pos hk, List.nil_append, List.append_eq_nil_iff, List.map_eq_nil_iff] at hf
  exact ⟨hdk, faultsF_none hf.1, hf.2⟩
theorem put_one {d x p : D} {s : ByteArray} (h : putV d x [s] = (p, 0)) : rightB d = true ∧ rightB x = true ∧ setD d s x = some p := by
  obtain ⟨h1, h2, h3⟩ := (putV_ok h).2 rfl
  exact ⟨h1, h2, by simpa only [putR] using h3⟩
theorem set_kind {d x p : D} {s : ByteArray} (h : setD d s x = some p) : p.kind = d.kind := by
  rcases set_ways h with ⟨i, _, rfl⟩ | ⟨_, _, rfl⟩ | ⟨_, _, _, rfl⟩ <;> rfl
theorem set_len {d x p : D} {s : ByteArray} (h : setD d s x = some p) : d.kids.length ≤ p.kids.length := by
  rcases set_ways h with ⟨i, _, rfl⟩ | ⟨_, _, rfl⟩ | ⟨_, _, _, rfl⟩
  · rw [kids_setKid]; simp
  · simp [D.ins, D.kids]; omega
  · simp [D.snoc, D.kids]
/-- A record to which something was put that the type has not. -/
theorem more_rec {t : T} {d x p : D} {s : ByteArray} (hk : t.kind = 1) (hd : isV t d = true) (hp : putV d x [s] = (p, 0)) (hr : rightB p = true) (hs : fieldOf t s < 0) :
    fitsAV t p = 0 ∧ isV t p = false ∧ (allV t p).length = 1 := by
  obtain ⟨hdk, hff, hmore⟩ := is_rec hk hd
  obtain ⟨hrd, hrx, hset⟩ := put_one hp
  have hpk : p.kind = 1 := by rw [set_kind hset, hdk]
  have hdp := right_part hrd; have hpp := right_part hr
  have hb : bothB t p = true := by have h1 := isV_both hd; unfold bothB at h1 ⊢; rw [Bool.and_eq_true] at h1; rw [h1.1, hr]; rfl
  have h0 : fitsV t p = 0 := fits_rec hk hpk
  have hget := one_get x d p s hset hdp
  have hapart := fun u (hu : s ≠ u) => one_apart x d p s u hset hdp hu
  have hne : ∀ f ∈ t.fields, s ≠ f.name := fun f hf e => fieldOf_there hk ⟨f, hf, e.symm⟩ hs
  have hF : faultsF t.fields p [] = [] := faultsF_nil fun f hf => by
    have h1 := hff f hf
    rw [faultsF1_kid hdp hdk] at h1
    rw [faultsF1_kid hpp hpk, hapart f.name (hne f hf)]; exact h1
  have hmem : ∀ u, u ∈ moreV t p.keys ↔ u = s := fun u => by
    unfold moreV
    rw [List.mem_filter]
    constructor
    · rintro ⟨h1, h2⟩
      by_cases e : s = u
      · exact e.symm
      · exfalso
        have h3 : kidAt p u ≠ none := fun h => (kid_none hpp (.inl hpk)).1 h h1
        rw [hapart u e] at h3
        have h4 : u ∈ d.keys := by
          by_cases h5 : u ∈ d.keys
          · exact h5
          · exact absurd ((kid_none hdp (.inl hdk)).2 h5) h3
        have h5 : u ∈ moreV t d.keys := by unfold moreV; rw [List.mem_filter]; exact ⟨h4, h2⟩
        rw [hmore] at h5; cases h5
    · rintro rfl
      refine ⟨?_, by simpa using hs⟩
      by_cases h5 : u ∈ p.keys
      · exact h5
      · rw [(kid_none hpp (.inl hpk)).2 h5] at hget; cases hget
  have hup : Up (moreV t p.keys) := List.Pairwise.sublist (List.filter_sublist) (keys_up (.inl hpk) (part_sound hpp))
  have hone : moreV t p.keys = [s] := up_eq hup (by unfold Up; simp) fun u => by rw [hmem u]; simp
  have hfl : t.faults p [] = [([] ++ [s], 10)] := by
    rw [faults_eq, h0, if_pos rfl, if_neg (by decide), if_pos hk, hF, hone]; rfl
  refine ⟨by unfold fitsAV; rw [if_pos hb, h0], ?_, ?_⟩
  · rw [isV_right hb, hfl]; rfl
  · unfold allV; rw [if_pos hb, hfl]; rfl
/-- A dictionary to which something was put. -/
theorem more_dict {t y : T} {d x p : D} {s : ByteArray} (hk : t.kind = 2) (hy : t.of = [y]) (hd : isV t d = true) (hp : putV d x [s] = (p, 0)) (hr : rightB p = true) :
    isV t p = (isV y x && decide ((p.kids.length : Int) ≤ t.hi)) := by
  have hbd := isV_both hd
  obtain ⟨hrd, hrx, hset⟩ := put_one hp
  have hdp := right_part hrd; have hpp := right_part hr
  have hrt : rightT t = true := by unfold bothB at hbd; rw [Bool.and_eq_true] at hbd; exact hbd.1
  have hb : bothB t p = true := by unfold bothB; rw [hrt, hr]; rfl
  have hby : bothB y x = true := by unfold bothB; rw [rightT_of hrt hy, hrx]; rfl
  rw [isV_right hbd] at hd
  have hf : t.faults d [] = [] := of_decide_eq_true hd
  have h0 : fitsV t d = 0 := by
    rw [faults_eq, List.append_eq_nil_iff] at hf
    by_cases e : fitsV t d = 0
    · exact e
    · rw [if_neg e] at hf; cases hf.1
  have hkv : kindV t = 2 := by unfold kindV; rw [hk]; rfl
  have hdk : d.kind = 2 := by
    have e := h0
    unfold fitsV at e
    by_cases h : d.kind = kindV t
    · rw [h, hkv]
    · rw [if_neg h] at e; cases e
  have hpk : p.kind = 2 := by rw [set_kind hset, hdk]
  have hne1 : t.kind ≠ 1 := by omega
  rw [faults_kids hne1 (by omega) (.inl hy), h0, if_pos rfl, List.nil_append] at hf
  have hkids := kidsFl_none _ (Nat.le_refl _) hf
  have hrg : ∀ z : D, rangedV t z = betweenB t z.kids.length := fun z => by unfold rangedV; rw [if_pos (Or.inl hk)]
  have hlo : t.lo ≤ d.kids.length := by
    have e := h0
    unfold fitsV at e
    rw [if_pos (by rw [hdk, hkv]), hrg] at e
    by_cases h : betweenB t (d.kids.length : Int) = true
    · unfold betweenB at h; simp only [Bool.and_eq_true, decide_eq_true_eq] at h; exact h.1
    · rw [if_neg h] at e; cases e
  have hlen := set_len hset
  have hfp : fitsV t p = if (p.kids.length : Int) ≤ t.hi then 0 else 8 := by
    unfold fitsV
    rw [if_pos (by rw [hpk, hkv]), hrg]
    unfold betweenB
    by_cases h : (p.kids.length : Int) ≤ t.hi
    · rw [if_pos (by simp only [Bool.and_eq_true, decide_eq_true_eq]; omega), if_pos h]
    · rw [if_neg (by simp only [Bool.and_eq_true, decide_eq_true_eq]; omega), if_neg h]
  have hpl := (docOk_of (part_sound hpp)).same (.inr hpk)
  have hdl := (docOk_of (part_sound hdp)).same (.inr hdk)
  have hget := one_get x d p s hset hdp
  have hyd : ∀ (i : Nat) (hi : i < d.kids.length) (q : List ByteArray), y.faults d.kids[i] q = [] := fun i hi q => nil_path _ y _ _ q (Nat.le_refl _) (hkids i hi hi)
  have hiff : (∀ (i : Nat) (hi : i < p.kids.length) (q : List ByteArray), y.faults p.kids[i] q = []) ↔ y.faults x [] = [] := by
    constructor
    · intro h
      obtain ⟨i, hi, hi2, _, e2, _⟩ := kid_some hpp (.inr hpk) hget
      rw [← e2]; exact h i hi2 []
    · intro h i hi q
      have hik : i < p.keys.length := by omega
      have hka := kid_at hpp (.inr hpk) hik hi
      by_cases e : s = p.keys[i]
      · rw [← e, hget] at hka
        injection hka with hka
        rw [← hka]; exact nil_path _ y _ _ q (Nat.le_refl _) h
      · rw [one_apart x d p s _ hset hdp e] at hka
        obtain ⟨j, _, hj2, _, e2, _⟩ := kid_some hdp (.inr hdk) hka
        rw [← e2]; exact hyd j hj2 q
  rw [isV_right hb, isV_right hby, faults_kids hne1 (by rw [hfp]; split <;> decide) (.inl hy), hfp]
  by_cases hx : y.faults x [] = []
  · rw [kidsFl_nil (hiff.2 hx) _ (Nat.le_refl _)]
    by_cases h : (p.kids.length : Int) ≤ t.hi <;> simp [h, hx]
  · have : kidsFl y p [] p.kids.length ≠ [] := fun h => hx (hiff.1 fun i hi q => nil_path _ y _ _ q (Nat.le_refl _) (kidsFl_none _ (Nat.le_refl _) h i hi hi))
    simp [hx, this]
end Go.Proofs.YtlemlgllkcgigaaGreatDoor
namespace Go.Proofs.YtlemlgllkcgigaaGreatDoor
open Go.RowKit Go.Deep

theorem cType : Tryz.prog.cellsOf 26 = 6 := by kernel_rfl
theorem cField : Tryz.prog.cellsOf 48 = 8 := by kernel_rfl
theorem t_cInt : Tryz.prog.cellsOf 3 = 1 := by kernel_rfl
theorem cBool : Tryz.prog.cellsOf 4 = 1 := by kernel_rfl
theorem t_cStr : Tryz.prog.cellsOf 9 = 1 := by kernel_rfl
theorem t_cStrs : Tryz.prog.cellsOf 22 = 1 := by kernel_rfl
theorem cTypes : Tryz.prog.cellsOf 24 = 1 := by kernel_rfl
theorem cFields : Tryz.prog.cellsOf 23 = 1 := by kernel_rfl

theorem t_cell_spot {w : World} {a : Addr} {v : Value} (h : w.cell? a = some v) : a = ⟨a.block, a.off, none⟩ ∧ a.block < w.heap.size := by
  obtain ⟨b, o, s⟩ := a
  unfold World.cell? at h
  split at h
  · rename_i hb
    cases s with
    | none => exact ⟨rfl, (Array.getElem?_eq_some_iff.1 hb).1⟩
    | some _ => simp at h
  · cases h
theorem t_add_none (b o i : Nat) : (Addr.mk b o none).add i = ⟨b, o + i, none⟩ := by
  unfold Addr.add
  split
  · rename_i h; subst h; rfl
  · rfl
theorem t_pick_list {α : Type} {p : Nat → α → Prop} : ∀ (n : Nat), (∀ i, i < n → ∃ x, p i x) → ∃ l : List α, l.length = n ∧ ∀ (i : Nat) (h : i < l.length), p i l[i]
  | 0, _ => ⟨[], rfl, fun i h => by simp at h⟩
  | n + 1, h => by
    obtain ⟨l, hl, hp⟩ := t_pick_list n fun i hi => h i (by omega)
    obtain ⟨x, hx⟩ := h n (by omega)
    refine ⟨l ++ [x], by simp [hl], fun i hi => ?_⟩
    rcases Nat.lt_or_ge i l.length with h' | h'
    · rw [List.getElem_append_left h']; exact hp i h'
    · have e : i = l.length := by simp at hi; omega
      subst e
      simpa [hl] using hx
theorem TypesIn.of_at {w : World} {B b off : Nat} : ∀ {l : List T} {i : Nat}, (∀ (k : Nat) (h : k < l.length),
    ∃ v0 v1 v2 v3 v4 v5 : Value, w.cell? ⟨b, off + (i + k) * 6, none⟩ = some v0 ∧ w.cell? ⟨b, off + (i + k) * 6 + 1, none⟩ = some v1 ∧ w.cell? ⟨b, off + (i + k) * 6 + 2, none⟩ = some v2 ∧ w.cell? ⟨b, off + (i + k) * 6 + 3, none⟩ = some v3 ∧ w.cell? ⟨b, off + (i + k) * 6 + 4, none⟩ = some v4 ∧ w.cell? ⟨b, off + (i + k) * 6 + 5, none⟩ = some v5 ∧ TypeIn w B (l[k]) v0 v1 v2 v3 v4 v5) → TypesIn w B b off i l
  | [], _, _ => by simp [TypesIn]
  | d :: r, i, h => by
    simp only [TypesIn]
    refine ⟨h 0 (by simp), TypesIn.of_at fun k hk => ?_⟩
    have := h (k + 1) (by simpa using hk)
    rw [show i + (k + 1) = i + 1 + k from by omega] at this
    simpa using this
theorem FieldsIn.of_at {w : World} {B b off : Nat} : ∀ {l : List F} {i : Nat}, (∀ (k : Nat) (h : k < l.length), FieldIn w B b (off + (i + k) * 8) (l[k])) → FieldsIn w B b off i l
  | [], _, _ => by simp [FieldsIn]
  | d :: r, i, h => by
    simp only [FieldsIn]
    refine ⟨h 0 (by simp), FieldsIn.of_at fun k hk => ?_⟩
    have := h (k + 1) (by simpa using hk)
    rw [show i + (k + 1) = i + 1 + k from by omega] at this
    simpa using this

section
variable {H : Type} {enc : TypeId × Value → H} {W : World} {base : Nat} {sp : Nat → Bool} {held : Bool}
theorem t_mapM_cells {a : Addr} {cs : List Value} {n : Nat} (h : W.cells? base a n = some cs) : cs.length = n ∧ ∀ i, i < n → W.cell? (a.add i) = cs[i]? := by
  unfold World.cells? at h
  split at h
  · have hl := mapM_some_length h
    refine ⟨by simpa using hl, fun i hi => ?_⟩
    have := mapM_some_get h i i (by simp [hi])
    exact this
  · cases h
theorem t_open_strs {fuel : Nat} {cs : List Value} {x : DataW H × List MemPlace} (h : DataW.trod enc Tryz.prog W base sp held fuel 22 cs = some x) :
    ∃ (v : Value) (xs : List ByteArray), cs = [v] ∧ Strs W W.heap.size v xs ∧ xs.length ≤ maxLen ∧ ∀ s ∈ xs, s.size ≤ maxLen := by
  rcases open_slice1 Tryz.underlying22 t_cStr h with ⟨rfl, _⟩ | ⟨a, len, cap, m, n, V, D, Pl, rfl, _, hl, hc, hm, _, hx⟩
  · exact ⟨_, [], rfl, ⟨none, 0, rfl, by simp, fun h => by simp at h⟩, by simp, by simp⟩
  · have hlm : len ≤ m := by rw [hm]; split <;> omega
    obtain ⟨xs, hxl, hxp⟩ := t_pick_list (p := fun i (s : ByteArray) => V i = .string s ∧ s.size ≤ maxLen) len fun i hi => by
      obtain ⟨s, e, _, hs⟩ := DataW.trod_string Tryz.underlying9 (hx i (by omega)).2
      exact ⟨s, by simpa using e, hs⟩
    refine ⟨_, xs, rfl, ⟨some a, cap, by rw [hxl], by omega, fun h0 => ?_⟩, by omega, fun s hs => ?_⟩
    · obtain ⟨h1, h2⟩ := t_cell_spot (hx 0 (by omega)).1
      rw [show a.add 0 = a from by simp [Addr.add]] at h1 h2
      refine ⟨a.block, a.off, by rw [← h1], h2, fun i hi => ?_⟩
      have h3 := (hx i (by omega)).1
      rw [h1, t_add_none] at h3
      rw [h3, (hxp i hi).1]
    · obtain ⟨i, hi, rfl⟩ := List.mem_iff_getElem.1 hs
      exact (hxp i hi).2
/-- What is read as a type. -/
def OkType (W : World) (cs : List Value) : Prop := ∃ (d : T) (v0 v1 v2 v3 v4 v5 : Value), cs = [v0, v1, v2, v3, v4, v5] ∧ TypeIn W W.heap.size d v0 v1 v2 v3 v4 v5
def OkField (W : World) (cs : List Value) : Prop := ∃ (d : T) (s : ByteArray) (o : Bool) (v0 v1 v2 v3 v4 v5 : Value), cs = [.string s, .bool o, v0, v1, v2, v3, v4, v5] ∧ TypeIn W W.heap.size d v0 v1 v2 v3 v4 v5
set_option maxRecDepth 100000 in
theorem open_field_step {fuel : Nat} (ih : ∀ n, n < fuel → ∀ (cs : List Value) (x : DataW H × List MemPlace), DataW.trod enc Tryz.prog W base sp held n 26 cs = some x → OkType W cs) {cs : List Value} {x : DataW H × List MemPlace} (h : DataW.trod enc Tryz.prog W base sp held fuel 48 cs = some x) : OkField W cs := by
  obtain ⟨xs, n, hn, _, hcl, hxl, hfd⟩ := DataW.trod_struct Tryz.underlying48 h
  rw [cField] at hcl
  match cs, hcl with
  | [u0, u1, v0, v1, v2, v3, v4, v5], _ =>
    match xs, hxl with
    | [y0, y1, y2], _ =>
      have h0 : DataW.trod enc Tryz.prog W base sp held n 9 [u0] = some y0 := by simpa [t_cStr] using hfd 0 _ rfl
      have h1 : DataW.trod enc Tryz.prog W base sp held n 4 [u1] = some y1 := by simpa [cBool] using hfd 1 _ rfl
      have h2 : DataW.trod enc Tryz.prog W base sp held n 26 [v0, v1, v2, v3, v4, v5] = some y2 := by simpa [cType] using hfd 2 _ rfl
      obtain ⟨s, e0, _, _⟩ := DataW.trod_string Tryz.underlying9 h0
      obtain ⟨o, e1, _⟩ := DataW.trod_bool Tryz.underlying4 h1
      simp only [List.cons.injEq, and_true] at e0 e1
      subst e0; subst e1
      obtain ⟨d, w0, w1, w2, w3, w4, w5, e, hd⟩ := ih n (by omega) _ _ h2
      simp only [List.cons.injEq, and_true] at e
      obtain ⟨rfl, rfl, rfl, rfl, rfl, rfl⟩ := e
      exact ⟨d, s, o, _, _, _, _, _, _, rfl, hd⟩
set_option maxRecDepth 100000 in
theorem open_types (N : Nat) : ∀ (fuel : Nat), fuel ≤ N → ∀ (cs : List Value) (x : DataW H × List MemPlace), DataW.trod enc Tryz.prog W base sp held fuel 26 cs = some x → OkType W cs := by
  induction N with
  | zero =>
    intro fuel hf cs x h
    obtain rfl : fuel = 0 := by omega
    simp [DataW.trod] at h
  | succ N ih =>
    intro fuel hf cs x h
    obtain ⟨xs, n, hn, _, hcl, hxl, hfd⟩ := DataW.trod_struct Tryz.underlying26 h
    rw [cType] at hcl
    match cs, hcl with
    | [v0, v1, v2, v3, v4, v5], _ =>
      match xs, hxl with
      | [y0, y1, y2, y3, y4, y5], _ =>
        have h0 : DataW.trod enc Tryz.prog W base sp held n 3 [v0] = some y0 := by simpa [t_cInt] using hfd 0 _ rfl
        have h1 : DataW.trod enc Tryz.prog W base sp held n 3 [v1] = some y1 := by simpa [t_cInt] using hfd 1 _ rfl
        have h2 : DataW.trod enc Tryz.prog W base sp held n 3 [v2] = some y2 := by simpa [t_cInt] using hfd 2 _ rfl
        have h3 : DataW.trod enc Tryz.prog W base sp held n 22 [v3] = some y3 := by simpa [t_cStrs] using hfd 3 _ rfl
        have h4 : DataW.trod enc Tryz.prog W base sp held n 23 [v4] = some y4 := by simpa [cFields] using hfd 4 _ rfl
        have h5 : DataW.trod enc Tryz.prog W base sp held n 24 [v5] = some y5 := by simpa [cTypes] using hfd 5 _ rfl
        obtain ⟨k, e0, _, _⟩ := DataW.trod_int Tryz.underlying3 h0
        obtain ⟨m, e1, _, _⟩ := DataW.trod_int Tryz.underlying3 h1
        obtain ⟨z, e2, _, _⟩ := DataW.trod_int Tryz.underlying3 h2
        obtain ⟨u3, ks, e3, hks, _, _⟩ := t_open_strs h3
        simp only [List.cons.injEq, and_true] at e0 e1 e2 e3
        subst e0; subst e1; subst e2; subst e3
        have hF : ∃ l : List F, FieldsV W W.heap.size v4 l := by
          rcases DataW.trod_slice Tryz.underlying23 h4 with ⟨e4, _⟩ | ⟨a, len, cap, elems, rest, n', hn', e4, _, _, hl, _, hlen, hel, _, _⟩
          · simp only [List.cons.injEq, and_true] at e4
            exact ⟨[], none, 0, by rw [e4]; rfl, by simp, fun h => absurd h (by simp)⟩
          · simp only [List.cons.injEq, and_true] at e4
            rw [cField] at hel
            have hget : ∀ i, i < len → ∃ (f : F), W.cell? ((a.add (i * 8)).add 0) = some (.string f.name) ∧ W.cell? ((a.add (i * 8)).add 1) = some (.bool f.opt) ∧ ∃ v0 v1 v2 v3 v4 v5 : Value, W.cell? ((a.add (i * 8)).add 2) = some v0 ∧ W.cell? ((a.add (i * 8)).add 3) = some v1 ∧ W.cell? ((a.add (i * 8)).add 4) = some v2 ∧ W.cell? ((a.add (i * 8)).add 5) = some v3 ∧ W.cell? ((a.add (i * 8)).add 6) = some v4 ∧ W.cell? ((a.add (i * 8)).add 7) = some v5 ∧ TypeIn W W.heap.size f.type v0 v1 v2 v3 v4 v5 := by
              intro i hi
              have h' := hel i hi
              rw [List.getElem?_eq_getElem (by omega)] at h'
              obtain ⟨cs', hc1, hc2⟩ := Option.bind_eq_some_iff.1 h'
              obtain ⟨d, s, o, w0, w1, w2, w3, w4, w5, rfl, hd⟩ := open_field_step (fun q hq => ih q (by omega)) hc2
              have hc := (t_mapM_cells hc1).2
              exact ⟨.mk s o d, hc 0 (by omega), hc 1 (by omega), w0, w1, w2, w3, w4, w5, hc 2 (by omega), hc 3 (by omega), hc 4 (by omega), hc 5 (by omega), hc 6 (by omega), hc 7 (by omega), hd⟩
            obtain ⟨l, hll, hlp⟩ := t_pick_list len hget
            refine ⟨l, some a, cap, by rw [e4, hll], by omega, fun h0 => ?_⟩
            obtain ⟨hz, _⟩ := hlp 0 h0
            obtain ⟨q1, q2⟩ := t_cell_spot hz
            rw [show (a.add (0 * 8)).add 0 = a from by simp [Addr.add]] at q1 q2
            refine ⟨a.block, a.off, by rw [← q1], q2, FieldsIn.of_at fun i hi => ?_⟩
            obtain ⟨c0, c1, w0, w1, w2, w3, w4, w5, c2, c3, c4, c5, c6, c7, hd⟩ := hlp i hi
            rw [q1, t_add_none, t_add_none] at c0 c1 c2 c3 c4 c5 c6 c7
            rw [Nat.zero_add]
            generalize hf : l[i] = f at c0 c1 hd ⊢
            obtain ⟨s, o, d⟩ := f
            simp only [FieldIn]
            exact ⟨c0, c1, w0, w1, w2, w3, w4, w5, c2, c3, c4, c5, c6, c7, hd⟩
        have hO : ∃ l : List T, TypesV W W.heap.size v5 l := by
          rcases DataW.trod_slice Tryz.underlying24 h5 with ⟨e4, _⟩ | ⟨a, len, cap, elems, rest, n', hn', e4, _, _, hl, _, hlen, hel, _, _⟩
          · simp only [List.cons.injEq, and_true] at e4
            exact ⟨[], none, 0, by rw [e4]; rfl, by simp, fun h => absurd h (by simp)⟩
          · simp only [List.cons.injEq, and_true] at e4
            rw [cType] at hel
            have hget : ∀ i, i < len → ∃ (d : T), ∃ v0 v1 v2 v3 v4 v5 : Value, W.cell? ((a.add (i * 6)).add 0) = some v0 ∧ W.cell? ((a.add (i * 6)).add 1) = some v1 ∧ W.cell? ((a.add (i * 6)).add 2) = some v2 ∧ W.cell? ((a.add (i * 6)).add 3) = some v3 ∧ W.cell? ((a.add (i * 6)).add 4) = some v4 ∧ W.cell? ((a.add (i * 6)).add 5) = some v5 ∧ TypeIn W W.heap.size d v0 v1 v2 v3 v4 v5 := by
              intro i hi
              have h' := hel i hi
              rw [List.getElem?_eq_getElem (by omega)] at h'
              obtain ⟨cs', hc1, hc2⟩ := Option.bind_eq_some_iff.1 h'
              obtain ⟨d, w0, w1, w2, w3, w4, w5, rfl, hd⟩ := ih n' (by omega) cs' _ hc2
              have hc := (t_mapM_cells hc1).2
              exact ⟨d, w0, w1, w2, w3, w4, w5, hc 0 (by omega), hc 1 (by omega), hc 2 (by omega), hc 3 (by omega), hc 4 (by omega), hc 5 (by omega), hd⟩
            obtain ⟨l, hll, hlp⟩ := t_pick_list len hget
            refine ⟨l, some a, cap, by rw [e4, hll], by omega, fun h0 => ?_⟩
            obtain ⟨_, _, _, _, _, _, hz, _⟩ := hlp 0 h0
            obtain ⟨q1, q2⟩ := t_cell_spot hz
            rw [show (a.add (0 * 6)).add 0 = a from by simp [Addr.add]] at q1 q2
            refine ⟨a.block, a.off, by rw [← q1], q2, TypesIn.of_at fun i hi => ?_⟩
            obtain ⟨w0, w1, w2, w3, w4, w5, c0, c1, c2, c3, c4, c5, hd⟩ := hlp i hi
            rw [q1, t_add_none, t_add_none] at c0 c1 c2 c3 c4 c5
            rw [Nat.zero_add]
            exact ⟨w0, w1, w2, w3, w4, w5, c0, c1, c2, c3, c4, c5, hd⟩
        obtain ⟨lf, hlf⟩ := hF
        obtain ⟨lo, hlo⟩ := hO
        exact ⟨.mk k m z ks lf lo, _, _, _, _, _, _, rfl, TypeIn.mk_ (d := .mk k m z ks lf lo) hks hlf hlo⟩
theorem open_type {v : Value} {d : DataW H} {p : List MemPlace} (h : DataW.Trod enc Tryz.prog W base sp held 26 v d p) (hv : ∃ cs, v = .agg cs) :
    ∃ (t : T), TypeV W W.heap.size t v := by
  obtain ⟨fuel, hx⟩ := h
  obtain ⟨cs, rfl⟩ := hv
  obtain ⟨d, v0, v1, v2, v3, v4, v5, e, hd⟩ := open_types fuel fuel (Nat.le_refl _) _ _ hx
  refine ⟨d, v0, v1, v2, v3, v4, v5, ?_, hd⟩
  have : cs.toList = [v0, v1, v2, v3, v4, v5] := e
  obtain ⟨l⟩ := cs
  simp only at this
  rw [this]
end
end Go.Proofs.YtlemlgllkcgigaaGreatDoor

namespace Go.Proofs.YtlemlgllkcgigaaGreatDoor
open Go.RowKit Go.Deep

theorem cDoc : Tryz.prog.cellsOf 29 = 5 := by kernel_rfl
theorem cInt : Tryz.prog.cellsOf 3 = 1 := by kernel_rfl
theorem cStr : Tryz.prog.cellsOf 9 = 1 := by kernel_rfl
theorem cStrs : Tryz.prog.cellsOf 22 = 1 := by kernel_rfl
theorem cDocs : Tryz.prog.cellsOf 27 = 1 := by kernel_rfl

theorem cell_spot {w : World} {a : Addr} {v : Value} (h : w.cell? a = some v) : a = ⟨a.block, a.off, none⟩ ∧ a.block < w.heap.size := by
  obtain ⟨b, o, s⟩ := a
  unfold World.cell? at h
  split at h
  · rename_i hb
    cases s with
    | none => exact ⟨rfl, (Array.getElem?_eq_some_iff.1 hb).1⟩
    | some _ => simp at h
  · cases h
theorem add_none (b o i : Nat) : (Addr.mk b o none).add i = ⟨b, o + i, none⟩ := by
  unfold Addr.add
  split
  · rename_i h; subst h; rfl
  · rfl
theorem pick_list {α : Type} {p : Nat → α → Prop} : ∀ (n : Nat), (∀ i, i < n → ∃ x, p i x) → ∃ l : List α, l.length = n ∧ ∀ (i : Nat) (h : i < l.length), p i l[i]
  | 0, _ => ⟨[], rfl, fun i h => by simp at h⟩
  | n + 1, h => by
    obtain ⟨l, hl, hp⟩ := pick_list n fun i hi => h i (by omega)
    obtain ⟨x, hx⟩ := h n (by omega)
    refine ⟨l ++ [x], by simp [hl], fun i hi => ?_⟩
    rcases Nat.lt_or_ge i l.length with h' | h'
    · rw [List.getElem_append_left h']; exact hp i h'
    · have e : i = l.length := by simp at hi; omega
      subst e
      simpa [hl] using hx
theorem KidsIn.of_at {w : World} {B b off : Nat} : ∀ {l : List D} {i : Nat}, (∀ (k : Nat) (h : k < l.length),
    ∃ v0 v1 v2 v3 v4 : Value, w.cell? ⟨b, off + (i + k) * 5, none⟩ = some v0 ∧ w.cell? ⟨b, off + (i + k) * 5 + 1, none⟩ = some v1 ∧ w.cell? ⟨b, off + (i + k) * 5 + 2, none⟩ = some v2 ∧ w.cell? ⟨b, off + (i + k) * 5 + 3, none⟩ = some v3 ∧ w.cell? ⟨b, off + (i + k) * 5 + 4, none⟩ = some v4 ∧ DocIn w B (l[k]) v0 v1 v2 v3 v4) → KidsIn w B b off i l
  | [], _, _ => by simp [KidsIn]
  | d :: r, i, h => by
    simp only [KidsIn]
    refine ⟨h 0 (by simp), KidsIn.of_at fun k hk => ?_⟩
    have := h (k + 1) (by simpa using hk)
    rw [show i + (k + 1) = i + 1 + k from by omega] at this
    simpa using this

section
variable {H : Type} {enc : TypeId × Value → H} {W : World} {base : Nat} {sp : Nat → Bool} {held : Bool}
theorem mapM_cells {a : Addr} {cs : List Value} {n : Nat} (h : W.cells? base a n = some cs) : cs.length = n ∧ ∀ i, i < n → W.cell? (a.add i) = cs[i]? := by
  unfold World.cells? at h
  split at h
  · have hl := mapM_some_length h
    refine ⟨by simpa using hl, fun i hi => ?_⟩
    have := mapM_some_get h i i (by simp [hi])
    exact this
  · cases h
theorem open_strs {fuel : Nat} {cs : List Value} {x : DataW H × List MemPlace} (h : DataW.trod enc Tryz.prog W base sp held fuel 22 cs = some x) :
    ∃ (v : Value) (xs : List ByteArray), cs = [v] ∧ Strs W W.heap.size v xs ∧ xs.length ≤ maxLen ∧ ∀ s ∈ xs, s.size ≤ maxLen := by
  rcases open_slice1 Tryz.underlying22 cStr h with ⟨rfl, _⟩ | ⟨a, len, cap, m, n, V, D, Pl, rfl, _, hl, hc, hm, _, hx⟩
  · exact ⟨_, [], rfl, ⟨none, 0, rfl, by simp, fun h => by simp at h⟩, by simp, by simp⟩
  · have hlm : len ≤ m := by rw [hm]; split <;> omega
    obtain ⟨xs, hxl, hxp⟩ := pick_list (p := fun i (s : ByteArray) => V i = .string s ∧ s.size ≤ maxLen) len fun i hi => by
      obtain ⟨s, e, _, hs⟩ := DataW.trod_string Tryz.underlying9 (hx i (by omega)).2
      exact ⟨s, by simpa using e, hs⟩
    refine ⟨_, xs, rfl, ⟨some a, cap, by rw [hxl], by omega, fun h0 => ?_⟩, by omega, fun s hs => ?_⟩
    · obtain ⟨h1, h2⟩ := cell_spot (hx 0 (by omega)).1
      rw [show a.add 0 = a from by simp [Addr.add]] at h1 h2
      refine ⟨a.block, a.off, by rw [← h1], h2, fun i hi => ?_⟩
      have h3 := (hx i (by omega)).1
      rw [h1, add_none] at h3
      rw [h3, (hxp i hi).1]
    · obtain ⟨i, hi, rfl⟩ := List.mem_iff_getElem.1 hs
      exact (hxp i hi).2
set_option maxRecDepth 100000 in
theorem open_docs (N : Nat) : ∀ (fuel : Nat), fuel ≤ N → ∀ (cs : List Value) (x : DataW H × List MemPlace), DataW.trod enc Tryz.prog W base sp held fuel 29 cs = some x →
    ∃ (d : D) (v0 v1 v2 v3 v4 : Value), cs = [v0, v1, v2, v3, v4] ∧ DocIn W W.heap.size d v0 v1 v2 v3 v4 := by
  induction N with
  | zero =>
    intro fuel hf cs x h
    obtain rfl : fuel = 0 := by omega
    simp [DataW.trod] at h
  | succ N ih =>
    intro fuel hf cs x h
    obtain ⟨xs, n, hn, _, hcl, hxl, hfd⟩ := DataW.trod_struct Tryz.underlying29 h
    rw [cDoc] at hcl
    match cs, hcl with
    | [v0, v1, v2, v3, v4], _ =>
      match xs, hxl with
      | [y0, y1, y2, y3, y4], _ =>
        have h0 : DataW.trod enc Tryz.prog W base sp held n 3 [v0] = some y0 := by simpa [cInt] using hfd 0 _ rfl
        have h1 : DataW.trod enc Tryz.prog W base sp held n 3 [v1] = some y1 := by simpa [cInt] using hfd 1 _ rfl
        have h2 : DataW.trod enc Tryz.prog W base sp held n 9 [v2] = some y2 := by simpa [cStr] using hfd 2 _ rfl
        have h3 : DataW.trod enc Tryz.prog W base sp held n 22 [v3] = some y3 := by simpa [cStrs] using hfd 3 _ rfl
        have h4 : DataW.trod enc Tryz.prog W base sp held n 27 [v4] = some y4 := by simpa [cDocs] using hfd 4 _ rfl
        obtain ⟨k, e0, _, _⟩ := DataW.trod_int Tryz.underlying3 h0
        obtain ⟨m, e1, _, _⟩ := DataW.trod_int Tryz.underlying3 h1
        obtain ⟨s, e2, _, _⟩ := DataW.trod_string Tryz.underlying9 h2
        obtain ⟨u3, ks, e3, hks, _, _⟩ := open_strs h3
        simp only [List.cons.injEq, and_true] at e0 e1 e2 e3
        subst e0; subst e1; subst e2; subst e3
        rcases DataW.trod_slice Tryz.underlying27 h4 with ⟨e4, _⟩ | ⟨a, len, cap, elems, rest, n', hn', e4, _, _, hl, _, hlen, hel, _, _⟩
        · simp only [List.cons.injEq, and_true] at e4
          subst e4
          refine ⟨.mk k m s ks [], _, _, _, _, _, rfl, ?_⟩
          simp only [DocIn]
          exact ⟨trivial, trivial, trivial, hks, none, 0, rfl, by simp, fun h => by simp at h⟩
        · simp only [List.cons.injEq, and_true] at e4
          subst e4
          rw [cDoc] at hel
          have hget : ∀ i, i < len → ∃ (d : D), ∃ v0 v1 v2 v3 v4 : Value, W.cell? ((a.add (i * 5)).add 0) = some v0 ∧ W.cell? ((a.add (i * 5)).add 1) = some v1 ∧ W.cell? ((a.add (i * 5)).add 2) = some v2 ∧ W.cell? ((a.add (i * 5)).add 3) = some v3 ∧ W.cell? ((a.add (i * 5)).add 4) = some v4 ∧ DocIn W W.heap.size d v0 v1 v2 v3 v4 := by
            intro i hi
            have h' := hel i hi
            rw [List.getElem?_eq_getElem (by omega)] at h'
            obtain ⟨cs', hc1, hc2⟩ := Option.bind_eq_some_iff.1 h'
            obtain ⟨d, w0, w1, w2, w3, w4, rfl, hd⟩ := ih n' (by omega) cs' _ hc2
            have hc := (mapM_cells hc1).2
            exact ⟨d, w0, w1, w2, w3, w4, hc 0 (by omega), hc 1 (by omega), hc 2 (by omega), hc 3 (by omega), hc 4 (by omega), hd⟩
          obtain ⟨l, hll, hlp⟩ := pick_list len hget
          refine ⟨.mk k m s ks l, _, _, _, _, _, rfl, ?_⟩
          simp only [DocIn]
          refine ⟨trivial, trivial, trivial, hks, some a, cap, by rw [hll], by omega, fun h0 => ?_⟩
          obtain ⟨_, _, _, _, _, hz, _⟩ := hlp 0 h0
          obtain ⟨q1, q2⟩ := cell_spot hz
          rw [show (a.add (0 * 5)).add 0 = a from by simp [Addr.add]] at q1 q2
          refine ⟨a.block, a.off, by rw [← q1], q2, KidsIn.of_at fun i hi => ?_⟩
          obtain ⟨w0, w1, w2, w3, w4, c0, c1, c2, c3, c4, hd⟩ := hlp i hi
          rw [q1, add_none, add_none] at c0 c1 c2 c3 c4
          rw [Nat.zero_add]
          exact ⟨w0, w1, w2, w3, w4, c0, c1, c2, c3, c4, hd⟩
theorem open_doc {v : Value} {d : DataW H} {p : List MemPlace} (h : DataW.Trod enc Tryz.prog W base sp held 29 v d p) (hv : ∃ cs, v = .agg cs) :
    ∃ (d : D) (v0 v1 v2 v3 v4 : Value), v = .agg #[v0, v1, v2, v3, v4] ∧ DocIn W W.heap.size d v0 v1 v2 v3 v4 := by
  obtain ⟨fuel, hx⟩ := h
  obtain ⟨cs, rfl⟩ := hv
  obtain ⟨d, v0, v1, v2, v3, v4, e, hd⟩ := open_docs fuel fuel (Nat.le_refl _) _ _ hx
  refine ⟨d, v0, v1, v2, v3, v4, ?_, hd⟩
  have : cs.toList = [v0, v1, v2, v3, v4] := e
  obtain ⟨l⟩ := cs
  simp only at this
  rw [this]
end
end Go.Proofs.YtlemlgllkcgigaaGreatDoor

namespace Go.Proofs.YtlemlgllkcgigaaGreatDoor
open Go.ChangeShapes Go.WideShapes Go.ChangeAt Go.RowKit
set_option maxRecDepth 100000 in
theorem agg_of_type {W : World} {b0 : Nat} {v : Value} (h : Value.okWide Tryz.prog W .any b0 26 v) : ∃ cs, v = .agg cs := by
  unfold Value.okWide at h
  rw [Tryz.underlying26] at h
  obtain ⟨cs, h, _⟩ := h
  exact ⟨cs, h⟩
set_option maxRecDepth 100000 in
theorem agg_of_field {W : World} {b0 : Nat} {v : Value} (h : Value.okWide Tryz.prog W .any b0 48 v) : ∃ cs, v = .agg cs := by
  unfold Value.okWide at h
  rw [Tryz.underlying48] at h
  obtain ⟨cs, h, _⟩ := h
  exact ⟨cs, h⟩
section
variable {H : Type} {enc : TypeId × Value → H} {W : World} {base : Nat} {sp : Nat → Bool} {held : Bool}
/-- A list of strings as the row reads it. -/
theorem open_way {v : Value} {d : DataW H} {p : List MemPlace} (h : DataW.Trod enc Tryz.prog W base sp held 22 v d p) (hv : ∃ a len cap, v = .slice a len cap) :
    ∃ (A : Option Addr) (xs : List ByteArray) (c : Nat), v = .slice A xs.length c ∧ Strs W W.heap.size (.slice A xs.length c) xs := by
  obtain ⟨fuel, h⟩ := h
  obtain ⟨a0, l0, c0, rfl⟩ := hv
  obtain ⟨v, xs, e, hs, _, _⟩ := t_open_strs (show DataW.trod enc Tryz.prog W base sp held fuel 22 [.slice a0 l0 c0] = some (d, p) from h)
  simp only [List.cons.injEq, and_true] at e
  subst e
  obtain ⟨A, c, e, hc, hk⟩ := hs
  injection e with e1 e2 e3
  subst e1; subst e2; subst e3
  exact ⟨_, xs, _, rfl, _, _, rfl, hc, hk⟩
end
end Go.Proofs.YtlemlgllkcgigaaGreatDoor

namespace Go.Proofs.YtlemlgllkcgigaaGreatDoor
open Go.RowKit Go.ChangeShapes Go.WideShapes Go.ChangeAt
def laid5 : List (String × DataW Unit) := [("math/bits.deBruijn32tab", Rows.laid_math_bits_deBruijn32tab), ("math/bits.deBruijn64tab", Rows.laid_math_bits_deBruijn64tab), ("internal/strconv.uint64pow10", Rows.laid_internal_strconv_uint64pow10), ("strconv.ErrRange", Rows.laid_strconv_ErrRange), ("strconv.ErrSyntax", Rows.laid_strconv_ErrSyntax)]
theorem gTab5 : Tryz.prog.globalNamed "internal/strconv.uint64pow10" = some 1 := by kernel_rfl
def laid3 : List (String × DataW Unit) := [("math/bits.deBruijn32tab", Rows.laid_math_bits_deBruijn32tab), ("math/bits.deBruijn64tab", Rows.laid_math_bits_deBruijn64tab), ("internal/strconv.uint64pow10", Rows.laid_internal_strconv_uint64pow10)]
theorem tab_of_laid5 {W : World} (h : laidMetH Tryz.prog laid5 W) : Tab W := by
  rw [MakeChecks.laidMetH_plain _ _ _ (by kernel_rfl)] at h
  refine ⟨Lib.tabIs_of_head (n := 20) (t := 155) (e := 139) gTab5 (by kernel_rfl) Tryz.underlying155 Tryz.underlying139 (by kernel_rfl) (by kernel_rfl) h.tail.tail, ?_⟩
  obtain ⟨ps, ⟨g', t', cs, fuel, p, q, hg', ht', hvar, hd, _, _⟩, _⟩ := h.tail.tail
  obtain rfl := Option.some.inj (gTab5.symm.trans hg')
  rcases Nat.lt_or_ge 1 W.heap.size with h' | h'
  · exact h'
  · exfalso
    have e := hvar
    simp only [World.var?, gTab5, Option.bind_some, Array.getElem?_eq_none h'] at e
    cases e
theorem tab_of_laid3 {W : World} (h : laidMetH Tryz.prog laid3 W) : Tab W := by
  rw [MakeChecks.laidMetH_plain _ _ _ (by kernel_rfl)] at h
  refine ⟨Lib.tabIs_of_head (n := 20) (t := 155) (e := 139) gTab5 (by kernel_rfl) Tryz.underlying155 Tryz.underlying139 (by kernel_rfl) (by kernel_rfl) h.tail.tail, ?_⟩
  obtain ⟨ps, ⟨g', t', cs, fuel, p, q, hg', ht', hvar, hd, _, _⟩, _⟩ := h.tail.tail
  obtain rfl := Option.some.inj (gTab5.symm.trans hg')
  rcases Nat.lt_or_ge 1 W.heap.size with h' | h'
  · exact h'
  · exfalso
    have e := hvar
    simp only [World.var?, gTab5, Option.bind_some, Array.getElem?_eq_none h'] at e
    cases e
set_option maxRecDepth 100000 in
theorem agg_of_doc {W : World} {b0 : Nat} {v : Value} (h : Value.okWide Tryz.prog W .any b0 29 v) : ∃ cs, v = .agg cs := by
  unfold Value.okWide at h
  rw [Tryz.underlying29] at h
  obtain ⟨cs, h, _⟩ := h
  exact ⟨cs, h⟩
end Go.Proofs.YtlemlgllkcgigaaGreatDoor
namespace Go.Proofs.YtlemlgllkcgigaaGreatDoor
open Go.RowKit

/-- A row of faults that can be read, all of it in blocks of the set. -/
def FltsV (w : World) (S : Nat → Prop) (u : Value) (l : List Flt) : Prop :=
  ∃ (A : Option Addr) (c : Nat) (cs : List Value), u = .slice A l.length c ∧ l.length ≤ c ∧ FltR w S l cs ∧ (0 < l.length → ∃ b off, A = some ⟨b, off, none⟩ ∧ S b ∧ ∀ j x, cs[j]? = some x → w.cell? ⟨b, off + j, none⟩ = some x)
theorem FltsV.keep {w w' : World} {S S' : Nat → Prop} {u : Value} {l : List Flt} (h : FltsV w S u l) (hS : ∀ k, S k → S' k) (hc : ∀ p : Addr, S p.block → w'.cell? p = w.cell? p) : FltsV w' S' u l := by
  obtain ⟨A, c, cs, rfl, h0, h1, h2⟩ := h
  refine ⟨A, c, cs, rfl, h0, h1.keep hS hc, fun hl => ?_⟩
  obtain ⟨b, off, rfl, h3, h4⟩ := h2 hl
  exact ⟨b, off, rfl, hS b h3, fun j x hj => (hc ⟨b, off + j, none⟩ h3).trans (h4 j x hj)⟩
theorem FltIn.fltR {w : World} {base : Nat} : ∀ {l : List Flt} {cs : List Value} {F : List Nat}, FltIn w base l cs F → FltR w (fun k => base ≤ k ∧ k < w.heap.size) l cs
  | [], _, _, h => by simp only [FltIn] at h; simpa [FltR] using h.1
  | f :: r, _, _, h => by
    simp only [FltIn] at h
    obtain ⟨v, cs', F', rfl, h1, h2, _⟩ := h
    exact ⟨v, cs', rfl, (strsS_own h1).keep (fun k hk => h1.lt k hk) fun _ _ => rfl, h2.fltR⟩
theorem flts_own {w : World} {W0 : Nat} {S : Nat → Prop} {v : Value} {l : List Flt} {cs : List Value} (h1 : w.ownsRow W0 34 2 v l.length cs) (h2 : FltR w S l cs) (hS : ∀ k, W0 ≤ k → k < w.heap.size → S k) : FltsV w S v l := by
  obtain ⟨A, c, rfl⟩ := ownsRow_slice h1
  have hlt := h1.lt
  have hle : l.length ≤ c := by
    rcases h1.2 with ⟨e, h0⟩ | ⟨g, cap, cur, e, h3, _⟩
    · omega
    · injection e with e1 e2 e3; omega
  refine ⟨A, c, cs, rfl, hle, h2, fun hl => ?_⟩
  rcases h1.2 with ⟨e, h0⟩ | ⟨g, cap, cur, e, _⟩
  · omega
  · injection e with e1 e2 e3
    subst e1
    refine ⟨g, 0, rfl, hS g (hlt g rfl).1 (hlt g rfl).2, fun j x hj => ?_⟩
    have hc := h1.cells rfl j x hj
    have e : (⟨g, 0, none⟩ : Addr).add j = ⟨g, 0 + j, none⟩ := by unfold Addr.add; split <;> simp_all
    rwa [e] at hc
theorem RowF.flts {W0 : Nat} {S0 : Nat → Prop} {w : World} {l : List Flt} {v : Value} (h : RowF W0 S0 w l v) (hS0 : ∀ k, S0 k → W0 ≤ k) : FltsV w (fun k => W0 ≤ k ∧ k < w.heap.size) v l := by
  obtain ⟨cs, h1, h2⟩ := h.ex
  exact flts_own h1 (h2.keep (fun k hk => ⟨hk.1.elim (hS0 k) id, hk.2.1⟩) fun _ _ => rfl) fun _ a b => ⟨a, b⟩
theorem MadeFlts.flts {W0 : Nat} {w w' : World} {l : List Flt} {e : Ending} (h : MadeFlts W0 w l e w') : ∃ v, e = .returned v ∧ FltsV w' (fun k => W0 ≤ k ∧ k < w'.heap.size) v l ∧ Below W0 w w' := by
  obtain ⟨v, cs, F, rfl, h1, h2, h3⟩ := h
  exact ⟨v, rfl, flts_own h1 h2.fltR fun _ a b => ⟨a, b⟩, h3⟩
/-- One fault, in a row that was just made. -/
theorem flts_one {w : World} {S : Nat → Prop} {g : Nat} {pv : Value} {p : List ByteArray} {n : Int} (hg : S g) (hp : StrsS w S pv p) (h0 : w.cell? ⟨g, 0, none⟩ = some pv) (h1 : w.cell? ⟨g, 1, none⟩ = some (.int .i64 n)) {l : List Flt} (hl : l = [(p, n)]) : FltsV w S (.slice (some ⟨g, 0, none⟩) 1 1) l := by
  subst hl
  exact ⟨_, 1, [pv, .int .i64 n], rfl, Nat.le_refl _, ⟨pv, [], rfl, hp, rfl⟩, fun _ => ⟨g, 0, rfl, hg, fun j x hj => by
    match j, hj with
    | 0, hj => simp at hj; subst hj; simpa using h0
    | 1, hj => simp at hj; subst hj; simpa using h1⟩⟩
theorem FltR.at_ {w : World} {S : Nat → Prop} : ∀ {l : List Flt} {cs : List Value}, FltR w S l cs → ∀ (i : Nat) (h : i < l.length), ∃ v, cs[i * 2]? = some v ∧ cs[i * 2 + 1]? = some (.int .i64 (l[i]).2) ∧ StrsS w S v (l[i]).1
  | [], _, _, i, h => absurd h (by simp)
  | f :: r, _, hs, i, h => by
    simp only [FltR] at hs
    obtain ⟨v, cs', rfl, h1, h2⟩ := hs
    cases i with
    | zero => exact ⟨v, by simp, by simp, h1⟩
    | succ i =>
      obtain ⟨u, a, b, c⟩ := h2.at_ i (by simpa using h)
      refine ⟨u, ?_, ?_, by simpa using c⟩
      · rw [show (i + 1) * 2 = i * 2 + 1 + 1 by omega, List.getElem?_cons_succ, List.getElem?_cons_succ]; exact a
      · rw [show (i + 1) * 2 + 1 = (i * 2 + 1) + 1 + 1 by omega, List.getElem?_cons_succ, List.getElem?_cons_succ]; simpa using b
theorem StrsS.strsB {w : World} {S : Nat → Prop} {B : Nat} {v : Value} {xs : List ByteArray} (h : StrsS w S v xs) (hS : ∀ k, S k → k < B) : Strs w B v xs := by
  obtain ⟨A, c, e, hc, hcell⟩ := h
  exact ⟨A, c, e, hc, fun hl => by obtain ⟨b, off, e1, hb, h2⟩ := hcell hl; exact ⟨b, off, e1, hS b hb, h2⟩⟩
theorem strsS_nil (w : World) (S : Nat → Prop) : StrsS w S (.slice none 0 0) [] := ⟨none, 0, rfl, by simp, fun h => absurd h (by simp)⟩
theorem FltsV.at_ {w : World} {S : Nat → Prop} {u : Value} {l : List Flt} (h : FltsV w S u l) : ∃ (A : Option Addr) (c : Nat), u = .slice A l.length c ∧ l.length ≤ c ∧ ∀ (i : Nat) (h : i < l.length), ∃ b off v, A = some ⟨b, off, none⟩ ∧ S b ∧ w.cell? ⟨b, off + i * 2, none⟩ = some v ∧ w.cell? ⟨b, off + i * 2 + 1, none⟩ = some (.int .i64 (l[i]).2) ∧ StrsS w S v (l[i]).1 := by
  obtain ⟨A, c, cs, rfl, h0, h1, h2⟩ := h
  refine ⟨A, c, rfl, h0, fun i hi => ?_⟩
  obtain ⟨b, off, rfl, hb, hc⟩ := h2 (by omega)
  obtain ⟨v, a1, a2, a3⟩ := h1.at_ i hi
  exact ⟨b, off, v, rfl, hb, hc _ _ a1, by rw [Nat.add_assoc]; exact hc _ _ a2, a3⟩
theorem faultsT_len {t : T} {d : D} (h : bothB t d = true) (p : List ByteArray) : (t.faults d p).length ≤ 100000 := by
  obtain ⟨h1, _, _, _, h2, h3⟩ := bothB_parts h
  have := faults_le _ t d p (Nat.le_refl _) h3
  have h4 := Nat.mul_le_mul h1 h2
  omega
theorem allV_len (t : T) (d : D) : (allV t d).length ≤ 100000 := by
  unfold allV; split
  · rename_i h; exact faultsT_len h []
  · simp
theorem faults_path (m : Nat) : ∀ (t : T) (d : D) (p : List ByteArray), t.depth ≤ m → ∀ f ∈ t.faults d p, f.1.length ≤ p.length + m := by
  induction m with
  | zero => intro t _ _ h; have := T.depth_pos t; omega
  | succ m ih =>
    intro t d p hm f hf
    rw [faults_eq, List.mem_append] at hf
    rcases hf with hf | hf
    · split at hf
      · cases hf
      · simp only [List.mem_singleton] at hf; subst hf; simp
    by_cases h7 : fitsV t d = 7
    · rw [if_pos h7] at hf; cases hf
    rw [if_neg h7] at hf
    by_cases hk : t.kind = 1
    · rw [if_pos hk, List.mem_append] at hf
      rcases hf with hf | hf
      · have hF : ∀ l : List F, (∀ f ∈ l, f.type.depth ≤ m) → ∀ f ∈ faultsF l d p, f.1.length ≤ p.length + (m + 1) := by
          intro l
          induction l with
          | nil => intro _ f hf; simp [faultsF] at hf
          | cons g r ihl =>
            intro hl f hf
            simp only [faultsF, List.mem_append] at hf
            rcases hf with hf | hf
            · rw [faultsF1_eq] at hf
              split at hf
              · have := ih _ _ _ (hl g (by simp)) f hf
                simp at this; omega
              · split at hf
                · cases hf
                · simp only [List.mem_singleton] at hf; subst hf; simp
            · exact ihl (fun g hg => hl g (by simp [hg])) f hf
        refine hF t.fields (fun f hf => ?_) f hf
        obtain ⟨i, hi, e⟩ := List.getElem_of_mem hf
        have := T.field_depth (t := t) (i := i) hi
        rw [e] at this; omega
      · obtain ⟨s, _, rfl⟩ := List.mem_map.1 hf; simp
    · rw [if_neg hk] at hf
      cases ho : t.of with
      | nil => rw [ho] at hf; simp [faultsO] at hf
      | cons x r =>
        have hxd : x.depth ≤ m := by have := T.of_depth (t := t) (i := 0) (by rw [ho]; simp); simp only [ho, List.getElem_cons_zero] at this; omega
        rw [ho] at hf
        simp only [faultsO, List.mem_flatten, List.mem_map] at hf
        obtain ⟨l, ⟨ki, _, rfl⟩, hf⟩ := hf
        have := ih x _ _ hxd f hf
        simp at this; omega
theorem allV_path (t : T) (d : D) : ∀ f ∈ allV t d, f.1.length ≤ 10000 := by
  unfold allV; split
  · rename_i h
    obtain ⟨_, h1, _⟩ := bothB_parts h
    intro f hf
    have := faults_path _ t d [] (Nat.le_refl _) f hf
    simp at this; omega
  · intro f hf; simp only [List.mem_singleton] at hf; subst hf; simp
theorem firstV_path (t : T) (d : D) : (firstV t d).1.length ≤ 10000 := by
  unfold firstV
  have h := allV_path t d
  cases e : allV t d with
  | nil => simp
  | cons f r => rw [e] at h; exact h f (by simp)
theorem Strs.upto {w : World} {B B' : Nat} {v : Value} {xs : List ByteArray} (h : Strs w B v xs) (hB : B ≤ B') : Strs w B' v xs := by
  obtain ⟨A, c, e, hc, hcell⟩ := h
  exact ⟨A, c, e, hc, fun hl => by obtain ⟨b, off, e1, hb, h2⟩ := hcell hl; exact ⟨b, off, e1, by omega, h2⟩⟩
end Go.Proofs.YtlemlgllkcgigaaGreatDoor
