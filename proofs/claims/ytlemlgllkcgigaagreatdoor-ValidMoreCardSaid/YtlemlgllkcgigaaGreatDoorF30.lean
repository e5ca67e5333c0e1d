/-
  schema.Least.
  How great the least document's parts are: plain lemmas.
  DocGrows: what it says of the tree of values.
  DocKeeps: what it says of the tree of values (begun).
  DocKeeps: one part of a path.
  DocKeeps: what Put does to what is got.
  DocKeeps: what Put and Drop tell, part after part.
-/
import Derived.Test.YtlemlgllkcgigaaGreatDoorF21
import Derived.Test.YtlemlgllkcgigaaGreatDoorF22
import Derived.Test.YtlemlgllkcgigaaGreatDoorF29
namespace Go.Proofs.YtlemlgllkcgigaaGreatDoor
open Go.RowKit

theorem leasts_any (c : Nat) : ∀ (m : Nat) (w0 : World), c < w0.heap.size → LeastsTo m c w0 := by
  intro m
  induction m with
  | zero => intro w0 _ t v w B hm; have := T.depth_pos t; omega
  | succ m ih =>
    intro w0 hc0 t v w B hm hall hf hB ht hcc hz
    have hsd : soundT t = true := by rw [allT_eq, Bool.and_eq_true] at hall; exact hall.1
    have hok := leastOk_of hsd
    have hc : c < w.heap.size := by omega
    have hk := hok.kind
    by_cases h1 : t.kind = 1
    · exact least_fields h1 hok hm hall hf hB ht hc hcc (ih w hc)
    by_cases h2 : t.kind = 2
    · exact least_dict h2 hok hm hall hf hB ht hc hcc (ih w hc)
    by_cases h3 : t.kind = 3
    · exact least_list h3 hok hm hall hf hB ht hc hcc (ih w hc)
    · exact least_leaf (by omega) hok hB ht
/-- What Least tells. -/
def leastV (t : T) : D := if rightT t = true then t.least else .mk 0 0 ⟨#[]⟩ [] []
theorem rightT_all {t : T} (h : rightT t = true) : allT t = true := by simp only [rightT, Bool.and_eq_true] at h; exact h.2.2
set_option maxHeartbeats 4000000 in
set_option maxRecDepth 100000 in
theorem least_v {t : T} {v : Value} {w : World} {B : Nat} (hs : t.size ≤ 10000) (hd : t.depth ≤ 900) (hf : t.Fit) (hB : B ≤ w.heap.size) (ht : TypeV w B t v) :
    Calls Tryz.prog 26 #[v] w (MadeDoc w.heap.size w (leastV t)) := by
  have HV := Lib.hid ht; have HF := Lib.hid hf
  obtain ⟨v0, v1, v2, v3, v4, v5, rfl, hd0⟩ := ht
  obtain ⟨A3, c3, A4, c4, A5, c5, rfl, rfl, rfl, rfl, rfl, rfl⟩ := hd0.forms
  have HT0' := Lib.hid hd0
  clear hd0 hf
  go_enter Tryz.func26, Tryz.ntmps26
  go_wp2_with fail
  generalize ev0 : Value.int .i64 t.kind = v0 at *
  generalize ev1 : Value.int .i64 t.lo = v1 at *
  generalize ev2 : Value.int .i64 t.hi = v2 at *
  generalize ev3 : Value.slice A3 t.names.length c3 = v3 at *
  generalize ev4 : Value.slice A4 t.fields.length c4 = v4 at *
  generalize ev5 : Value.slice A5 t.of.length c5 = v5 at *
  have E0 := Lib.hid ev0; have E1 := Lib.hid ev1; have E2 := Lib.hid ev2; have E3 := Lib.hid ev3; have E4 := Lib.hid ev4; have E5 := Lib.hid ev5
  clear ev0 ev1 ev2 ev3 ev4 ev5
  have hbw : Below w.heap.size w ((w.alloc (.cells #[v0, v1, v2, v3, v4, v5] 26)).alloc (.cells #[.int .i64 0, .int .i64 0, .string ⟨#[]⟩, .slice none 0 0, .slice none 0 0] 29)) := ((Below.refl _ _).alloc (Nat.le_refl _) _).alloc (by simp) _
  have HT0 := Lib.hid (((Box6.new w v0 v1 v2 v3 v4 v5).alloc (.cells #[.int .i64 0, .int .i64 0, .string ⟨#[]⟩, .slice none 0 0, .slice none 0 0] 29)))
  have HR0 : Hid (Box5 _ (w.heap.size + 1) (.int .i64 0) (.int .i64 0) (.string ⟨#[]⟩) (.slice none 0 0) (.slice none 0 0)) := Box5.new' (w := w.alloc (.cells #[v0, v1, v2, v3, v4, v5] 26)) (by simp) _ _ _ _ _
  have hsz : ((w.alloc (.cells #[v0, v1, v2, v3, v4, v5] 26)).alloc (.cells #[.int .i64 0, .int .i64 0, .string ⟨#[]⟩, .slice none 0 0, .slice none 0 0] 29)).heap.size = w.heap.size + 2 := by simp
  generalize ((w.alloc (.cells #[v0, v1, v2, v3, v4, v5] 26)).alloc (.cells #[.int .i64 0, .int .i64 0, .string ⟨#[]⟩, .slice none 0 0, .slice none 0 0] 29)) = w0 at *
  have hsz : w0.heap.size ≥ w.heap.size + 2 := by omega
  have HV0 := Lib.hid (HV.out.keep (Nat.le_refl B) fun p hp => hbw.cell (p := p) (by omega))
  refine (tright_any hs hd HF.out (by omega) HV0.out).mono ?_
  rintro e w1 ⟨rfl, hb1⟩
  have hz1 := hb1.size
  have HT1 := Lib.hid (HT0.out.same (hb1.block _ (by omega)))
  have HR1 := Lib.hid (HR0.out.same (hb1.block _ (by omega)))
  have HB1 : Hid (Below w.heap.size w w1) := hbw.trans (hb1.mono hbw.size)
  have HV1 := Lib.hid (HV0.out.keep (Nat.le_refl B) fun p hp => hb1.cell (p := p) (by omega))
  clear hbw hb1 HT0 HR0
  obtain ⟨t0, t1, t2, t3, t4, t5⟩ := HT1.out.cells
  have htl : w.heap.size < w1.heap.size := by omega
  have hrl : w.heap.size + 1 < w1.heap.size := by omega
  have le0 : w.heap.size ≤ w.heap.size + 1 := by omega
  by_cases hr : rightT t = true
  case neg =>
    have hr' : rightT t = false := by simpa using hr
    rw [hr']
    have EL : Hid (leastV t = .mk 0 0 ⟨#[]⟩ [] []) := Lib.hid (by unfold leastV; rw [if_neg hr])
    clear hr hr'
    obtain ⟨r0, r1, r2, r3, r4⟩ := HR1.out.cells
    have r5 := HR1.out.frozen
    go_wp2_with fail
    have hfin := ((((HR1.out.set0 (.int .i64 0)).set1 (.int .i64 0)).set2 (.string ⟨#[]⟩)).set3 (.slice none 0 0)).set4 (.slice none 0 0)
    clear r0 r1 r2 r3 r4 r5
    refine ret_cell5 rfl rfl hfin.load rfl ?_
    rw [EL.out]
    exact ⟨_, _, _, _, _, [], rfl, own_leaf _ _ _, by simp, ((((HB1.out.setCell (by exact le0) _).setCell (by exact le0) _).setCell (by exact le0) _).setCell (by exact le0) _).setCell (by exact le0) _⟩
  case pos =>
    rw [hr]
    have EL : Hid (leastV t = t.least) := Lib.hid (by unfold leastV; rw [if_pos hr])
    have HRT := Lib.hid hr; clear hr
    go_wp2_with fail
    clear t0 t1 t2 t3 t4 t5
    have hn := heap_alloc_new w1 (.cells #[.func (.func 54) #[] #[.pointer (some ⟨w1.heap.size, 0, none⟩)]] 45)
    have hb2 : Below w1.heap.size w1 (w1.alloc (.cells #[.func (.func 54) #[] #[.pointer (some ⟨w1.heap.size, 0, none⟩)]] 45)) := (Below.refl _ _).alloc (Nat.le_refl _) _
    have hz2 : (w1.alloc (.cells #[.func (.func 54) #[] #[.pointer (some ⟨w1.heap.size, 0, none⟩)]] 45)).heap.size = w1.heap.size + 1 := by simp
    generalize w1.alloc (.cells #[.func (.func 54) #[] #[.pointer (some ⟨w1.heap.size, 0, none⟩)]] 45) = w2 at hn hb2 hz2 ⊢
    refine (leasts_any w1.heap.size t.depth w2 (by omega) t _ w2 B (Nat.le_refl _) (rightT_all HRT.out) HF.out (by omega) (HV1.out.keep (Nat.le_refl B) fun p hp => hb2.cell (p := p) (by omega)) (cell_block hn 0) (Nat.le_refl _)).mono ?_
    rintro e w3 ⟨y0, y1, y2, y3, y4, G, rfl, hG, hGn, hb3⟩
    have hz3 := hb3.size
    have HR3 := Lib.hid ((HR1.out.same (hb2.block _ (by omega))).same (hb3.block _ (by omega)))
    have HB3 : Hid (Below w.heap.size w w3) := (HB1.out.trans (hb2.mono (by omega))).trans (hb3.mono (by omega))
    obtain ⟨A7, c7, A8, c8, rfl, rfl, rfl, rfl, rfl⟩ := hG.doc.forms
    have HG := Lib.hid hG; have HGN := Lib.hid hGn
    clear hG hGn hb3 hb2 hn
    obtain ⟨r0, r1, r2, r3, r4⟩ := HR3.out.cells
    have r5 := HR3.out.frozen
    have hrl3 : w.heap.size + 1 < w3.heap.size := by omega
    go_wp2_with fail
    have hfin := ((((HR3.out.set0 (.int .i64 t.least.kind)).set1 (.int .i64 t.least.num)).set2 (.string t.least.str)).set3 (.slice A7 t.least.keys.length c7)).set4 (.slice A8 t.least.kids.length c8)
    clear r0 r1 r2 r3 r4 r5
    refine ret_cell5 rfl rfl hfin.load rfl ?_
    rw [EL.out]
    refine ⟨_, _, _, _, _, G, rfl, HG.out.same (by omega) fun k hk => ?_, HGN.out, ((((HB3.out.setCell (by exact le0) _).setCell (by exact le0) _).setCell (by exact le0) _).setCell (by exact le0) _).setCell (by exact le0) _⟩
    have hkl := (HG.out.lt k hk).1
    have hne : k ≠ w.heap.size + 1 := by omega
    exact (Below.heap_setCell _ _ _ _ hne).trans ((Below.heap_setCell _ _ _ _ hne).trans ((Below.heap_setCell _ _ _ _ hne).trans ((Below.heap_setCell _ _ _ _ hne).trans (Below.heap_setCell _ _ _ _ hne))))
end Go.Proofs.YtlemlgllkcgigaaGreatDoor
namespace Go.Proofs.YtlemlgllkcgigaaGreatDoor
open Go.RowKit
theorem aStr_size (n : Nat) : (aStr n).size = n := by simp [aStr, ByteArray.size]

theorem fits_of : ∀ {l : List D}, (∀ d ∈ l, d.Fit) → D.Fits l
  | [], _ => by simp [D.Fits]
  | d :: r, h => by simp only [D.Fits]; exact ⟨h d (by simp), fits_of fun x hx => h x (by simp [hx])⟩
theorem leastF_mem : ∀ {l : List F} {d : D}, d ∈ leastF l → ∃ f ∈ l, d = f.type.least
  | [], d, h => by simp [leastF] at h
  | f :: r, d, h => by
    simp only [leastF, leastF1_eq, List.mem_append] at h
    rcases h with h | h
    · by_cases ho : f.opt = true
      · simp [ho] at h
      · simp [ho] at h; exact ⟨f, by simp, h⟩
    · obtain ⟨g, hg, e⟩ := leastF_mem h
      exact ⟨g, by simp [hg], e⟩
theorem keysF_mem : ∀ {l : List F} {k : ByteArray}, k ∈ keysF l → ∃ f ∈ l, k = f.name
  | [], d, h => by simp [keysF] at h
  | f :: r, d, h => by
    simp only [keysF, List.mem_append] at h
    rcases h with h | h
    · by_cases ho : f.opt = true
      · simp [ho] at h
      · simp [ho] at h; exact ⟨f, by simp, h⟩
    · obtain ⟨g, hg, e⟩ := keysF_mem h
      exact ⟨g, by simp [hg], e⟩
theorem allL_mem : ∀ {l : List T} {x : T}, allL l = true → x ∈ l → allT x = true
  | [], _, _, h => by simp at h
  | t :: r, x, h, hx => by
    simp only [allL, Bool.and_eq_true] at h
    rcases List.mem_cons.1 hx with rfl | hx
    · exact h.1
    · exact allL_mem h.2 hx
theorem leastStr_size {t : T} (hok : LeastOk t) (hf : t.Fit) : (leastStr t.kind t.lo t.names).size ≤ 10000 := by
  unfold leastStr
  split
  · rename_i h6
    have := hok.lo6 h6; have := hok.lo (by omega)
    rw [aStr_size]; omega
  · split
    · rename_i h7
      have := hok.ns h7
      obtain ⟨x, r, e⟩ := List.exists_cons_of_length_pos this
      rw [e]
      exact hf.parts.2.2.2.1 x (by rw [e]; simp)
    · simp [ByteArray.size]
theorem kKeys_size {n : Nat} {k : ByteArray} (h : k ∈ kKeys n) : k.size ≤ 10000 := by
  simp only [kKeys, List.mem_map] at h
  obtain ⟨i, _, rfl⟩ := h
  simp [kKey, ByteArray.size]
/-- How great the least document's parts are. -/
theorem least_fit : ∀ (m : Nat) (t : T), t.depth ≤ m → allT t = true → t.Fit → t.least.Fit := by
  intro m
  induction m with
  | zero => intro t hm; have := T.depth_pos t; omega
  | succ m ih =>
    intro t hm hall hf
    have hsd : soundT t = true := by rw [allT_eq, Bool.and_eq_true] at hall; exact hall.1
    have hkids : allL t.kids = true := by rw [allT_eq, Bool.and_eq_true] at hall; exact hall.2
    have hok := leastOk_of hsd
    have hk := hok.kind
    obtain ⟨p1, p2, p3, p4, p5, p6⟩ := hf.parts
    rw [least_eq]
    simp only [D.Fit]
    have hof : t.of = [] ∨ ∃ x, t.of = [x] := by
      by_cases h : t.kind = 2 ∨ t.kind = 3
      · exact .inr (hok.of1 h)
      · exact .inl (hok.of0 (by omega) (by omega))
    have hN : leastN t.lo ≤ 8 := by unfold leastN; omega
    have hkF : (keysF t.fields).length ≤ t.fields.length := keysF_len _
    have hlF := leastF_len t.fields
    refine ⟨leastStr_size hok hf, ?_, ?_, ?_, fits_of ?_⟩
    · have : (keysO t.kind t.lo t.of).length ≤ 8 := by
        unfold keysO
        split
        · split
          · simp
          · rw [kKeys_len]; exact hN
        · simp
      by_cases h1 : t.kind = 1
      · have : keysO t.kind t.lo t.of = [] := by unfold keysO; rw [if_neg (by omega)]
        rw [this]; simp; omega
      · rw [hok.fs h1]; simp [keysF]; omega
    · by_cases h1 : t.kind = 1
      · rw [hok.of0 (by omega) (by omega)]; simp [leastO]; omega
      · rw [hok.fs h1]
        rcases hof with h | ⟨x, h⟩ <;> rw [h] <;> simp [leastF, leastO]; omega
    · intro k hk
      rcases List.mem_append.1 hk with h | h
      · obtain ⟨f, hfm, rfl⟩ := keysF_mem h
        obtain ⟨i, hi, rfl⟩ := List.getElem_of_mem hfm
        exact (p5.at_ hi).name
      · unfold keysO at h
        split at h
        · split at h
          · simp at h
          · exact kKeys_size h
        · simp at h
    · intro d hd
      rcases List.mem_append.1 hd with h | h
      · obtain ⟨f, hfm, rfl⟩ := leastF_mem h
        obtain ⟨i, hi, rfl⟩ := List.getElem_of_mem hfm
        exact ih _ (by have := T.field_depth (t := t) hi; omega) (allL_mem hkids (by simp only [T.kids, List.mem_append, List.mem_map]; exact .inl ⟨_, hfm, rfl⟩)) (p5.at_ hi).type
      · rcases hof with h0 | ⟨x, h0⟩
        · rw [h0] at h; simp [leastO] at h
        · rw [h0] at h
          simp only [leastO, List.append_nil] at h
          have := List.eq_of_mem_replicate h
          subst this
          have hx0 : 0 < t.of.length := by rw [h0]; simp
          have hx : t.of[0] = x := by simp only [h0, List.getElem_cons_zero]
          have hd2 := T.of_depth (t := t) (i := 0) hx0
          have hf2 := p6.at_ (i := 0) hx0
          rw [hx] at hd2 hf2
          exact ih _ (by omega) (allL_mem hkids (by simp [T.kids, h0])) hf2
end Go.Proofs.YtlemlgllkcgigaaGreatDoor
namespace Go.Proofs.YtlemlgllkcgigaaGreatDoor
open Go.RowKit

theorem getV_one {d : D} {s : ByteArray} {i : Nat} (h : stepD d s = some i) (hi : i < d.kids.length) : getV d [s] = (d.kids[i], true) := by
  have e : D.get d [s] = some d.kids[i] := by
    simp only [D.get, D.locate, h, List.getElem?_eq_getElem hi, Option.map_some, Option.bind_some, D.subAt]
  unfold getV; rw [e]
theorem getV_none {d : D} {s : ByteArray} (h : stepD d s = none) : getV d [s] = (D.zero, false) := by
  have e : D.get d [s] = none := by simp only [D.get, D.locate, h, Option.bind_none]
  unfold getV; rw [e]
theorem putV_one {d x : D} {s : ByteArray} (hd : rightB d = true) (hx : rightB x = true) : putV d x [s] = match setD d s x with | none => (D.zero, 3) | some x' => (x', 0) := by
  unfold putV
  rw [if_neg (by rw [hd, hx]; simp), if_neg (by simp)]
  simp only [List.dropLast, D.locate, D.subAt, List.getLastD, List.getLast]
  cases setD d s x <;> simp [D.repl]
theorem sizes_set : ∀ (l : List D) (i : Nat) (h : i < l.length) (x : D), D.sizes (l.set i x) + (l[i]).size = D.sizes l + x.size
  | d :: r, 0, h, x => by simp only [List.set_cons_zero, D.sizes, List.getElem_cons_zero]; omega
  | d :: r, i + 1, h, x => by
    have := sizes_set r i (by simpa using h) x
    simp only [List.set_cons_succ, D.sizes, List.getElem_cons_succ]; omega
theorem sizes_ins (l : List D) (p : Nat) (x : D) : D.sizes (l.take p ++ x :: l.drop p) = D.sizes l + x.size := by
  have h : D.sizes l = D.sizes (l.take p) + D.sizes (l.drop p) := by rw [← D.sizes_append, List.take_append_drop]
  rw [D.sizes_append, h]; simp only [D.sizes]; omega
theorem depths_mem : ∀ {l : List D} {x : D}, x ∈ l → x.depth ≤ D.depths l
  | d :: r, x, h => by
    simp only [D.depths]
    rcases List.mem_cons.1 h with rfl | h
    · omega
    · have := depths_mem h; omega
theorem depths_le : ∀ {l : List D} {n : Nat}, (∀ x ∈ l, x.depth ≤ n) → D.depths l ≤ n
  | [], n, _ => by simp [D.depths]
  | d :: r, n, h => by
    have h1 := h d (by simp)
    have h2 := depths_le (l := r) (n := n) fun x hx => h x (by simp [hx])
    simp only [D.depths]; omega
theorem depths_take (l : List D) (k : Nat) (h : k < l.length) : D.depths (l.take (k + 1)) = max (D.depths (l.take k)) (l[k]).depth := by
  have ha : ∀ a b : List D, D.depths (a ++ b) = max (D.depths a) (D.depths b) := by
    intro a
    induction a with
    | nil => intro b; simp [D.depths]
    | cons d r ih => intro b; simp only [List.cons_append, D.depths, ih]; omega
  rw [List.take_succ_eq_append_getElem h, ha]; simp [D.depths]
theorem fits_mem {l : List D} : D.Fits l ↔ ∀ x ∈ l, x.Fit := by
  induction l with
  | nil => simp [D.Fits]
  | cons d r ih => simp [D.Fits, ih]
theorem few_depths {d : D} (h : FewP d 20) : ∀ x ∈ d.kids, x.depth ≤ 19 := by
  have h1 := h.depth
  obtain ⟨k, n, s, ks, l⟩ := d
  intro x hx
  simp only [D.kids] at hx
  have := depths_mem hx
  simp only [D.depth] at h1
  omega
theorem fit_parts {k n : Int} {s : ByteArray} {ks : List ByteArray} {l : List D} : (D.mk k n s ks l).Fit ↔ s.size ≤ 10000 ∧ ks.length ≤ 10000 ∧ l.length ≤ 10000 ∧ (∀ k ∈ ks, k.size ≤ 10000) ∧ D.Fits l := by simp [D.Fit]
theorem key_size {kind : Int} {s : ByteArray} (h : keyOfB kind s = true) : s.size ≤ 256 := by
  unfold keyOfB at h
  split at h
  · simp only [nameB, Bool.and_eq_true, decide_eq_true_eq] at h; omega
  · split at h
    · simpa using h
    · cases h

/-- All that the law says of what was put. -/
structure Grown (d x : D) (s : ByteArray) : Prop where
  fit : (putV d x [s]).1.Fit
  size : ((putV d x [s]).1.size : Int) = d.size + (if (getV d [s]).2 = true then (x.size : Int) - (getV d [s]).1.size else x.size)
  deep : (putV d x [s]).1.depth ≤ 21
  under : x.depth < (putV d x [s]).1.depth
  kids : (putV d x [s]).1.depth = D.depths (putV d x [s]).1.kids + 1
  small : (putV d x [s]).1.size ≤ 1400
theorem grown_of {d x : D} {s : ByteArray} {p : D} (hp : (putV d x [s]).1 = p) (l : List D) (hl : p.kids = l) (hsz : (D.sizes l : Int) + 1 = d.size + (if (getV d [s]).2 = true then (x.size : Int) - (getV d [s]).1.size else x.size)) (hm : x ∈ l) (hf : p.Fit) (hk : ∀ y ∈ l, y.depth ≤ 20) (hs : D.sizes l ≤ 1399) : Grown d x s := by
  obtain ⟨k, n, st, ks, l'⟩ := p
  simp only [D.kids] at hl
  subst hl
  have h1 := depths_le hk
  have h2 := depths_mem hm
  refine ⟨by rw [hp]; exact hf, by rw [hp]; simp only [D.size]; omega, by rw [hp]; simp only [D.depth]; omega, by rw [hp]; simp only [D.depth]; omega, by rw [hp]; simp only [D.depth, D.kids], by rw [hp]; simp only [D.size]; omega⟩
theorem grows_ok {d x : D} {s : ByteArray} (hd : FewP d 20) (hx : FewP x 20) (hk : d.kind = 1 ∨ d.kind = 2) (h0 : (putV d x [s]).2 = 0) : Grown d x s := by
  have FD := hd.fit.fit
  have FX := hx.fit.fit
  have hrd : rightB d = true := by
    cases h : rightB d with
    | true => rfl
    | false => unfold putV at h0; rw [if_pos (.inl h)] at h0; cases h0
  have hrx : rightB x = true := by
    cases h : rightB x with
    | true => rfl
    | false => unfold putV at h0; rw [if_pos (.inr h)] at h0; cases h0
  have e := putV_one (s := s) hrd hrx
  have hsd := hd.size
  have hsx := hx.size
  have hdx : x.depth ≤ 20 := hx.depth
  have hkd := few_depths hd
  have hdl : d.size = D.sizes d.kids + 1 := by obtain ⟨_, _, _, _, _⟩ := d; rfl
  have hkl : d.kids.length ≤ 699 := by have := D.len_le_sizes d.kids; omega
  cases hst : stepD d s with
  | some i =>
    obtain ⟨hi, _⟩ := stepD_lt FD.keys hst
    have hg := getV_one hst hi
    have hset : setD d s x = some (d.setKid i x) := by unfold setD; rw [hst]
    rw [hset] at e
    have hs := sizes_set d.kids i hi x
    have hpos := D.size_pos d.kids[i]
    refine grown_of (p := d.setKid i x) (by rw [e]) (d.kids.set i x) rfl ?_ (List.mem_set hi x) ?_ ?_ (by omega)
    · rw [hg]; simp only [if_true]; omega
    · obtain ⟨k, n, st, ks, l⟩ := d
      simp only [D.setKid, D.kids, D.kind, D.num, D.str, D.keys]
      rw [fit_parts] at FD ⊢
      refine ⟨FD.1, FD.2.1, by rw [List.length_set]; exact FD.2.2.1, FD.2.2.2.1, ?_⟩
      rw [fits_mem] at *
      intro y hy
      rcases List.mem_or_eq_of_mem_set hy with h | rfl
      · exact FD.2.2.2.2 y h
      · exact FX
    · intro y hy
      rcases List.mem_or_eq_of_mem_set hy with h | rfl
      · have := hkd y h; omega
      · exact hdx
  | none =>
    have hg := getV_none hst
    have hky : keyOfB d.kind s = true := by
      cases h : keyOfB d.kind s with
      | true => rfl
      | false =>
        have hset : setD d s x = none := by
          unfold setD; rw [hst]; simp only; rw [h, if_neg (by simp), if_neg (fun hp => by rcases hk with e | e <;> rw [e] at hp <;> exact absurd hp.1 (by decide))]
        rw [hset] at e; rw [e] at h0; cases h0
    have hset : setD d s x = some (d.ins s x) := by unfold setD; rw [hst]; simp only; rw [if_pos hky]
    rw [hset] at e
    have hks := key_size hky
    refine grown_of (p := d.ins s x) (by rw [e]) (d.kids.take (d.keys.takeWhile fun k => decide (scmp k s = -1)).length ++ x :: d.kids.drop (d.keys.takeWhile fun k => decide (scmp k s = -1)).length) rfl ?_ (by simp) ?_ ?_ (by rw [sizes_ins]; omega)
    · rw [hg, sizes_ins]; simp; omega
    · have h6 := (D.fit6_eq d).1 hd.fit
      obtain ⟨k, n, st, ks, l⟩ := d
      simp only [D.ins, D.kids, D.kind, D.num, D.str, D.keys] at *
      rw [fit_parts] at FD ⊢
      rw [fits_mem] at *
      refine ⟨FD.1, ?_, ?_, ?_, ?_⟩
      · simp only [List.length_append, List.length_take, List.length_cons, List.length_drop]; omega
      · simp only [List.length_append, List.length_take, List.length_cons, List.length_drop]; omega
      · intro k' hk'
        rcases List.mem_append.1 hk' with h | h
        · exact FD.2.2.2.1 _ (List.mem_of_mem_take h)
        · rcases List.mem_cons.1 h with rfl | h
          · omega
          · exact FD.2.2.2.1 _ (List.mem_of_mem_drop h)
      · intro y hy
        rcases List.mem_append.1 hy with h | h
        · exact FD.2.2.2.2 _ (List.mem_of_mem_take h)
        · rcases List.mem_cons.1 h with rfl | h
          · exact FX
          · exact FD.2.2.2.2 _ (List.mem_of_mem_drop h)
    · intro y hy
      rcases List.mem_append.1 hy with h | h
      · have := hkd y (List.mem_of_mem_take h); omega
      · rcases List.mem_cons.1 h with rfl | h
        · exact hdx
        · have := hkd y (List.mem_of_mem_drop h); omega
theorem grows_no {d x : D} {s : ByteArray} (hk : d.kind = 1 ∨ d.kind = 2) (h0 : (putV d x [s]).2 ≠ 0) : rightB d = false ∨ rightB x = false ∨ (d.kind = 1 ∧ nameB s = false) ∨ 256 < s.size := by
  cases hrd : rightB d with
  | false => exact .inl rfl
  | true =>
  cases hrx : rightB x with
  | false => exact .inr (.inl rfl)
  | true =>
    have e := putV_one (s := s) hrd hrx
    right; right
    cases hst : stepD d s with
    | some i =>
      have hset : setD d s x = some (d.setKid i x) := by unfold setD; rw [hst]
      rw [hset] at e; rw [e] at h0; exact absurd rfl h0
    | none =>
      cases hky : keyOfB d.kind s with
      | true =>
        have hset : setD d s x = some (d.ins s x) := by unfold setD; rw [hst]; simp only; rw [if_pos hky]
        rw [hset] at e; rw [e] at h0; exact absurd rfl h0
      | false =>
        unfold keyOfB at hky
        rcases hk with e1 | e2
        · rw [if_pos e1] at hky; exact .inl ⟨e1, hky⟩
        · rw [if_neg (by omega), if_pos e2] at hky
          right; simp at hky; omega
/-- The same, of what is named. -/
structure Grown2 (a b : D) (old : D) (had : Bool) (p : D) : Prop where
  fit : p.Fit
  size : (p.size : Int) = a.size + (if had = true then (b.size : Int) - old.size else b.size)
  deep : p.depth ≤ 21
  under : b.depth < p.depth
  kids : p.depth = D.depths p.kids + 1
  small : p.size ≤ 1400
theorem grown2 {a b old p : D} {s : ByteArray} {had : Bool} (ha : FewP a 20) (hb : FewP b 20) (hk : a.kind = 1 ∨ a.kind = 2) (hg : getV a [s] = (old, had)) (hp : putV a b [s] = (p, 0)) : Grown2 a b old had p := by
  have h := grows_ok ha hb hk (by rw [hp])
  obtain ⟨h1, h2, h3, h4, h5, h6⟩ := h
  rw [hp] at h1 h2 h3 h4 h5 h6
  rw [hg] at h2
  exact ⟨h1, h2, h3, h4, h5, h6⟩
theorem old_small {a old : D} {s : ByteArray} (ha : FewP a 20) (hg : getV a [s] = (old, true)) : old.size ≤ 699 := by
  have hs := ha.size
  cases hst : stepD a s with
  | none => rw [getV_none hst] at hg; cases hg
  | some i =>
    obtain ⟨hi, _⟩ := stepD_lt ha.fit.fit.keys hst
    rw [getV_one hst hi] at hg
    have e : a.kids[i] = old := congrArg Prod.fst hg
    have h1 := D.sizes_take_succ a.kids i hi
    have h2 := D.sizes_take_le a.kids (i + 1)
    have hdl : a.size = D.sizes a.kids + 1 := by obtain ⟨_, _, _, _, _⟩ := a; rfl
    rw [e] at h1
    omega
theorem no_of {a b p : D} {s : ByteArray} {er : Int} (hk : a.kind = 1 ∨ a.kind = 2) (hp : putV a b [s] = (p, er)) (h0 : er ≠ 0) : rightB a = false ∨ rightB b = false ∨ (a.kind = 1 ∧ nameB s = false) ∨ 256 < s.size :=
  grows_no hk (by rw [hp]; exact h0)
end Go.Proofs.YtlemlgllkcgigaaGreatDoor
namespace Go.Proofs.YtlemlgllkcgigaaGreatDoor
open Go.RowKit

/-- Put, part after part. -/
def putR : D → List ByteArray → D → Option D
  | _, [], x => some x
  | d, [s], x => setD d s x
  | d, s :: t :: r, x => match stepD d s with
    | none => none
    | some i => match d.kids[i]? with
      | none => none
      | some k => (putR k (t :: r) x).map (d.setKid i)
theorem putV_path (x : D) : ∀ (ps : List ByteArray) (d : D), ps ≠ [] → (match D.locate d ps.dropLast with
    | none => none
    | some is => match D.subAt d is with
      | none => none
      | some k => (setD k (ps.getLastD ByteArray.empty) x).map (D.repl d is)) = putR d ps x
  | [], _, h => absurd rfl h
  | [s], d, _ => by
    simp only [List.dropLast, D.locate, D.subAt, List.getLastD, List.getLast, putR]
    cases setD d s x <;> simp [D.repl]
  | s :: t :: r, d, _ => by
    have ih := fun k => putV_path x (t :: r) k (by simp)
    simp only [List.dropLast_cons_cons, D.locate, putR]
    cases hs : stepD d s with
    | none => rfl
    | some i =>
      simp only
      cases hk : d.kids[i]? with
      | none => rfl
      | some k =>
        simp only
        rw [← ih k]
        cases hl : D.locate k (t :: r).dropLast with
        | none => rfl
        | some is =>
          simp only [Option.map_some, D.subAt, hk]
          cases hsub : D.subAt k is with
          | none => rfl
          | some y =>
            have e : (s :: t :: r).getLastD ByteArray.empty = (t :: r).getLastD ByteArray.empty := by simp [List.getLastD]
            simp only [e, Option.map_map]
            cases setD y ((t :: r).getLastD ByteArray.empty) x <;> simp [D.repl, hk]
theorem get_cons (d : D) (s : ByteArray) (r : List ByteArray) : D.get d (s :: r) = ((stepD d s).bind fun i => d.kids[i]?).bind fun k => D.get k r := by
  unfold D.get
  simp only [D.locate]
  cases stepD d s with
  | none => rfl
  | some i =>
    simp only [Option.bind_some]
    cases hk : d.kids[i]? with
    | none => rfl
    | some k =>
      simp only [Option.bind_some]
      cases D.locate k r <;> simp [D.subAt, hk]
theorem step_setKid (d : D) (i : Nat) (y : D) (s : ByteArray) : stepD (d.setKid i y) s = stepD d s := by
  have e : findI (d.setKid i y) s = findI d s := by
    have hl : (d.setKid i y).kids.length = d.kids.length := by simp [D.setKid, D.kids]
    unfold findI; rw [hl]; rfl
  unfold stepD; rw [e]
theorem kids_setKid (d : D) (i : Nat) (y : D) : (d.setKid i y).kids = d.kids.set i y := rfl
theorem some_lt {l : List D} {i : Nat} {k : D} (h : l[i]? = some k) : i < l.length := by
  rcases Nat.lt_or_ge i l.length with h1 | h1
  · exact h1
  · rw [List.getElem?_eq_none h1] at h; cases h
/-- What is got one part on. -/
def kidAt (d : D) (s : ByteArray) : Option D := (stepD d s).bind fun i => d.kids[i]?
theorem get_kid (d : D) (s : ByteArray) (r : List ByteArray) : D.get d (s :: r) = (kidAt d s).bind fun k => D.get k r := get_cons d s r
/-- What was put is got, once that holds of one part. -/
theorem get_put (x : D) (hone : ∀ (d d' : D) (s : ByteArray), setD d s x = some d' → partB d = true → kidAt d' s = some x) (hpart : ∀ (d : D) (i : Nat) (k : D), partB d = true → d.kids[i]? = some k → partB k = true) :
    ∀ (ps : List ByteArray) (d p : D), partB d = true → putR d ps x = some p → D.get p ps = some x
  | [], d, p, _, h => by
    simp only [putR, Option.some.injEq] at h
    subst h
    simp [D.get, D.locate, D.subAt]
  | [s], d, p, hd, h => by
    simp only [putR] at h
    rw [get_kid, hone d p s h hd]
    simp [D.get, D.locate, D.subAt]
  | s :: t :: r, d, p, hd, h => by
    simp only [putR] at h
    cases hs : stepD d s with
    | none => rw [hs] at h; cases h
    | some i =>
      rw [hs] at h
      simp only at h
      cases hk : d.kids[i]? with
      | none => rw [hk] at h; cases h
      | some k =>
        rw [hk] at h
        simp only at h
        cases hq : putR k (t :: r) x with
        | none => rw [hq] at h; cases h
        | some q =>
          rw [hq] at h
          simp only [Option.map_some, Option.some.injEq] at h
          subst h
          rw [get_kid]
          unfold kidAt
          rw [step_setKid, hs]
          simp only [Option.bind_some, kids_setKid]
          rw [List.getElem?_set_self (some_lt hk)]
          exact get_put x hone hpart (t :: r) k q (hpart d i k hd hk) hq
/-- What is not on the way is as it was, once that holds of one part. -/
theorem get_apart (x : D) (hone : ∀ (d d' : D) (s t : ByteArray), setD d s x = some d' → partB d = true → s ≠ t → kidAt d' t = kidAt d t) (hpart : ∀ (d : D) (i : Nat) (k : D), partB d = true → d.kids[i]? = some k → partB k = true)
    (hdiff : ∀ (d : D) (s t : ByteArray) (i : Nat), partB d = true → stepD d s = some i → stepD d t = some i → i < d.kids.length → s = t) :
    ∀ (ps qs : List ByteArray) (d p : D), partB d = true → putR d ps x = some p → (∃ (i : Nat) (h : i < ps.length) (h2 : i < qs.length), ps[i] ≠ qs[i]) → D.get p qs = D.get d qs
  | [], _, _, _, _, _, h => by obtain ⟨i, h1, _⟩ := h; simp at h1
  | _ :: _, [], _, _, _, _, h => by obtain ⟨i, _, h2, _⟩ := h; simp at h2
  | [s], u :: qs, d, p, hd, hp, h => by
    obtain ⟨i, h1, h2, hne⟩ := h
    obtain rfl : i = 0 := by simpa using h1
    simp only [putR] at hp
    rw [get_kid, get_kid, hone d p s u hp hd hne]
  | s :: t :: r, u :: qs, d, p, hd, hp, h => by
    simp only [putR] at hp
    cases hs : stepD d s with
    | none => rw [hs] at hp; cases hp
    | some i =>
      rw [hs] at hp
      simp only at hp
      cases hk : d.kids[i]? with
      | none => rw [hk] at hp; cases hp
      | some k =>
        rw [hk] at hp
        simp only at hp
        cases hq : putR k (t :: r) x with
        | none => rw [hq] at hp; cases hp
        | some q =>
          rw [hq] at hp
          simp only [Option.map_some, Option.some.injEq] at hp
          subst hp
          rw [get_kid, get_kid]
          unfold kidAt
          rw [step_setKid]
          cases hu : stepD d u with
          | none => rfl
          | some j =>
            simp only [Option.bind_some, kids_setKid]
            by_cases hij : i = j
            · subst hij
              have hsu : s = u := hdiff d s u i hd hs hu (some_lt hk)
              subst hsu
              rw [List.getElem?_set_self (some_lt hk), hk]
              simp only [Option.bind_some]
              refine get_apart x hone hpart hdiff (t :: r) qs k q (hpart d i k hd hk) hq ?_
              obtain ⟨m, h1, h2, hne⟩ := h
              cases m with
              | zero => exact absurd rfl hne
              | succ m => exact ⟨m, by simpa using h1, by simpa using h2, by simpa using hne⟩
            · rw [List.getElem?_set_ne hij]
end Go.Proofs.YtlemlgllkcgigaaGreatDoor
namespace Go.Proofs.YtlemlgllkcgigaaGreatDoor
open Go.RowKit

theorem part_kid {d : D} {i : Nat} {k : D} (hd : partB d = true) (h : d.kids[i]? = some k) : partB k = true :=
  partB_sub [i] d k hd (by simp [D.subAt, h])
theorem step_lt {d : D} {s : ByteArray} {i : Nat} (h : stepD d s = some i) : i < d.kids.length ∧ find0 d s = i := by
  unfold stepD findI at h
  by_cases h1 : (d.kids.length : Int) ≤ find0 d s
  · rw [if_pos h1] at h; simp at h
  · rw [if_neg h1] at h
    by_cases h2 : 0 ≤ find0 d s
    · rw [if_pos h2] at h
      injection h with h
      omega
    · rw [if_neg h2] at h; cases h
/-- What stands at a key. -/
def look : List ByteArray → List D → ByteArray → Option D
  | k :: ks, d :: ds, t => if k = t then some d else look ks ds t
  | _, _, _ => none
theorem look_idx (t : ByteArray) : ∀ (ks : List ByteArray) (ds : List D) (n : Nat), ks.length = ds.length → (Lib.idxFromS ks t n = -1 ∧ look ks ds t = none ∧ t ∉ ks) ∨ ∃ j : Nat, Lib.idxFromS ks t n = ((n + j : Nat) : Int) ∧ j < ks.length ∧ ds[j]? = look ks ds t ∧ ks[j]? = some t
  | [], _, n, _ => .inl ⟨rfl, by simp [look], by simp⟩
  | k :: ks, [], n, h => by simp at h
  | k :: ks, d :: ds, n, h => by
    by_cases he : k = t
    · subst he
      exact .inr ⟨0, by simp [Lib.idxFromS], by simp, by simp [look], by simp⟩
    · have e1 : Lib.idxFromS (k :: ks) t n = Lib.idxFromS ks t (n + 1) := by
        simp only [Lib.idxFromS]; rw [if_neg (by simpa using he)]
      have e2 : look (k :: ks) (d :: ds) t = look ks ds t := by simp only [look]; rw [if_neg he]
      rcases look_idx t ks ds (n + 1) (by simpa using h) with ⟨h1, h2, h3⟩ | ⟨j, h1, h2, h3, h4⟩
      · exact .inl ⟨by rw [e1, h1], by rw [e2, h2], by simp [h3]; exact fun h => he h.symm⟩
      · exact .inr ⟨j + 1, by rw [e1, h1]; omega, by simp; omega, by rw [e2, ← h3]; simp, by simpa using h4⟩
theorem kidAt_look {d : D} (t : ByteArray) (hk : d.kind = 1 ∨ d.kind = 2) (hl : d.keys.length = d.kids.length) : kidAt d t = look d.keys d.kids t ∧ (stepD d t = none → t ∉ d.keys) ∧ ∀ i, stepD d t = some i → d.keys[i]? = some t := by
  have e0 : find0 d t = Lib.idxFromS d.keys t 0 := by unfold find0; rw [if_pos hk]; rfl
  rcases look_idx t d.keys d.kids 0 hl with ⟨h1, h2, h3⟩ | ⟨j, h1, h2, h3, h4⟩
  · have hs : stepD d t = none := stepD_none (by unfold findI; rw [e0, h1]; split <;> decide)
    refine ⟨by unfold kidAt; rw [hs, h2]; rfl, fun _ => h3, fun i hi => absurd hi (by rw [hs]; simp)⟩
  · have hf : findI d t = (j : Int) := by unfold findI; rw [e0, h1, if_neg (by omega)]; omega
    have hs : stepD d t = some j := by rw [stepD_some (by omega), hf]; simp
    refine ⟨by unfold kidAt; rw [hs, ← h3]; rfl, fun h => absurd h (by rw [hs]; simp), fun i hi => by rw [hs] at hi; injection hi with hi; rw [← hi]; exact h4⟩
theorem look_ins (s : ByteArray) (x : D) : ∀ (ks : List ByteArray) (ds : List D) (p : Nat), ks.length = ds.length → p ≤ ks.length →
    (∀ t, s ≠ t → look (ks.take p ++ s :: ks.drop p) (ds.take p ++ x :: ds.drop p) t = look ks ds t) ∧ (s ∉ ks → look (ks.take p ++ s :: ks.drop p) (ds.take p ++ x :: ds.drop p) s = some x)
  | ks, ds, 0, _, _ => by
    refine ⟨fun t ht => ?_, fun _ => ?_⟩
    · simp only [List.take_zero, List.drop_zero, List.nil_append, look]; rw [if_neg ht]
    · simp [look]
  | [], _, p + 1, _, h => by simp at h
  | _ :: _, [], p + 1, h, _ => by simp at h
  | k :: ks, d :: ds, p + 1, h, hp => by
    have ih := look_ins s x ks ds p (by simpa using h) (by simpa using hp)
    refine ⟨fun t ht => ?_, fun hn => ?_⟩
    · simp only [List.take_succ_cons, List.drop_succ_cons, List.cons_append, look]
      rw [ih.1 t ht]
    · simp only [List.take_succ_cons, List.drop_succ_cons, List.cons_append, look]
      have hne : ¬ k = s := fun e => hn (by simp [e])
      rw [if_neg hne]
      exact ih.2 fun h => hn (by simp [h])
theorem bytes_ext {a b : ByteArray} (h : a.data.toList = b.data.toList) : a = b := by
  cases a with | mk x => cases b with | mk y => congr 1; exact Array.toList_inj.1 h
theorem place_inj {s t : ByteArray} {i : Nat} (hs : placeI s = i) (ht : placeI t = i) : s = t := by
  have one : ∀ u : ByteArray, placeI u = i → Lib.itoa i = u.data.toList := by
    intro u hu
    unfold placeI at hu
    split at hu
    · rename_i n _
      by_cases h1 : n < 0
      · rw [if_pos h1] at hu; omega
      · rw [if_neg h1] at hu
        by_cases h2 : Lib.itoa n = u.data.toList
        · rw [if_pos h2] at hu; rw [← hu]; exact h2
        · rw [if_neg h2] at hu; omega
    · omega
  exact bytes_ext ((one s hs).symm.trans (one t ht))
theorem part_len {x : D} (h : partB x = true) (hk : x.kind = 1 ∨ x.kind = 2) : x.keys.length = x.kids.length := by
  rw [partB_eq, Bool.and_eq_true] at h
  have h1 := h.1
  simp only [soundB, Bool.and_eq_true] at h1
  have h2 := h1.2.2
  have h3 : keyedB x = true := by
    unfold formB at h2
    rcases hk with e | e
    · rwa [if_pos e] at h2
    · rwa [if_neg (by omega), if_pos e] at h2
  simp only [keyedB, Bool.and_eq_true, decide_eq_true_eq] at h3
  exact h3.1
theorem step_kind {d : D} {s : ByteArray} {i : Nat} (h : stepD d s = some i) : d.kind = 1 ∨ d.kind = 2 ∨ (d.kind = 3 ∧ placeI s = i) := by
  have h1 := (step_lt h).2
  unfold find0 at h1
  by_cases hk : d.kind = 1 ∨ d.kind = 2
  · rcases hk with e | e
    · exact .inl e
    · exact .inr (.inl e)
  · rw [if_neg hk] at h1
    by_cases h3 : d.kind = 3
    · rw [if_pos h3] at h1; exact .inr (.inr ⟨h3, h1⟩)
    · rw [if_neg h3] at h1; omega
theorem step_diff {d : D} {s t : ByteArray} {i : Nat} (hp : partB d = true) (hs : stepD d s = some i) (ht : stepD d t = some i) : s = t := by
  have key : (d.kind = 1 ∨ d.kind = 2) → s = t := fun hk => by
    have h1 := (kidAt_look s hk (part_len hp hk)).2.2 i hs
    have h2 := (kidAt_look t hk (part_len hp hk)).2.2 i ht
    rw [h1] at h2; injection h2
  rcases step_kind hs with h | h | ⟨h, h1⟩
  · exact key (.inl h)
  · exact key (.inr h)
  · rcases step_kind ht with g | g | ⟨_, h2⟩
    · omega
    · omega
    · exact place_inj h1 h2
end Go.Proofs.YtlemlgllkcgigaaGreatDoor
namespace Go.Proofs.YtlemlgllkcgigaaGreatDoor
open Go.RowKit

theorem key_kind {kind : Int} {s : ByteArray} (h : keyOfB kind s = true) : kind = 1 ∨ kind = 2 := by
  unfold keyOfB at h
  by_cases e : kind = 1
  · exact .inl e
  · rw [if_neg e] at h
    by_cases e2 : kind = 2
    · exact .inr e2
    · rw [if_neg e2] at h; cases h
/-- The three ways in which a part is set. -/
theorem set_ways {d x d' : D} {s : ByteArray} (h : setD d s x = some d') :
    (∃ i, stepD d s = some i ∧ d' = d.setKid i x) ∨ (stepD d s = none ∧ (d.kind = 1 ∨ d.kind = 2) ∧ d' = d.ins s x) ∨ (stepD d s = none ∧ d.kind = 3 ∧ placeI s = d.kids.length ∧ d' = d.snoc x) := by
  unfold setD at h
  cases hs : stepD d s with
  | some i =>
    rw [hs] at h
    simp only [Option.some.injEq] at h
    exact .inl ⟨i, rfl, h.symm⟩
  | none =>
    rw [hs] at h
    simp only at h
    by_cases hk : keyOfB d.kind s = true
    · rw [if_pos hk] at h
      simp only [Option.some.injEq] at h
      exact .inr (.inl ⟨rfl, key_kind hk, h.symm⟩)
    · rw [if_neg hk] at h
      by_cases h3 : d.kind = 3 ∧ placeI s = d.kids.length
      · rw [if_pos h3] at h
        simp only [Option.some.injEq] at h
        exact .inr (.inr ⟨rfl, h3.1, h3.2, h.symm⟩)
      · rw [if_neg h3] at h; cases h
theorem take_len (ks : List ByteArray) (s : ByteArray) : (ks.takeWhile fun k => decide (scmp k s = -1)).length ≤ ks.length := (List.takeWhile_prefix _).length_le
theorem ins_look {d : D} (s : ByteArray) (x : D) (t : ByteArray) (hk : d.kind = 1 ∨ d.kind = 2) (hl : d.keys.length = d.kids.length) :
    kidAt (d.ins s x) t = look (d.keys.take (d.keys.takeWhile fun k => decide (scmp k s = -1)).length ++ s :: d.keys.drop (d.keys.takeWhile fun k => decide (scmp k s = -1)).length) (d.kids.take (d.keys.takeWhile fun k => decide (scmp k s = -1)).length ++ x :: d.kids.drop (d.keys.takeWhile fun k => decide (scmp k s = -1)).length) t := by
  refine (kidAt_look (d := d.ins s x) t hk ?_).1
  simp only [D.ins, D.keys, D.kids, List.length_append, List.length_cons, List.length_take, List.length_drop]
  have : d.keys.length = d.kids.length := hl
  simp only [D.keys, D.kids] at this
  omega
theorem snoc_find {d : D} {x : D} {t : ByteArray} (hk : d.kind = 3) : findI (d.snoc x) t = if placeI t = d.kids.length then (d.kids.length : Int) else findI d t := by
  have e0 : find0 (d.snoc x) t = placeI t := by
    unfold find0
    rw [if_neg (show ¬ ((d.snoc x).kind = 1 ∨ (d.snoc x).kind = 2) from fun h => by have e : (d.snoc x).kind = 3 := hk; omega), if_pos (show (d.snoc x).kind = 3 from hk)]
  have e1 : find0 d t = placeI t := by unfold find0; rw [if_neg (by omega), if_pos hk]
  have el : (d.snoc x).kids.length = d.kids.length + 1 := by simp [D.snoc, D.kids]
  unfold findI
  rw [e0, e1, el]
  by_cases h1 : placeI t = d.kids.length
  · rw [if_pos h1, h1, if_neg (by omega)]
  · rw [if_neg h1]
    by_cases h2 : (d.kids.length : Int) ≤ placeI t
    · rw [if_pos h2, if_pos (by omega)]
    · rw [if_neg h2, if_neg (by omega)]
theorem find_below (d : D) (t : ByteArray) (h : 0 ≤ findI d t) : findI d t < d.kids.length := by
  unfold findI at h ⊢
  by_cases h2 : (d.kids.length : Int) ≤ find0 d t
  · rw [if_pos h2] at h; omega
  · rw [if_neg h2]; omega
theorem snoc_step {d : D} {x : D} {t : ByteArray} (hk : d.kind = 3) : kidAt (d.snoc x) t = if placeI t = d.kids.length then some x else kidAt d t := by
  have el : (d.snoc x).kids = d.kids ++ [x] := rfl
  unfold kidAt stepD
  rw [snoc_find hk, el]
  by_cases h1 : placeI t = d.kids.length
  · rw [if_pos h1, if_pos h1, if_pos (by omega)]
    simp
  · rw [if_neg h1, if_neg h1]
    by_cases h3 : 0 ≤ findI d t
    · have hb := find_below d t h3
      rw [if_pos h3]
      simp only [Option.bind_some]
      rw [List.getElem?_append_left (by omega)]
    · rw [if_neg h3]; rfl
theorem one_get (x d d' : D) (s : ByteArray) (h : setD d s x = some d') (hp : partB d = true) : kidAt d' s = some x := by
  rcases set_ways h with ⟨i, hs, rfl⟩ | ⟨hs, hk, rfl⟩ | ⟨hs, hk, hpl, rfl⟩
  · unfold kidAt
    rw [step_setKid, hs]
    simp only [Option.bind_some, kids_setKid]
    exact List.getElem?_set_self (step_lt hs).1
  · have hl := part_len hp hk
    rw [ins_look s x s hk hl]
    exact (look_ins s x d.keys d.kids _ hl (take_len _ _)).2 ((kidAt_look s hk hl).2.1 hs)
  · rw [snoc_step hk, if_pos hpl]
theorem one_apart (x d d' : D) (s t : ByteArray) (h : setD d s x = some d') (hp : partB d = true) (hne : s ≠ t) : kidAt d' t = kidAt d t := by
  rcases set_ways h with ⟨i, hs, rfl⟩ | ⟨hs, hk, rfl⟩ | ⟨hs, hk, hpl, rfl⟩
  · unfold kidAt
    rw [step_setKid]
    cases ht : stepD d t with
    | none => rfl
    | some j =>
      simp only [Option.bind_some, kids_setKid]
      have hij : i ≠ j := fun e => by subst e; exact hne (step_diff hp hs ht)
      rw [List.getElem?_set_ne hij]
  · have hl := part_len hp hk
    rw [ins_look s x t hk hl, (kidAt_look t hk hl).1]
    exact (look_ins s x d.keys d.kids _ hl (take_len _ _)).1 t hne
  · rw [snoc_step hk, if_neg fun h2 => hne (place_inj hpl h2)]
/-- What was put is got. -/
theorem put_got {x d p : D} {ps : List ByteArray} (hd : partB d = true) (h : putR d ps x = some p) : D.get p ps = some x :=
  get_put x (one_get x) (fun _ _ _ => part_kid) ps d p hd h
/-- What is apart is as it was. -/
theorem put_apart {x d p : D} {ps qs : List ByteArray} (hd : partB d = true) (h : putR d ps x = some p) (ha : ∃ (i : Nat) (h : i < ps.length) (h2 : i < qs.length), ps[i] ≠ qs[i]) : D.get p qs = D.get d qs :=
  get_apart x (one_apart x) (fun _ _ _ => part_kid) (fun _ _ _ _ hp hs ht _ => step_diff hp hs ht) ps qs d p hd h ha
end Go.Proofs.YtlemlgllkcgigaaGreatDoor
namespace Go.Proofs.YtlemlgllkcgigaaGreatDoor
open Go.RowKit

theorem putV_ok {d x p : D} {er : Int} {ps : List ByteArray} (h : putV d x ps = (p, er)) :
    (er ≠ 0 → p = D.zero) ∧ (er = 0 → rightB d = true ∧ rightB x = true ∧ putR d ps x = some p) := by
  unfold putV at h
  by_cases h1 : rightB d = false ∨ rightB x = false
  · rw [if_pos h1] at h; injection h with e1 e2; exact ⟨fun _ => e1.symm, fun e => by omega⟩
  · rw [if_neg h1] at h
    have hd : rightB d = true := by cases e : rightB d with | true => rfl | false => exact absurd (.inl e) h1
    have hx : rightB x = true := by cases e : rightB x with | true => rfl | false => exact absurd (.inr e) h1
    by_cases h2 : ps = []
    · rw [if_pos h2] at h; injection h with e1 e2
      subst h2
      exact ⟨fun e => absurd e2.symm e, fun _ => ⟨hd, hx, by simp only [putR]; rw [e1]⟩⟩
    · rw [if_neg h2] at h
      have hp := putV_path x ps d h2
      cases hl : D.locate d ps.dropLast with
      | none => rw [hl] at h; injection h with e1 e2; exact ⟨fun _ => e1.symm, fun e => by omega⟩
      | some is =>
        rw [hl] at h hp
        simp only at h hp
        cases hsub : D.subAt d is with
        | none => rw [hsub] at h; injection h with e1 e2; exact ⟨fun _ => e1.symm, fun e => by omega⟩
        | some k =>
          rw [hsub] at h hp
          simp only at h hp
          cases hset : setD k (ps.getLastD ByteArray.empty) x with
          | none => rw [hset] at h; injection h with e1 e2; exact ⟨fun _ => e1.symm, fun e => by omega⟩
          | some k' =>
            rw [hset] at h hp
            simp only [Option.map_some] at h hp
            injection h with e1 e2
            exact ⟨fun e => absurd e2.symm e, fun _ => ⟨hd, hx, by rw [← hp, e1]⟩⟩

/-- Drop, part after part. -/
def dropR : D → List ByteArray → Option D
  | _, [] => none
  | d, [s] => (stepD d s).map d.dropKid
  | d, s :: t :: r => match stepD d s with
    | none => none
    | some i => match d.kids[i]? with
      | none => none
      | some k => (dropR k (t :: r)).map (d.setKid i)
theorem drop_path : ∀ (ps : List ByteArray) (d : D), ps ≠ [] → (match D.locate d ps.dropLast with
    | none => none
    | some is => match D.subAt d is with
      | none => none
      | some k => (stepD k (ps.getLastD ByteArray.empty)).map fun i => D.repl d is (k.dropKid i)) = dropR d ps
  | [], _, h => absurd rfl h
  | [s], d, _ => by
    simp only [List.dropLast, D.locate, D.subAt, List.getLastD, List.getLast, dropR]
    cases stepD d s <;> simp [D.repl]
  | s :: t :: r, d, _ => by
    have ih := fun k => drop_path (t :: r) k (by simp)
    simp only [List.dropLast_cons_cons, D.locate, dropR]
    cases hs : stepD d s with
    | none => rfl
    | some i =>
      simp only
      cases hk : d.kids[i]? with
      | none => rfl
      | some k =>
        simp only
        rw [← ih k]
        cases hl : D.locate k (t :: r).dropLast with
        | none => rfl
        | some is =>
          simp only [Option.map_some, D.subAt, hk]
          cases hsub : D.subAt k is with
          | none => rfl
          | some y =>
            have e : (s :: t :: r).getLastD ByteArray.empty = (t :: r).getLastD ByteArray.empty := by simp [List.getLastD]
            simp only [e, Option.map_map]
            cases stepD y ((t :: r).getLastD ByteArray.empty) <;> simp [D.repl, hk]
theorem drop_some : ∀ (ps : List ByteArray) (d : D), ps ≠ [] → (dropR d ps).isSome = (D.get d ps).isSome
  | [], _, h => absurd rfl h
  | [s], d, _ => by
    simp only [dropR]
    rw [get_kid]
    unfold kidAt
    cases hs : stepD d s with
    | none => rfl
    | some i =>
      simp only [Option.bind_some, Option.map_some]
      rw [List.getElem?_eq_getElem (step_lt hs).1]
      simp [D.get, D.locate, D.subAt]
  | s :: t :: r, d, _ => by
    have ih := fun k => drop_some (t :: r) k (by simp)
    simp only [dropR]
    rw [get_kid]
    unfold kidAt
    cases hs : stepD d s with
    | none => rfl
    | some i =>
      simp only [Option.bind_some]
      rw [List.getElem?_eq_getElem (step_lt hs).1]
      simp only [Option.bind_some, Option.isSome_map]
      exact ih _
theorem drop_less : ∀ (ps : List ByteArray) (d r : D), dropR d ps = some r → r.size < d.size
  | [], _, _, h => by simp [dropR] at h
  | [s], d, r, h => by
    simp only [dropR] at h
    cases hs : stepD d s with
    | none => rw [hs] at h; cases h
    | some i =>
      rw [hs] at h
      simp only [Option.map_some, Option.some.injEq] at h
      subst h
      have hi := (step_lt hs).1
      have h1 : D.sizes d.kids = D.sizes (d.kids.take i) + D.sizes (d.kids.drop i) := by rw [← D.sizes_append, List.take_append_drop]
      rw [List.drop_eq_getElem_cons hi] at h1
      have hpos := D.size_pos d.kids[i]
      have e1 : d.size = D.sizes d.kids + 1 := by obtain ⟨_, _, _, _, _⟩ := d; rfl
      have e2 : (d.dropKid i).size = D.sizes (d.kids.take i ++ d.kids.drop (i + 1)) + 1 := by simp only [D.dropKid, D.size]
      rw [e1, e2, D.sizes_append, h1]
      simp only [D.sizes]
      omega
  | s :: t :: u, d, r, h => by
    simp only [dropR] at h
    cases hs : stepD d s with
    | none => rw [hs] at h; cases h
    | some i =>
      rw [hs] at h
      have hi := (step_lt hs).1
      simp only [List.getElem?_eq_getElem hi] at h
      cases hq : dropR d.kids[i] (t :: u) with
      | none => rw [hq] at h; cases h
      | some q =>
        rw [hq] at h
        simp only [Option.map_some, Option.some.injEq] at h
        subst h
        have ih := drop_less (t :: u) _ _ hq
        have hz := sizes_set d.kids i hi q
        have e1 : d.size = D.sizes d.kids + 1 := by obtain ⟨_, _, _, _, _⟩ := d; rfl
        have e2 : (d.setKid i q).size = D.sizes (d.kids.set i q) + 1 := by simp only [D.setKid, D.size]
        omega
/-- What Drop tells. -/
theorem dropV_ok {d r : D} {er : Int} {ps : List ByteArray} (hd : rightB d = true) (h : dropV d ps = (r, er)) :
    (decide (er = 0) = (((getV d ps).2) && decide (0 < ps.length))) ∧ (er = 0 → r.size < d.size) := by
  have hg : (getV d ps).2 = (D.get d ps).isSome := by unfold getV; cases D.get d ps <;> rfl
  unfold dropV at h
  by_cases h1 : ps = []
  · rw [if_pos (.inr h1)] at h; injection h with e1 e2
    subst h1
    exact ⟨by simp; omega, fun e => by omega⟩
  · rw [if_neg (fun h => by rcases h with h | h; (rw [hd] at h; cases h); exact h1 h)] at h
    have hlen : 0 < ps.length := List.length_pos_iff.2 h1
    have hp := drop_path ps d h1
    have hsome := drop_some ps d h1
    have hless := drop_less ps d
    rw [hg, ← hsome, ← hp]
    rw [← hp] at hless
    cases hl : D.locate d ps.dropLast with
    | none => rw [hl] at h; injection h with e1 e2; exact ⟨by simp; omega, fun e => by omega⟩
    | some is =>
      rw [hl] at h hless
      simp only at h hless ⊢
      cases hsub : D.subAt d is with
      | none => rw [hsub] at h; injection h with e1 e2; exact ⟨by simp; omega, fun e => by omega⟩
      | some k =>
        rw [hsub] at h hless
        simp only at h hless ⊢
        cases hst : stepD k (ps.getLastD ByteArray.empty) with
        | none => rw [hst] at h; injection h with e1 e2; exact ⟨by simp; omega, fun e => by omega⟩
        | some i =>
          rw [hst] at h hless
          simp only [Option.map_some] at h hless ⊢
          injection h with e1 e2
          exact ⟨by simp; exact ⟨fun _ => hlen, fun _ => e2.symm⟩, fun _ => hless r (by rw [e1])⟩
/-- A part that was put fits. -/
theorem set_fit {d x d' : D} {s : ByteArray} (hd : d.Fit6) (hx : x.Fit) (h : setD d s x = some d') : d'.Fit := by
  have FD := hd.fit
  have h6 := (D.fit6_eq d).1 hd
  have hw := h
  unfold setD at hw
  rcases set_ways h with ⟨i, hs, rfl⟩ | ⟨hs, hk, rfl⟩ | ⟨hs, hk, hpl, rfl⟩
  · obtain ⟨k, n, st, ks, l⟩ := d
    simp only [D.setKid, D.kids, D.kind, D.num, D.str, D.keys]
    rw [fit_parts] at FD ⊢
    refine ⟨FD.1, FD.2.1, by rw [List.length_set]; exact FD.2.2.1, FD.2.2.2.1, ?_⟩
    rw [fits_mem] at *
    intro y hy
    rcases List.mem_or_eq_of_mem_set hy with h | rfl
    · exact FD.2.2.2.2 y h
    · exact hx
  · have hks : s.size ≤ 256 := by
      rw [hs] at hw
      simp only at hw
      by_cases hky : keyOfB d.kind s = true
      · exact key_size hky
      · rw [if_neg hky, if_neg (fun h => by omega)] at hw; cases hw
    clear hw h
    obtain ⟨k, n, st, ks, l⟩ := d
    simp only [D.ins, D.kids, D.kind, D.num, D.str, D.keys] at *
    rw [fit_parts] at FD ⊢
    rw [fits_mem] at *
    refine ⟨FD.1, ?_, ?_, ?_, ?_⟩
    · simp only [List.length_append, List.length_take, List.length_cons, List.length_drop]; omega
    · simp only [List.length_append, List.length_take, List.length_cons, List.length_drop]; omega
    · intro k' hk'
      rcases List.mem_append.1 hk' with h | h
      · exact FD.2.2.2.1 _ (List.mem_of_mem_take h)
      · rcases List.mem_cons.1 h with rfl | h
        · omega
        · exact FD.2.2.2.1 _ (List.mem_of_mem_drop h)
    · intro y hy
      rcases List.mem_append.1 hy with h | h
      · exact FD.2.2.2.2 _ (List.mem_of_mem_take h)
      · rcases List.mem_cons.1 h with rfl | h
        · exact hx
        · exact FD.2.2.2.2 _ (List.mem_of_mem_drop h)
  · clear hw h
    obtain ⟨k, n, st, ks, l⟩ := d
    simp only [D.snoc, D.kids, D.kind, D.num, D.str, D.keys] at *
    rw [fit_parts] at FD ⊢
    rw [fits_mem] at *
    refine ⟨FD.1, FD.2.1, by simp; omega, FD.2.2.2.1, ?_⟩
    intro y hy
    rcases List.mem_append.1 hy with h | h
    · exact FD.2.2.2.2 _ h
    · rcases List.mem_cons.1 h with rfl | h
      · exact hx
      · cases h
theorem put_fit {x : D} (hx : x.Fit) : ∀ (ps : List ByteArray) (d p : D), d.Fit6 → putR d ps x = some p → p.Fit
  | [], _, p, _, h => by simp only [putR, Option.some.injEq] at h; rw [← h]; exact hx
  | [s], d, p, hd, h => set_fit hd hx h
  | s :: t :: r, d, p, hd, h => by
    simp only [putR] at h
    cases hs : stepD d s with
    | none => rw [hs] at h; cases h
    | some i =>
      rw [hs] at h
      have hi := (step_lt hs).1
      simp only [List.getElem?_eq_getElem hi] at h
      cases hq : putR d.kids[i] (t :: r) x with
      | none => rw [hq] at h; cases h
      | some q =>
        rw [hq] at h
        simp only [Option.map_some, Option.some.injEq] at h
        subst h
        have h6 := (D.fit6_eq d).1 hd
        have hqf := put_fit hx (t :: r) _ _ (D.Fits6.at_ h6.2.2.2.2 hi) hq
        have FD := hd.fit
        obtain ⟨k, n, st, ks, l⟩ := d
        simp only [D.setKid, D.kids, D.kind, D.num, D.str, D.keys] at *
        rw [fit_parts] at FD ⊢
        refine ⟨FD.1, FD.2.1, by rw [List.length_set]; exact FD.2.2.1, FD.2.2.2.1, ?_⟩
        rw [fits_mem] at *
        intro y hy
        rcases List.mem_or_eq_of_mem_set hy with h | rfl
        · exact FD.2.2.2.2 y h
        · exact hqf
end Go.Proofs.YtlemlgllkcgigaaGreatDoor
