/-
  SchemaLeasts: the walk.
-/
import Derived.Test.YtnjmknofojjlmaaDoorLeastA
import Derived.Test.YtnjmknofojjlmaaDoorRLeastF
import Derived.Test.YtnjmknofojjlmaaDoorRLeastO
import Derived.Test.YtnjmknofojjlmaaDoorRLeastQ
import Derived.Test.YtnjmknofojjlmaaDoorRCmpD
import Derived.Test.YtnjmknofojjlmaaDoorTSmall
import Derived.Deep.RegionHeld3
namespace Go.Proofs.YtnjmknofojjlmaaDoor
open Go.RowKit

theorem rleasts_any : ∀ m : Nat, RLeastsTo m := by
  intro m
  induction m with
  | zero => intro t v w B hm; have := T.depth_pos t; omega
  | succ m ih =>
    intro t v w B hm hall hf hB ht
    have hsd : soundT t = true := by rw [allT_eq, Bool.and_eq_true] at hall; exact hall.1
    have hok := leastOk_of hsd
    have hk := hok.kind
    by_cases h1 : t.kind = 1
    · exact rleast_fields h1 hok hm hall hf hB ht ih
    by_cases h2 : t.kind = 2
    · exact rleast_dict h2 hok hm hall hf hB ht ih
    by_cases h3 : t.kind = 3
    · exact rleast_list h3 hok hm hall hf hB ht ih
    · exact rleast_leaf (by omega) hok hB ht
theorem fits_of : ∀ {l : List D}, (∀ d ∈ l, d.Fit) → D.Fits l
  | [], _ => by simp [D.Fits]
  | d :: r, h => by simp only [D.Fits]; exact ⟨h d (by simp), fits_of fun x hx => h x (by simp [hx])⟩
theorem leastF_mem : ∀ {l : List F} {d : D}, d ∈ leastF l → ∃ f ∈ l, d = f.type.least
  | [], d, h => by simp [leastF] at h
  | f :: r, d, h => by
    simp only [leastF, leastF1_eq, List.mem_append] at h
    rcases h with h | h
    · by_cases ho : f.opt = true
      · simp [ho] at h
      · simp [ho] at h; exact ⟨f, by simp, h⟩
    · obtain ⟨g, hg, e⟩ := leastF_mem h
      exact ⟨g, by simp [hg], e⟩
theorem keysF_mem : ∀ {l : List F} {k : ByteArray}, k ∈ keysF l → ∃ f ∈ l, k = f.name
  | [], d, h => by simp [keysF] at h
  | f :: r, d, h => by
    simp only [keysF, List.mem_append] at h
    rcases h with h | h
    · by_cases ho : f.opt = true
      · simp [ho] at h
      · simp [ho] at h; exact ⟨f, by simp, h⟩
    · obtain ⟨g, hg, e⟩ := keysF_mem h
      exact ⟨g, by simp [hg], e⟩
theorem allL_mem : ∀ {l : List T} {x : T}, allL l = true → x ∈ l → allT x = true
  | [], _, _, h => by simp at h
  | t :: r, x, h, hx => by
    simp only [allL, Bool.and_eq_true] at h
    rcases List.mem_cons.1 hx with rfl | hx
    · exact h.1
    · exact allL_mem h.2 hx
theorem leastStr_size {t : T} (hok : LeastOk t) (hf : t.Fit) : (leastStr t.kind t.lo t.names).size ≤ 10000 := by
  unfold leastStr
  split
  · rename_i h6
    have := hok.lo6 h6; have := hok.lo (by omega)
    rw [aStr_size]; omega
  · split
    · rename_i h7
      have := hok.ns h7
      obtain ⟨x, r, e⟩ := List.exists_cons_of_length_pos this
      rw [e]
      exact hf.parts.2.2.2.1 x (by rw [e]; simp)
    · simp [ByteArray.size]
theorem kKeys_size {n : Nat} {k : ByteArray} (h : k ∈ kKeys n) : k.size ≤ 10000 := by
  simp only [kKeys, List.mem_map] at h
  obtain ⟨i, _, rfl⟩ := h
  simp [kKey, ByteArray.size]
/-- How great the least document's parts are. -/
theorem least_fit : ∀ (m : Nat) (t : T), t.depth ≤ m → allT t = true → t.Fit → t.least.Fit := by
  intro m
  induction m with
  | zero => intro t hm; have := T.depth_pos t; omega
  | succ m ih =>
    intro t hm hall hf
    have hsd : soundT t = true := by rw [allT_eq, Bool.and_eq_true] at hall; exact hall.1
    have hkids : allL t.kids = true := by rw [allT_eq, Bool.and_eq_true] at hall; exact hall.2
    have hok := leastOk_of hsd
    have hk := hok.kind
    obtain ⟨p1, p2, p3, p4, p5, p6⟩ := hf.parts
    rw [least_eq]
    simp only [D.Fit]
    have hof : t.of = [] ∨ ∃ x, t.of = [x] := by
      by_cases h : t.kind = 2 ∨ t.kind = 3
      · exact .inr (hok.of1 h)
      · exact .inl (hok.of0 (by omega) (by omega))
    have hN : leastN t.lo ≤ 8 := by unfold leastN; omega
    have hkF : (keysF t.fields).length ≤ t.fields.length := keysF_len _
    have hlF := leastF_len t.fields
    refine ⟨leastStr_size hok hf, ?_, ?_, ?_, fits_of ?_⟩
    · have : (keysO t.kind t.lo t.of).length ≤ 8 := by
        unfold keysO
        split
        · split
          · simp
          · rw [kKeys_len]; exact hN
        · simp
      by_cases h1 : t.kind = 1
      · have : keysO t.kind t.lo t.of = [] := by unfold keysO; rw [if_neg (by omega)]
        rw [this]; simp; omega
      · rw [hok.fs h1]; simp [keysF]; omega
    · by_cases h1 : t.kind = 1
      · rw [hok.of0 (by omega) (by omega)]; simp [leastO]; omega
      · rw [hok.fs h1]
        rcases hof with h | ⟨x, h⟩ <;> rw [h] <;> simp [leastF, leastO]; omega
    · intro k hk
      rcases List.mem_append.1 hk with h | h
      · obtain ⟨f, hfm, rfl⟩ := keysF_mem h
        obtain ⟨i, hi, rfl⟩ := List.getElem_of_mem hfm
        exact (p5.at_ hi).name
      · unfold keysO at h
        split at h
        · split at h
          · simp at h
          · exact kKeys_size h
        · simp at h
    · intro d hd
      rcases List.mem_append.1 hd with h | h
      · obtain ⟨f, hfm, rfl⟩ := leastF_mem h
        obtain ⟨i, hi, rfl⟩ := List.getElem_of_mem hfm
        exact ih _ (by have := T.field_depth (t := t) hi; omega) (allL_mem hkids (by simp only [T.kids, List.mem_append, List.mem_map]; exact .inl ⟨_, hfm, rfl⟩)) (p5.at_ hi).type
      · rcases hof with h0 | ⟨x, h0⟩
        · rw [h0] at h; simp [leastO] at h
        · rw [h0] at h
          simp only [leastO, List.append_nil] at h
          have := List.eq_of_mem_replicate h
          subst this
          have hx0 : 0 < t.of.length := by rw [h0]; simp
          have hx : t.of[0] = x := by simp only [h0, List.getElem_cons_zero]
          have hd2 := T.of_depth (t := t) (i := 0) hx0
          have hf2 := p6.at_ (i := 0) hx0
          rw [hx] at hd2 hf2
          exact ih _ (by omega) (allL_mem hkids (by simp [T.kids, h0])) hf2
/-- The law's own variable. -/
structure LSt (w0 w : World) (t : T) (v0 v1 v2 v3 v4 v5 : Value) : Prop where
  bx : Box6 w w0.heap.size v0 v1 v2 v3 v4 v5
  tin : TypeIn w0 w0.heap.size t v0 v1 v2 v3 v4 v5
  bl : Below w0.heap.size w0 w
  sz : w0.heap.size < w.heap.size
theorem LSt.tv {w0 w : World} {t : T} {v0 v1 v2 v3 v4 v5 : Value} (h : LSt w0 w t v0 v1 v2 v3 v4 v5) : TypeV w w0.heap.size t (.agg #[v0, v1, v2, v3, v4, v5]) := ⟨_, _, _, _, _, _, rfl, h.tin.keep (Nat.le_refl _) fun p hp => h.bl.cell (p := p) hp⟩
theorem LSt.next {w0 w w' : World} {t : T} {v0 v1 v2 v3 v4 v5 : Value} (h : LSt w0 w t v0 v1 v2 v3 v4 v5) (hb : Below w.heap.size w w') : LSt w0 w' t v0 v1 v2 v3 v4 v5 :=
  ⟨h.bx.same (hb.block _ h.sz), h.tin, h.bl.trans (hb.mono h.bl.size), by have := h.sz; have := hb.size; omega⟩
theorem same_refl (a : D) : D.same a a = true := by simp [D.same, D.cmp_ordered.refl a trivial]
set_option maxHeartbeats 4000000 in
set_option maxRecDepth 100000 in
theorem leasts_law {t : T} {A3 A4 A5 : Option Addr} {c3 c4 c5 : Nat} {w : World} (ht : TypeIn w w.heap.size t (.int .i64 t.kind) (.int .i64 t.lo) (.int .i64 t.hi) (.slice A3 t.names.length c3) (.slice A4 t.fields.length c4) (.slice A5 t.of.length c5)) :
    Calls Tryd.prog 3 #[.agg #[.int .i64 t.kind, .int .i64 t.lo, .int .i64 t.hi, .slice A3 t.names.length c3, .slice A4 t.fields.length c4, .slice A5 t.of.length c5]] w fun e w' => e = .returned (.bool true) ∧ Below w.heap.size w w' := by
  have HT := Lib.hid ht
  clear ht
  generalize Value.int .i64 t.kind = v0 at *
  generalize Value.int .i64 t.lo = v1 at *
  generalize Value.int .i64 t.hi = v2 at *
  generalize Value.slice A3 t.names.length c3 = v3 at *
  generalize Value.slice A4 t.fields.length c4 = v4 at *
  generalize Value.slice A5 t.of.length c5 = v5 at *
  go_enter Tryd.func3, Tryd.ntmps3
  go_wp2_with fail
  refine (tsmall_any _).mono ?_
  rintro e w1 ⟨rfl, hb1⟩
  have ST1 : Hid (LSt w w1 t v0 v1 v2 v3 v4 v5) := Lib.hid (LSt.next ⟨Box6.new w _ _ _ _ _ _, HT.out, (Below.refl _ _).alloc (Nat.le_refl _) _, by simp⟩ hb1)
  clear hb1
  obtain ⟨x0, x1, x2, x3, x4, x5⟩ := ST1.out.bx.cells
  have lx := ST1.out.sz
  go_wp2_with fail
  refine (t_few_v (Nat.le_of_lt lx) ST1.out.tv).mono ?_
  rintro e w2 ⟨rfl, hb2⟩
  have ST2 := Lib.hid (ST1.out.next hb2)
  clear x0 x1 x2 x3 x4 x5 ST1 hb2 lx
  cases hft : t_fewB t
  · go_wp2_with fail
    go_ret
    exact ⟨rfl, ST2.out.bl⟩
  have hok : okFew t 20 := by simpa [t_fewB] using hft
  have HFT : Hid t.Fit := fit_of_allP t hok.2.2
  have td : t.depth ≤ 20 := hok.1
  have ts : t.size ≤ 199 := hok.2.1
  clear hok hft
  obtain ⟨x0, x1, x2, x3, x4, x5⟩ := ST2.out.bx.cells
  have lx := ST2.out.sz
  go_wp2_with fail
  refine (tright_any (B := w.heap.size) (by omega) (by omega) HFT.out (by omega) ST2.out.tv).mono ?_
  rintro e w3 ⟨rfl, hb3⟩
  have ST3 := Lib.hid (ST2.out.next hb3)
  clear x0 x1 x2 x3 x4 x5 ST2 hb3 lx
  obtain ⟨x0, x1, x2, x3, x4, x5⟩ := ST3.out.bx.cells
  have lx := ST3.out.sz
  by_cases hr : rightT t = true
  case neg =>
    have hr' : rightT t = false := by simpa using hr
    rw [hr']
    clear hr hr'
    go_wp2_with fail
    go_ret
    exact ⟨rfl, ST3.out.bl⟩
  rw [hr]
  have HR := Lib.hid hr; clear hr
  go_wp2_with fail
  refine (tdepth_any (B := w.heap.size) (by omega) (by omega) HFT.out (by omega) ST3.out.tv).mono ?_
  rintro e w4 ⟨rfl, hb4⟩
  have ST4 := Lib.hid (ST3.out.next hb4)
  clear x0 x1 x2 x3 x4 x5 ST3 hb4 lx
  obtain ⟨x0, x1, x2, x3, x4, x5⟩ := ST4.out.bx.cells
  have lx := ST4.out.sz
  by_cases h4 : (4 : Int) < (t.depth : Int)
  · go_wp2_with fail
    go_ret
    exact ⟨rfl, ST4.out.bl⟩
  go_upto_region 5 with fail
  have HLV : Hid (leastV t = t.least) := Lib.hid (by unfold leastV; rw [if_pos HR.out])
  have HDF := Lib.hid (least_fit t.depth t (Nat.le_refl _) (rightT_all HR.out) HFT.out)
  go_region_held3 (fun w' => w'.cell? ⟨w.heap.size, 0, none⟩ = some v0 ∧ w'.cell? ⟨w.heap.size, 1, none⟩ = some v1 ∧ w'.cell? ⟨w.heap.size, 2, none⟩ = some v2 ∧ w'.cell? ⟨w.heap.size, 3, none⟩ = some v3 ∧ w'.cell? ⟨w.heap.size, 4, none⟩ = some v4 ∧ w'.cell? ⟨w.heap.size, 5, none⟩ = some v5)
    (first | exact ⟨x0, x1, x2, x3, x4, x5⟩ | exact ⟨z0, z1, z2, z3, z4, z5⟩ | exact ⟨p0, p1, p2, p3, p4, p5⟩ | exact ⟨r0, r1, r2, r3, r4, r5⟩)
    ((first
    | (go_at_call 9
       refine (least_v (t := t) (w := w4.drew) (B := w.heap.size) (by omega) (by omega) HFT.out (by show w.heap.size ≤ w4.heap.size; omega) (ST4.out.next (Below.refl _ _).drew).tv).mono ?_
       rintro e w5 ⟨y0, y1, y2, y3, y4, G, rfl, hG, hGn, hb5⟩
       have HG5 := Lib.hid hG.doc
       have hb45 : Below w4.heap.size w4 w5 := (Below.refl _ _).drew.trans hb5
       have ST5 := Lib.hid (ST4.out.next hb45)
       rw [HLV.out] at HG5
       clear hG hGn hb5 hb45
       have lx5 := ST5.out.sz
       obtain ⟨z0, z1, z2, z3, z4, z5⟩ := ST5.out.bx.cells)
    | (go_at_call 10
       refine (rleasts_any t.depth t _ w5 w.heap.size (Nat.le_refl _) (rightT_all HR.out) HFT.out (by omega) (ST5.out.tv)).mono ?_
       rintro e w6 ⟨u0, u1, u2, u3, u4, G, rfl, hG, hGn, hb6⟩
       have HG6 := Lib.hid hG.doc
       have HH5 := Lib.hid (HG5.out.keep hb6.size fun p hp => hb6.cell (p := p) hp)
       have ST6 := Lib.hid (ST5.out.next hb6)
       clear hG hGn hb6
       obtain ⟨p0, p1, p2, p3, p4, p5⟩ := ST6.out.bx.cells)
    | (go_at_call 8
       refine (rsame_v (d := t.least) (d' := t.least) (w := w6) (B := w6.heap.size) HDF.out HDF.out (Nat.le_refl _) ⟨_, _, _, _, _, rfl, HH5.out⟩ ⟨_, _, _, _, _, rfl, HG6.out⟩).mono ?_
       rintro e w7 ⟨rfl, hb7⟩
       rw [same_refl]
       have ST7 := Lib.hid (ST6.out.next hb7)
       clear hb7
       obtain ⟨r0, r1, r2, r3, r4, r5⟩ := ST7.out.bx.cells)))
  all_goals (go_wp2_with fail)
  all_goals go_ret
  all_goals exact ⟨rfl, ST7.out.bl⟩
end Go.Proofs.YtnjmknofojjlmaaDoor
