/-
  schema.Least.
  How great the least document's parts are: plain lemmas.
  The document's own Least, of any type that is right but for how great it is.
-/
import Derived.Test.YteecdmceleanjaaGreatDoorB18
import Derived.Test.YteecdmceleanjaaGreatDoorB19
import Derived.Test.YteecdmceleanjaaGreatDoorB12
namespace Go.Proofs.YteecdmceleanjaaGreatDoor
open Go.RowKit

theorem leasts_any (c : Nat) : ∀ (m : Nat) (w0 : World), c < w0.heap.size → LeastsTo m c w0 := by
  intro m
  induction m with
  | zero => intro w0 _ t v w B hm; have := T.depth_pos t; omega
  | succ m ih =>
    intro w0 hc0 t v w B hm hall hf hB ht hcc hz
    have hsd : soundT t = true := by rw [allT_eq, Bool.and_eq_true] at hall; exact hall.1
    have hok := leastOk_of hsd
    have hc : c < w.heap.size := by omega
    have hk := hok.kind
    by_cases h1 : t.kind = 1
    · exact least_fields h1 hok hm hall hf hB ht hc hcc (ih w hc)
    by_cases h2 : t.kind = 2
    · exact least_dict h2 hok hm hall hf hB ht hc hcc (ih w hc)
    by_cases h3 : t.kind = 3
    · exact least_list h3 hok hm hall hf hB ht hc hcc (ih w hc)
    · exact least_leaf (by omega) hok hB ht
/-- What Least tells. -/
def leastV (t : T) : D := if rightT t = true then t.least else .mk 0 0 ⟨#[]⟩ [] []
theorem rightT_all {t : T} (h : rightT t = true) : allT t = true := by simp only [rightT, Bool.and_eq_true] at h; exact h.2.2
set_option maxHeartbeats 4000000 in
set_option maxRecDepth 100000 in
theorem least_v {t : T} {v : Value} {w : World} {B : Nat} (hs : t.size ≤ 10000) (hd : t.depth ≤ 900) (hf : t.Fit) (hB : B ≤ w.heap.size) (ht : TypeV w B t v) :
    Calls Tryz.prog 26 #[v] w (MadeDoc w.heap.size w (leastV t)) := by
  have HV := Lib.hid ht; have HF := Lib.hid hf
  obtain ⟨v0, v1, v2, v3, v4, v5, rfl, hd0⟩ := ht
  obtain ⟨A3, c3, A4, c4, A5, c5, rfl, rfl, rfl, rfl, rfl, rfl⟩ := hd0.forms
  have HT0' := Lib.hid hd0
  clear hd0 hf
  go_enter Tryz.func26, Tryz.ntmps26
  go_wp2_with fail
  generalize ev0 : Value.int .i64 t.kind = v0 at *
  generalize ev1 : Value.int .i64 t.lo = v1 at *
  generalize ev2 : Value.int .i64 t.hi = v2 at *
  generalize ev3 : Value.slice A3 t.names.length c3 = v3 at *
  generalize ev4 : Value.slice A4 t.fields.length c4 = v4 at *
  generalize ev5 : Value.slice A5 t.of.length c5 = v5 at *
  have E0 := Lib.hid ev0; have E1 := Lib.hid ev1; have E2 := Lib.hid ev2; have E3 := Lib.hid ev3; have E4 := Lib.hid ev4; have E5 := Lib.hid ev5
  clear ev0 ev1 ev2 ev3 ev4 ev5
  have hbw : Below w.heap.size w ((w.alloc (.cells #[v0, v1, v2, v3, v4, v5] 26)).alloc (.cells #[.int .i64 0, .int .i64 0, .string ⟨#[]⟩, .slice none 0 0, .slice none 0 0] 29)) := ((Below.refl _ _).alloc (Nat.le_refl _) _).alloc (by simp) _
  have HT0 := Lib.hid (((Box6.new w v0 v1 v2 v3 v4 v5).alloc (.cells #[.int .i64 0, .int .i64 0, .string ⟨#[]⟩, .slice none 0 0, .slice none 0 0] 29)))
  have HR0 : Hid (Box5 _ (w.heap.size + 1) (.int .i64 0) (.int .i64 0) (.string ⟨#[]⟩) (.slice none 0 0) (.slice none 0 0)) := Box5.new' (w := w.alloc (.cells #[v0, v1, v2, v3, v4, v5] 26)) (by simp) _ _ _ _ _
  have hsz : ((w.alloc (.cells #[v0, v1, v2, v3, v4, v5] 26)).alloc (.cells #[.int .i64 0, .int .i64 0, .string ⟨#[]⟩, .slice none 0 0, .slice none 0 0] 29)).heap.size = w.heap.size + 2 := by simp
  generalize ((w.alloc (.cells #[v0, v1, v2, v3, v4, v5] 26)).alloc (.cells #[.int .i64 0, .int .i64 0, .string ⟨#[]⟩, .slice none 0 0, .slice none 0 0] 29)) = w0 at *
  have hsz : w0.heap.size ≥ w.heap.size + 2 := by omega
  have HV0 := Lib.hid (HV.out.keep (Nat.le_refl B) fun p hp => hbw.cell (p := p) (by omega))
  refine (tright_any hs hd HF.out (by omega) HV0.out).mono ?_
  rintro e w1 ⟨rfl, hb1⟩
  have hz1 := hb1.size
  have HT1 := Lib.hid (HT0.out.same (hb1.block _ (by omega)))
  have HR1 := Lib.hid (HR0.out.same (hb1.block _ (by omega)))
  have HB1 : Hid (Below w.heap.size w w1) := hbw.trans (hb1.mono hbw.size)
  have HV1 := Lib.hid (HV0.out.keep (Nat.le_refl B) fun p hp => hb1.cell (p := p) (by omega))
  clear hbw hb1 HT0 HR0
  obtain ⟨t0, t1, t2, t3, t4, t5⟩ := HT1.out.cells
  have htl : w.heap.size < w1.heap.size := by omega
  have hrl : w.heap.size + 1 < w1.heap.size := by omega
  have le0 : w.heap.size ≤ w.heap.size + 1 := by omega
  by_cases hr : rightT t = true
  case neg =>
    have hr' : rightT t = false := by simpa using hr
    rw [hr']
    have EL : Hid (leastV t = .mk 0 0 ⟨#[]⟩ [] []) := Lib.hid (by unfold leastV; rw [if_neg hr])
    clear hr hr'
    obtain ⟨r0, r1, r2, r3, r4⟩ := HR1.out.cells
    have r5 := HR1.out.frozen
    go_wp2_with fail
    have hfin := ((((HR1.out.set0 (.int .i64 0)).set1 (.int .i64 0)).set2 (.string ⟨#[]⟩)).set3 (.slice none 0 0)).set4 (.slice none 0 0)
    clear r0 r1 r2 r3 r4 r5
    refine ret_cell5 rfl rfl hfin.load rfl ?_
    rw [EL.out]
    exact ⟨_, _, _, _, _, [], rfl, own_leaf _ _ _, by simp, ((((HB1.out.setCell (by exact le0) _).setCell (by exact le0) _).setCell (by exact le0) _).setCell (by exact le0) _).setCell (by exact le0) _⟩
  case pos =>
    rw [hr]
    have EL : Hid (leastV t = t.least) := Lib.hid (by unfold leastV; rw [if_pos hr])
    have HRT := Lib.hid hr; clear hr
    go_wp2_with fail
    clear t0 t1 t2 t3 t4 t5
    have hn := heap_alloc_new w1 (.cells #[.func (.func 54) #[] #[.pointer (some ⟨w1.heap.size, 0, none⟩)]] 45)
    have hb2 : Below w1.heap.size w1 (w1.alloc (.cells #[.func (.func 54) #[] #[.pointer (some ⟨w1.heap.size, 0, none⟩)]] 45)) := (Below.refl _ _).alloc (Nat.le_refl _) _
    have hz2 : (w1.alloc (.cells #[.func (.func 54) #[] #[.pointer (some ⟨w1.heap.size, 0, none⟩)]] 45)).heap.size = w1.heap.size + 1 := by simp
    generalize w1.alloc (.cells #[.func (.func 54) #[] #[.pointer (some ⟨w1.heap.size, 0, none⟩)]] 45) = w2 at hn hb2 hz2 ⊢
    refine (leasts_any w1.heap.size t.depth w2 (by omega) t _ w2 B (Nat.le_refl _) (rightT_all HRT.out) HF.out (by omega) (HV1.out.keep (Nat.le_refl B) fun p hp => hb2.cell (p := p) (by omega)) (cell_block hn 0) (Nat.le_refl _)).mono ?_
    rintro e w3 ⟨y0, y1, y2, y3, y4, G, rfl, hG, hGn, hb3⟩
    have hz3 := hb3.size
    have HR3 := Lib.hid ((HR1.out.same (hb2.block _ (by omega))).same (hb3.block _ (by omega)))
    have HB3 : Hid (Below w.heap.size w w3) := (HB1.out.trans (hb2.mono (by omega))).trans (hb3.mono (by omega))
    obtain ⟨A7, c7, A8, c8, rfl, rfl, rfl, rfl, rfl⟩ := hG.doc.forms
    have HG := Lib.hid hG; have HGN := Lib.hid hGn
    clear hG hGn hb3 hb2 hn
    obtain ⟨r0, r1, r2, r3, r4⟩ := HR3.out.cells
    have r5 := HR3.out.frozen
    have hrl3 : w.heap.size + 1 < w3.heap.size := by omega
    go_wp2_with fail
    have hfin := ((((HR3.out.set0 (.int .i64 t.least.kind)).set1 (.int .i64 t.least.num)).set2 (.string t.least.str)).set3 (.slice A7 t.least.keys.length c7)).set4 (.slice A8 t.least.kids.length c8)
    clear r0 r1 r2 r3 r4 r5
    refine ret_cell5 rfl rfl hfin.load rfl ?_
    rw [EL.out]
    refine ⟨_, _, _, _, _, G, rfl, HG.out.same (by omega) fun k hk => ?_, HGN.out, ((((HB3.out.setCell (by exact le0) _).setCell (by exact le0) _).setCell (by exact le0) _).setCell (by exact le0) _).setCell (by exact le0) _⟩
    have hkl := (HG.out.lt k hk).1
    have hne : k ≠ w.heap.size + 1 := by omega
    exact (Below.heap_setCell _ _ _ _ hne).trans ((Below.heap_setCell _ _ _ _ hne).trans ((Below.heap_setCell _ _ _ _ hne).trans ((Below.heap_setCell _ _ _ _ hne).trans (Below.heap_setCell _ _ _ _ hne))))
end Go.Proofs.YteecdmceleanjaaGreatDoor
namespace Go.Proofs.YteecdmceleanjaaGreatDoor
open Go.RowKit

theorem fits_of : ∀ {l : List D}, (∀ d ∈ l, d.Fit) → D.Fits l
  | [], _ => by simp [D.Fits]
  | d :: r, h => by simp only [D.Fits]; exact ⟨h d (by simp), fits_of fun x hx => h x (by simp [hx])⟩
theorem leastF_mem : ∀ {l : List F} {d : D}, d ∈ leastF l → ∃ f ∈ l, d = f.type.least
  | [], d, h => by simp [leastF] at h
  | f :: r, d, h => by
    simp only [leastF, leastF1_eq, List.mem_append] at h
    rcases h with h | h
    · by_cases ho : f.opt = true
      · simp [ho] at h
      · simp [ho] at h; exact ⟨f, by simp, h⟩
    · obtain ⟨g, hg, e⟩ := leastF_mem h
      exact ⟨g, by simp [hg], e⟩
theorem keysF_mem : ∀ {l : List F} {k : ByteArray}, k ∈ keysF l → ∃ f ∈ l, k = f.name
  | [], d, h => by simp [keysF] at h
  | f :: r, d, h => by
    simp only [keysF, List.mem_append] at h
    rcases h with h | h
    · by_cases ho : f.opt = true
      · simp [ho] at h
      · simp [ho] at h; exact ⟨f, by simp, h⟩
    · obtain ⟨g, hg, e⟩ := keysF_mem h
      exact ⟨g, by simp [hg], e⟩
theorem allL_mem : ∀ {l : List T} {x : T}, allL l = true → x ∈ l → allT x = true
  | [], _, _, h => by simp at h
  | t :: r, x, h, hx => by
    simp only [allL, Bool.and_eq_true] at h
    rcases List.mem_cons.1 hx with rfl | hx
    · exact h.1
    · exact allL_mem h.2 hx
theorem leastStr_size {t : T} (hok : LeastOk t) (hf : t.Fit) : (leastStr t.kind t.lo t.names).size ≤ 10000 := by
  unfold leastStr
  split
  · rename_i h6
    have := hok.lo6 h6; have := hok.lo (by omega)
    rw [aStr_size]; omega
  · split
    · rename_i h7
      have := hok.ns h7
      obtain ⟨x, r, e⟩ := List.exists_cons_of_length_pos this
      rw [e]
      exact hf.parts.2.2.2.1 x (by rw [e]; simp)
    · simp [ByteArray.size]
theorem kKeys_size {n : Nat} {k : ByteArray} (h : k ∈ kKeys n) : k.size ≤ 10000 := by
  simp only [kKeys, List.mem_map] at h
  obtain ⟨i, _, rfl⟩ := h
  simp [kKey, ByteArray.size]
/-- How great the least document's parts are. -/
theorem least_fit : ∀ (m : Nat) (t : T), t.depth ≤ m → allT t = true → t.Fit → t.least.Fit := by
  intro m
  induction m with
  | zero => intro t hm; have := T.depth_pos t; omega
  | succ m ih =>
    intro t hm hall hf
    have hsd : soundT t = true := by rw [allT_eq, Bool.and_eq_true] at hall; exact hall.1
    have hkids : allL t.kids = true := by rw [allT_eq, Bool.and_eq_true] at hall; exact hall.2
    have hok := leastOk_of hsd
    have hk := hok.kind
    obtain ⟨p1, p2, p3, p4, p5, p6⟩ := hf.parts
    rw [least_eq]
    simp only [D.Fit]
    have hof : t.of = [] ∨ ∃ x, t.of = [x] := by
      by_cases h : t.kind = 2 ∨ t.kind = 3
      · exact .inr (hok.of1 h)
      · exact .inl (hok.of0 (by omega) (by omega))
    have hN : leastN t.lo ≤ 8 := by unfold leastN; omega
    have hkF : (keysF t.fields).length ≤ t.fields.length := keysF_len _
    have hlF := leastF_len t.fields
    refine ⟨leastStr_size hok hf, ?_, ?_, ?_, fits_of ?_⟩
    · have : (keysO t.kind t.lo t.of).length ≤ 8 := by
        unfold keysO
        split
        · split
          · simp
          · rw [kKeys_len]; exact hN
        · simp
      by_cases h1 : t.kind = 1
      · have : keysO t.kind t.lo t.of = [] := by unfold keysO; rw [if_neg (by omega)]
        rw [this]; simp; omega
      · rw [hok.fs h1]; simp [keysF]; omega
    · by_cases h1 : t.kind = 1
      · rw [hok.of0 (by omega) (by omega)]; simp [leastO]; omega
      · rw [hok.fs h1]
        rcases hof with h | ⟨x, h⟩ <;> rw [h] <;> simp [leastF, leastO]; omega
    · intro k hk
      rcases List.mem_append.1 hk with h | h
      · obtain ⟨f, hfm, rfl⟩ := keysF_mem h
        obtain ⟨i, hi, rfl⟩ := List.getElem_of_mem hfm
        exact (p5.at_ hi).name
      · unfold keysO at h
        split at h
        · split at h
          · simp at h
          · exact kKeys_size h
        · simp at h
    · intro d hd
      rcases List.mem_append.1 hd with h | h
      · obtain ⟨f, hfm, rfl⟩ := leastF_mem h
        obtain ⟨i, hi, rfl⟩ := List.getElem_of_mem hfm
        exact ih _ (by have := T.field_depth (t := t) hi; omega) (allL_mem hkids (by simp only [T.kids, List.mem_append, List.mem_map]; exact .inl ⟨_, hfm, rfl⟩)) (p5.at_ hi).type
      · rcases hof with h0 | ⟨x, h0⟩
        · rw [h0] at h; simp [leastO] at h
        · rw [h0] at h
          simp only [leastO, List.append_nil] at h
          have := List.eq_of_mem_replicate h
          subst this
          have hx0 : 0 < t.of.length := by rw [h0]; simp
          have hx : t.of[0] = x := by simp only [h0, List.getElem_cons_zero]
          have hd2 := T.of_depth (t := t) (i := 0) hx0
          have hf2 := p6.at_ (i := 0) hx0
          rw [hx] at hd2 hf2
          exact ih _ (by omega) (allL_mem hkids (by simp [T.kids, h0])) hf2
end Go.Proofs.YteecdmceleanjaaGreatDoor
namespace Go.Proofs.YteecdmceleanjaaGreatDoor
open Go.RowKit

theorem rleasts_any : ∀ m : Nat, RLeastsTo m := by
  intro m
  induction m with
  | zero => intro t v w B hm; have := T.depth_pos t; omega
  | succ m ih =>
    intro t v w B hm hall hf hB ht
    have hsd : soundT t = true := by rw [allT_eq, Bool.and_eq_true] at hall; exact hall.1
    have hok := leastOk_of hsd
    have hk := hok.kind
    by_cases h1 : t.kind = 1
    · exact rleast_fields h1 hok hm hall hf hB ht ih
    by_cases h2 : t.kind = 2
    · exact rleast_dict h2 hok hm hall hf hB ht ih
    by_cases h3 : t.kind = 3
    · exact rleast_list h3 hok hm hall hf hB ht ih
    · exact rleast_leaf (by omega) hok hB ht
end Go.Proofs.YteecdmceleanjaaGreatDoor
