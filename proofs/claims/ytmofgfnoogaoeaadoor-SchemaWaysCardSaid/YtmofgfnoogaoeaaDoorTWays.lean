/-
  SchemaWays: a way through two parts.
-/
import Derived.Test.YtmofgfnoogaoeaaDoorTWaysP
namespace Go.Proofs.YtmofgfnoogaoeaaDoor
open Go.RowKit

/-- What is read at the end of a way, as a value; all its blocks within an interval. -/
def AtV (I : Nat × Nat) (w : World) (r : Option T) (v : Value) : Prop :=
  ∃ A3 c3 A4 c4 A5 c5, v = .agg #[.int .i64 (r.getD T.zero).kind, .int .i64 (r.getD T.zero).lo, .int .i64 (r.getD T.zero).hi, .slice A3 (r.getD T.zero).names.length c3, .slice A4 (r.getD T.zero).fields.length c4, .slice A5 (r.getD T.zero).of.length c5] ∧ I.2 ≤ w.heap.size ∧
    TypeS w (fun k => I.1 ≤ k ∧ k < I.2) (r.getD T.zero) (.int .i64 (r.getD T.zero).kind) (.int .i64 (r.getD T.zero).lo) (.int .i64 (r.getD T.zero).hi) (.slice A3 (r.getD T.zero).names.length c3) (.slice A4 (r.getD T.zero).fields.length c4) (.slice A5 (r.getD T.zero).of.length c5)
theorem AtV.below {I : Nat × Nat} {w w' : World} {r : Option T} {v : Value} (h : AtV I w r v) (hb : Below w.heap.size w w') : AtV I w' r v := by
  obtain ⟨A3, c3, A4, c4, A5, c5, e, hI, h⟩ := h
  exact ⟨A3, c3, A4, c4, A5, c5, e, Nat.le_trans hI hb.size, h.keep (fun _ hk => hk) fun p hp => hb.cell (by omega)⟩
theorem AtV.of_copied {w0 : Nat} {w : World} {r : Option T} {x3 x4 x5 : Value} (h : Copied w0 w (r.getD T.zero) x3 x4 x5) : AtV (w0, w.heap.size) w r (.agg #[.int .i64 (r.getD T.zero).kind, .int .i64 (r.getD T.zero).lo, .int .i64 (r.getD T.zero).hi, x3, x4, x5]) := by
  obtain ⟨A3, c3, A4, c4, A5, c5, rfl, rfl, rfl⟩ := h.forms
  exact ⟨A3, c3, A4, c4, A5, c5, rfl, Nat.le_refl _, h.typeS⟩
theorem op_append {P : Program} {w w' : World} {o : Oper} {a : Act} {K : Act → World → Prop} {Q : Exit → Act → World → Prop} {v u v' : Value} (s x : Operand) (t : TypeId) (ho : o.op = .call { callee := .builtin .append, args := #[s, x], argTypes := #[t, t] }) (hs : a.eval s = v) (hx : a.eval x = u)
    (hr : (Builtin.append_ #[t, t] o.type #[v, u]).run P w = .ok v' w') (h : K (a.put o.dst v') w') : o.wp P a w K Q := by
  unfold Oper.wp execOp
  simp only [ho, resolve, invoke, builtin, Sem.run_bind, Sem.run_pure, Result.andThen_ok, List.map_toArray, List.map_cons, List.map_nil, hs, hx, hr]
  exact h
theorem ways_fit {t : T} {a : List ByteArray} {ra : Option T} (hf : t.Fit) (hd : t.depth ≤ 900) (h : goAt t a = ra) : (ra.getD T.zero).Fit ∧ (ra.getD T.zero).depth ≤ 900 := by
  cases ra with
  | none => exact ⟨fit_of_allP _ (by kernel_rfl), by decide⟩
  | some y => obtain ⟨h1, _, h3⟩ := goAt_small h; exact ⟨h3 hf, Nat.le_trans h1 hd⟩
/-- What the great statement of the law yields. -/
def WaysPhi (B : Nat) (tv va vb : Value) (La L : List Value) (r : Option T) : Nat → Value → (Nat → Nat × Nat) → World → Prop
  | 0, v, _, _ => v = tv
  | 1, v, _, w => w.ownsRow B 9 1 v 0 []
  | 2, v, _, _ => v = va
  | 3, v, _, w => w.ownsRow B 9 1 v La.length La
  | 4, v, _, _ => v = vb
  | 5, v, _, w => w.ownsRow B 9 1 v L.length L
  | 6, v, It, w => ∃ u, v = .tuple #[u, .bool r.isSome] ∧ AtV (It 6) w r u
  | 7, v, It, w => ∃ u, v = .tuple #[u, .bool r.isSome] ∧ AtV (It 6) w r u
  | 8, v, It, w => AtV (It 6) w r v
  | 9, v, _, _ => v = .bool r.isSome
  | 10, v, It, w => v = .pointer (some ⟨(It 10).1, 0, none⟩) ∧ B ≤ (It 10).1 ∧ (It 10).1 < (It 10).2 ∧ w.heap[(It 10).1]? = some (.cells #[.int .i64 0, .int .i64 0, .int .i64 0, .slice none 0 0, .slice none 0 0, .slice none 0 0] 26 (0, 0))
  | _, _, _, _ => True
def WaysS (B : Nat) (L : List Value) (j : Nat) (w w' : World) : Prop := KeepR B L w w' ∧ (j ≠ 3 → j ≠ 5 → Below w.heap.size w w')
theorem row_below {w w' : World} {B n : Nat} {v : Value} {M : List Value} (h : Below w.heap.size w w') (hv : w.ownsRow B 9 1 v n M) : w'.ownsRow B 9 1 v n M := by
  refine ownsRow_same hv fun k hk => ?_
  rcases hv.2 with ⟨rfl, _⟩ | ⟨g, cap, cur, rfl, _, hg, _⟩
  · cases hk
  · injection hk with hk; subst hk; exact h.block _ (size_block hg)
theorem strs_mono {w : World} {B B' : Nat} {v : Value} {l : List ByteArray} (hB : B ≤ B') (h : Strs w B v l) : Strs w B' v l := by
  obtain ⟨A, c, e, hc, h⟩ := h
  exact ⟨A, c, e, hc, fun h0 => by obtain ⟨b, off, ea, hb, hk⟩ := h h0; exact ⟨b, off, ea, by omega, hk⟩⟩
theorem rowV_of {w : World} {B : Nat} {v : Value} {l : List ByteArray} (h : Strs w B v l) : RowV w 1 v l.length (l.map Value.string) := rowV_strs (S := fun k => k < B) h
theorem waysphi_below {B : Nat} {tv va vb : Value} {La L : List Value} {r : Option T} : ∀ i v It w w', WaysPhi B tv va vb La L r i v It w → Below w.heap.size w w' → WaysPhi B tv va vb La L r i v It w' := by
  intro i v It w w' h hb
  match i, h with
  | 0, h => exact h
  | 1, h => exact row_below hb h
  | 2, h => exact h
  | 3, h => exact row_below hb h
  | 4, h => exact h
  | 5, h => exact row_below hb h
  | 6, ⟨u, e, h⟩ => exact ⟨u, e, h.below hb⟩
  | 7, ⟨u, e, h⟩ => exact ⟨u, e, h.below hb⟩
  | 8, h => exact AtV.below h hb
  | 9, h => exact h
  | 10, ⟨e, hB, hl, hk⟩ => exact ⟨e, hB, hl, (hb.block _ (size_block hk)).trans hk⟩
  | _ + 11, _ => exact trivial
theorem waysphi_keep {B : Nat} {tv va vb : Value} {La L : List Value} {r : Option T} (hLa : La <+: L) : ∀ i v It w w', (i < 5 ∨ 10 ≤ i) → WaysPhi B tv va vb La L r i v It w → KeepR B L w w' → WaysPhi B tv va vb La L r i v It w' := by
  intro i v It w w' hi h hb
  match i, h with
  | 0, h => exact h
  | 1, h => exact hb.2.1 v [] (List.nil_prefix) h
  | 2, h => exact h
  | 3, h => exact hb.2.1 v La hLa h
  | 4, h => exact h
  | 5, h => omega
  | 6, h => omega
  | 7, h => omega
  | 8, h => omega
  | 9, h => omega
  | 10, ⟨e, hB, hl, hk⟩ => exact ⟨e, hB, hl, hb.2.2 _ _ hk⟩
  | _ + 11, _ => exact trivial
theorem waysphi_loc {B : Nat} {tv va vb : Value} {La L : List Value} {r : Option T} : ∀ i k v It g w, i ≠ k → (i = 7 → k ≠ 6) → (i = 8 → k ≠ 6) → WaysPhi B tv va vb La L r i v It w → WaysPhi B tv va vb La L r i v (setG It k g) w := by
  intro i k v It g w hik h7 h8 h
  match i, h with
  | 0, h => exact h
  | 1, h => exact h
  | 2, h => exact h
  | 3, h => exact h
  | 4, h => exact h
  | 5, h => exact h
  | 6, h => simpa only [WaysPhi, setG_ne hik] using h
  | 7, h => simpa only [WaysPhi, setG_ne (Ne.symm (h7 rfl))] using h
  | 8, h => simpa only [WaysPhi, setG_ne (Ne.symm (h8 rfl))] using h
  | 9, h => exact h
  | 10, h => simpa only [WaysPhi, setG_ne hik] using h
  | _ + 11, _ => exact trivial
set_option maxHeartbeats 4000000 in
set_option maxRecDepth 100000 in
theorem ways_any {t : T} {A1 A2 A3 A4 A5 : Option Addr} {a b : List ByteArray} {c1 c2 c3 c4 c5 : Nat} {w : World} (ht : TypeIn w w.heap.size t (.int .i64 t.kind) (.int .i64 t.lo) (.int .i64 t.hi) (.slice A3 t.names.length c3) (.slice A4 t.fields.length c4) (.slice A5 t.of.length c5)) (ha : Strs w w.heap.size (.slice A1 a.length c1) a) (hb : Strs w w.heap.size (.slice A2 b.length c2) b) :
    Calls Tryd.prog 8 #[.agg #[.int .i64 t.kind, .int .i64 t.lo, .int .i64 t.hi, .slice A3 t.names.length c3, .slice A4 t.fields.length c4, .slice A5 t.of.length c5], .slice A1 a.length c1, .slice A2 b.length c2] w fun e w' => e = .returned (.bool true) ∧ Below w.heap.size w w' := by
  have HT := Lib.hid ht; have HA := Lib.hid ha; have HB := Lib.hid hb
  clear ht ha hb
  generalize hv3 : Value.slice A3 t.names.length c3 = v3 at HT ⊢
  generalize hv4 : Value.slice A4 t.fields.length c4 = v4 at HT ⊢
  generalize hv5 : Value.slice A5 t.of.length c5 = v5 at HT ⊢
  go_enter Tryd.func8, Tryd.ntmps8
  go_wp2_with fail
  refine (tsmall_any _).mono ?_
  rintro e w1 ⟨rfl, hb1⟩
  have hz1 := hb1.size
  simp only [World.size_alloc] at hz1
  have HX1 : Hid (Box6 w1 w.heap.size (.int .i64 t.kind) (.int .i64 t.lo) (.int .i64 t.hi) v3 v4 v5) := (Box6.new w _ _ _ _ _ _).same (hb1.block _ (by simp))
  have HC1 : Hid (Below w.heap.size w w1) := ((Below.refl _ _).alloc (Nat.le_refl _) _).trans (hb1.mono (by simp))
  clear hb1
  have htv1 : TypeV w1 w1.heap.size t (.agg #[.int .i64 t.kind, .int .i64 t.lo, .int .i64 t.hi, v3, v4, v5]) := ⟨_, _, _, _, _, _, rfl, HT.out.keep HC1.out.size fun p hp => HC1.out.cell hp⟩
  subst hv3 hv4 hv5
  obtain ⟨x0, x1, x2, x3, x4, x5⟩ := HX1.out.cells
  have hxl : w.heap.size < w1.heap.size := by omega
  go_wp2_with fail
  refine (few_v (Nat.le_refl _) htv1).mono ?_
  rintro e w2 ⟨rfl, hb2⟩
  have hz2 := hb2.size
  have HX2 := Lib.hid (HX1.out.same (hb2.block _ hxl))
  have HC2 : Hid (Below w.heap.size w w2) := HC1.out.trans (hb2.mono HC1.out.size)
  clear hb2 htv1 x0 x1 x2 x3 x4 x5 HX1 HC1
  cases hfew : fewB t
  · go_wp2_with fail
    go_ret
    exact ⟨rfl, HC2.out⟩
  by_cases hla : (10 : Int) < (a.length : Int)
  · have h1 : decide ((10 : Int) < (a.length : Int)) = true := by simpa using hla
    go_wp2_with fail
    go_ret
    exact ⟨rfl, HC2.out⟩
  have h1 : decide ((10 : Int) < (a.length : Int)) = false := by simpa using hla
  by_cases hlb : (10 : Int) < (b.length : Int)
  · have h2 : decide ((10 : Int) < (b.length : Int)) = true := by simpa using hlb
    go_wp2_with fail
    go_ret
    exact ⟨rfl, HC2.out⟩
  have h2 : decide ((10 : Int) < (b.length : Int)) = false := by simpa using hlb
  go_upto_region 5 with fail
  have hB2 : w2.heap.size ≤ w2.heap.size := Nat.le_refl _
  have hb2 := HC2.out
  have R1 : Hid (RowV w2 1 (.slice A1 a.length c1) a.length (a.map Value.string)) := rowV_of (HA.out.keep fun p hp => hb2.cell hp)
  have R2 : Hid (RowV w2 1 (.slice A2 b.length c2) b.length (b.map Value.string)) := rowV_of (HB.out.keep fun p hp => hb2.cell hp)
  have HT2 : Hid (TypeV w2 w2.heap.size t (.agg #[.int .i64 t.kind, .int .i64 t.lo, .int .i64 t.hi, .slice A3 t.names.length c3, .slice A4 t.fields.length c4, .slice A5 t.of.length c5])) := ⟨_, _, _, _, _, _, rfl, HT.out.keep hb2.size fun p hp => hb2.cell hp⟩
  clear hb2 hB2
  obtain ⟨i0, hi0, hz0, hz01, hz02⟩ := info_parts infoS
  have I0 := Lib.hid hi0; have I1 := Lib.hid hz0; have I2 := Lib.hid hz01; have I3 := Lib.hid hz02
  clear hi0 hz0 hz01 hz02
  have hok : okFew t 20 := by simpa [fewB] using hfew
  have hfit : t.Fit := fit_of_allP t hok.2.2
  have hdep9 : t.depth ≤ 900 := by have := hok.1; omega
  have WQR : ∀ (A : Option Addr) (l : List ByteArray) {c : Nat} {wq : World}, Strs w w.heap.size (.slice A l.length c) l → KeepR w2.heap.size ((a ++ b).map Value.string) w2.drew wq → ∀ {p : Addr}, (Value.slice A l.length c).ownBlock = some p.block → 0 < l.length → wq.cell? p = w2.cell? p := by
    intro A l c wq hs hq p hp h0
    obtain ⟨A', c', e, _, h⟩ := hs
    injection e with e1 _ _
    subst e1
    obtain ⟨b', off, rfl, hlt, _⟩ := h h0
    injection hp with hp
    exact (((KeepR.of_below (Nat.le_refl _) (Below.refl _ _).drew).trans _ _ _ hq).1).cell (by rw [← hp]; have := HC2.out.size; show b' < _; omega)
  have WQ : Hid (∀ wq : World, KeepR w2.heap.size ((a ++ b).map Value.string) w2.drew wq → Below w2.heap.size w2 wq) := fun wq h => ((KeepR.of_below (Nat.le_refl _) (Below.refl _ _).drew).trans _ _ _ h).1
  refine wp_region_grow4_calm (KeepR w2.heap.size ((a ++ b).map Value.string)) (WaysS w2.heap.size ((a ++ b).map Value.string)) (fun _ _ _ h => h.1) (fun _ _ => ⟨KeepR.refl _ _ _, fun _ _ => Below.refl _ _⟩) (KeepR.refl _ _) KeepR.trans 11 71 [false, false, false, false, false, false, false, false, false, true, false]
    (WaysPhi w2.heap.size (.agg #[.int .i64 t.kind, .int .i64 t.lo, .int .i64 t.hi, .slice A3 t.names.length c3, .slice A4 t.fields.length c4, .slice A5 t.of.length c5]) (.slice A1 a.length c1) (.slice A2 b.length c2) (a.map Value.string) ((a ++ b).map Value.string) (goAt t (a ++ b))) (by kernel_rfl) (by kernel_rfl) (by simp) (fun _ _ h => h.1.size) ?_ ?_ ?_ ?_
  · intro i k v It g w hik hr h
    refine waysphi_loc i k v It g w hik (fun h1 h2 => ?_) (fun h1 h2 => ?_) h
    · subst h1; subst h2
      exact Bool.noConfusion (hr.symm.trans (by kernel_rfl : _ = true))
    · subst h1; subst h2
      exact Bool.noConfusion (hr.symm.trans (by kernel_rfl : _ = true))
  · intro i j v It w w' hij hr h hs
    by_cases hj : j = 5
    · subst hj
      refine waysphi_keep (by simp) i v It w w' ?_ h hs.1
      rcases Nat.lt_or_ge i 5 with h1 | h1
      · exact .inl h1
      · rcases Nat.lt_or_ge i 10 with h2 | h2
        · exfalso
          have : i = 6 ∨ i = 7 ∨ i = 8 ∨ i = 9 := by omega
          rcases this with rfl | rfl | rfl | rfl
          · exact Bool.noConfusion (hr.symm.trans (by kernel_rfl : _ = true))
          · exact Bool.noConfusion (hr.symm.trans (by kernel_rfl : _ = true))
          · exact Bool.noConfusion (hr.symm.trans (by kernel_rfl : _ = true))
          · exact Bool.noConfusion (hr.symm.trans (by kernel_rfl : _ = true))
        · exact .inr h2
    by_cases hj3 : j = 3
    · subst hj3
      refine waysphi_keep (by simp) i v It w w' ?_ h hs.1
      rcases Nat.lt_or_ge i 5 with h1 | h1
      · exact .inl h1
      · rcases Nat.lt_or_ge i 10 with h2 | h2
        · exfalso
          have : i = 5 ∨ i = 6 ∨ i = 7 ∨ i = 8 ∨ i = 9 := by omega
          rcases this with rfl | rfl | rfl | rfl | rfl
          · exact Bool.noConfusion (hr.symm.trans (by kernel_rfl : _ = true))
          · exact Bool.noConfusion (hr.symm.trans (by kernel_rfl : _ = true))
          · exact Bool.noConfusion (hr.symm.trans (by kernel_rfl : _ = true))
          · exact Bool.noConfusion (hr.symm.trans (by kernel_rfl : _ = true))
          · exact Bool.noConfusion (hr.symm.trans (by kernel_rfl : _ = true))
        · exact .inr h2
    · exact waysphi_below i v It w w' h (hs.2 hj3 hj)
  · simp only [List.take_succ_cons, List.take_zero]
    refine ⟨?_, ?_, ?_, ?_, ?_, ?_, ?_, ?_, ?_, ?_, ?_, trivial⟩
    · intro vs It wq hq hdep K' hK
      simp only [depFacts, putAll, Act.put, List.setIfInBounds_toArray, List.set_cons_zero, List.set_cons_succ, Nat.zero_add, Nat.reduceAdd] at hdep hK ⊢
      obtain ⟨x0, x1, x2, x3, x4, x5⟩ := (HX2.out.same ((WQ.out wq hq).block _ (by omega))).cells
      go_simp
      exact hK _ _ ⟨KeepR.refl _ _ _, fun _ _ => Below.refl _ _⟩ rfl
    · intro vs It wq hq hdep K' hK
      simp only [depFacts, putAll, Act.put, List.setIfInBounds_toArray, List.set_cons_zero, List.set_cons_succ, Nat.zero_add, Nat.reduceAdd] at hdep hK ⊢
      have hb := (Below.refl wq.heap.size wq).alloc (Nat.le_refl _) (.cells #[] 9)
      go_simp
      exact hK _ _ ⟨KeepR.of_below (WQ.out wq hq).size hb, fun _ _ => hb⟩ ⟨rfl, .inr ⟨_, 0, #[], rfl, (WQ.out wq hq).size, heap_alloc_new wq _, Nat.le_refl _, by unfold maxLen; omega, rfl, rfl⟩⟩
    · intro vs It wq hq hdep K' hK
      simp only [depFacts, putAll, Act.put, List.setIfInBounds_toArray, List.set_cons_zero, List.set_cons_succ, Nat.zero_add, Nat.reduceAdd] at hdep hK ⊢
      go_simp
      exact hK _ _ ⟨KeepR.refl _ _ _, fun _ _ => Below.refl _ _⟩ rfl
    · intro vs It wq hq hdep K' hK
      simp only [depFacts, putAll, Act.put, List.setIfInBounds_toArray, List.set_cons_zero, List.set_cons_succ, Nat.zero_add, Nat.reduceAdd] at hdep hK ⊢
      have f1 : wq.ownsRow w2.heap.size 9 1 (vs 1) 0 [] := hdep.1 rfl
      have f2 : vs 2 = .slice A1 a.length c1 := hdep.2.1 rfl
      obtain ⟨v', w', hr, ho, hk⟩ := append_keep (P := Tryd.prog) (w := wq) (B := w2.heap.size) (L := (a ++ b).map Value.string) (M := []) (N := a.map Value.string) (v := vs 1) (u := vs 2) (t := 22) (ty := 22) i0 _ Tryd.underlying22 I0.out I1.out I2.out I3.out rfl (WQ.out wq hq).size f1 (by rw [f2]; exact R1.out.keep fun h0 p hp => WQR A1 a HA.out hq hp h0) (by simp) (by simp; omega)
      exact op_append (.tmp 33) (.tmp 34) 22 rfl rfl rfl hr (hK _ _ ⟨hk, fun h => absurd rfl h⟩ (by rw [List.nil_append] at ho; exact ho))
    · intro vs It wq hq hdep K' hK
      simp only [depFacts, putAll, Act.put, List.setIfInBounds_toArray, List.set_cons_zero, List.set_cons_succ, Nat.zero_add, Nat.reduceAdd] at hdep hK ⊢
      go_simp
      exact hK _ _ ⟨KeepR.refl _ _ _, fun _ _ => Below.refl _ _⟩ rfl
    · intro vs It wq hq hdep K' hK
      simp only [depFacts, putAll, Act.put, List.setIfInBounds_toArray, List.set_cons_zero, List.set_cons_succ, Nat.zero_add, Nat.reduceAdd] at hdep hK ⊢
      have f1 : wq.ownsRow w2.heap.size 9 1 (vs 3) (a.map Value.string).length (a.map Value.string) := hdep.1 rfl
      have f2 : vs 4 = .slice A2 b.length c2 := hdep.2.1 rfl
      obtain ⟨v', w', hr, ho, hk⟩ := append_keep (P := Tryd.prog) (w := wq) (B := w2.heap.size) (L := (a ++ b).map Value.string) (M := a.map Value.string) (N := b.map Value.string) (v := vs 3) (u := vs 4) (t := 22) (ty := 22) i0 _ Tryd.underlying22 I0.out I1.out I2.out I3.out rfl (WQ.out wq hq).size f1 (by rw [f2]; exact R2.out.keep fun h0 p hp => WQR A2 b HB.out hq hp h0) (by simp) (by simp; omega)
      exact op_append (.tmp 35) (.tmp 36) 22 rfl rfl rfl hr (hK _ _ ⟨hk, fun _ h => absurd rfl h⟩ (by rw [← List.map_append] at ho; exact ho))
    · intro vs It wq hq hdep K' hK
      simp only [depFacts, putAll, Act.put, List.setIfInBounds_toArray, List.set_cons_zero, List.set_cons_succ, Nat.zero_add, Nat.reduceAdd] at hdep hK ⊢
      have f1 : vs 0 = .agg #[.int .i64 t.kind, .int .i64 t.lo, .int .i64 t.hi, .slice A3 t.names.length c3, .slice A4 t.fields.length c4, .slice A5 t.of.length c5] := hdep.1 rfl
      have f2 : wq.ownsRow w2.heap.size 9 1 (vs 5) ((a ++ b).map Value.string).length ((a ++ b).map Value.string) := hdep.2.1 rfl
      rw [List.length_map] at f2
      have f3 : Strs wq wq.heap.size (vs 5) (a ++ b) := own_strsS (S := fun k => k < wq.heap.size) f2 fun k _ hk => hk
      have f4 := HT2.out.keep (WQ.out wq hq).size fun p hp => (WQ.out wq hq).cell hp
      rw [f1] at hK ⊢
      go_simp
      go_at_call 11
      refine (tat_any (t := t) (ps := a ++ b) hfit hdep9 (by simp; omega) (Nat.le_refl _) f4 f3).mono ?_
      rintro e w' ⟨x3, x4, x5, rfl, hcp, hb⟩
      exact hK _ _ ⟨KeepR.of_below (WQ.out wq hq).size hb, fun _ _ => hb⟩ ⟨_, rfl, by rw [setG_same]; exact AtV.of_copied hcp⟩
    · intro vs It wq hq hdep K' hK
      simp only [depFacts, putAll, Act.put, List.setIfInBounds_toArray, List.set_cons_zero, List.set_cons_succ, Nat.zero_add, Nat.reduceAdd] at hdep hK ⊢
      go_simp
      exact hK _ _ ⟨KeepR.refl _ _ _, fun _ _ => Below.refl _ _⟩ (waysphi_loc 6 7 _ _ _ _ (by decide) (by decide) (by decide) (hdep.1 rfl))
    · intro vs It wq hq hdep K' hK
      simp only [depFacts, putAll, Act.put, List.setIfInBounds_toArray, List.set_cons_zero, List.set_cons_succ, Nat.zero_add, Nat.reduceAdd] at hdep hK ⊢
      obtain ⟨u, e, h⟩ : ∃ u, vs 7 = .tuple #[u, .bool (goAt t (a ++ b)).isSome] ∧ AtV (It 6) wq (goAt t (a ++ b)) u := hdep.1 rfl
      rw [e] at hK ⊢
      go_simp
      exact hK _ _ ⟨KeepR.refl _ _ _, fun _ _ => Below.refl _ _⟩ (by simpa only [WaysPhi, setG_ne (show (6 : Nat) ≠ 8 by decide)] using h)
    · intro vs It wq hq hdep
      simp only [depFacts, putAll, Act.put, List.setIfInBounds_toArray, List.set_cons_zero, List.set_cons_succ, Nat.zero_add, Nat.reduceAdd] at hdep ⊢
      obtain ⟨u, e, h⟩ : ∃ u, vs 7 = .tuple #[u, .bool (goAt t (a ++ b)).isSome] ∧ AtV (It 6) wq (goAt t (a ++ b)) u := hdep.1 rfl
      rw [e]
      exact ⟨_, fun w' => rfl, rfl⟩
    · intro vs It wq hq hdep K' hK
      simp only [depFacts, putAll, Act.put, List.setIfInBounds_toArray, List.set_cons_zero, List.set_cons_succ, Nat.zero_add, Nat.reduceAdd] at hdep hK ⊢
      have hb := (Below.refl wq.heap.size wq).alloc (Nat.le_refl _) (.cells #[.int .i64 0, .int .i64 0, .int .i64 0, .slice none 0 0, .slice none 0 0, .slice none 0 0] 26)
      go_simp
      exact hK _ _ ⟨KeepR.of_below (WQ.out wq hq).size hb, fun _ _ => hb⟩ ⟨by rw [setG_same], by rw [setG_same]; exact (WQ.out wq hq).size, by rw [setG_same]; simp, by rw [setG_same]; exact heap_alloc_new wq _⟩
  · intro vs It wq hq hdj hall
    simp only [putAll, Act.put, List.setIfInBounds_toArray, List.set_cons_zero, List.set_cons_succ, List.take_succ_cons, List.take_zero, List.drop_succ_cons, List.drop_zero, allFacts, Nat.zero_add, Nat.reduceAdd] at hall ⊢
    obtain ⟨_, _, _, _, _, _, _, _, e8, e9, e10, _⟩ := hall
    obtain ⟨X3, z3, X4, z4, X5, z5, e8, hI, hxv⟩ : AtV (It 6) wq (goAt t (a ++ b)) (vs 8) := e8
    have e9 : vs 9 = .bool (goAt t (a ++ b)).isSome := e9
    obtain ⟨e10, hBk, hkI, hk⟩ : vs 10 = .pointer (some ⟨(It 10).1, 0, none⟩) ∧ w2.heap.size ≤ (It 10).1 ∧ (It 10).1 < (It 10).2 ∧ wq.heap[(It 10).1]? = some (.cells #[.int .i64 0, .int .i64 0, .int .i64 0, .slice none 0 0, .slice none 0 0, .slice none 0 0] 26 (0, 0)) := e10
    have hfar : ∀ j, (It 6).1 ≤ j → j < (It 6).2 → j ≠ (It 10).1 := fun j h1 h2 => by
      rcases hdj 6 10 (by decide) (by decide) (by decide) with h | h <;> omega
    generalize (It 10).1 = k at e10 hBk hkI hk hfar
    have hbq := WQ.out wq hq
    have hzq := hbq.size
    have hkl := size_block hk
    have HXV := Lib.hid hxv
    have hbx : Box6 wq k (.int .i64 0) (.int .i64 0) (.int .i64 0) (.slice none 0 0) (.slice none 0 0) (.slice none 0 0) := hk
    have HBX := Lib.hid hbx
    have HX := Lib.hid (HX2.out.same (hbq.block _ (by omega)))
    have HC : Hid (Below w.heap.size w wq) := HC2.out.trans (hbq.mono HC2.out.size)
    have HBQ := Lib.hid hbq
    rw [e8, e9, e10]
    clear e8 e9 e10 hk hbq hxv hq WQ
    obtain ⟨k0, k1, k2, k3, k4, k5⟩ := hbx.cells
    have k6 := hbx.frozen
    obtain ⟨x0, x1, x2, x3, x4, x5⟩ := HX.out.cells
    clear hbx
    have hne : ¬ w.heap.size = k := by omega
    have hne' : ¬ k = w.heap.size := by omega
    have hxl' : w.heap.size < wq.heap.size := by omega
    go_wp2_with fail
    refine NoPanic.normal ?_
    generalize hrx : goAt t (a ++ b) = rx at HXV ⊢
    obtain ⟨w3, hw3⟩ : ∃ w3, w3 = fill6 wq k (.int .i64 (rx.getD T.zero).kind) (.int .i64 (rx.getD T.zero).lo) (.int .i64 (rx.getD T.zero).hi) (.slice X3 (rx.getD T.zero).names.length z3) (.slice X4 (rx.getD T.zero).fields.length z4) (.slice X5 (rx.getD T.zero).of.length z5) := ⟨_, rfl⟩
    have hbx3 := fill6_box HBX.out (.int .i64 (rx.getD T.zero).kind) (.int .i64 (rx.getD T.zero).lo) (.int .i64 (rx.getD T.zero).hi) (.slice X3 (rx.getD T.zero).names.length z3) (.slice X4 (rx.getD T.zero).fields.length z4) (.slice X5 (rx.getD T.zero).of.length z5)
    have hfar3 := fill6_far wq k (.int .i64 (rx.getD T.zero).kind) (.int .i64 (rx.getD T.zero).lo) (.int .i64 (rx.getD T.zero).hi) (.slice X3 (rx.getD T.zero).names.length z3) (.slice X4 (rx.getD T.zero).fields.length z4) (.slice X5 (rx.getD T.zero).of.length z5)
    have hb3 := fill6_below HC.out (show w.heap.size ≤ k by omega) (.int .i64 (rx.getD T.zero).kind) (.int .i64 (rx.getD T.zero).lo) (.int .i64 (rx.getD T.zero).hi) (.slice X3 (rx.getD T.zero).names.length z3) (.slice X4 (rx.getD T.zero).fields.length z4) (.slice X5 (rx.getD T.zero).of.length z5)
    have hz3 := fill6_size wq k (.int .i64 (rx.getD T.zero).kind) (.int .i64 (rx.getD T.zero).lo) (.int .i64 (rx.getD T.zero).hi) (.slice X3 (rx.getD T.zero).names.length z3) (.slice X4 (rx.getD T.zero).fields.length z4) (.slice X5 (rx.getD T.zero).of.length z5)
    rw [← hw3] at hbx3 hfar3 hb3 hz3
    unfold fill6 at hw3
    rw [← hw3]
    clear hw3 k0 k1 k2 k3 k4 k5 k6 x0 x1 x2 x3 x4 x5 hne hne'
    have HB3 := Lib.hid hbx3
    have HX3 := Lib.hid (HX.out.same (hfar3 _ (by omega)))
    have HC3 := Lib.hid hb3
    have HV3 : Hid (TypeV w3 w3.heap.size (rx.getD T.zero) (.agg #[.int .i64 (rx.getD T.zero).kind, .int .i64 (rx.getD T.zero).lo, .int .i64 (rx.getD T.zero).hi, .slice X3 (rx.getD T.zero).names.length z3, .slice X4 (rx.getD T.zero).fields.length z4, .slice X5 (rx.getD T.zero).of.length z5])) :=
      ⟨_, _, _, _, _, _, rfl, (HXV.out.keep (w' := w3) (fun _ h => h) fun p hp => World.cell?_of_block (hfar3 _ (hfar _ hp.1 hp.2))).toIn fun j hj => by omega⟩
    have HT3 : Hid (TypeV w3 w3.heap.size t (.agg #[.int .i64 t.kind, .int .i64 t.lo, .int .i64 t.hi, .slice A3 t.names.length c3, .slice A4 t.fields.length c4, .slice A5 t.of.length c5])) := ⟨_, _, _, _, _, _, rfl, HT.out.keep hb3.size fun p hp => hb3.cell hp⟩
    have sa3 : Strs w3 w.heap.size (.slice A1 a.length c1) a := HA.out.keep fun p hp => hb3.cell hp
    clear hbx3 hfar3 hb3 HXV HBX HX HC HBQ hfar
    obtain ⟨x0, x1, x2, x3, x4, x5⟩ := HX3.out.cells
    have hxl3 : w.heap.size < w3.heap.size := by omega
    go_wp2_with fail
    refine (tat_any (t := t) (ps := a) (B := w3.heap.size) hfit hdep9 (by omega) (Nat.le_refl _) HT3.out (strs_mono (by omega) sa3)).mono ?_
    rintro e w4 ⟨y3, y4, y5, rfl, hcp, hb4⟩
    generalize hra : goAt t a = ra at hcp ⊢
    obtain ⟨B3, d3, B4, d4, B5, d5, rfl, rfl, rfl⟩ := hcp.forms
    have hz4 := hb4.size
    have hyv : TypeIn w4 w4.heap.size (ra.getD T.zero) (.int .i64 (ra.getD T.zero).kind) (.int .i64 (ra.getD T.zero).lo) (.int .i64 (ra.getD T.zero).hi) (.slice B3 (ra.getD T.zero).names.length d3) (.slice B4 (ra.getD T.zero).fields.length d4) (.slice B5 (ra.getD T.zero).of.length d5) := hcp.typeIn
    have HYV := Lib.hid hyv
    have HV4 := Lib.hid (HV3.out.keep hb4.size fun p hp => hb4.cell hp)
    have HB4 := Lib.hid (HB3.out.same (hb4.block _ (by omega)))
    have HC4 : Hid (Below w.heap.size w w4) := HC3.out.trans (hb4.mono (by omega))
    clear hcp hb4 hyv sa3 HT3 HV3 HB3 HC3 x0 x1 x2 x3 x4 x5 HX3 hxl3
    go_wp2_with fail
    obtain ⟨w5, hw5⟩ : ∃ w5, w5 = w4.alloc (.cells #[.int .i64 (ra.getD T.zero).kind, .int .i64 (ra.getD T.zero).lo, .int .i64 (ra.getD T.zero).hi, .slice B3 (ra.getD T.zero).names.length d3, .slice B4 (ra.getD T.zero).fields.length d4, .slice B5 (ra.getD T.zero).of.length d5] 26) := ⟨_, rfl⟩
    have hz5 : w5.heap.size = w4.heap.size + 1 := by rw [hw5]; simp
    have hb5 : Below w4.heap.size w4 w5 := by rw [hw5]; exact (Below.refl _ _).alloc (Nat.le_refl _) _
    rw [← hw5]
    have hyv5 : TypeV w5 w5.heap.size (ra.getD T.zero) (.agg #[.int .i64 (ra.getD T.zero).kind, .int .i64 (ra.getD T.zero).lo, .int .i64 (ra.getD T.zero).hi, .slice B3 (ra.getD T.zero).names.length d3, .slice B4 (ra.getD T.zero).fields.length d4, .slice B5 (ra.getD T.zero).of.length d5]) := ⟨_, _, _, _, _, _, rfl, HYV.out.keep hb5.size fun p hp => hb5.cell hp⟩
    have hbw5 : Below w.heap.size w w5 := HC4.out.trans (hb5.mono (by omega))
    have sb5 : Strs w5 w5.heap.size (.slice A2 b.length c2) b := strs_mono (by omega) (HB.out.keep fun p hp => hbw5.cell hp)
    have hsm : (ra.getD T.zero).Fit ∧ (ra.getD T.zero).depth ≤ 900 := ways_fit hfit hdep9 hra
    refine (tat_any (t := ra.getD T.zero) (ps := b) hsm.1 hsm.2 (by omega) (Nat.le_refl _) hyv5 sb5).mono ?_
    rintro e w6 ⟨q3, q4, q5, rfl, hcp, hb6⟩
    generalize hrb : goAt (ra.getD T.zero) b = rb at hcp ⊢
    obtain ⟨D3, g3, D4, g4, D5, g5, rfl, rfl, rfl⟩ := hcp.forms
    have hz6 := hb6.size
    have hzv : TypeV w6 w6.heap.size (rb.getD T.zero) (.agg #[.int .i64 (rb.getD T.zero).kind, .int .i64 (rb.getD T.zero).lo, .int .i64 (rb.getD T.zero).hi, .slice D3 (rb.getD T.zero).names.length g3, .slice D4 (rb.getD T.zero).fields.length g4, .slice D5 (rb.getD T.zero).of.length g5]) := ⟨_, _, _, _, _, _, rfl, hcp.typeIn⟩
    have HZV := Lib.hid hzv
    have hb46 : Below w4.heap.size w4 w6 := hb5.trans (hb6.mono (by omega))
    have HV6 := Lib.hid (HV4.out.keep hb46.size fun p hp => hb46.cell hp)
    have HB6 := Lib.hid (HB4.out.same (hb46.block _ (by omega)))
    have HC6 : Hid (Below w.heap.size w w6) := HC4.out.trans (hb46.mono (by omega))
    clear hw5 hcp hb5 hb6 hyv5 sb5 hzv hb46 HV4 HB4 HC4 HYV hbw5
    obtain ⟨k0, k1, k2, k3, k4, k5⟩ := HB6.out.cells
    have hkl6 : k < w6.heap.size := by omega
    have hxx : rx = ra.bind fun t' => goAt t' b := by rw [← hrx, goAt_append, hra]
    clear hra hrx
    cases ra with
    | none =>
      obtain rfl : rx = none := hxx
      have e1 : (none : Option T).isSome = false := rfl
      cases h3 : rb.isSome
      · go_wp2_with fail
        go_ret
        exact ⟨rfl, HC6.out.alloc HC6.out.size _⟩
      · go_wp2_with fail
        go_ret
        exact ⟨rfl, HC6.out.alloc HC6.out.size _⟩
    | some ty =>
      have hfx : (rb.getD T.zero).Fit := (ways_fit hsm.1 hsm.2 hrb).1
      have hxr : rx = rb := hxx.trans hrb
      clear hxx hrb
      subst hxr
      have e2 : (some ty).isSome = true := rfl
      cases rx with
      | none =>
        have e1 : (none : Option T).isSome = false := rfl
        go_wp2_with fail
        go_ret
        exact ⟨rfl, HC6.out.alloc HC6.out.size _⟩
      | some tz =>
        have e1 : (some tz).isSome = true := rfl
        go_wp2_with fail
        have hb7 := (Below.refl w6.heap.size w6).alloc (Nat.le_refl _) (.cells #[.int .i64 tz.kind, .int .i64 tz.lo, .int .i64 tz.hi, .slice D3 tz.names.length g3, .slice D4 tz.fields.length g4, .slice D5 tz.of.length g5] 26)
        refine (tsame_any (a := tz) (b := tz) (B := w6.heap.size) hfx hfx hb7.size (HV6.out.keep (Nat.le_refl _) fun p hp => hb7.cell hp) (HZV.out.keep (Nat.le_refl _) fun p hp => hb7.cell hp)).mono ?_
        rintro e w8 ⟨rfl, hb8⟩
        rw [sameT_self]
        go_wp2_with fail
        go_ret
        exact ⟨rfl, HC6.out.trans ((hb7.trans (hb8.mono hb7.size)).mono HC6.out.size)⟩
end Go.Proofs.YtmofgfnoogaoeaaDoor
