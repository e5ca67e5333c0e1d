/-
  As Grow, for regions whose last operations wait for the first ones along a chain of edges.
-/
import Derived.Test.YtnjmknofojjlmaaDoorGrow
namespace Go.Proofs.YtnjmknofojjlmaaDoor
open Go.RowKit

section
variable {P : Program} {Q : Exit → Act → World → Prop}
/-- Does operation i wait for operation j? -/
def reachB (ops : Array Oper) : Nat → Nat → Nat → Bool
  | 0, _, _ => false
  | f + 1, i, j => match ops[i]? with | some o => o.after.toList.any fun e => Region.binds .any e && (decide (e.on = j) || reachB ops f e.on j) | none => false
def growPre2 (ops : Array Oper) (n sz : Nat) (E : List Bool) : Bool :=
  ((ops.toList.take n).all fun o => o.guard.isNone && (match o.dst with | some d => decide (d < sz) | none => false)) &&
  decide (((ops.toList.take n).map (·.dst)).Nodup) &&
  ((List.range n).all fun i => match ops[i]? with | some o => o.after.toList.all fun e => !Region.binds .any e || decide (e.on < i) | none => false) &&
  ((List.range (ops.size - n)).all fun k => (List.range n).all fun j => decide (E[j]? = some true) || reachB ops ops.size (n + k) j) &&
  ((List.range n).all fun i => decide (E[i]? ≠ some true) || atOnceB ops i)
def growB2 (ops : Array Oper) (n sz : Nat) (E : List Bool) : Bool :=
  decide (n ≤ ops.size) && growPre2 ops n sz E && Region.seqB .any ops (ops.size - n) n (Array.replicate n true ++ Array.replicate (ops.size - n) false) && Region.noSelect ops

structure GrowInv2 (ops : Array Oper) (n : Nat) (Φ : Nat → Value → World → Prop) (w0 : World) (listed : Array Bool) (vs : Nat → Value) (w : World) : Prop where
  below : Below w0.heap.size w0 w
  size : listed.size = ops.size
  facts : ∀ i, i < n → listed.getD i false = true → Φ i (vs i) w
  tail : ∀ i, n ≤ i → i < ops.size → listed.getD i true = false
  closed : ∀ i o, listed.getD i false = true → ops[i]? = some o → ∀ e ∈ o.after.toList, Region.binds .any e = true → listed.getD e.on false = true
theorem reach_listed {ops : Array Oper} {listed : Array Bool} (hc : ∀ i o, listed.getD i false = true → ops[i]? = some o → ∀ e ∈ o.after.toList, Region.binds .any e = true → listed.getD e.on false = true) : ∀ (f i j : Nat), (∀ o, ops[i]? = some o → ∀ e ∈ o.after.toList, Region.binds .any e = true → listed.getD e.on false = true) → reachB ops f i j = true → listed.getD j false = true
  | 0, _, _, _, h => by simp [reachB] at h
  | f + 1, i, j, hi, h => by
    unfold reachB at h
    cases ho : ops[i]? with
    | none => rw [ho] at h; cases h
    | some o =>
      rw [ho] at h
      simp only [List.any_eq_true, Bool.and_eq_true, Bool.or_eq_true, decide_eq_true_eq] at h
      obtain ⟨e, he, hb, h⟩ := h
      have hl := hi o ho e he hb
      rcases h with rfl | h
      · exact hl
      · exact reach_listed hc f e.on j (fun o' ho' => hc e.on o' hl ho') h

theorem GrowInv2.next {ops : Array Oper} {n : Nat} {Φ : Nat → Value → World → Prop} {w0 w w' : World} {listed : Array Bool} {vs : Nat → Value} (inv : GrowInv2 ops n Φ w0 listed vs w)
    (stable : ∀ i v w w', Φ i v w → Below w.heap.size w w' → Φ i v w') {i : Nat} (hin : i < n) {v : Value} (hb : Below w.heap.size w w') (hφ : Φ i v w') (hdeps : ∀ o, ops[i]? = some o → ∀ e ∈ o.after.toList, Region.binds .any e = true → listed.getD e.on false = true) : GrowInv2 ops n Φ w0 (listed.setIfInBounds i true) (setV vs i v) w' := by
  have up : ∀ k, listed.getD k false = true → (listed.setIfInBounds i true).getD k false = true := fun k hk => by
    by_cases e : k = i
    · subst e
      have hks : k < listed.size := by
        rcases Nat.lt_or_ge k listed.size with h | h
        · exact h
        · rw [Array.getD, dif_neg (by omega)] at hk; cases hk
      simp [Array.getD, hks]
    · rw [getD_set_ne false (Ne.symm e)]; exact hk
  refine ⟨inv.below.trans (hb.mono inv.below.size), by simpa using inv.size, fun j hj hlj => ?_, fun j hj hjs => ?_, fun j o hlj ho e he hbd => ?_⟩
  · by_cases e : j = i
    · subst e; rw [setV_same]; exact hφ
    · rw [setV_ne e]
      exact stable _ _ _ _ (inv.facts j hj (by rwa [getD_set_ne false (Ne.symm e)] at hlj)) hb
  · rw [getD_set_ne true (by omega)]
    exact inv.tail j hj hjs
  · by_cases ej : j = i
    · subst ej; exact up _ (hdeps o ho e he hbd)
    · exact up _ (inv.closed j o (by rwa [getD_set_ne false (Ne.symm ej)] at hlj) ho e he hbd)

theorem wpAny_grow2 {l : List Oper} {n : Nat} {E : List Bool} {Φ : Nat → Value → World → Prop} {a : Act} {w0 : World} (hn : n ≤ l.length)
    (hg : ∀ o ∈ l.take n, o.guard = none) (hd : ∀ o ∈ l.take n, ∃ d, o.dst = some d) (hnd : ((l.take n).map (·.dst)).Nodup)
    (hdep : ∀ i o, i < n → l[i]? = some o → ∀ e ∈ o.after, Region.binds .any e = true → e.on < i)
    (htl : ∀ i o, n ≤ i → l[i]? = some o → ∀ j, j < n → E[j]? ≠ some true → reachB l.toArray l.length i j = true)
    (honce : ∀ i oi, i < n → E[i]? = some true → l[i]? = some oi → ∀ j oj, l[j]? = some oj → j ≠ i → (∀ e ∈ oi.after, Region.binds .any e = true → e.on ≠ j) → (∀ e ∈ oj.after, Region.binds .any e = true → e.on ≠ i) → oi.apart l.toArray oj = true)
    (hsel : Region.noSelect l.toArray = true) (hQ : ∀ c (d : Option Tmp) v a w, Q (.panic c) (a.put d v) w → Q (.panic c) a w)
    (hseq : Region.seqB .any l.toArray (l.length - n) n (Array.replicate n true ++ Array.replicate (l.length - n) false) = true)
    (stable : ∀ i v w w', Φ i v w → Below w.heap.size w w' → Φ i v w')
    (steps : growSteps P Q Φ (l.take n) a w0 0 E (l.take n))
    (tail : ∀ (vs : Nat → Value) (w' : World), Below w0.heap.size w0 w' → allFacts Φ vs w' 0 (l.take n) → wpList P l.toArray Q (l.drop n) (putAll vs a 0 (l.take n)) w') :
    ∀ (m : Nat) (listed : Array Bool) (vs : Nat → Value) (w : World), GrowInv2 l.toArray n Φ w0 listed vs w → unlisted listed n = m → wpAny P .any l.toArray Q (m + (l.length - n)) listed (putAll vs a 0 (l.take n)) w
  | 0, listed, vs, w, inv, hm => by
    have hall := unlisted_zero hm
    have hsz : listed.size = l.length := by simpa using inv.size
    have e : listed = Array.replicate n true ++ Array.replicate (l.length - n) false := by
      refine Array.ext (by simp; omega) fun j h1 h2 => ?_
      rcases Nat.lt_or_ge j n with hj | hj
      · have := hall j hj
        rw [Array.getElem_append_left (by simpa using hj)]
        simpa [Array.getD, h1] using this
      · have := inv.tail j hj (by simpa [inv.size] using h1)
        rw [Array.getElem_append_right (by simpa using hj)]
        simpa [Array.getD, h1] using this
    subst e
    have ht := tail vs w inv.below (allFacts_of fun i hi => by
      have hi' : i < n := by simp at hi; omega
      rw [Nat.zero_add]
      exact inv.facts i hi' (by simp [Array.getD, hi']; omega))
    have hl : (l.drop n).length = l.length - n := by simp
    have := wpAny_of_seq (md := .any) (Q' := Q) (ops := l.toArray) (l.drop n) n _ _ w (fun j => by simp [List.getElem?_drop]) (by rw [hl]; exact hseq) ht
    rw [hl] at this
    simpa using this
  | m + 1, listed, vs, w, inv, hm => by
    have hsz : listed.size = l.length := by simpa using inv.size
    rw [show m + 1 + (l.length - n) = (m + (l.length - n)) + 1 by omega]
    -- the first that is not listed may come up
    have key : ∀ (p : Nat → Prop), (∀ i, i < n → listed.getD i true = false → p i) → ∀ k i, i ≤ k → i < n → listed.getD i true = false → ∃ j, j < n ∧ p j ∧ j ∈ Region.ready .any l.toArray listed := by
      intro p hp k
      induction k with
      | zero =>
        intro i hk hi hl
        obtain rfl : i = 0 := by omega
        exact ⟨0, hi, hp 0 hi hl, mem_ready.2 ⟨hl, l[0], by simp, fun e he hb => absurd (hdep 0 _ hi (by simp) e he hb) (by omega)⟩⟩
      | succ k ih =>
        intro i hk hi hl
        have hlt : i < l.length := by omega
        by_cases hall : ∀ e ∈ (l[i]).after, Region.binds .any e = true → listed.getD e.on false = true
        · exact ⟨i, hi, hp i hi hl, mem_ready.2 ⟨hl, l[i], by simp [hlt], hall⟩⟩
        · simp only [Classical.not_forall] at hall
          obtain ⟨e, he, hb, hx⟩ := hall
          have h1 := hdep i _ hi (by simp [hlt]) e he hb
          exact ih e.on (by omega) (by omega) (getD_in (by omega) (by simpa using hx))
    by_cases hE : ∃ i, i < n ∧ E[i]? = some true ∧ i ∈ Region.ready .any l.toArray listed
    · obtain ⟨i, hin, hEi, hi⟩ := hE
      obtain ⟨hl, o, ho, hdeps⟩ := mem_ready.1 hi
      have ho' : l[i]? = some o := by simpa using ho
      have hpre : (l.take n)[i]? = some o := by rw [List.getElem?_take_of_lt hin]; exact ho'
      have hmem : o ∈ l.take n := List.mem_of_getElem? hpre
      obtain ⟨v, hv, hφ⟩ := growSteps_once steps hpre hEi vs w inv.below (depFacts_of fun e he hb => inv.facts e.on (by have := hdep i o hin ho' e (by simpa using he) hb; omega) (hdeps e (by simpa using he) hb))
      rw [Nat.zero_add] at hφ
      refine wpAny_first ho (Region.noSelect_spec hsel) (fun c a w h => hQ c _ _ a w h) _ listed _ w (fun j oj hj hji hun hno => honce i o hin hEi ho' j oj (by simpa using hj) hji (fun e he hb hej => ?_) hno) hi (.inl ⟨by unfold Region.wanted; rw [hg o hmem], hv⟩) ?_
      · have h1 := hdeps e he hb
        rw [hej, getD_both hun] at h1; cases h1
      · have e1 := putAll_put vs a v (l.take n) 0 i o hpre hnd hd
        rw [Nat.zero_add] at e1
        rw [e1]
        have hsi : i < listed.size := by rw [hsz]; omega
        exact wpAny_grow2 hn hg hd hnd hdep htl honce hsel hQ hseq stable steps tail m _ _ _ (inv.next stable hin (Below.refl _ _) hφ fun o' ho2 e he hb => hdeps e (by rw [ho] at ho2; injection ho2 with ho2; subst ho2; simpa using he) hb) (by have := unlisted_set hl hsi hin; omega)
    refine ⟨fun hr => ?_, fun i hi => ?_⟩
    · exfalso
      obtain ⟨i, hi, hl⟩ := unlisted_some (listed := listed) (n := n) (by omega)
      obtain ⟨j, _, _, hj⟩ := key (fun _ => True) (fun _ _ _ => trivial) i i (Nat.le_refl _) hi hl
      rw [hr] at hj; cases hj
    · obtain ⟨hl, o, ho, hdeps⟩ := mem_ready.1 hi
      have ho' : l[i]? = some o := by simpa using ho
      rcases Nat.lt_or_ge i n with hin | hin
      · have hpre : (l.take n)[i]? = some o := by rw [List.getElem?_take_of_lt hin]; exact ho'
        have hmem : o ∈ l.take n := List.mem_of_getElem? hpre
        refine wpOp_step ho fun K hK => ?_
        rw [if_pos (by unfold Region.wanted; rw [hg o hmem])]
        refine growSteps_at steps hpre (fun hEi => hE ⟨i, hin, hEi, hi⟩) vs w inv.below (depFacts_of fun e he hb => inv.facts e.on (by have := hdep i o hin ho' e (by simpa using he) hb; omega) (hdeps e (by simpa using he) hb)) K fun v w' hb hφ => hK _ _ ?_
        rw [Nat.zero_add] at hφ
        have e1 := putAll_put vs a v (l.take n) 0 i o hpre hnd hd
        rw [Nat.zero_add] at e1
        rw [e1]
        have hsi : i < listed.size := by rw [hsz]; omega
        exact wpAny_grow2 hn hg hd hnd hdep htl honce hsel hQ hseq stable steps tail m _ _ _ (inv.next stable hin hb hφ fun o' ho2 e he hb => hdeps e (by rw [ho] at ho2; injection ho2 with ho2; subst ho2; simpa using he) hb) (by have := unlisted_set hl hsi hin; omega)
      · exfalso
        obtain ⟨j, hj, hlj⟩ := unlisted_some (listed := listed) (n := n) (by omega)
        obtain ⟨j', hj', hp, hr⟩ := key (fun j => E[j]? = some true) (fun j hj hlj => by
          by_cases hEj : E[j]? = some true
          · exact hEj
          · have h1 := reach_listed inv.closed l.length i j (fun o' ho2 e he hb => hdeps e (by rw [ho] at ho2; injection ho2 with ho2; subst ho2; simpa using he) hb) (htl i o hin ho' j hj hEj)
            rw [getD_both hlj] at h1; cases h1) j j (Nat.le_refl _) hj hlj
        exact hE ⟨j', hj', hp, hr⟩

/-- **A region that draws its order and makes memory**: each of its first n operations is shown once, from whatever came ahead of it; the others follow. E marks those that leave the world alone. -/
theorem wp_region_grow2 {id : Nat} {l : List Oper} {a : Act} {w : World} (n sz : Nat) (E : List Bool) (Φ : Nat → Value → World → Prop) (hm : P.follows .mixedOrders = true) (hB : growB2 l.toArray n sz E = true) (hsz : sz = a.tmps.size)
    (hQ : ∀ c (d : Option Tmp) v a w, Q (.panic c) (a.put d v) w → Q (.panic c) a w)
    (stable : ∀ i v w w', Φ i v w → Below w.heap.size w w' → Φ i v w')
    (steps : growSteps P Q Φ (l.take n) a w.drew 0 E (l.take n))
    (tail : ∀ (vs : Nat → Value) (w' : World), Below w.drew.heap.size w.drew w' → allFacts Φ vs w' 0 (l.take n) → wpList P l.toArray Q (l.drop n) (putAll vs a 0 (l.take n)) w') :
    (Code.region id l.toArray true).wp P Q a w := by
  simp only [growB2, growPre2, Bool.and_eq_true, decide_eq_true_eq, List.all_eq_true, List.mem_range, List.size_toArray] at hB
  obtain ⟨⟨⟨hn, ⟨⟨⟨h1, h2⟩, h3⟩, h4⟩, h6⟩, h5⟩, h7⟩ := hB
  have hd : ∀ o ∈ l.take n, ∃ d, o.dst = some d ∧ d < a.tmps.size := fun o ho => by
    have := (h1 o ho).2
    cases hx : o.dst with
    | none => rw [hx] at this; cases this
    | some d => rw [hx] at this; exact ⟨d, rfl, by rw [← hsz]; simpa using this⟩
  obtain ⟨vs, hvs⟩ := putAll_self a (l.take n) 0 hd h2
  refine wp_region_any hm ?_
  have H := wpAny_grow2 (P := P) (Q := Q) (Φ := Φ) (a := a) (w0 := w.drew) (E := E) hn (fun o ho => by simpa using (h1 o ho).1) (fun o ho => by obtain ⟨d, e, _⟩ := hd o ho; exact ⟨d, e⟩) h2
    (fun i o hi ho e he hb => by
      have := h3 i hi
      rw [List.getElem?_toArray, ho] at this
      simp only [List.all_eq_true, Bool.or_eq_true, Bool.not_eq_true', decide_eq_true_eq] at this
      exact (this e (by simpa using he)).resolve_left (by rw [hb]; exact Bool.noConfusion))
    (fun i o hi ho j hj hEj => by
      have hil : i < l.length := (List.getElem?_eq_some_iff.1 ho).1
      have := h4 (i - n) (by omega) j hj
      rw [show n + (i - n) = i by omega] at this
      rw [Bool.or_eq_true, decide_eq_true_eq] at this
      exact this.resolve_left hEj)
    (fun i oi hi hEi ho j oj hj hji hno1 hno2 => by
      have hjl : j < l.length := (List.getElem?_eq_some_iff.1 hj).1
      have := (Bool.or_eq_true _ _ ▸ h6 i hi : decide (E[i]? ≠ some true) = true ∨ atOnceB l.toArray i = true).resolve_left (by simp [hEi])
      unfold atOnceB at this
      rw [List.getElem?_toArray, ho] at this
      simp only [List.all_eq_true, List.mem_range, List.size_toArray] at this
      have h := this j hjl
      rw [List.getElem?_toArray, hj] at h
      simp only [Bool.or_eq_true, decide_eq_true_eq, List.any_eq_true, Bool.and_eq_true] at h
      rcases h with (h | ⟨e, he, hb, h⟩) | ⟨e, he, hb, h⟩ | h
      · exact absurd h hji
      · exact absurd h (hno1 e (by simpa using he) hb)
      · exact absurd h (hno2 e (by simpa using he) hb)
      · exact h)
    h7 hQ h5 stable steps tail n (Array.replicate l.length false) vs w.drew ⟨Below.refl _ _, by simp, fun i _ h => (by rw [getD_replicate_false] at h; cases h), fun i _ hi => getD_in (by simpa using hi) (getD_replicate_false _ _), fun i _ h => (by rw [getD_replicate_false] at h; cases h)⟩ (unlisted_all hn)
  rw [hvs, show n + (l.length - n) = l.length by omega] at H
  simpa using H
/-- .. where the post may hang on the frame at a panic: the operations are then shown not to panic. -/
theorem wp_region_grow2_calm {id : Nat} {l : List Oper} {a : Act} {w : World} (n sz : Nat) (E : List Bool) (Φ : Nat → Value → World → Prop) (hm : P.follows .mixedOrders = true) (hB : growB2 l.toArray n sz E = true) (hsz : sz = a.tmps.size)
    (stable : ∀ i v w w', Φ i v w → Below w.heap.size w w' → Φ i v w')
    (steps : growSteps P (NoPanic Q) Φ (l.take n) a w.drew 0 E (l.take n))
    (tail : ∀ (vs : Nat → Value) (w' : World), Below w.drew.heap.size w.drew w' → allFacts Φ vs w' 0 (l.take n) → wpList P l.toArray (NoPanic Q) (l.drop n) (putAll vs a 0 (l.take n)) w') :
    (Code.region id l.toArray true).wp P Q a w :=
  wp_region_noPanic (wp_region_grow2 n sz E Φ hm hB hsz (fun _ _ _ _ _ h => (h : False).elim) stable steps tail)
end
end Go.Proofs.YtnjmknofojjlmaaDoor
