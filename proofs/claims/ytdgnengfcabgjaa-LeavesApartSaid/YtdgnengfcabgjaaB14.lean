/-
  A region that draws its order, whose first operations only make memory (loads, calls, allocations, slices built) and whose last ones follow in one forced order: each operation is shown once, whatever came ahead of it. Of whatever program.
  As Grow, for regions whose last operations wait for the first ones along a chain of edges.
  As Grow2, where an operation may write into what the others of the region have made (whatever order among worlds all operations keep), and what is known of an operation may speak of where it, and those that it waits for, stand in the growth of the heap.
-/
import Derived.StillTail
import Derived.RegionTactic
import Derived.Below
import Derived.Deep.RegionHeld3
namespace Go.Proofs.Ytdgnengfcabgjaa
open Go.RowKit

section
variable {P : Program} {Q : Exit → Act → World → Prop}

/-- The frame, with a value in the slot of each operation. -/
def putAll (vs : Nat → Value) (a : Act) : Nat → List Oper → Act
  | _, [] => a
  | i, o :: r => (putAll vs a (i + 1) r).put o.dst (vs i)
def setV (vs : Nat → Value) (i : Nat) (v : Value) : Nat → Value := fun j => if j = i then v else vs j
theorem setV_same (vs : Nat → Value) (i : Nat) (v : Value) : setV vs i v i = v := by simp [setV]
theorem setV_ne {vs : Nat → Value} {i j : Nat} {v : Value} (h : j ≠ i) : setV vs i v j = vs j := by simp [setV, h]
/-- What is known of an operation's value where it is needed. -/
def depFacts (Φ : Nat → Value → World → Prop) (vs : Nat → Value) (w : World) : List Edge → Prop
  | [] => True
  | e :: r => (Region.binds .any e = true → Φ e.on (vs e.on) w) ∧ depFacts Φ vs w r
def allFacts (Φ : Nat → Value → World → Prop) (vs : Nat → Value) (w : World) : Nat → List Oper → Prop
  | _, [] => True
  | i, _ :: r => Φ i (vs i) w ∧ allFacts Φ vs w (i + 1) r
/-- Each operation, from whatever came ahead of it. (The marks: an operation that leaves the world alone whatever it is may be taken at once.) -/
def growSteps (P : Program) (Q : Exit → Act → World → Prop) (Φ : Nat → Value → World → Prop) (pre : List Oper) (a : Act) (w0 : World) : Nat → List Bool → List Oper → Prop
  | _, _, [] => True
  | i, true :: bs, o :: r => (∀ (vs : Nat → Value) (w : World), Below w0.heap.size w0 w → depFacts Φ vs w o.after.toList →
      ∃ v, (∀ w', (execOp (putAll vs a 0 pre).eval o).run P w' = .ok (.value v) w') ∧ Φ i v w) ∧ growSteps P Q Φ pre a w0 (i + 1) bs r
  | i, false :: bs, o :: r => (∀ (vs : Nat → Value) (w : World), Below w0.heap.size w0 w → depFacts Φ vs w o.after.toList → ∀ K : Act → World → Prop,
      (∀ v w', Below w.heap.size w w' → Φ i v w' → K ((putAll vs a 0 pre).put o.dst v) w') → o.wp P (putAll vs a 0 pre) w K Q) ∧ growSteps P Q Φ pre a w0 (i + 1) bs r
  | _, [], _ :: _ => False

theorem act_ext {a b : Act} (h1 : a.tmps = b.tmps) (h2 : a.defers = b.defers) : a = b := by cases a; cases b; simp_all
theorem put_comm' (a : Act) {n m : Nat} (h : n ≠ m) (u v : Value) : (a.put (some n) u).put (some m) v = (a.put (some m) v).put (some n) u :=
  act_ext (by simp only [Act.put]; exact Array.setIfInBounds_comm _ _ h) rfl
theorem put_put (a : Act) (n : Nat) (u v : Value) : (a.put (some n) u).put (some n) v = a.put (some n) v :=
  act_ext (by simp [Act.put]) rfl
theorem putAll_put_out (vs : Nat → Value) (a : Act) (n : Nat) (v : Value) : ∀ (l : List Oper) (i : Nat), (∀ o ∈ l, ∃ d, o.dst = some d ∧ d ≠ n) → (putAll vs a i l).put (some n) v = putAll vs (a.put (some n) v) i l
  | [], _, _ => rfl
  | o :: r, i, h => by
    obtain ⟨d, hd, hne⟩ := h o (by simp)
    simp only [putAll, hd]
    rw [put_comm' _ hne, putAll_put_out vs a n v r (i + 1) fun o ho => h o (by simp [ho])]
theorem putAll_setV_out (vs : Nat → Value) (a : Act) (k : Nat) (v : Value) : ∀ (l : List Oper) (i : Nat), k < i → putAll (setV vs k v) a i l = putAll vs a i l
  | [], _, _ => rfl
  | o :: r, i, h => by simp only [putAll]; rw [putAll_setV_out vs a k v r (i + 1) (by omega), setV_ne (by omega)]
theorem putAll_put (vs : Nat → Value) (a : Act) (v : Value) : ∀ (l : List Oper) (i k : Nat) (o : Oper), l[k]? = some o → (l.map (·.dst)).Nodup → (∀ o ∈ l, ∃ d, o.dst = some d) →
    (putAll vs a i l).put o.dst v = putAll (setV vs (i + k) v) a i l
  | [], _, _, _, h, _, _ => by simp at h
  | x :: r, i, 0, o, h, hn, hd => by
    simp only [List.getElem?_cons_zero, Option.some.injEq] at h
    subst h
    obtain ⟨d, e⟩ := hd x (by simp)
    simp only [putAll, Nat.add_zero]
    rw [putAll_setV_out vs a i v r (i + 1) (by omega), setV_same, e, put_put]
  | x :: r, i, k + 1, o, h, hn, hd => by
    simp only [List.getElem?_cons_succ] at h
    obtain ⟨d, e⟩ := hd x (by simp)
    obtain ⟨d', e'⟩ := hd o (by simp [List.mem_of_getElem? h])
    simp only [List.map_cons, List.nodup_cons] at hn
    have hne : d ≠ d' := by
      rintro rfl
      exact hn.1 (by rw [e, ← e']; exact List.mem_map_of_mem (List.mem_of_getElem? h))
    simp only [putAll]
    rw [setV_ne (by omega), e, e', put_comm' _ hne, ← e', putAll_put vs a v r (i + 1) k o h hn.2 fun o ho => hd o (by simp [ho]), show i + 1 + k = i + (k + 1) by omega]
theorem putAll_self (a : Act) : ∀ (l : List Oper) (i : Nat), (∀ o ∈ l, ∃ d, o.dst = some d ∧ d < a.tmps.size) → (l.map (·.dst)).Nodup → ∃ vs, putAll vs a i l = a
  | [], _, _, _ => ⟨fun _ => undef, rfl⟩
  | o :: r, i, h, hn => by
    simp only [List.map_cons, List.nodup_cons] at hn
    obtain ⟨vs, hvs⟩ := putAll_self a r (i + 1) (fun o ho => h o (by simp [ho])) hn.2
    obtain ⟨d, e, hd⟩ := h o (by simp)
    refine ⟨setV vs i (a.tmps.getD d undef), ?_⟩
    simp only [putAll]
    rw [putAll_setV_out vs a i _ r (i + 1) (by omega), hvs, setV_same, e]
    refine act_ext ?_ rfl
    simp only [Act.put]
    refine Array.ext (by simp) fun j h1 h2 => ?_
    rw [Array.getElem_setIfInBounds]
    split
    · rename_i hj; subst hj; simp
    · rfl

/-- May it be taken at once, wherever it stands? -/
def atOnceB (ops : Array Oper) (i : Nat) : Bool :=
  match ops[i]? with
  | none => false
  | some oi => (List.range ops.size).all fun j => decide (j = i) || oi.after.toList.any (fun e => Region.binds .any e && decide (e.on = j)) ||
      match ops[j]? with
      | some oj => oj.after.toList.any (fun e => Region.binds .any e && decide (e.on = i)) || oi.apart ops oj
      | none => true
/-- What a Bool over the region must say. -/
def growPre (ops : Array Oper) (n sz : Nat) (E : List Bool) : Bool :=
  ((ops.toList.take n).all fun o => o.guard.isNone && (match o.dst with | some d => decide (d < sz) | none => false)) &&
  decide (((ops.toList.take n).map (·.dst)).Nodup) &&
  ((List.range n).all fun i => match ops[i]? with | some o => o.after.toList.all fun e => !Region.binds .any e || decide (e.on < i) | none => false) &&
  ((List.range (ops.size - n)).all fun k => match ops[n + k]? with | some o => (List.range n).all fun j => decide (E[j]? = some true) || o.after.toList.any fun e => Region.binds .any e && decide (e.on = j) | none => false) &&
  ((List.range n).all fun i => decide (E[i]? ≠ some true) || atOnceB ops i)
def growB (ops : Array Oper) (n sz : Nat) (E : List Bool) : Bool :=
  decide (n ≤ ops.size) && growPre ops n sz E && Region.seqB .any ops (ops.size - n) n (Array.replicate n true ++ Array.replicate (ops.size - n) false) && Region.noSelect ops

def unlisted (listed : Array Bool) : Nat → Nat
  | 0 => 0
  | n + 1 => unlisted listed n + if listed.getD n true = false then 1 else 0
theorem unlisted_out {listed : Array Bool} {i : Nat} : ∀ {n : Nat}, n ≤ i → unlisted (listed.setIfInBounds i true) n = unlisted listed n
  | 0, _ => rfl
  | n + 1, h => by simp only [unlisted]; rw [unlisted_out (by omega), getD_set_ne true (by omega)]
theorem unlisted_set {listed : Array Bool} {i : Nat} (hi : listed.getD i true = false) (hs : i < listed.size) : ∀ {n : Nat}, i < n → unlisted (listed.setIfInBounds i true) n + 1 = unlisted listed n
  | n + 1, h => by
    simp only [unlisted]
    by_cases e : i = n
    · subst e
      rw [unlisted_out (Nat.le_refl _), hi]
      have : (listed.setIfInBounds i true).getD i true = true := by simp [Array.getD, hs]
      simp [this]
    · rw [getD_set_ne true e]
      have := unlisted_set hi hs (n := n) (by omega)
      omega
theorem unlisted_zero {listed : Array Bool} : ∀ {n : Nat}, unlisted listed n = 0 → ∀ i, i < n → listed.getD i true = true
  | n + 1, h, i, hi => by
    simp only [unlisted] at h
    by_cases e : i = n
    · subst e
      cases hl : listed.getD i true with
      | true => rfl
      | false => rw [hl] at h; simp at h
    · exact unlisted_zero (n := n) (by omega) i (by omega)
theorem unlisted_some {listed : Array Bool} : ∀ {n : Nat}, 0 < unlisted listed n → ∃ i, i < n ∧ listed.getD i true = false
  | n + 1, h => by
    simp only [unlisted] at h
    by_cases e : listed.getD n true = false
    · exact ⟨n, by omega, e⟩
    · rw [if_neg e] at h
      obtain ⟨i, hi, hl⟩ := unlisted_some (n := n) (by omega)
      exact ⟨i, by omega, hl⟩
theorem unlisted_all {m : Nat} : ∀ {n : Nat}, n ≤ m → unlisted (Array.replicate m false) n = n
  | 0, _ => rfl
  | n + 1, h => by
    simp only [unlisted]
    rw [unlisted_all (by omega)]
    have : (Array.replicate m false).getD n true = false := by simp [Array.getD, show n < m by omega]
    simp [this]
theorem growSteps_at {Φ : Nat → Value → World → Prop} {pre : List Oper} {a : Act} {w0 : World} : ∀ {l : List Oper} {E : List Bool} {k i : Nat} {o : Oper}, growSteps P Q Φ pre a w0 k E l → l[i]? = some o → E[i]? ≠ some true →
    ∀ (vs : Nat → Value) (w : World), Below w0.heap.size w0 w → depFacts Φ vs w o.after.toList → ∀ K : Act → World → Prop,
      (∀ v w', Below w.heap.size w w' → Φ (k + i) v w' → K ((putAll vs a 0 pre).put o.dst v) w') → o.wp P (putAll vs a 0 pre) w K Q
  | [], _, _, _, _, _, h, _ => by simp at h
  | x :: r, [], _, _, _, hs, _, _ => hs.elim
  | x :: r, true :: bs, k, 0, o, _, _, he => absurd rfl he
  | x :: r, false :: bs, k, 0, o, hs, h, _ => by
    simp only [List.getElem?_cons_zero, Option.some.injEq] at h
    subst h
    exact hs.1
  | x :: r, true :: bs, k, i + 1, o, hs, h, he => by
    simp only [List.getElem?_cons_succ] at h he
    have := growSteps_at hs.2 h he
    rwa [show k + 1 + i = k + (i + 1) by omega] at this
  | x :: r, false :: bs, k, i + 1, o, hs, h, he => by
    simp only [List.getElem?_cons_succ] at h he
    have := growSteps_at hs.2 h he
    rwa [show k + 1 + i = k + (i + 1) by omega] at this
theorem growSteps_once {Φ : Nat → Value → World → Prop} {pre : List Oper} {a : Act} {w0 : World} : ∀ {l : List Oper} {E : List Bool} {k i : Nat} {o : Oper}, growSteps P Q Φ pre a w0 k E l → l[i]? = some o → E[i]? = some true →
    ∀ (vs : Nat → Value) (w : World), Below w0.heap.size w0 w → depFacts Φ vs w o.after.toList → ∃ v, (∀ w', (execOp (putAll vs a 0 pre).eval o).run P w' = .ok (.value v) w') ∧ Φ (k + i) v w
  | [], _, _, _, _, _, h, _ => by simp at h
  | x :: r, [], _, _, _, hs, _, _ => hs.elim
  | x :: r, false :: bs, k, 0, o, _, _, he => by simp at he
  | x :: r, true :: bs, k, 0, o, hs, h, _ => by
    simp only [List.getElem?_cons_zero, Option.some.injEq] at h
    subst h
    exact hs.1
  | x :: r, true :: bs, k, i + 1, o, hs, h, he => by
    simp only [List.getElem?_cons_succ] at h he
    have := growSteps_once hs.2 h he
    rwa [show k + 1 + i = k + (i + 1) by omega] at this
  | x :: r, false :: bs, k, i + 1, o, hs, h, he => by
    simp only [List.getElem?_cons_succ] at h he
    have := growSteps_once hs.2 h he
    rwa [show k + 1 + i = k + (i + 1) by omega] at this
theorem depFacts_of {Φ : Nat → Value → World → Prop} {vs : Nat → Value} {w : World} : ∀ {es : List Edge}, (∀ e ∈ es, Region.binds .any e = true → Φ e.on (vs e.on) w) → depFacts Φ vs w es
  | [], _ => trivial
  | e :: r, h => ⟨h e (by simp), depFacts_of fun x hx => h x (by simp [hx])⟩
theorem allFacts_of {Φ : Nat → Value → World → Prop} {vs : Nat → Value} {w : World} : ∀ {l : List Oper} {k : Nat}, (∀ i, i < l.length → Φ (k + i) (vs (k + i)) w) → allFacts Φ vs w k l
  | [], _, _ => trivial
  | x :: r, k, h => ⟨h 0 (by simp), allFacts_of fun i hi => by have := h (i + 1) (by simpa using hi); rwa [show k + (i + 1) = k + 1 + i by omega] at this⟩

structure GrowInv (ops : Array Oper) (n : Nat) (Φ : Nat → Value → World → Prop) (w0 : World) (listed : Array Bool) (vs : Nat → Value) (w : World) : Prop where
  below : Below w0.heap.size w0 w
  size : listed.size = ops.size
  facts : ∀ i, i < n → listed.getD i false = true → Φ i (vs i) w
  tail : ∀ i, n ≤ i → i < ops.size → listed.getD i true = false

theorem GrowInv.next {ops : Array Oper} {n : Nat} {Φ : Nat → Value → World → Prop} {w0 w w' : World} {listed : Array Bool} {vs : Nat → Value} (inv : GrowInv ops n Φ w0 listed vs w)
    (stable : ∀ i v w w', Φ i v w → Below w.heap.size w w' → Φ i v w') {i : Nat} (hin : i < n) {v : Value} (hb : Below w.heap.size w w') (hφ : Φ i v w') : GrowInv ops n Φ w0 (listed.setIfInBounds i true) (setV vs i v) w' := by
  refine ⟨inv.below.trans (hb.mono inv.below.size), by simpa using inv.size, fun j hj hlj => ?_, fun j hj hjs => ?_⟩
  · by_cases e : j = i
    · subst e; rw [setV_same]; exact hφ
    · rw [setV_ne e]
      exact stable _ _ _ _ (inv.facts j hj (by rwa [getD_set_ne false (Ne.symm e)] at hlj)) hb
  · rw [getD_set_ne true (by omega)]
    exact inv.tail j hj hjs

theorem wpAny_grow {l : List Oper} {n : Nat} {E : List Bool} {Φ : Nat → Value → World → Prop} {a : Act} {w0 : World} (hn : n ≤ l.length)
    (hg : ∀ o ∈ l.take n, o.guard = none) (hd : ∀ o ∈ l.take n, ∃ d, o.dst = some d) (hnd : ((l.take n).map (·.dst)).Nodup)
    (hdep : ∀ i o, i < n → l[i]? = some o → ∀ e ∈ o.after, Region.binds .any e = true → e.on < i)
    (htl : ∀ i o, n ≤ i → l[i]? = some o → ∀ j, j < n → E[j]? ≠ some true → ∃ e ∈ o.after, Region.binds .any e = true ∧ e.on = j)
    (honce : ∀ i oi, i < n → E[i]? = some true → l[i]? = some oi → ∀ j oj, l[j]? = some oj → j ≠ i → (∀ e ∈ oi.after, Region.binds .any e = true → e.on ≠ j) → (∀ e ∈ oj.after, Region.binds .any e = true → e.on ≠ i) → oi.apart l.toArray oj = true)
    (hsel : Region.noSelect l.toArray = true) (hQ : ∀ c (d : Option Tmp) v a w, Q (.panic c) (a.put d v) w → Q (.panic c) a w)
    (hseq : Region.seqB .any l.toArray (l.length - n) n (Array.replicate n true ++ Array.replicate (l.length - n) false) = true)
    (stable : ∀ i v w w', Φ i v w → Below w.heap.size w w' → Φ i v w')
    (steps : growSteps P Q Φ (l.take n) a w0 0 E (l.take n))
    (tail : ∀ (vs : Nat → Value) (w' : World), Below w0.heap.size w0 w' → allFacts Φ vs w' 0 (l.take n) → wpList P l.toArray Q (l.drop n) (putAll vs a 0 (l.take n)) w') :
    ∀ (m : Nat) (listed : Array Bool) (vs : Nat → Value) (w : World), GrowInv l.toArray n Φ w0 listed vs w → unlisted listed n = m → wpAny P .any l.toArray Q (m + (l.length - n)) listed (putAll vs a 0 (l.take n)) w
  | 0, listed, vs, w, inv, hm => by
    have hall := unlisted_zero hm
    have hsz : listed.size = l.length := by simpa using inv.size
    have e : listed = Array.replicate n true ++ Array.replicate (l.length - n) false := by
      refine Array.ext (by simp; omega) fun j h1 h2 => ?_
      rcases Nat.lt_or_ge j n with hj | hj
      · have := hall j hj
        rw [Array.getElem_append_left (by simpa using hj)]
        simpa [Array.getD, h1] using this
      · have := inv.tail j hj (by simpa [inv.size] using h1)
        rw [Array.getElem_append_right (by simpa using hj)]
        simpa [Array.getD, h1] using this
    subst e
    have ht := tail vs w inv.below (allFacts_of fun i hi => by
      have hi' : i < n := by simp at hi; omega
      rw [Nat.zero_add]
      exact inv.facts i hi' (by simp [Array.getD, hi']; omega))
    have hl : (l.drop n).length = l.length - n := by simp
    have := wpAny_of_seq (md := .any) (Q' := Q) (ops := l.toArray) (l.drop n) n _ _ w (fun j => by simp [List.getElem?_drop]) (by rw [hl]; exact hseq) ht
    rw [hl] at this
    simpa using this
  | m + 1, listed, vs, w, inv, hm => by
    have hsz : listed.size = l.length := by simpa using inv.size
    rw [show m + 1 + (l.length - n) = (m + (l.length - n)) + 1 by omega]
    -- the first that is not listed may come up
    have key : ∀ (p : Nat → Prop), (∀ i, i < n → listed.getD i true = false → p i) → ∀ k i, i ≤ k → i < n → listed.getD i true = false → ∃ j, j < n ∧ p j ∧ j ∈ Region.ready .any l.toArray listed := by
      intro p hp k
      induction k with
      | zero =>
        intro i hk hi hl
        obtain rfl : i = 0 := by omega
        exact ⟨0, hi, hp 0 hi hl, mem_ready.2 ⟨hl, l[0], by simp, fun e he hb => absurd (hdep 0 _ hi (by simp) e he hb) (by omega)⟩⟩
      | succ k ih =>
        intro i hk hi hl
        have hlt : i < l.length := by omega
        by_cases hall : ∀ e ∈ (l[i]).after, Region.binds .any e = true → listed.getD e.on false = true
        · exact ⟨i, hi, hp i hi hl, mem_ready.2 ⟨hl, l[i], by simp [hlt], hall⟩⟩
        · simp only [Classical.not_forall] at hall
          obtain ⟨e, he, hb, hx⟩ := hall
          have h1 := hdep i _ hi (by simp [hlt]) e he hb
          exact ih e.on (by omega) (by omega) (getD_in (by omega) (by simpa using hx))
    by_cases hE : ∃ i, i < n ∧ E[i]? = some true ∧ i ∈ Region.ready .any l.toArray listed
    · obtain ⟨i, hin, hEi, hi⟩ := hE
      obtain ⟨hl, o, ho, hdeps⟩ := mem_ready.1 hi
      have ho' : l[i]? = some o := by simpa using ho
      have hpre : (l.take n)[i]? = some o := by rw [List.getElem?_take_of_lt hin]; exact ho'
      have hmem : o ∈ l.take n := List.mem_of_getElem? hpre
      obtain ⟨v, hv, hφ⟩ := growSteps_once steps hpre hEi vs w inv.below (depFacts_of fun e he hb => inv.facts e.on (by have := hdep i o hin ho' e (by simpa using he) hb; omega) (hdeps e (by simpa using he) hb))
      rw [Nat.zero_add] at hφ
      refine wpAny_first ho (Region.noSelect_spec hsel) (fun c a w h => hQ c _ _ a w h) _ listed _ w (fun j oj hj hji hun hno => honce i o hin hEi ho' j oj (by simpa using hj) hji (fun e he hb hej => ?_) hno) hi (.inl ⟨by unfold Region.wanted; rw [hg o hmem], hv⟩) ?_
      · have h1 := hdeps e he hb
        rw [hej, getD_both hun] at h1; cases h1
      · have e1 := putAll_put vs a v (l.take n) 0 i o hpre hnd hd
        rw [Nat.zero_add] at e1
        rw [e1]
        have hsi : i < listed.size := by rw [hsz]; omega
        exact wpAny_grow hn hg hd hnd hdep htl honce hsel hQ hseq stable steps tail m _ _ _ (inv.next stable hin (Below.refl _ _) hφ) (by have := unlisted_set hl hsi hin; omega)
    refine ⟨fun hr => ?_, fun i hi => ?_⟩
    · exfalso
      obtain ⟨i, hi, hl⟩ := unlisted_some (listed := listed) (n := n) (by omega)
      obtain ⟨j, _, _, hj⟩ := key (fun _ => True) (fun _ _ _ => trivial) i i (Nat.le_refl _) hi hl
      rw [hr] at hj; cases hj
    · obtain ⟨hl, o, ho, hdeps⟩ := mem_ready.1 hi
      have ho' : l[i]? = some o := by simpa using ho
      rcases Nat.lt_or_ge i n with hin | hin
      · have hpre : (l.take n)[i]? = some o := by rw [List.getElem?_take_of_lt hin]; exact ho'
        have hmem : o ∈ l.take n := List.mem_of_getElem? hpre
        refine wpOp_step ho fun K hK => ?_
        rw [if_pos (by unfold Region.wanted; rw [hg o hmem])]
        refine growSteps_at steps hpre (fun hEi => hE ⟨i, hin, hEi, hi⟩) vs w inv.below (depFacts_of fun e he hb => inv.facts e.on (by have := hdep i o hin ho' e (by simpa using he) hb; omega) (hdeps e (by simpa using he) hb)) K fun v w' hb hφ => hK _ _ ?_
        rw [Nat.zero_add] at hφ
        have e1 := putAll_put vs a v (l.take n) 0 i o hpre hnd hd
        rw [Nat.zero_add] at e1
        rw [e1]
        have hsi : i < listed.size := by rw [hsz]; omega
        exact wpAny_grow hn hg hd hnd hdep htl honce hsel hQ hseq stable steps tail m _ _ _ (inv.next stable hin hb hφ) (by have := unlisted_set hl hsi hin; omega)
      · exfalso
        obtain ⟨j, hj, hlj⟩ := unlisted_some (listed := listed) (n := n) (by omega)
        obtain ⟨j', hj', hp, hr⟩ := key (fun j => E[j]? = some true) (fun j hj hlj => by
          by_cases hEj : E[j]? = some true
          · exact hEj
          · obtain ⟨e, he, hb, rfl⟩ := htl i o hin ho' j hj hEj
            have h1 := hdeps e he hb
            rw [getD_both hlj] at h1; cases h1) j j (Nat.le_refl _) hj hlj
        exact hE ⟨j', hj', hp, hr⟩

/-- **A region that draws its order and makes memory**: each of its first n operations is shown once, from whatever came ahead of it; the others follow. E marks those that leave the world alone. -/
theorem wp_region_grow {id : Nat} {l : List Oper} {a : Act} {w : World} (n sz : Nat) (E : List Bool) (Φ : Nat → Value → World → Prop) (hm : P.follows .mixedOrders = true) (hB : growB l.toArray n sz E = true) (hsz : sz = a.tmps.size)
    (hQ : ∀ c (d : Option Tmp) v a w, Q (.panic c) (a.put d v) w → Q (.panic c) a w)
    (stable : ∀ i v w w', Φ i v w → Below w.heap.size w w' → Φ i v w')
    (steps : growSteps P Q Φ (l.take n) a w.drew 0 E (l.take n))
    (tail : ∀ (vs : Nat → Value) (w' : World), Below w.drew.heap.size w.drew w' → allFacts Φ vs w' 0 (l.take n) → wpList P l.toArray Q (l.drop n) (putAll vs a 0 (l.take n)) w') :
    (Code.region id l.toArray true).wp P Q a w := by
  simp only [growB, growPre, Bool.and_eq_true, decide_eq_true_eq, List.all_eq_true, List.mem_range, List.size_toArray] at hB
  obtain ⟨⟨⟨hn, ⟨⟨⟨h1, h2⟩, h3⟩, h4⟩, h6⟩, h5⟩, h7⟩ := hB
  have hd : ∀ o ∈ l.take n, ∃ d, o.dst = some d ∧ d < a.tmps.size := fun o ho => by
    have := (h1 o ho).2
    cases hx : o.dst with
    | none => rw [hx] at this; cases this
    | some d => rw [hx] at this; exact ⟨d, rfl, by rw [← hsz]; simpa using this⟩
  obtain ⟨vs, hvs⟩ := putAll_self a (l.take n) 0 hd h2
  refine wp_region_any hm ?_
  have H := wpAny_grow (P := P) (Q := Q) (Φ := Φ) (a := a) (w0 := w.drew) (E := E) hn (fun o ho => by simpa using (h1 o ho).1) (fun o ho => by obtain ⟨d, e, _⟩ := hd o ho; exact ⟨d, e⟩) h2
    (fun i o hi ho e he hb => by
      have := h3 i hi
      rw [List.getElem?_toArray, ho] at this
      simp only [List.all_eq_true, Bool.or_eq_true, Bool.not_eq_true', decide_eq_true_eq] at this
      exact (this e (by simpa using he)).resolve_left (by rw [hb]; exact Bool.noConfusion))
    (fun i o hi ho j hj hEj => by
      have hil : i < l.length := (List.getElem?_eq_some_iff.1 ho).1
      have := h4 (i - n) (by omega)
      rw [show n + (i - n) = i by omega, List.getElem?_toArray, ho] at this
      simp only [List.all_eq_true, List.mem_range, List.any_eq_true, Bool.and_eq_true, Bool.or_eq_true, decide_eq_true_eq] at this
      obtain ⟨e, he, hb, hj'⟩ := (this j hj).resolve_left hEj
      exact ⟨e, by simpa using he, hb, hj'⟩)
    (fun i oi hi hEi ho j oj hj hji hno1 hno2 => by
      have hjl : j < l.length := (List.getElem?_eq_some_iff.1 hj).1
      have := (Bool.or_eq_true _ _ ▸ h6 i hi : decide (E[i]? ≠ some true) = true ∨ atOnceB l.toArray i = true).resolve_left (by simp [hEi])
      unfold atOnceB at this
      rw [List.getElem?_toArray, ho] at this
      simp only [List.all_eq_true, List.mem_range, List.size_toArray] at this
      have h := this j hjl
      rw [List.getElem?_toArray, hj] at h
      simp only [Bool.or_eq_true, decide_eq_true_eq, List.any_eq_true, Bool.and_eq_true] at h
      rcases h with (h | ⟨e, he, hb, h⟩) | ⟨e, he, hb, h⟩ | h
      · exact absurd h hji
      · exact absurd h (hno1 e (by simpa using he) hb)
      · exact absurd h (hno2 e (by simpa using he) hb)
      · exact h)
    h7 hQ h5 stable steps tail n (Array.replicate l.length false) vs w.drew ⟨Below.refl _ _, by simp, fun i _ h => (by rw [getD_replicate_false] at h; cases h), fun i _ hi => getD_in (by simpa using hi) (getD_replicate_false _ _)⟩ (unlisted_all hn)
  rw [hvs, show n + (l.length - n) = l.length by omega] at H
  simpa using H
/-- .. where the post may hang on the frame at a panic: the operations are then shown not to panic. -/
theorem wp_region_grow_calm {id : Nat} {l : List Oper} {a : Act} {w : World} (n sz : Nat) (E : List Bool) (Φ : Nat → Value → World → Prop) (hm : P.follows .mixedOrders = true) (hB : growB l.toArray n sz E = true) (hsz : sz = a.tmps.size)
    (stable : ∀ i v w w', Φ i v w → Below w.heap.size w w' → Φ i v w')
    (steps : growSteps P (NoPanic Q) Φ (l.take n) a w.drew 0 E (l.take n))
    (tail : ∀ (vs : Nat → Value) (w' : World), Below w.drew.heap.size w.drew w' → allFacts Φ vs w' 0 (l.take n) → wpList P l.toArray (NoPanic Q) (l.drop n) (putAll vs a 0 (l.take n)) w') :
    (Code.region id l.toArray true).wp P Q a w :=
  wp_region_noPanic (wp_region_grow n sz E Φ hm hB hsz (fun _ _ _ _ _ h => (h : False).elim) stable steps tail)
end
end Go.Proofs.Ytdgnengfcabgjaa
namespace Go.Proofs.Ytdgnengfcabgjaa
open Go.RowKit

section
variable {P : Program} {Q : Exit → Act → World → Prop}
/-- Does operation i wait for operation j? -/
def reachB (ops : Array Oper) : Nat → Nat → Nat → Bool
  | 0, _, _ => false
  | f + 1, i, j => match ops[i]? with | some o => o.after.toList.any fun e => Region.binds .any e && (decide (e.on = j) || reachB ops f e.on j) | none => false
def growPre2 (ops : Array Oper) (n sz : Nat) (E : List Bool) : Bool :=
  ((ops.toList.take n).all fun o => o.guard.isNone && (match o.dst with | some d => decide (d < sz) | none => false)) &&
  decide (((ops.toList.take n).map (·.dst)).Nodup) &&
  ((List.range n).all fun i => match ops[i]? with | some o => o.after.toList.all fun e => !Region.binds .any e || decide (e.on < i) | none => false) &&
  ((List.range (ops.size - n)).all fun k => (List.range n).all fun j => decide (E[j]? = some true) || reachB ops ops.size (n + k) j) &&
  ((List.range n).all fun i => decide (E[i]? ≠ some true) || atOnceB ops i)
def growB2 (ops : Array Oper) (n sz : Nat) (E : List Bool) : Bool :=
  decide (n ≤ ops.size) && growPre2 ops n sz E && Region.seqB .any ops (ops.size - n) n (Array.replicate n true ++ Array.replicate (ops.size - n) false) && Region.noSelect ops

structure GrowInv2 (ops : Array Oper) (n : Nat) (Φ : Nat → Value → World → Prop) (w0 : World) (listed : Array Bool) (vs : Nat → Value) (w : World) : Prop where
  below : Below w0.heap.size w0 w
  size : listed.size = ops.size
  facts : ∀ i, i < n → listed.getD i false = true → Φ i (vs i) w
  tail : ∀ i, n ≤ i → i < ops.size → listed.getD i true = false
  closed : ∀ i o, listed.getD i false = true → ops[i]? = some o → ∀ e ∈ o.after.toList, Region.binds .any e = true → listed.getD e.on false = true
theorem reach_listed {ops : Array Oper} {listed : Array Bool} (hc : ∀ i o, listed.getD i false = true → ops[i]? = some o → ∀ e ∈ o.after.toList, Region.binds .any e = true → listed.getD e.on false = true) : ∀ (f i j : Nat), (∀ o, ops[i]? = some o → ∀ e ∈ o.after.toList, Region.binds .any e = true → listed.getD e.on false = true) → reachB ops f i j = true → listed.getD j false = true
  | 0, _, _, _, h => by simp [reachB] at h
  | f + 1, i, j, hi, h => by
    unfold reachB at h
    cases ho : ops[i]? with
    | none => rw [ho] at h; cases h
    | some o =>
      rw [ho] at h
      simp only [List.any_eq_true, Bool.and_eq_true, Bool.or_eq_true, decide_eq_true_eq] at h
      obtain ⟨e, he, hb, h⟩ := h
      have hl := hi o ho e he hb
      rcases h with rfl | h
      · exact hl
      · exact reach_listed hc f e.on j (fun o' ho' => hc e.on o' hl ho') h

theorem GrowInv2.next {ops : Array Oper} {n : Nat} {Φ : Nat → Value → World → Prop} {w0 w w' : World} {listed : Array Bool} {vs : Nat → Value} (inv : GrowInv2 ops n Φ w0 listed vs w)
    (stable : ∀ i v w w', Φ i v w → Below w.heap.size w w' → Φ i v w') {i : Nat} (hin : i < n) {v : Value} (hb : Below w.heap.size w w') (hφ : Φ i v w') (hdeps : ∀ o, ops[i]? = some o → ∀ e ∈ o.after.toList, Region.binds .any e = true → listed.getD e.on false = true) : GrowInv2 ops n Φ w0 (listed.setIfInBounds i true) (setV vs i v) w' := by
  have up : ∀ k, listed.getD k false = true → (listed.setIfInBounds i true).getD k false = true := fun k hk => by
    by_cases e : k = i
    · subst e
      have hks : k < listed.size := by
        rcases Nat.lt_or_ge k listed.size with h | h
        · exact h
        · rw [Array.getD, dif_neg (by omega)] at hk; cases hk
      simp [Array.getD, hks]
    · rw [getD_set_ne false (Ne.symm e)]; exact hk
  refine ⟨inv.below.trans (hb.mono inv.below.size), by simpa using inv.size, fun j hj hlj => ?_, fun j hj hjs => ?_, fun j o hlj ho e he hbd => ?_⟩
  · by_cases e : j = i
    · subst e; rw [setV_same]; exact hφ
    · rw [setV_ne e]
      exact stable _ _ _ _ (inv.facts j hj (by rwa [getD_set_ne false (Ne.symm e)] at hlj)) hb
  · rw [getD_set_ne true (by omega)]
    exact inv.tail j hj hjs
  · by_cases ej : j = i
    · subst ej; exact up _ (hdeps o ho e he hbd)
    · exact up _ (inv.closed j o (by rwa [getD_set_ne false (Ne.symm ej)] at hlj) ho e he hbd)

theorem wpAny_grow2 {l : List Oper} {n : Nat} {E : List Bool} {Φ : Nat → Value → World → Prop} {a : Act} {w0 : World} (hn : n ≤ l.length)
    (hg : ∀ o ∈ l.take n, o.guard = none) (hd : ∀ o ∈ l.take n, ∃ d, o.dst = some d) (hnd : ((l.take n).map (·.dst)).Nodup)
    (hdep : ∀ i o, i < n → l[i]? = some o → ∀ e ∈ o.after, Region.binds .any e = true → e.on < i)
    (htl : ∀ i o, n ≤ i → l[i]? = some o → ∀ j, j < n → E[j]? ≠ some true → reachB l.toArray l.length i j = true)
    (honce : ∀ i oi, i < n → E[i]? = some true → l[i]? = some oi → ∀ j oj, l[j]? = some oj → j ≠ i → (∀ e ∈ oi.after, Region.binds .any e = true → e.on ≠ j) → (∀ e ∈ oj.after, Region.binds .any e = true → e.on ≠ i) → oi.apart l.toArray oj = true)
    (hsel : Region.noSelect l.toArray = true) (hQ : ∀ c (d : Option Tmp) v a w, Q (.panic c) (a.put d v) w → Q (.panic c) a w)
    (hseq : Region.seqB .any l.toArray (l.length - n) n (Array.replicate n true ++ Array.replicate (l.length - n) false) = true)
    (stable : ∀ i v w w', Φ i v w → Below w.heap.size w w' → Φ i v w')
    (steps : growSteps P Q Φ (l.take n) a w0 0 E (l.take n))
    (tail : ∀ (vs : Nat → Value) (w' : World), Below w0.heap.size w0 w' → allFacts Φ vs w' 0 (l.take n) → wpList P l.toArray Q (l.drop n) (putAll vs a 0 (l.take n)) w') :
    ∀ (m : Nat) (listed : Array Bool) (vs : Nat → Value) (w : World), GrowInv2 l.toArray n Φ w0 listed vs w → unlisted listed n = m → wpAny P .any l.toArray Q (m + (l.length - n)) listed (putAll vs a 0 (l.take n)) w
  | 0, listed, vs, w, inv, hm => by
    have hall := unlisted_zero hm
    have hsz : listed.size = l.length := by simpa using inv.size
    have e : listed = Array.replicate n true ++ Array.replicate (l.length - n) false := by
      refine Array.ext (by simp; omega) fun j h1 h2 => ?_
      rcases Nat.lt_or_ge j n with hj | hj
      · have := hall j hj
        rw [Array.getElem_append_left (by simpa using hj)]
        simpa [Array.getD, h1] using this
      · have := inv.tail j hj (by simpa [inv.size] using h1)
        rw [Array.getElem_append_right (by simpa using hj)]
        simpa [Array.getD, h1] using this
    subst e
    have ht := tail vs w inv.below (allFacts_of fun i hi => by
      have hi' : i < n := by simp at hi; omega
      rw [Nat.zero_add]
      exact inv.facts i hi' (by simp [Array.getD, hi']; omega))
    have hl : (l.drop n).length = l.length - n := by simp
    have := wpAny_of_seq (md := .any) (Q' := Q) (ops := l.toArray) (l.drop n) n _ _ w (fun j => by simp [List.getElem?_drop]) (by rw [hl]; exact hseq) ht
    rw [hl] at this
    simpa using this
  | m + 1, listed, vs, w, inv, hm => by
    have hsz : listed.size = l.length := by simpa using inv.size
    rw [show m + 1 + (l.length - n) = (m + (l.length - n)) + 1 by omega]
    -- the first that is not listed may come up
    have key : ∀ (p : Nat → Prop), (∀ i, i < n → listed.getD i true = false → p i) → ∀ k i, i ≤ k → i < n → listed.getD i true = false → ∃ j, j < n ∧ p j ∧ j ∈ Region.ready .any l.toArray listed := by
      intro p hp k
      induction k with
      | zero =>
        intro i hk hi hl
        obtain rfl : i = 0 := by omega
        exact ⟨0, hi, hp 0 hi hl, mem_ready.2 ⟨hl, l[0], by simp, fun e he hb => absurd (hdep 0 _ hi (by simp) e he hb) (by omega)⟩⟩
      | succ k ih =>
        intro i hk hi hl
        have hlt : i < l.length := by omega
        by_cases hall : ∀ e ∈ (l[i]).after, Region.binds .any e = true → listed.getD e.on false = true
        · exact ⟨i, hi, hp i hi hl, mem_ready.2 ⟨hl, l[i], by simp [hlt], hall⟩⟩
        · simp only [Classical.not_forall] at hall
          obtain ⟨e, he, hb, hx⟩ := hall
          have h1 := hdep i _ hi (by simp [hlt]) e he hb
          exact ih e.on (by omega) (by omega) (getD_in (by omega) (by simpa using hx))
    by_cases hE : ∃ i, i < n ∧ E[i]? = some true ∧ i ∈ Region.ready .any l.toArray listed
    · obtain ⟨i, hin, hEi, hi⟩ := hE
      obtain ⟨hl, o, ho, hdeps⟩ := mem_ready.1 hi
      have ho' : l[i]? = some o := by simpa using ho
      have hpre : (l.take n)[i]? = some o := by rw [List.getElem?_take_of_lt hin]; exact ho'
      have hmem : o ∈ l.take n := List.mem_of_getElem? hpre
      obtain ⟨v, hv, hφ⟩ := growSteps_once steps hpre hEi vs w inv.below (depFacts_of fun e he hb => inv.facts e.on (by have := hdep i o hin ho' e (by simpa using he) hb; omega) (hdeps e (by simpa using he) hb))
      rw [Nat.zero_add] at hφ
      refine wpAny_first ho (Region.noSelect_spec hsel) (fun c a w h => hQ c _ _ a w h) _ listed _ w (fun j oj hj hji hun hno => honce i o hin hEi ho' j oj (by simpa using hj) hji (fun e he hb hej => ?_) hno) hi (.inl ⟨by unfold Region.wanted; rw [hg o hmem], hv⟩) ?_
      · have h1 := hdeps e he hb
        rw [hej, getD_both hun] at h1; cases h1
      · have e1 := putAll_put vs a v (l.take n) 0 i o hpre hnd hd
        rw [Nat.zero_add] at e1
        rw [e1]
        have hsi : i < listed.size := by rw [hsz]; omega
        exact wpAny_grow2 hn hg hd hnd hdep htl honce hsel hQ hseq stable steps tail m _ _ _ (inv.next stable hin (Below.refl _ _) hφ fun o' ho2 e he hb => hdeps e (by rw [ho] at ho2; injection ho2 with ho2; subst ho2; simpa using he) hb) (by have := unlisted_set hl hsi hin; omega)
    refine ⟨fun hr => ?_, fun i hi => ?_⟩
    · exfalso
      obtain ⟨i, hi, hl⟩ := unlisted_some (listed := listed) (n := n) (by omega)
      obtain ⟨j, _, _, hj⟩ := key (fun _ => True) (fun _ _ _ => trivial) i i (Nat.le_refl _) hi hl
      rw [hr] at hj; cases hj
    · obtain ⟨hl, o, ho, hdeps⟩ := mem_ready.1 hi
      have ho' : l[i]? = some o := by simpa using ho
      rcases Nat.lt_or_ge i n with hin | hin
      · have hpre : (l.take n)[i]? = some o := by rw [List.getElem?_take_of_lt hin]; exact ho'
        have hmem : o ∈ l.take n := List.mem_of_getElem? hpre
        refine wpOp_step ho fun K hK => ?_
        rw [if_pos (by unfold Region.wanted; rw [hg o hmem])]
        refine growSteps_at steps hpre (fun hEi => hE ⟨i, hin, hEi, hi⟩) vs w inv.below (depFacts_of fun e he hb => inv.facts e.on (by have := hdep i o hin ho' e (by simpa using he) hb; omega) (hdeps e (by simpa using he) hb)) K fun v w' hb hφ => hK _ _ ?_
        rw [Nat.zero_add] at hφ
        have e1 := putAll_put vs a v (l.take n) 0 i o hpre hnd hd
        rw [Nat.zero_add] at e1
        rw [e1]
        have hsi : i < listed.size := by rw [hsz]; omega
        exact wpAny_grow2 hn hg hd hnd hdep htl honce hsel hQ hseq stable steps tail m _ _ _ (inv.next stable hin hb hφ fun o' ho2 e he hb => hdeps e (by rw [ho] at ho2; injection ho2 with ho2; subst ho2; simpa using he) hb) (by have := unlisted_set hl hsi hin; omega)
      · exfalso
        obtain ⟨j, hj, hlj⟩ := unlisted_some (listed := listed) (n := n) (by omega)
        obtain ⟨j', hj', hp, hr⟩ := key (fun j => E[j]? = some true) (fun j hj hlj => by
          by_cases hEj : E[j]? = some true
          · exact hEj
          · have h1 := reach_listed inv.closed l.length i j (fun o' ho2 e he hb => hdeps e (by rw [ho] at ho2; injection ho2 with ho2; subst ho2; simpa using he) hb) (htl i o hin ho' j hj hEj)
            rw [getD_both hlj] at h1; cases h1) j j (Nat.le_refl _) hj hlj
        exact hE ⟨j', hj', hp, hr⟩

/-- **A region that draws its order and makes memory**: each of its first n operations is shown once, from whatever came ahead of it; the others follow. E marks those that leave the world alone. -/
theorem wp_region_grow2 {id : Nat} {l : List Oper} {a : Act} {w : World} (n sz : Nat) (E : List Bool) (Φ : Nat → Value → World → Prop) (hm : P.follows .mixedOrders = true) (hB : growB2 l.toArray n sz E = true) (hsz : sz = a.tmps.size)
    (hQ : ∀ c (d : Option Tmp) v a w, Q (.panic c) (a.put d v) w → Q (.panic c) a w)
    (stable : ∀ i v w w', Φ i v w → Below w.heap.size w w' → Φ i v w')
    (steps : growSteps P Q Φ (l.take n) a w.drew 0 E (l.take n))
    (tail : ∀ (vs : Nat → Value) (w' : World), Below w.drew.heap.size w.drew w' → allFacts Φ vs w' 0 (l.take n) → wpList P l.toArray Q (l.drop n) (putAll vs a 0 (l.take n)) w') :
    (Code.region id l.toArray true).wp P Q a w := by
  simp only [growB2, growPre2, Bool.and_eq_true, decide_eq_true_eq, List.all_eq_true, List.mem_range, List.size_toArray] at hB
  obtain ⟨⟨⟨hn, ⟨⟨⟨h1, h2⟩, h3⟩, h4⟩, h6⟩, h5⟩, h7⟩ := hB
  have hd : ∀ o ∈ l.take n, ∃ d, o.dst = some d ∧ d < a.tmps.size := fun o ho => by
    have := (h1 o ho).2
    cases hx : o.dst with
    | none => rw [hx] at this; cases this
    | some d => rw [hx] at this; exact ⟨d, rfl, by rw [← hsz]; simpa using this⟩
  obtain ⟨vs, hvs⟩ := putAll_self a (l.take n) 0 hd h2
  refine wp_region_any hm ?_
  have H := wpAny_grow2 (P := P) (Q := Q) (Φ := Φ) (a := a) (w0 := w.drew) (E := E) hn (fun o ho => by simpa using (h1 o ho).1) (fun o ho => by obtain ⟨d, e, _⟩ := hd o ho; exact ⟨d, e⟩) h2
    (fun i o hi ho e he hb => by
      have := h3 i hi
      rw [List.getElem?_toArray, ho] at this
      simp only [List.all_eq_true, Bool.or_eq_true, Bool.not_eq_true', decide_eq_true_eq] at this
      exact (this e (by simpa using he)).resolve_left (by rw [hb]; exact Bool.noConfusion))
    (fun i o hi ho j hj hEj => by
      have hil : i < l.length := (List.getElem?_eq_some_iff.1 ho).1
      have := h4 (i - n) (by omega) j hj
      rw [show n + (i - n) = i by omega] at this
      rw [Bool.or_eq_true, decide_eq_true_eq] at this
      exact this.resolve_left hEj)
    (fun i oi hi hEi ho j oj hj hji hno1 hno2 => by
      have hjl : j < l.length := (List.getElem?_eq_some_iff.1 hj).1
      have := (Bool.or_eq_true _ _ ▸ h6 i hi : decide (E[i]? ≠ some true) = true ∨ atOnceB l.toArray i = true).resolve_left (by simp [hEi])
      unfold atOnceB at this
      rw [List.getElem?_toArray, ho] at this
      simp only [List.all_eq_true, List.mem_range, List.size_toArray] at this
      have h := this j hjl
      rw [List.getElem?_toArray, hj] at h
      simp only [Bool.or_eq_true, decide_eq_true_eq, List.any_eq_true, Bool.and_eq_true] at h
      rcases h with (h | ⟨e, he, hb, h⟩) | ⟨e, he, hb, h⟩ | h
      · exact absurd h hji
      · exact absurd h (hno1 e (by simpa using he) hb)
      · exact absurd h (hno2 e (by simpa using he) hb)
      · exact h)
    h7 hQ h5 stable steps tail n (Array.replicate l.length false) vs w.drew ⟨Below.refl _ _, by simp, fun i _ h => (by rw [getD_replicate_false] at h; cases h), fun i _ hi => getD_in (by simpa using hi) (getD_replicate_false _ _), fun i _ h => (by rw [getD_replicate_false] at h; cases h)⟩ (unlisted_all hn)
  rw [hvs, show n + (l.length - n) = l.length by omega] at H
  simpa using H
/-- .. where the post may hang on the frame at a panic: the operations are then shown not to panic. -/
theorem wp_region_grow2_calm {id : Nat} {l : List Oper} {a : Act} {w : World} (n sz : Nat) (E : List Bool) (Φ : Nat → Value → World → Prop) (hm : P.follows .mixedOrders = true) (hB : growB2 l.toArray n sz E = true) (hsz : sz = a.tmps.size)
    (stable : ∀ i v w w', Φ i v w → Below w.heap.size w w' → Φ i v w')
    (steps : growSteps P (NoPanic Q) Φ (l.take n) a w.drew 0 E (l.take n))
    (tail : ∀ (vs : Nat → Value) (w' : World), Below w.drew.heap.size w.drew w' → allFacts Φ vs w' 0 (l.take n) → wpList P l.toArray (NoPanic Q) (l.drop n) (putAll vs a 0 (l.take n)) w') :
    (Code.region id l.toArray true).wp P Q a w :=
  wp_region_noPanic (wp_region_grow2 n sz E Φ hm hB hsz (fun _ _ _ _ _ h => (h : False).elim) stable steps tail)
end
end Go.Proofs.Ytdgnengfcabgjaa
namespace Go.Proofs.Ytdgnengfcabgjaa
open Go.RowKit

section
variable {P : Program} {Q : Exit → Act → World → Prop}
/-- The interval of an operation is laid. -/
def setG (It : Nat → Nat × Nat) (i : Nat) (g : Nat × Nat) : Nat → Nat × Nat := fun j => if j = i then g else It j
theorem setG_same (It : Nat → Nat × Nat) (i : Nat) (g : Nat × Nat) : setG It i g i = g := by simp [setG]
theorem setG_ne {It : Nat → Nat × Nat} {i j : Nat} {g : Nat × Nat} (h : j ≠ i) : setG It i g j = It j := by simp [setG, h]
/-- Each operation, from whatever came ahead of it. (The marks: an operation that leaves the world alone whatever it is may be taken at once.) -/
def growSteps4 (R : World → World → Prop) (S : Nat → World → World → Prop) (P : Program) (Q : Exit → Act → World → Prop) (Φ : Nat → Value → (Nat → Nat × Nat) → World → Prop) (pre : List Oper) (a : Act) (w0 : World) : Nat → List Bool → List Oper → Prop
  | _, _, [] => True
  | i, true :: bs, o :: r => (∀ (vs : Nat → Value) (It : Nat → Nat × Nat) (w : World), R w0 w → depFacts (fun i v w => Φ i v It w) vs w o.after.toList →
      ∃ v, (∀ w', (execOp (putAll vs a 0 pre).eval o).run P w' = .ok (.value v) w') ∧ Φ i v (setG It i (w.heap.size, w.heap.size)) w) ∧ growSteps4 R S P Q Φ pre a w0 (i + 1) bs r
  | i, false :: bs, o :: r => (∀ (vs : Nat → Value) (It : Nat → Nat × Nat) (w : World), R w0 w → depFacts (fun i v w => Φ i v It w) vs w o.after.toList → ∀ K : Act → World → Prop,
      (∀ v w', S i w w' → Φ i v (setG It i (w.heap.size, w'.heap.size)) w' → K ((putAll vs a 0 pre).put o.dst v) w') → o.wp P (putAll vs a 0 pre) w K Q) ∧ growSteps4 R S P Q Φ pre a w0 (i + 1) bs r
  | _, [], _ :: _ => False

theorem growSteps4_at {R : World → World → Prop} {S : Nat → World → World → Prop} {Φ : Nat → Value → (Nat → Nat × Nat) → World → Prop} {pre : List Oper} {a : Act} {w0 : World} : ∀ {l : List Oper} {E : List Bool} {k i : Nat} {o : Oper}, growSteps4 R S P Q Φ pre a w0 k E l → l[i]? = some o → E[i]? ≠ some true →
    ∀ (vs : Nat → Value) (It : Nat → Nat × Nat) (w : World), R w0 w → depFacts (fun i v w => Φ i v It w) vs w o.after.toList → ∀ K : Act → World → Prop,
      (∀ v w', S (k + i) w w' → Φ (k + i) v (setG It (k + i) (w.heap.size, w'.heap.size)) w' → K ((putAll vs a 0 pre).put o.dst v) w') → o.wp P (putAll vs a 0 pre) w K Q
  | [], _, _, _, _, _, h, _ => by simp at h
  | x :: r, [], _, _, _, hs, _, _ => hs.elim
  | x :: r, true :: bs, k, 0, o, _, _, he => absurd rfl he
  | x :: r, false :: bs, k, 0, o, hs, h, _ => by
    simp only [List.getElem?_cons_zero, Option.some.injEq] at h
    subst h
    exact hs.1
  | x :: r, true :: bs, k, i + 1, o, hs, h, he => by
    simp only [List.getElem?_cons_succ] at h he
    have := growSteps4_at hs.2 h he
    rwa [show k + 1 + i = k + (i + 1) by omega] at this
  | x :: r, false :: bs, k, i + 1, o, hs, h, he => by
    simp only [List.getElem?_cons_succ] at h he
    have := growSteps4_at hs.2 h he
    rwa [show k + 1 + i = k + (i + 1) by omega] at this
theorem growSteps4_once {R : World → World → Prop} {S : Nat → World → World → Prop} {Φ : Nat → Value → (Nat → Nat × Nat) → World → Prop} {pre : List Oper} {a : Act} {w0 : World} : ∀ {l : List Oper} {E : List Bool} {k i : Nat} {o : Oper}, growSteps4 R S P Q Φ pre a w0 k E l → l[i]? = some o → E[i]? = some true →
    ∀ (vs : Nat → Value) (It : Nat → Nat × Nat) (w : World), R w0 w → depFacts (fun i v w => Φ i v It w) vs w o.after.toList → ∃ v, (∀ w', (execOp (putAll vs a 0 pre).eval o).run P w' = .ok (.value v) w') ∧ Φ (k + i) v (setG It (k + i) (w.heap.size, w.heap.size)) w
  | [], _, _, _, _, _, h, _ => by simp at h
  | x :: r, [], _, _, _, hs, _, _ => hs.elim
  | x :: r, false :: bs, k, 0, o, _, _, he => by simp at he
  | x :: r, true :: bs, k, 0, o, hs, h, _ => by
    simp only [List.getElem?_cons_zero, Option.some.injEq] at h
    subst h
    exact hs.1
  | x :: r, true :: bs, k, i + 1, o, hs, h, he => by
    simp only [List.getElem?_cons_succ] at h he
    have := growSteps4_once hs.2 h he
    rwa [show k + 1 + i = k + (i + 1) by omega] at this
  | x :: r, false :: bs, k, i + 1, o, hs, h, he => by
    simp only [List.getElem?_cons_succ] at h he
    have := growSteps4_once hs.2 h he
    rwa [show k + 1 + i = k + (i + 1) by omega] at this
structure GrowInv4 (R : World → World → Prop) (ops : Array Oper) (n : Nat) (Φ : Nat → Value → (Nat → Nat × Nat) → World → Prop) (w0 : World) (listed : Array Bool) (vs : Nat → Value) (It : Nat → Nat × Nat) (w : World) : Prop where
  below : R w0 w
  size : listed.size = ops.size
  facts : ∀ i, i < n → listed.getD i false = true → Φ i (vs i) It w
  ivl : ∀ i, listed.getD i false = true → (It i).2 ≤ w.heap.size
  disj : ∀ i j, i ≠ j → listed.getD i false = true → listed.getD j false = true → (It i).2 ≤ (It j).1 ∨ (It j).2 ≤ (It i).1
  tail : ∀ i, n ≤ i → i < ops.size → listed.getD i true = false
  closed : ∀ i o, listed.getD i false = true → ops[i]? = some o → ∀ e ∈ o.after.toList, Region.binds .any e = true → listed.getD e.on false = true
theorem GrowInv4.next {R : World → World → Prop} {S : Nat → World → World → Prop} (hS : ∀ j w w', S j w w' → R w w') (Rt : ∀ a b c, R a b → R b c → R a c) {ops : Array Oper} {n : Nat} {Φ : Nat → Value → (Nat → Nat × Nat) → World → Prop} {w0 w w' : World} {listed : Array Bool} {vs : Nat → Value} {It : Nat → Nat × Nat} (hz : ∀ a b, R a b → a.heap.size ≤ b.heap.size) (loc : ∀ i k v It g w, i ≠ k → reachB ops ops.size i k = false → Φ i v It w → Φ i v (setG It k g) w) (inv : GrowInv4 R ops n Φ w0 listed vs It w)
    (stable : ∀ i j v It w w', i ≠ j → reachB ops ops.size i j = false → Φ i v It w → S j w w' → Φ i v It w') {i : Nat} (hin : i < n) (hni : listed.getD i true = false) {v : Value} (hb : S i w w') (hφ : Φ i v (setG It i (w.heap.size, w'.heap.size)) w') (hdeps : ∀ o, ops[i]? = some o → ∀ e ∈ o.after.toList, Region.binds .any e = true → listed.getD e.on false = true) : GrowInv4 R ops n Φ w0 (listed.setIfInBounds i true) (setV vs i v) (setG It i (w.heap.size, w'.heap.size)) w' := by
  have up : ∀ k, listed.getD k false = true → (listed.setIfInBounds i true).getD k false = true := fun k hk => by
    by_cases e : k = i
    · subst e
      have hks : k < listed.size := by
        rcases Nat.lt_or_ge k listed.size with h | h
        · exact h
        · rw [Array.getD, dif_neg (by omega)] at hk; cases hk
      simp [Array.getD, hks]
    · rw [getD_set_ne false (Ne.symm e)]; exact hk
  refine ⟨Rt _ _ _ inv.below (hS _ _ _ hb), by simpa using inv.size, fun j hj hlj => ?_, fun j hlj => ?_, fun j k hjk hlj hlk => ?_, fun j hj hjs => ?_, fun j o hlj ho e he hbd => ?_⟩
  · by_cases e : j = i
    · subst e; rw [setV_same]; exact hφ
    · rw [setV_ne e]
      have hlj' : listed.getD j false = true := by rwa [getD_set_ne false (Ne.symm e)] at hlj
      have hnr : reachB ops ops.size j i = false := by
       cases hr : reachB ops ops.size j i
       · rfl
       · exfalso
         have h1 := reach_listed inv.closed ops.size j i (fun o' ho2 e' he hb' => inv.closed j o' hlj' ho2 e' he hb') hr
         rw [getD_both hni] at h1; cases h1
      exact loc _ _ _ _ _ _ e hnr (stable _ _ _ _ _ _ e hnr (inv.facts j hj hlj') hb)
  · by_cases e : j = i
    · subst e; rw [setG_same]; exact Nat.le_refl _
    · rw [setG_ne e]
      exact Nat.le_trans (inv.ivl j (by rwa [getD_set_ne false (Ne.symm e)] at hlj)) (hz _ _ (hS _ _ _ hb))
  · by_cases ej : j = i
    · subst ej
      rw [setG_same, setG_ne (Ne.symm hjk)]
      exact .inr (inv.ivl k (by rwa [getD_set_ne false hjk] at hlk))
    · by_cases ek : k = i
      · subst ek
        rw [setG_same, setG_ne ej]
        exact .inl (inv.ivl j (by rwa [getD_set_ne false (Ne.symm ej)] at hlj))
      · rw [setG_ne ej, setG_ne ek]
        exact inv.disj j k hjk (by rwa [getD_set_ne false (Ne.symm ej)] at hlj) (by rwa [getD_set_ne false (Ne.symm ek)] at hlk)
  · rw [getD_set_ne true (by omega)]
    exact inv.tail j hj hjs
  · by_cases ej : j = i
    · subst ej; exact up _ (hdeps o ho e he hbd)
    · exact up _ (inv.closed j o (by rwa [getD_set_ne false (Ne.symm ej)] at hlj) ho e he hbd)

theorem wpAny_grow4 {R : World → World → Prop} {S : Nat → World → World → Prop} (hS : ∀ j w w', S j w w' → R w w') (Sr : ∀ j w, S j w w) (Rr : ∀ w, R w w) (Rt : ∀ a b c, R a b → R b c → R a c) {l : List Oper} {n : Nat} {E : List Bool} {Φ : Nat → Value → (Nat → Nat × Nat) → World → Prop} {a : Act} {w0 : World} (hn : n ≤ l.length)
    (hg : ∀ o ∈ l.take n, o.guard = none) (hd : ∀ o ∈ l.take n, ∃ d, o.dst = some d) (hnd : ((l.take n).map (·.dst)).Nodup)
    (hdep : ∀ i o, i < n → l[i]? = some o → ∀ e ∈ o.after, Region.binds .any e = true → e.on < i)
    (htl : ∀ i o, n ≤ i → l[i]? = some o → ∀ j, j < n → E[j]? ≠ some true → reachB l.toArray l.length i j = true)
    (honce : ∀ i oi, i < n → E[i]? = some true → l[i]? = some oi → ∀ j oj, l[j]? = some oj → j ≠ i → (∀ e ∈ oi.after, Region.binds .any e = true → e.on ≠ j) → (∀ e ∈ oj.after, Region.binds .any e = true → e.on ≠ i) → oi.apart l.toArray oj = true)
    (hsel : Region.noSelect l.toArray = true) (hQ : ∀ c (d : Option Tmp) v a w, Q (.panic c) (a.put d v) w → Q (.panic c) a w)
    (hseq : Region.seqB .any l.toArray (l.length - n) n (Array.replicate n true ++ Array.replicate (l.length - n) false) = true)
    (hz : ∀ a b, R a b → a.heap.size ≤ b.heap.size) (loc : ∀ i k v It g w, i ≠ k → reachB l.toArray l.length i k = false → Φ i v It w → Φ i v (setG It k g) w)
    (stable : ∀ i j v It w w', i ≠ j → reachB l.toArray l.length i j = false → Φ i v It w → S j w w' → Φ i v It w')
    (steps : growSteps4 R S P Q Φ (l.take n) a w0 0 E (l.take n))
    (tail : ∀ (vs : Nat → Value) (It : Nat → Nat × Nat) (w' : World), R w0 w' → (∀ i j, i ≠ j → i < n → j < n → (It i).2 ≤ (It j).1 ∨ (It j).2 ≤ (It i).1) → allFacts (fun i v w => Φ i v It w) vs w' 0 (l.take n) → wpList P l.toArray Q (l.drop n) (putAll vs a 0 (l.take n)) w') :
    ∀ (m : Nat) (listed : Array Bool) (vs : Nat → Value) (It : Nat → Nat × Nat) (w : World), GrowInv4 R l.toArray n Φ w0 listed vs It w → unlisted listed n = m → wpAny P .any l.toArray Q (m + (l.length - n)) listed (putAll vs a 0 (l.take n)) w
  | 0, listed, vs, It, w, inv, hm => by
    have hall := unlisted_zero hm
    have hsz : listed.size = l.length := by simpa using inv.size
    have e : listed = Array.replicate n true ++ Array.replicate (l.length - n) false := by
      refine Array.ext (by simp; omega) fun j h1 h2 => ?_
      rcases Nat.lt_or_ge j n with hj | hj
      · have := hall j hj
        rw [Array.getElem_append_left (by simpa using hj)]
        simpa [Array.getD, h1] using this
      · have := inv.tail j hj (by simpa [inv.size] using h1)
        rw [Array.getElem_append_right (by simpa using hj)]
        simpa [Array.getD, h1] using this
    subst e
    have hlt : ∀ i, i < n → (Array.replicate n true ++ Array.replicate (l.length - n) false).getD i false = true := fun i hi => by simp [Array.getD, hi]; omega
    have ht := tail vs It w inv.below (fun i j hij hi hj => inv.disj i j hij (hlt i hi) (hlt j hj)) (allFacts_of (Φ := fun i v w => Φ i v It w) fun i hi => by
      have hi' : i < n := by simp at hi; omega
      rw [Nat.zero_add]
      exact inv.facts i hi' (by simp [Array.getD, hi']; omega))
    have hl : (l.drop n).length = l.length - n := by simp
    have := wpAny_of_seq (md := .any) (Q' := Q) (ops := l.toArray) (l.drop n) n _ _ w (fun j => by simp [List.getElem?_drop]) (by rw [hl]; exact hseq) ht
    rw [hl] at this
    simpa using this
  | m + 1, listed, vs, It, w, inv, hm => by
    have hsz : listed.size = l.length := by simpa using inv.size
    rw [show m + 1 + (l.length - n) = (m + (l.length - n)) + 1 by omega]
    -- the first that is not listed may come up
    have key : ∀ (p : Nat → Prop), (∀ i, i < n → listed.getD i true = false → p i) → ∀ k i, i ≤ k → i < n → listed.getD i true = false → ∃ j, j < n ∧ p j ∧ j ∈ Region.ready .any l.toArray listed := by
      intro p hp k
      induction k with
      | zero =>
        intro i hk hi hl
        obtain rfl : i = 0 := by omega
        exact ⟨0, hi, hp 0 hi hl, mem_ready.2 ⟨hl, l[0], by simp, fun e he hb => absurd (hdep 0 _ hi (by simp) e he hb) (by omega)⟩⟩
      | succ k ih =>
        intro i hk hi hl
        have hlt : i < l.length := by omega
        by_cases hall : ∀ e ∈ (l[i]).after, Region.binds .any e = true → listed.getD e.on false = true
        · exact ⟨i, hi, hp i hi hl, mem_ready.2 ⟨hl, l[i], by simp [hlt], hall⟩⟩
        · simp only [Classical.not_forall] at hall
          obtain ⟨e, he, hb, hx⟩ := hall
          have h1 := hdep i _ hi (by simp [hlt]) e he hb
          exact ih e.on (by omega) (by omega) (getD_in (by omega) (by simpa using hx))
    by_cases hE : ∃ i, i < n ∧ E[i]? = some true ∧ i ∈ Region.ready .any l.toArray listed
    · obtain ⟨i, hin, hEi, hi⟩ := hE
      obtain ⟨hl, o, ho, hdeps⟩ := mem_ready.1 hi
      have ho' : l[i]? = some o := by simpa using ho
      have hpre : (l.take n)[i]? = some o := by rw [List.getElem?_take_of_lt hin]; exact ho'
      have hmem : o ∈ l.take n := List.mem_of_getElem? hpre
      obtain ⟨v, hv, hφ⟩ := growSteps4_once steps hpre hEi vs It w inv.below (depFacts_of (Φ := fun i v w => Φ i v It w) fun e he hb => inv.facts e.on (by have := hdep i o hin ho' e (by simpa using he) hb; omega) (hdeps e (by simpa using he) hb))
      rw [Nat.zero_add] at hφ
      refine wpAny_first ho (Region.noSelect_spec hsel) (fun c a w h => hQ c _ _ a w h) _ listed _ w (fun j oj hj hji hun hno => honce i o hin hEi ho' j oj (by simpa using hj) hji (fun e he hb hej => ?_) hno) hi (.inl ⟨by unfold Region.wanted; rw [hg o hmem], hv⟩) ?_
      · have h1 := hdeps e he hb
        rw [hej, getD_both hun] at h1; cases h1
      · have e1 := putAll_put vs a v (l.take n) 0 i o hpre hnd hd
        rw [Nat.zero_add] at e1
        rw [e1]
        have hsi : i < listed.size := by rw [hsz]; omega
        exact wpAny_grow4 hS Sr Rr Rt hn hg hd hnd hdep htl honce hsel hQ hseq hz loc stable steps tail m _ _ _ _ (GrowInv4.next (R := R) (S := S) hS Rt hz (by simpa using loc) inv (by simpa using stable) hin hl (Sr _ _) hφ fun o' ho2 e he hb => hdeps e (by rw [ho] at ho2; injection ho2 with ho2; subst ho2; simpa using he) hb) (by have := unlisted_set hl hsi hin; omega)
    refine ⟨fun hr => ?_, fun i hi => ?_⟩
    · exfalso
      obtain ⟨i, hi, hl⟩ := unlisted_some (listed := listed) (n := n) (by omega)
      obtain ⟨j, _, _, hj⟩ := key (fun _ => True) (fun _ _ _ => trivial) i i (Nat.le_refl _) hi hl
      rw [hr] at hj; cases hj
    · obtain ⟨hl, o, ho, hdeps⟩ := mem_ready.1 hi
      have ho' : l[i]? = some o := by simpa using ho
      rcases Nat.lt_or_ge i n with hin | hin
      · have hpre : (l.take n)[i]? = some o := by rw [List.getElem?_take_of_lt hin]; exact ho'
        have hmem : o ∈ l.take n := List.mem_of_getElem? hpre
        refine wpOp_step ho fun K hK => ?_
        rw [if_pos (by unfold Region.wanted; rw [hg o hmem])]
        refine growSteps4_at steps hpre (fun hEi => hE ⟨i, hin, hEi, hi⟩) vs It w inv.below (depFacts_of (Φ := fun i v w => Φ i v It w) fun e he hb => inv.facts e.on (by have := hdep i o hin ho' e (by simpa using he) hb; omega) (hdeps e (by simpa using he) hb)) K fun v w' hb hφ => hK _ _ ?_
        rw [Nat.zero_add] at hφ hb
        have e1 := putAll_put vs a v (l.take n) 0 i o hpre hnd hd
        rw [Nat.zero_add] at e1
        rw [e1]
        have hsi : i < listed.size := by rw [hsz]; omega
        exact wpAny_grow4 hS Sr Rr Rt hn hg hd hnd hdep htl honce hsel hQ hseq hz loc stable steps tail m _ _ _ _ (GrowInv4.next (R := R) (S := S) hS Rt hz (by simpa using loc) inv (by simpa using stable) hin hl hb hφ fun o' ho2 e he hb => hdeps e (by rw [ho] at ho2; injection ho2 with ho2; subst ho2; simpa using he) hb) (by have := unlisted_set hl hsi hin; omega)
      · exfalso
        obtain ⟨j, hj, hlj⟩ := unlisted_some (listed := listed) (n := n) (by omega)
        obtain ⟨j', hj', hp, hr⟩ := key (fun j => E[j]? = some true) (fun j hj hlj => by
          by_cases hEj : E[j]? = some true
          · exact hEj
          · have h1 := reach_listed inv.closed l.length i j (fun o' ho2 e he hb => hdeps e (by rw [ho] at ho2; injection ho2 with ho2; subst ho2; simpa using he) hb) (htl i o hin ho' j hj hEj)
            rw [getD_both hlj] at h1; cases h1) j j (Nat.le_refl _) hj hlj
        exact hE ⟨j', hj', hp, hr⟩

/-- **A region that draws its order and makes memory**: each of its first n operations is shown once, from whatever came ahead of it; the others follow. E marks those that leave the world alone. -/
theorem wp_region_grow4 (R : World → World → Prop) (S : Nat → World → World → Prop) (hS : ∀ j w w', S j w w' → R w w') (Sr : ∀ j w, S j w w) (Rr : ∀ w, R w w) (Rt : ∀ a b c, R a b → R b c → R a c) {id : Nat} {l : List Oper} {a : Act} {w : World} (n sz : Nat) (E : List Bool) (Φ : Nat → Value → (Nat → Nat × Nat) → World → Prop) (hm : P.follows .mixedOrders = true) (hB : growB2 l.toArray n sz E = true) (hsz : sz = a.tmps.size)
    (hQ : ∀ c (d : Option Tmp) v a w, Q (.panic c) (a.put d v) w → Q (.panic c) a w)
    (hz : ∀ a b, R a b → a.heap.size ≤ b.heap.size) (loc : ∀ i k v It g w, i ≠ k → reachB l.toArray l.length i k = false → Φ i v It w → Φ i v (setG It k g) w)
    (stable : ∀ i j v It w w', i ≠ j → reachB l.toArray l.length i j = false → Φ i v It w → S j w w' → Φ i v It w')
    (steps : growSteps4 R S P Q Φ (l.take n) a w.drew 0 E (l.take n))
    (tail : ∀ (vs : Nat → Value) (It : Nat → Nat × Nat) (w' : World), R w.drew w' → (∀ i j, i ≠ j → i < n → j < n → (It i).2 ≤ (It j).1 ∨ (It j).2 ≤ (It i).1) → allFacts (fun i v w => Φ i v It w) vs w' 0 (l.take n) → wpList P l.toArray Q (l.drop n) (putAll vs a 0 (l.take n)) w') :
    (Code.region id l.toArray true).wp P Q a w := by
  simp only [growB2, growPre2, Bool.and_eq_true, decide_eq_true_eq, List.all_eq_true, List.mem_range, List.size_toArray] at hB
  obtain ⟨⟨⟨hn, ⟨⟨⟨h1, h2⟩, h3⟩, h4⟩, h6⟩, h5⟩, h7⟩ := hB
  have hd : ∀ o ∈ l.take n, ∃ d, o.dst = some d ∧ d < a.tmps.size := fun o ho => by
    have := (h1 o ho).2
    cases hx : o.dst with
    | none => rw [hx] at this; cases this
    | some d => rw [hx] at this; exact ⟨d, rfl, by rw [← hsz]; simpa using this⟩
  obtain ⟨vs, hvs⟩ := putAll_self a (l.take n) 0 hd h2
  refine wp_region_any hm ?_
  have H := wpAny_grow4 (R := R) (S := S) hS Sr Rr Rt (P := P) (Q := Q) (Φ := Φ) (a := a) (w0 := w.drew) (E := E) hn (fun o ho => by simpa using (h1 o ho).1) (fun o ho => by obtain ⟨d, e, _⟩ := hd o ho; exact ⟨d, e⟩) h2
    (fun i o hi ho e he hb => by
      have := h3 i hi
      rw [List.getElem?_toArray, ho] at this
      simp only [List.all_eq_true, Bool.or_eq_true, Bool.not_eq_true', decide_eq_true_eq] at this
      exact (this e (by simpa using he)).resolve_left (by rw [hb]; exact Bool.noConfusion))
    (fun i o hi ho j hj hEj => by
      have hil : i < l.length := (List.getElem?_eq_some_iff.1 ho).1
      have := h4 (i - n) (by omega) j hj
      rw [show n + (i - n) = i by omega] at this
      rw [Bool.or_eq_true, decide_eq_true_eq] at this
      exact this.resolve_left hEj)
    (fun i oi hi hEi ho j oj hj hji hno1 hno2 => by
      have hjl : j < l.length := (List.getElem?_eq_some_iff.1 hj).1
      have := (Bool.or_eq_true _ _ ▸ h6 i hi : decide (E[i]? ≠ some true) = true ∨ atOnceB l.toArray i = true).resolve_left (by simp [hEi])
      unfold atOnceB at this
      rw [List.getElem?_toArray, ho] at this
      simp only [List.all_eq_true, List.mem_range, List.size_toArray] at this
      have h := this j hjl
      rw [List.getElem?_toArray, hj] at h
      simp only [Bool.or_eq_true, decide_eq_true_eq, List.any_eq_true, Bool.and_eq_true] at h
      rcases h with (h | ⟨e, he, hb, h⟩) | ⟨e, he, hb, h⟩ | h
      · exact absurd h hji
      · exact absurd h (hno1 e (by simpa using he) hb)
      · exact absurd h (hno2 e (by simpa using he) hb)
      · exact h)
    h7 hQ h5 hz loc stable steps tail n (Array.replicate l.length false) vs (fun _ => (0, 0)) w.drew ⟨Rr _, by simp, fun i _ h => (by rw [getD_replicate_false] at h; cases h), fun i h => (by rw [getD_replicate_false] at h; cases h), fun i _ _ h => (by rw [getD_replicate_false] at h; cases h), fun i _ hi => getD_in (by simpa using hi) (getD_replicate_false _ _), fun i _ h => (by rw [getD_replicate_false] at h; cases h)⟩ (unlisted_all hn)
  rw [hvs, show n + (l.length - n) = l.length by omega] at H
  simpa using H
/-- .. where the post may hang on the frame at a panic: the operations are then shown not to panic. -/
theorem wp_region_grow4_calm (R : World → World → Prop) (S : Nat → World → World → Prop) (hS : ∀ j w w', S j w w' → R w w') (Sr : ∀ j w, S j w w) (Rr : ∀ w, R w w) (Rt : ∀ a b c, R a b → R b c → R a c) {id : Nat} {l : List Oper} {a : Act} {w : World} (n sz : Nat) (E : List Bool) (Φ : Nat → Value → (Nat → Nat × Nat) → World → Prop) (hm : P.follows .mixedOrders = true) (hB : growB2 l.toArray n sz E = true) (hsz : sz = a.tmps.size)
    (hz : ∀ a b, R a b → a.heap.size ≤ b.heap.size) (loc : ∀ i k v It g w, i ≠ k → reachB l.toArray l.length i k = false → Φ i v It w → Φ i v (setG It k g) w)
    (stable : ∀ i j v It w w', i ≠ j → reachB l.toArray l.length i j = false → Φ i v It w → S j w w' → Φ i v It w')
    (steps : growSteps4 R S P (NoPanic Q) Φ (l.take n) a w.drew 0 E (l.take n))
    (tail : ∀ (vs : Nat → Value) (It : Nat → Nat × Nat) (w' : World), R w.drew w' → (∀ i j, i ≠ j → i < n → j < n → (It i).2 ≤ (It j).1 ∨ (It j).2 ≤ (It i).1) → allFacts (fun i v w => Φ i v It w) vs w' 0 (l.take n) → wpList P l.toArray (NoPanic Q) (l.drop n) (putAll vs a 0 (l.take n)) w') :
    (Code.region id l.toArray true).wp P Q a w :=
  wp_region_noPanic (wp_region_grow4 R S hS Sr Rr Rt n sz E Φ hm hB hsz (fun _ _ _ _ _ h => (h : False).elim) hz loc stable steps tail)
end
end Go.Proofs.Ytdgnengfcabgjaa
