/-
  A loop over an iterator whose elements can be read in memory: the contract of such an iterator, and the law of the loop.
  slices.AppendSeq at leaves: against whatever iterator whose leaves can be read.
  A law's end: it told true, and nothing that was there has turned: so each argument reads as it did. Of whatever program.
-/
import Derived.RangeFuncIn
import Derived.RangeFuncSeq
import Derived.RangeFuncRecord
import Derived.Below
import Derived.RangeFuncNested
import Derived.RangeFuncBound
import Derived.RangeFuncCalls
import Derived.RangeFuncLeaves
import Derived.Shelf.Abstract
import Derived.Shelf.RegionOpen
import Derived.WalkKit
import Derived.OwnWalkIn
import Derived.TacticsInMore
import Derived.LoopNIn
import Derived.LoopIn
import Derived.Maps.AppendAt
import Derived.RangeFuncBox
import Derived.Test.YtdgnengfcabgjaaProg
import Derived.Test.YtdgnengfcabgjaaRows
import Derived.ProofKit
import Derived.OpenShut
import Derived.WideKeyArgs
namespace Go.Proofs.Ytdgnengfcabgjaa
open Go.RowKit

/-- From one world to the other nothing has turned but what may: objects of T, from block m on. -/
structure Keeps (T : Obj → Prop) (m : Nat) (W W' : World) : Prop where
  below : Below m W W'
  same : ∀ (k : Nat) (o : Obj), W.heap[k]? = some o → ¬ T o → W'.heap[k]? = some o
def IsLoop (o : Obj) : Prop := ∃ r, o = .loop r
def IsMark (o : Obj) : Prop := (∃ r, o = .loop r) ∨ ∃ d, o = .deferred d
theorem Keeps.refl (T : Obj → Prop) (m : Nat) (W : World) : Keeps T m W W := ⟨Below.refl _ _, fun _ _ h _ => h⟩
theorem Keeps.trans {T : Obj → Prop} {m : Nat} {A B C : World} (h : Keeps T m A B) (k : Keeps T m B C) : Keeps T m A C := ⟨h.below.trans k.below, fun i o ho ht => k.same i o (h.same i o ho ht) ht⟩
theorem Keeps.wide {T T' : Obj → Prop} {m : Nat} {A B : World} (h : Keeps T m A B) (ht : ∀ o, T o → T' o) : Keeps T' m A B := ⟨h.below, fun i o ho hn => h.same i o ho fun h => hn (ht o h)⟩
theorem Keeps.size {T : Obj → Prop} {m : Nat} {A B : World} (h : Keeps T m A B) : A.heap.size ≤ B.heap.size := h.below.size
theorem heap_lt {W : World} {k : Nat} {o : Obj} (h : W.heap[k]? = some o) : k < W.heap.size := (Array.getElem?_eq_some_iff.1 h).1
/-- What is all new behind a world keeps whatever lay there. -/
theorem Keeps.new {T : Obj → Prop} {m : Nat} {W W' : World} (h : Below W.heap.size W W') (hm : m ≤ W.heap.size) : Keeps T m W W' := ⟨h.mono hm, fun k _ ho _ => (h.block k (heap_lt ho)).trans ho⟩
theorem Keeps.put {T : Obj → Prop} {m l : Nat} {W : World} {o : Obj} (o' : Obj) (hl : W.heap[l]? = some o) (ht : T o) (hm : m ≤ l) : Keeps T m W (W.putObj l o') := by
  have hb : Below m W (W.putObj l o') := (Below.refl m W).grown ⟨rfl, rfl, rfl, by simp, fun k _ hk => World.putObj_heap_other (fun e => hk (by rw [e]))⟩ (by have := heap_lt hl; omega) (fun k e => by cases e; omega)
  refine ⟨hb, fun k p hp hn => ?_⟩
  by_cases e : k = l
  · subst e; rw [hl] at hp; cases hp; exact absurd ht hn
  · exact (World.putObj_heap_other e).trans hp

/-- The same, told of objects by their places. -/
structure KeepsI (T : Nat → Obj → Prop) (m : Nat) (W W' : World) : Prop where
  below : Below m W W'
  same : ∀ (k : Nat) (o : Obj), W.heap[k]? = some o → ¬ T k o → W'.heap[k]? = some o
theorem Keeps.toI {T : Obj → Prop} {T' : Nat → Obj → Prop} {m : Nat} {A B : World} (h : Keeps T m A B) (ht : ∀ k o, T o → T' k o) : KeepsI T' m A B := ⟨h.below, fun k o ho hn => h.same k o ho fun h => hn (ht k o h)⟩
theorem KeepsI.wide {T T' : Nat → Obj → Prop} {m : Nat} {A B : World} (h : KeepsI T m A B) (ht : ∀ k o, T k o → T' k o) : KeepsI T' m A B := ⟨h.below, fun k o ho hn => h.same k o ho fun h => hn (ht k o h)⟩
theorem KeepsI.to {T : Nat → Obj → Prop} {T' : Obj → Prop} {m : Nat} {A B : World} (h : KeepsI T m A B) (ht : ∀ k o, T k o → T' o) : Keeps T' m A B := ⟨h.below, fun k o ho hn => h.same k o ho fun h => hn (ht k o h)⟩
theorem KeepsI.put {T : Nat → Obj → Prop} {m l : Nat} {W : World} {o : Obj} (o' : Obj) (hl : W.heap[l]? = some o) (ht : T l o) (hm : m ≤ l) : KeepsI T m W (W.putObj l o') := by
  have hb : Below m W (W.putObj l o') := (Below.refl m W).grown ⟨rfl, rfl, rfl, by simp, fun k _ hk => World.putObj_heap_other (fun e => hk (by rw [e]))⟩ (by have := heap_lt hl; omega) (fun k e => by cases e; omega)
  refine ⟨hb, fun k p hp hn => ?_⟩
  by_cases e : k = l
  · subst e; rw [hl] at hp; cases hp; exact absurd ht hn
  · exact (World.putObj_heap_other e).trans hp
/-- A loop's record, or its block of deferred calls, from block M on. -/
def OwnLoop (M : Nat) (k : Nat) (o : Obj) : Prop := IsMark o ∧ M ≤ k
theorem KeepsI.trans {T : Nat → Obj → Prop} {m : Nat} {A B C : World} (h : KeepsI T m A B) (k : KeepsI T m B C) : KeepsI T m A C := ⟨h.below.trans k.below, fun i o ho ht => k.same i o (h.same i o ho ht) ht⟩
theorem KeepsI.new {T : Nat → Obj → Prop} {m : Nat} {W W' : World} (h : Below W.heap.size W W') (hm : m ≤ W.heap.size) : KeepsI T m W W' := ⟨h.mono hm, fun k _ ho _ => (h.block k (heap_lt ho)).trans ho⟩
/-- What an iterator may turn that was called where the heap had M blocks. -/
def Turns (TI : Obj → Prop) (M : Nat) (k : Nat) (o : Obj) : Prop := TI o ∨ OwnLoop M k o

/-- The contract of an iterator: TI: what it may turn between two rounds; TB: what a round may turn; R: what is told of an element when it is handed over; S: what is told of them all at the end. -/
def SeqR {α : Type} (P : Program) (g : Nat) (lb : Array Value) (encs : α → Array Value) (TI TB : Obj → Prop) (m : Nat) (R : α → Nat → World → Prop) (S : List α → World → Prop) (N : Nat) (w : World) : Prop :=
  ∀ (l : Nat) (J : List α → World → Prop) (W : World), Below w.heap.size w W → (∀ xs A B, J xs A → KeepsI (Turns TI W.heap.size) m A B → J xs B) →
    (∀ pre x W0 W1, J pre W0 → KeepsI (Turns TI W.heap.size) m W0 W1 → R x W0.heap.size W1 → pre.length < N → YieldAt Fence.wide 0 P l (encs x) W1 fun e W' => e = .returned (.bool true) ∧ J (pre ++ [x]) W' ∧ Keeps TB m W1 W') →
    J [] W → CallsIn Fence.wide 0 P g (#[.func (.yield l) #[] #[]] ++ lb) W fun e W' => (∃ v, e = .returned v) ∧ ∃ xs, S xs W' ∧ J xs W'

theorem SeqR.weaken {α : Type} {P : Program} {g : Nat} {lb : Array Value} {encs : α → Array Value} {TI TB : Obj → Prop} {m : Nat} {R R' : α → Nat → World → Prop} {S : List α → World → Prop} {N : Nat} {w : World} (h : SeqR P g lb encs TI TB m R S N w) (hR : ∀ x n W, R x n W → R' x n W) : SeqR P g lb encs TI TB m R' S N w :=
  fun l J W hW hJ hY h0 => h l J W hW hJ (fun pre x W0 W1 h1 h2 h3 h4 => hY pre x W0 W1 h1 h2 (hR _ _ _ h3) h4) h0
theorem room_wide (n : Nat) : Fence.wide.room n := fun _ h => by simp [Fence.wide] at h
theorem RoundIn.any {m m' : Nat} {P : Program} {l f : Nat} {tmps : Array Value} {assign body : Code} {w : World} {R : Ending → World → Prop} (h : RoundIn Fence.wide m P l f tmps assign body w R) : RoundIn Fence.wide m' P l f tmps assign body w R :=
  ⟨h.1, fun c cs _ => h.2 c cs (room_wide _)⟩
theorem YieldAt.any {m : Nat} (m' : Nat) {P : Program} {l : Nat} {args : Array Value} {W : World} {R : Ending → World → Prop} (h : YieldAt Fence.wide m P l args W R) : YieldAt Fence.wide m' P l args W R := by
  obtain ⟨fn, tmps, assign, body, hy, hR⟩ := h
  exact ⟨fn, tmps, assign, body, hy, RoundIn.any hR⟩

theorem range_reads {α : Type} {P : Program} {n : Nat} {g : Operand} {ps : Array Tmp} {assign body : Code} {Q : Exit → Act → World → Prop} {a : Act} {w w0 : World} {gf : Nat} {lb : Array Value}
    (hg : a.eval g = .func (.func gf) #[] lb) (eg : ∀ args w, (callFunc gf args).run P w = .ok (.enter gf args) w)
    {encs : α → Array Value} {TI TB : Obj → Prop} {m : Nat} {R : α → Nat → World → Prop} {S : List α → World → Prop} {N : Nat} (hseq : SeqR P gf lb encs TI TB m R S N w0) (hb0 : Below w0.heap.size w0 w) (hm : m ≤ w.heap.size)
    (hIl : ∀ r, ¬ TI (.loop r)) (hId : ∀ d, ¬ TI (.deferred d)) (hBl : ∀ r, ¬ TB (.loop r)) (hBd : ∀ d, ¬ TB (.deferred d)) (hps : ∀ x, (encs x).size = ps.size)
    (J : List α → World → Prop) (hJ : ∀ xs A B, J xs A → KeepsI (Turns TI w.heap.size) m A B → J xs B) (hS : ∀ xs A B, S xs A → Keeps IsMark m A B → S xs B) (h0 : J [] w)
    (hround : ∀ (l : Nat) (pre : List α) (x : α) (W0 W : World), J pre W0 → KeepsI (Turns TI w.heap.size) m W0 W → R x W0.heap.size W → pre.length < N →
      assign.wpIn (Fence.wide.inRound l) 0 P (Exit.then (fun a₁ W₁ => Keeps TB m W W₁ ∧ ∀ W₂, KeepsI (OwnLoop w.heap.size) m W₁ W₂ →
          body.wpIn (Fence.wide.inRound l) 0 P (fun e _ W₃ => e = .normal ∧ Keeps TB m W₂ W₃ ∧ J (pre ++ [x]) W₃) a₁ W₂) (fun _ _ _ => False))
        { tmps := (ps.zip (encs x)).foldl (fun t (p, v) => t.setIfInBounds p v) a.tmps, defers := [] } W)
    (hdone : ∀ (D : Nat) (xs : List α) (W : World), w.heap.size ≤ D → S xs W → J xs W → W.heap[D]? = some (.deferred (some [])) → Q .normal { a with defers := { target := .collected D, args := #[] } :: a.defers } W) :
    (Code.rangeFunc g ps assign body).wpIn Fence.wide n P Q a w := by
  refine wpIn_rangeFunc fun fn _ => ?_
  obtain ⟨D, hD⟩ : ∃ D, D = w.heap.size := ⟨_, rfl⟩
  obtain ⟨rc, hrc⟩ : ∃ rc : LoopState → Loop, rc = fun st => { state := st, pending := none, fn, tmps := a.tmps, params := ps, assign, body, defers := D } := ⟨_, rfl⟩
  obtain ⟨W1, hW1⟩ : ∃ W1, (w.alloc (.deferred (some []))).alloc (.loop (rc .ready)) = W1 := ⟨_, rfl⟩
  have hbel : Below w.heap.size w W1 := by rw [← hW1]; exact ((Below.refl _ w).alloc (Nat.le_refl _) _).alloc (by simp) _
  have hrec : W1.heap[D + 1]? = some (.loop (rc .ready)) := by
    rw [← hW1, hD]; have := World.alloc_heap_new (w.alloc (.deferred (some []))) (.loop (rc .ready)); rwa [World.size_alloc] at this
  have hdef : W1.heap[D]? = some (.deferred (some [])) := by rw [← hW1, hD]; exact (Below.heap_alloc _ _ _ (by simp)).trans (World.alloc_heap_new w _)
  refine ⟨D + 1, [{ target := .collected D, args := #[] }], W1, { target := .fn (.func gf) lb, args := #[.func (.yield (D + 1)) #[] #[]] }, W1, gf, #[.func (.yield (D + 1)) #[] #[]] ++ lb, W1, ?_, ?_, fun f' hf' => trivial, ?_, fun h => by simp [Fence.wide] at h, ?_⟩
  · rw [← hW1, hrc, hD]; exact run_enterLoop_outer _ _ _ _ _
  · simp only [resolve, hg]
    simp [go_sem]
  · simp [invoke, go_sem, eg]
  refine callsIn_wide.2 (callsIn_wide.1 (((hseq (D + 1) (fun pre W => J pre W ∧ W.heap[D + 1]? = some (.loop (rc .ready)) ∧ W.heap[D]? = some (.deferred (some []))) W1 (hb0.trans (hbel.mono hb0.size))
    (fun xs A B h hk => ⟨hJ xs A B h.1 (hk.wide fun k o h => h.imp id fun h => ⟨h.1, Nat.le_trans hbel.size h.2⟩), hk.same _ _ h.2.1 (fun h => h.elim (hIl _) fun h => by have := heap_lt hrec; have := h.2; omega), hk.same _ _ h.2.2 (fun h => h.elim (hId _) fun h => by have := heap_lt hdef; have := h.2; omega)⟩) ?_
    ⟨hJ [] w W1 h0 ((Keeps.new (T := TI) hbel hm).toI fun _ _ h => .inl h), hrec, hdef⟩)).mono ?_))
  · -- a round
    rintro pre x W0 W ⟨hj, hl0, hd0⟩ hk0 hR hlen
    have hl := hk0.same _ _ hl0 (fun h => h.elim (hIl _) fun h => by have := heap_lt hrec; have := h.2; omega)
    have hd := hk0.same _ _ hd0 (fun h => h.elim (hId _) fun h => by have := heap_lt hdef; have := h.2; omega)
    have hy := run_yield (P := P) (args := encs x) hl (by rw [hrc]; exact hps x)
    rw [hrc] at hy
    refine ⟨fn, _, assign, body, hy, roundIn_of_wpIn trivial (wpIn_mono (hround (D + 1) pre x W0 W hj (hk0.wide fun k o h => h.imp id fun h => ⟨h.1, Nat.le_trans hbel.size h.2⟩) hR hlen) ?_)⟩
    intro e a₁ W₁ h1
    cases e with
    | normal =>
      obtain ⟨hk1, hbody⟩ := h1
      have hl1 := hk1.same _ _ hl (hBl _)
      have hd1 := hk1.same _ _ hd (hBd _)
      refine ⟨_, run_beginRound hl1 (by rw [hrc]), ?_⟩
      have hkp : KeepsI (OwnLoop w.heap.size) m W₁ (W₁.putObj (D + 1) (.loop { rc .ready with state := .busy })) := KeepsI.put _ hl1 ⟨.inl ⟨_, rfl⟩, by omega⟩ (by omega)
      have hl2 : (W₁.putObj (D + 1) (.loop { rc .ready with state := .busy })).heap[D + 1]? = some (.loop { rc .ready with state := .busy }) := World.putObj_heap_same (heap_lt hl1)
      refine wpIn_mono (hbody _ hkp) ?_
      rintro e2 a₂ W₃ ⟨rfl, hk3, hj3⟩
      have hl3 := hk3.same _ _ hl2 (hBl _)
      have hend := run_endRound (P := P) none hl3
      have hkq : KeepsI (OwnLoop w.heap.size) m W₃ (W₃.putObj (D + 1) (.loop (rc .ready))) := KeepsI.put _ hl3 ⟨.inl ⟨_, rfl⟩, by omega⟩ (by omega)
      have erec : ({ { rc .ready with state := .busy } with state := if (none : Option Code).isNone then .ready else .done, pending := none } : Loop) = rc .ready := by rw [hrc]; rfl
      rw [erec] at hend
      refine ⟨_, _, hend, rfl, ⟨hJ _ _ _ hj3 (hkq.wide fun _ _ h => .inr h), World.putObj_heap_same (heap_lt hl3), ?_⟩, ?_⟩
      · exact (World.putObj_heap_other (by omega)).trans (hk3.same _ _ ((World.putObj_heap_other (by omega)).trans hd1) (hBd _))
      · refine ⟨hk1.below.trans (hkp.below.trans (hk3.below.trans hkq.below)), fun k o ho hn => ?_⟩
        by_cases ek : k = D + 1
        · subst ek; rw [hl] at ho; cases ho; exact World.putObj_heap_same (heap_lt hl3)
        · have e1 := hk1.same k o ho hn
          have e2 : (W₁.putObj (D + 1) (.loop { rc .ready with state := .busy })).heap[k]? = some o := (World.putObj_heap_other ek).trans e1
          exact (World.putObj_heap_other ek).trans (hk3.same k o e2 hn)
    | _ => exact h1.elim
  · -- behind the iterator
    rintro e W2 ⟨⟨v, rfl⟩, xs, hs, hj, hl, hd⟩
    have he := run_endLoop (P := P) hl (by rw [hrc]; simp)
    have ep : (rc .ready).pending = none := by rw [hrc]
    rw [ep] at he
    obtain ⟨W3, hW3⟩ : ∃ W3, W3 = W2.putObj (D + 1) (.loop { rc .ready with state := .exhausted, pending := none }) := ⟨_, rfl⟩
    have hkq : KeepsI (OwnLoop w.heap.size) m W2 W3 := by rw [hW3]; exact KeepsI.put _ hl ⟨.inl ⟨_, rfl⟩, by omega⟩ (by omega)
    rw [← hW3] at he
    exact ⟨none, W3, he, hdone D xs _ (by omega) (hS _ _ _ hs (hkq.to fun _ _ h => h.1)) (hJ _ _ _ hj (hkq.wide fun _ _ h => Or.inr h)) (by rw [hW3]; exact (World.putObj_heap_other (by omega)).trans hd)⟩
end Go.Proofs.Ytdgnengfcabgjaa
namespace Go.Proofs.Ytdgnengfcabgjaa
open Go.RowKit Go.Shelf
attribute [local go_sem] Oper.semAt_some

/-- Rows of leaves, boxes of such rows, and boxes of leaves: what a round may turn. -/
def RowO (o : Obj) : Prop := ∃ cs fz, o = .cells cs 26 fz ∨ o = .cells cs 42 fz
theorem infoLf : (Try.prog.info? 42).map (fun i => (i.zero, i.size, i.bytes)) = some (some (.agg #[.slice none 0 0, .int .i64 0, .int .i64 0, .string ByteArray.empty, .slice none 0 0, .slice none 0 0]), 6, 104) := by kernel_rfl

/-- A leaf's variable: a block of six cells. -/
def Box6 (w : World) (b : Nat) (v0 v1 v2 v3 v4 v5 : Value) : Prop := w.heap[b]? = some (.cells #[v0, v1, v2, v3, v4, v5] 42 (0, 0))
section
variable {w w' : World} {b : Nat} {v0 v1 v2 v3 v4 v5 : Value}
theorem Box6.cells (h : Box6 w b v0 v1 v2 v3 v4 v5) : w.cell? ⟨b, 0, none⟩ = some v0 ∧ w.cell? ⟨b, 1, none⟩ = some v1 ∧ w.cell? ⟨b, 2, none⟩ = some v2 ∧ w.cell? ⟨b, 3, none⟩ = some v3 ∧ w.cell? ⟨b, 4, none⟩ = some v4 ∧ w.cell? ⟨b, 5, none⟩ = some v5 :=
  ⟨cell_of_row w b 0 _ _ _ h, cell_of_row w b 1 _ _ _ h, cell_of_row w b 2 _ _ _ h, cell_of_row w b 3 _ _ _ h, cell_of_row w b 4 _ _ _ h, cell_of_row w b 5 _ _ _ h⟩
theorem Box6.frozen (h : Box6 w b v0 v1 v2 v3 v4 v5) (i : Nat) : w.frozen? ⟨b, i, none⟩ = false := by
  unfold Box6 at h
  simp [World.frozen?, h]
theorem Box6.new (w : World) (v0 v1 v2 v3 v4 v5 : Value) : Box6 (w.alloc (.cells #[v0, v1, v2, v3, v4, v5] 42)) w.heap.size v0 v1 v2 v3 v4 v5 := World.alloc_heap_new w _
theorem Box6.set_ (h : Box6 w b v0 v1 v2 v3 v4 v5) (i : Nat) (u : Value) : (w.setCell ⟨b, i, none⟩ u).heap[b]? = some (.cells (#[v0, v1, v2, v3, v4, v5].setIfInBounds i u) 42 (0, 0)) := by
  unfold Box6 at h
  simp [World.setCell, Array.getElem?_modify, h]
theorem run_store1 {P : Program} {w : World} {a : Addr} {v u : Value} (h : w.cell? a = some u) (hf : w.frozen? a = false) (hv : v.oneCell' = true) : (store a v).run P w = .ok () (w.setCell a v) := by rw [run_store _ _ _ _ _ hv]; simp [h, hf]
/-- The six stores into a leaf's variable. -/
theorem Box6.fill {P : Program} (h : Box6 w b v0 v1 v2 v3 v4 v5) (u0 u1 u2 u3 u4 u5 : Value) (hone : ∀ u ∈ [u0, u1, u2, u3, u4, u5], u.oneCell' = true) {β : Type} (k : Unit → World → Result β) : ∃ W, Box6 W b u0 u1 u2 u3 u4 u5 ∧ (∀ i, i ≠ b → W.heap[i]? = w.heap[i]?) ∧ Below b w W ∧
    (((Sem.run P (store ⟨b, 0, none⟩ u0) w).andThen fun _ w' => (Sem.run P (store ⟨b, 1, none⟩ u1) w').andThen fun _ w' => (Sem.run P (store ⟨b, 2, none⟩ u2) w').andThen fun _ w' => (Sem.run P (store ⟨b, 3, none⟩ u3) w').andThen fun _ w' =>
      (Sem.run P (store ⟨b, 4, none⟩ u4) w').andThen fun _ w' => Sem.run P (store ⟨b, 5, none⟩ u5) w').andThen k) = k () W := by
  have h1 : Box6 (w.setCell ⟨b, 0, none⟩ u0) b u0 v1 v2 v3 v4 v5 := h.set_ 0 u0
  have h2 : Box6 ((w.setCell ⟨b, 0, none⟩ u0).setCell ⟨b, 1, none⟩ u1) b u0 u1 v2 v3 v4 v5 := h1.set_ 1 u1
  have h3 : Box6 (((w.setCell ⟨b, 0, none⟩ u0).setCell ⟨b, 1, none⟩ u1).setCell ⟨b, 2, none⟩ u2) b u0 u1 u2 v3 v4 v5 := h2.set_ 2 u2
  have h4 : Box6 ((((w.setCell ⟨b, 0, none⟩ u0).setCell ⟨b, 1, none⟩ u1).setCell ⟨b, 2, none⟩ u2).setCell ⟨b, 3, none⟩ u3) b u0 u1 u2 u3 v4 v5 := h3.set_ 3 u3
  have h5 : Box6 (((((w.setCell ⟨b, 0, none⟩ u0).setCell ⟨b, 1, none⟩ u1).setCell ⟨b, 2, none⟩ u2).setCell ⟨b, 3, none⟩ u3).setCell ⟨b, 4, none⟩ u4) b u0 u1 u2 u3 u4 v5 := h4.set_ 4 u4
  have h6 : Box6 ((((((w.setCell ⟨b, 0, none⟩ u0).setCell ⟨b, 1, none⟩ u1).setCell ⟨b, 2, none⟩ u2).setCell ⟨b, 3, none⟩ u3).setCell ⟨b, 4, none⟩ u4).setCell ⟨b, 5, none⟩ u5) b u0 u1 u2 u3 u4 u5 := h5.set_ 5 u5
  refine ⟨_, h6, fun i hi => ?_, (((((((Below.refl b w).setCell (p := ⟨b, 0, none⟩) (Nat.le_refl _) u0).setCell (p := ⟨b, 1, none⟩) (Nat.le_refl _) u1).setCell (p := ⟨b, 2, none⟩) (Nat.le_refl _) u2).setCell (p := ⟨b, 3, none⟩) (Nat.le_refl _) u3).setCell (p := ⟨b, 4, none⟩) (Nat.le_refl _) u4).setCell (p := ⟨b, 5, none⟩) (Nat.le_refl _) u5), ?_⟩
  · exact (Below.heap_setCell _ _ _ _ hi).trans ((Below.heap_setCell _ _ _ _ hi).trans ((Below.heap_setCell _ _ _ _ hi).trans ((Below.heap_setCell _ _ _ _ hi).trans ((Below.heap_setCell _ _ _ _ hi).trans (Below.heap_setCell _ _ _ _ hi)))))
  · rw [run_store1 h.cells.1 (h.frozen 0) (hone _ (by simp))]
    simp only [Result.andThen]
    rw [run_store1 h1.cells.2.1 (h1.frozen 1) (hone _ (by simp))]
    simp only []
    rw [run_store1 h2.cells.2.2.1 (h2.frozen 2) (hone _ (by simp))]
    simp only []
    rw [run_store1 h3.cells.2.2.2.1 (h3.frozen 3) (hone _ (by simp))]
    simp only []
    rw [run_store1 h4.cells.2.2.2.2.1 (h4.frozen 4) (hone _ (by simp))]
    simp only []
    rw [run_store1 h5.cells.2.2.2.2.2 (h5.frozen 5) (hone _ (by simp))]
end
theorem Box6.row (w : World) (v0 v1 v2 v3 v4 v5 : Value) : ∀ j u, [v0, v1, v2, v3, v4, v5][j]? = some u → (w.alloc (.cells #[v0, v1, v2, v3, v4, v5] 42)).cell? ((⟨w.heap.size, 0, none⟩ : Addr).add j) = some u := by
  intro j u hj
  obtain ⟨c0, c1, c2, c3, c4, c5⟩ := (Box6.new w v0 v1 v2 v3 v4 v5).cells
  match j, hj with
  | 0, hj => cases hj; exact c0
  | 1, hj => cases hj; exact c1
  | 2, hj => cases hj; exact c2
  | 3, hj => cases hj; exact c3
  | 4, hj => cases hj; exact c4
  | 5, hj => cases hj; exact c5
theorem appended_keeps {W w1 : World} {m B k sz : Nat} {v v' : Value} {xs : List Value} {tmp : Obj} (hv : Boxed W B 26 v) (hrow : W.ownsRow m 42 sz v k xs) (hgrow : (W.alloc tmp).grownBy w1 v.ownBlock) (hb : Below m W (w1.setCell ⟨B, 0, none⟩ v')) : Keeps RowO m W (w1.setCell ⟨B, 0, none⟩ v') := by
  refine ⟨hb, fun j o hj hn => ?_⟩
  have hlt := heap_lt hj
  have hkB : j ≠ B := by
    rintro rfl
    have hv' : W.heap[j]? = _ := hv
    rw [hv'] at hj; cases hj; exact hn ⟨_, _, .inl rfl⟩
  have hkv : some j ≠ v.ownBlock := by
    rcases hrow.2 with ⟨rfl, _⟩ | ⟨g, cap, cur, rfl, _, hgb, _⟩
    · simp [Value.ownBlock]
    · intro e
      obtain rfl : j = g := by simpa [Value.ownBlock] using e
      rw [hgb] at hj; cases hj; exact hn ⟨_, _, .inr rfl⟩
  exact (Below.heap_setCell _ ⟨B, 0, none⟩ _ j hkB).trans ((hgrow.block j (by simp; omega) hkv).trans ((Below.heap_alloc W _ j hlt).trans hj))
structure AppJ {α : Type} (enc : α → List Value) (B : Nat) (w : World) (pre : List α) (W : World) : Prop where
  box : ∃ v, Boxed W B 26 v ∧ W.ownsRow w.heap.size 42 6 v pre.length (pre.flatMap enc) ∧ (v = .slice none 0 0 ↔ pre = [])
  below : Below w.heap.size w W
theorem ownsRow_keeps {T : Obj → Prop} {m base sz n : Nat} {e : TypeId} {v : Value} {xs : List Value} {W W' : World} (h : W.ownsRow base e sz v n xs) (hk : Keeps T m W W') (hT : ∀ cs fz, ¬ T (.cells cs e fz)) : W'.ownsRow base e sz v n xs := by
  obtain ⟨h1, h2⟩ := h
  refine ⟨h1, ?_⟩
  rcases h2 with h2 | ⟨g, cap, cur, hv, hb, hg, hr⟩
  · exact .inl h2
  · exact .inr ⟨g, cap, cur, hv, hb, hk.same _ _ hg (hT _ _), hr⟩
theorem ownsRow_keepsI {T : Nat → Obj → Prop} {m base sz n : Nat} {e : TypeId} {v : Value} {xs : List Value} {W W' : World} (h : W.ownsRow base e sz v n xs) (hk : KeepsI T m W W') (hT : ∀ k cs fz, ¬ T k (.cells cs e fz)) : W'.ownsRow base e sz v n xs := by
  obtain ⟨h1, h2⟩ := h
  refine ⟨h1, ?_⟩
  rcases h2 with h2 | ⟨g, cap, cur, hv, hb, hg, hr⟩
  · exact .inl h2
  · exact .inr ⟨g, cap, cur, hv, hb, hk.same _ _ hg (hT _ _ _), hr⟩
theorem AppJ.keeps {α : Type} {enc : α → List Value} {B : Nat} {w : World} {T : Nat → Obj → Prop} {pre : List α} {W W' : World} (h : AppJ enc B w pre W) (hk : KeepsI T w.heap.size W W') (hT : ∀ k o, RowO o → ¬ T k o) : AppJ enc B w pre W' := by
  obtain ⟨⟨v, h1, h2, h3⟩, h4⟩ := h
  exact ⟨⟨v, hk.same _ _ h1 (hT _ _ ⟨_, _, .inl rfl⟩), ownsRow_keepsI h2 hk (fun k cs fz => hT _ _ ⟨_, _, .inr rfl⟩), h3⟩, h4.trans hk.below⟩

set_option maxRecDepth 100000 in
set_option maxHeartbeats 4000000 in
theorem appendSeq_any {α : Type} (enc : α → List Value) {gf : Nat} {lb : Array Value} {TI : Obj → Prop} {R : α → Nat → World → Prop} (henc : ∀ x n W, R x n W → ∃ v0 v1 v2 v3 v4 v5, enc x = [v0, v1, v2, v3, v4, v5] ∧ ∀ u ∈ enc x, u.oneCell' = true) {S : List α → World → Prop} {N : Nat} {w : World}
    (eg : ∀ args w, (callFunc gf args).run Try.prog w = .ok (.enter gf args) w) (hseq : SeqR Try.prog gf lb (fun x => #[.agg (enc x).toArray]) TI RowO w.heap.size R S N w) (hN : N ≤ 1000000)
    (hTI : ∀ o, TI o → ∃ cs fz, o = .cells cs 9 fz) (hS : ∀ xs A B, S xs A → Keeps (fun o => RowO o ∨ IsMark o) w.heap.size A B → S xs B) :
    Calls Try.prog 81 #[.slice none 0 0, .func (.func gf) #[] lb] w fun e W' => ∃ v xs, e = .returned v ∧ S xs W' ∧ W'.ownsRow w.heap.size 42 6 v xs.length (xs.flatMap enc) ∧ (v = .slice none 0 0 ↔ xs = []) ∧ Below w.heap.size w W' := by
  obtain ⟨i0, hi, hz0, hz1, hz2⟩ := info_parts infoLf
  refine (callsIn_wide (n := 0)).1 ?_
  refine callsIn_of_wp_marks Try.func81 rfl trivial ?_ rfl
  simp only [Try.ntmps81, List.size_toArray, List.length_cons, List.length_nil, Nat.reduceAdd, Nat.reduceSub, Array.replicate_succ, Array.replicate_zero, List.push_toArray, List.append_toArray, List.nil_append, List.cons_append]
  gi_wp2
  have hB0 : Below w.heap.size w (w.alloc (.cells #[.slice none 0 0] 26)) := (Below.refl _ w).alloc (Nat.le_refl _) _
  refine range_reads (gf := gf) (lb := lb) rfl eg hseq hB0 (by simp) ?t1 ?t2 ?t3 ?t4 (fun _ => rfl) (AppJ enc w.heap.size w) ?tj (fun xs A B h hk => hS xs A B h (hk.wide fun _ h => .inr h)) ?t0 ?round ?done
  case t1 => intro r h; obtain ⟨_, _, h⟩ := hTI _ h; cases h
  case t2 => intro r h; obtain ⟨_, _, h⟩ := hTI _ h; cases h
  case t3 => rintro r ⟨_, _, h | h⟩ <;> cases h
  case t4 => rintro r ⟨_, _, h | h⟩ <;> cases h
  case tj =>
    intro xs A B h hk
    refine h.keeps hk ?_
    rintro k o ⟨cs, fz, rfl | rfl⟩ (h | ⟨⟨r, h⟩ | ⟨r, h⟩, _⟩)
    · obtain ⟨_, _, h⟩ := hTI _ h; cases h
    · cases h
    · cases h
    · obtain ⟨_, _, h⟩ := hTI _ h; cases h
    · cases h
    · cases h
  case t0 => exact ⟨⟨_, Boxed.new w _ _, World.ownsRow_nil _ _ _ _, by simp⟩, hB0⟩
  case round =>
    rintro l pre x W0 W hj0 hk0 hR hlen
    obtain ⟨v0, v1, v2, v3, v4, v5, hx, hone⟩ := henc x _ W hR
    have hj : AppJ enc w.heap.size w pre W := hj0.keeps (hk0.wide (T' := fun k o => TI o ∨ IsMark o) fun _ _ h => h.imp id And.left) (by
      rintro k o ⟨cs, fz, rfl | rfl⟩ (h | ⟨r, h⟩ | ⟨r, h⟩)
      · obtain ⟨_, _, h⟩ := hTI _ h; cases h
      · cases h
      · cases h
      · obtain ⟨_, _, h⟩ := hTI _ h; cases h
      · cases h
      · cases h)
    clear hj0 hk0
    rw [hx] at hone ⊢
    clear hseq hS hTI henc
    gi_wp2
    have hb6 : Box6 _ _ _ _ _ _ _ _ := Box6.new W (.slice none 0 0) (.int .i64 0) (.int .i64 0) (.string ⟨#[]⟩) (.slice none 0 0) (.slice none 0 0)
    obtain ⟨W₁, b6, hoth, hbel, hrun⟩ := Box6.fill (P := Try.prog) hb6 v0 v1 v2 v3 v4 v5 hone (fun _ w' => Result.ok Next.skip w')
    rw [hrun]
    gi_wp2
    have hWb : Below W.heap.size W W₁ := ((Below.refl _ W).alloc (Nat.le_refl _) _).trans hbel
    have hmW : w.heap.size ≤ W.heap.size := hj.below.size
    have hk1 : ∀ T, Keeps T w.heap.size W W₁ := fun T => Keeps.new hWb hmW
    refine ⟨hk1 RowO, fun W₂ hk2 => ?_⟩
    have hj2 : AppJ enc w.heap.size w pre W₂ := (hj.keeps ((hk1 (fun _ => False)).toI (T' := fun _ _ => False) (fun _ _ h => h)) (fun _ _ _ h => h)).keeps hk2 (by rintro k o ⟨cs, fz, rfl | rfl⟩ ⟨⟨r, h⟩ | ⟨r, h⟩, _⟩ <;> cases h)
    have b62 : Box6 W₂ W.heap.size v0 v1 v2 v3 v4 v5 := hk2.same _ _ b6 (by rintro ⟨⟨r, h⟩ | ⟨r, h⟩, _⟩ <;> cases h)
    clear hrun hbel hoth hb6 b6 hk1 hj hk2 hWb hR hB0
    obtain ⟨c0, c1, c2, c3, c4, c5⟩ := b62.cells
    obtain ⟨⟨v, hv, hrow, hnil⟩, hB⟩ := hj2
    have hc := hv.cell
    have hB2 := hB.size
    gi_wp2_with (gi_at_builtin; refine wpListIn_append_own _ rfl _ _ 26 rfl w.heap.size 42 i0 (.agg #[.slice none 0 0, .int .i64 0, .int .i64 0, .string ByteArray.empty, .slice none 0 0, .slice none 0 0]) 6 104 Try.underlying26 hi hz0 hz1 hz2 rfl (by decide) _ _ _ rfl (hrow.alloc _) ⟨W₂.heap.size, 0, none⟩ 1 1 [v0, v1, v2, v3, v4, v5] rfl rfl (Box6.row _ _ _ _ _ _ _) hone (by unfold maxLen; omega) (by omega) (by simp; omega) ?_; intro v' w1 hown' hgrow _; obtain ⟨g', cap', rfl⟩ := ownsRow_succ hown'; obtain ⟨hv1, hv2, hr2, hk2, hb2⟩ := hv.appended (by decide) hrow hB.size (Nat.le_refl _) hown' hgrow; have hkk := appended_keeps hv hrow hgrow hb2; have hc1 := hv1.cell; have hf1 := hv1.frozen)
    exact ⟨⟨_, hv2, by simpa [hx] using hr2, by simp⟩, hB.trans hb2⟩
  case done =>
    rintro D xs W hD hs ⟨⟨v, hv, hrow, hnil⟩, hB⟩ hK
    have hc := hv.cell
    have hD2 : w.heap.size ≤ D := by simp at hD; omega
    have hkd : Keeps IsMark w.heap.size W (W.putObj D (.deferred none)) := Keeps.put _ hK (.inr ⟨_, rfl⟩) hD2
    gi_wp2
    refine ⟨by simp, .inl ⟨_, _, rfl, run_takeDeferred hK, ?_⟩⟩
    exact ⟨_, results_tmp rfl _ _ _, v, xs, rfl, hS _ _ _ hs (hkd.wide fun _ h => .inr h), ownsRow_putObj hrow _ hK rfl, hnil, hB.trans hkd.below⟩
end Go.Proofs.Ytdgnengfcabgjaa
namespace Go.Proofs.Ytdgnengfcabgjaa
open Go.ChangeShapes Go.WideShapes Go.ChangeAt Go.RowKit
section
variable {H : Type} {enc : TypeId × Value → H} {P : Program}
theorem trods_stay (hl : laidOutB P = true) {W W' : World} {sp : Nat → Bool} : ∀ (ts : List TypeId) (vs : List Value) (ds : List (DataW H)) (ps : List MemPlace), DataW.TrodAll enc P W 0 (fun _ => true) true ts vs ds ps →
    (∀ t ∈ ts, P.readableRec t = true ∧ t < P.types.size) → (∀ p ∈ ps, W.sameAt W' p) → (∀ p ∈ ps, sp p.block = true) → DataW.TrodAll enc P W' 0 sp true ts vs ds ps
  | [], [], [], ps, h, _, _, _ => h
  | t :: ts, v :: vs, d :: ds, ps, h, ht, hs, hp => by
    obtain ⟨p, q, h0, h1, rfl⟩ := h
    exact ⟨p, q, WideElems.Trod_stays hl (ht t (by simp)).1 (ht t (by simp)).2 h0 (fun x hx => hs x (by simp [hx])) (fun x hx => hp x (by simp [hx])),
      trods_stay hl ts vs ds q h1 (fun u hu => ht u (by simp [hu])) (fun x hx => hs x (by simp [hx])) (fun x hx => hp x (by simp [hx])), rfl⟩
  | [], [], _ :: _, _, h, _, _, _ => h.elim
  | [], _ :: _, _, _, h, _, _, _ => h.elim
  | _ :: _, [], _, _, h, _, _, _ => h.elim
  | _ :: _, _ :: _, [], _, h, _, _, _ => h.elim
theorem law_post {f : Func} {s : ChangeSpec} {again : Bool} {W W' : World} {args : Array Value} {ds gs : List (DataW H)} {before : List MemPlace} {tb : TypeId}
    (hW : DataW.Whole enc P f.params.toList s.vars false W args.toList ds gs before) (hv : s.vars = []) (hrt : f.resultTypes = #[tb]) (htb : P.underlying tb = some .bool)
    (hfn : s.fn H ds = { results := [.lit (.bool true)], args := ds }) (hl : laidOutB P = true) (hp : ∀ t ∈ f.params.toList, P.readableRec t = true ∧ t < P.types.size) (hb : Below W.heap.size W W') :
    s.post enc P f false true false again W args (.bool true) W' := by
  have hW' := hW
  obtain ⟨p, q, hA, hV, rfl, hz, hn⟩ := hW
  rw [hv] at hV
  obtain ⟨rfl, rfl⟩ := trodVars_none hV
  rw [List.append_nil] at hz
  have hlt : ∀ x ∈ p, x.block < W.heap.size := fun x hx => hW'.lt x (by simpa using hx)
  have A : ∀ sp : Nat → Bool, (∀ x ∈ p, sp x.block = true) → DataW.TrodAll enc P W' 0 sp true f.params.toList args.toList ds p := fun sp hsp => trods_stay hl _ _ _ _ hA hp (fun x hx => hb.same (hlt x hx)) hsp
  have R : ∀ (b : Nat) (sp : Nat → Bool) (hd : Bool), DataW.TrodAll enc P W' b sp hd f.resultTypes.toList ((Value.bool true).resultList f.resultTypes.size) [.lit (.bool true)] [] := fun b sp hd => by
    rw [hrt]; exact trodAll_mk1 (shut_bool htb true)
  have hfn' : s.fn H (ds ++ []) = { results := [.lit (.bool true)], args := ds } := by rw [List.append_nil]; exact hfn
  refine ⟨ds, [], p ++ [], [], p, [], hW', ?_, ?_, ?_, World.keptBut_mono (fun x hx => ⟨by simpa using hx, .inr (.inl hx)⟩) (hb.frame (· ∈ p)), fun _ => ⟨ok_one hrt rfl (okWide_bool_mk htb true), ?_⟩⟩
  · rw [hfn']; exact R _ _ _
  · rw [hfn']; exact A _ fun x hx => by simpa using hlt x hx
  · rw [hfn', hv]; rfl
  · refine ⟨[.lit (.bool true)] ++ ds, [], ([] ++ p) ++ [], ⟨[] ++ p, [], trodAll_append (A _ fun _ _ => rfl) (R _ _ _), ?_, rfl, ?_, fun h => by cases h⟩, fun x hx _ => by simpa using hx⟩
    · rw [hv]; rfl
    · intro b off hx
      have hin : MemPlace.cell b off ∈ p := by simpa using hx
      rw [hb.frozen (hlt _ hin)]
      exact hz b off hin
end
end Go.Proofs.Ytdgnengfcabgjaa
