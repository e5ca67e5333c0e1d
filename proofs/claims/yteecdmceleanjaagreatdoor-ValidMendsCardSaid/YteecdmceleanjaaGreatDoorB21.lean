/-
  Mended documents: plain lemmas.
  A document that grows by a kid that was made before: and one whose keys stand already.
  A document whose keys stand already, and whose kids are appended.
-/
import Derived.Test.YteecdmceleanjaaGreatDoorB16
import Derived.Test.YteecdmceleanjaaGreatDoorB20
import Derived.Test.YteecdmceleanjaaGreatDoorB01
namespace Go.Proofs.YteecdmceleanjaaGreatDoor
open Go.RowKit

abbrev Mnd := ByteArray × D × Nat
mutual
/-- A document, mended, and how many changes these are: of what is right. -/
def T.mend : T → D → D × Nat
  | .mk k lo hi ns fs of, d =>
    if fitsV (.mk k lo hi ns fs of) d = 0 then
      if k = 1 then (.mk d.kind 0 ⟨#[]⟩ ((mendF fs d).map fun x => x.1) ((mendF fs d).map fun x => x.2.1), (moreV (.mk k lo hi ns fs of) d.keys).length + ((mendF fs d).map fun x => x.2.2).sum)
      else if k = 2 ∨ k = 3 then (.mk d.kind 0 ⟨#[]⟩ d.keys ((mendO of d).map fun x => x.1), ((mendO of d).map fun x => x.2).sum)
      else (d, 0)
    else ((T.mk k lo hi ns fs of).least, 1)
def mendF : List F → D → List Mnd
  | [], _ => []
  | f :: r, d => mendF1 f d ++ mendF r d
def mendF1 : F → D → List Mnd
  | .mk s o t, d => if 0 ≤ Lib.idxOfS d.keys s then [(s, t.mend (d.kids.getD (Lib.idxOfS d.keys s).toNat (.mk 0 0 ⟨#[]⟩ [] [])))] else if o then [] else [(s, t.least, 1)]
def mendO : List T → D → List (D × Nat)
  | [], _ => []
  | x :: _, d => d.kids.map fun y => x.mend y
end
theorem mend_eq (t : T) (d : D) : t.mend d = if fitsV t d = 0 then
      if t.kind = 1 then (.mk d.kind 0 ⟨#[]⟩ ((mendF t.fields d).map fun x => x.1) ((mendF t.fields d).map fun x => x.2.1), (moreV t d.keys).length + ((mendF t.fields d).map fun x => x.2.2).sum)
      else if t.kind = 2 ∨ t.kind = 3 then (.mk d.kind 0 ⟨#[]⟩ d.keys ((mendO t.of d).map fun x => x.1), ((mendO t.of d).map fun x => x.2).sum)
      else (d, 0)
    else (t.least, 1) := by
  obtain ⟨_, _, _, _, _, _⟩ := t; simp only [T.mend, T.kind, T.fields, T.of]; rfl
theorem mendF1_eq (f : F) (d : D) : mendF1 f d = if 0 ≤ Lib.idxOfS d.keys f.name then [(f.name, f.type.mend (d.kids.getD (Lib.idxOfS d.keys f.name).toNat (.mk 0 0 ⟨#[]⟩ [] [])))] else if f.opt then [] else [(f.name, f.type.least, 1)] := by
  obtain ⟨_, _, _⟩ := f; simp only [mendF1, F.name, F.opt, F.type]; rfl
theorem mendF_append (d : D) : ∀ a b : List F, mendF (a ++ b) d = mendF a d ++ mendF b d
  | [], b => by simp [mendF]
  | f :: r, b => by simp only [List.cons_append, mendF, mendF_append d r b, List.append_assoc]
theorem mendF_take (l : List F) (d : D) (k : Nat) (h : k < l.length) : mendF (l.take (k + 1)) d = mendF (l.take k) d ++ mendF1 l[k] d := by
  rw [List.take_succ_eq_append_getElem h, mendF_append]; simp [mendF]
theorem mendF_len (d : D) : ∀ l : List F, (mendF l d).length ≤ l.length
  | [] => by simp [mendF]
  | f :: r => by
    have := mendF_len d r
    simp only [mendF, List.length_append, List.length_cons, mendF1_eq]
    split
    · simp; omega
    · split <;> simp <;> omega
theorem mendF_sum (l : List F) (d : D) (k : Nat) : ((mendF (l.take k) d).map fun x => x.2.2).sum ≤ ((mendF l d).map fun x => x.2.2).sum := by
  have h := mendF_append d (l.take k) (l.drop k)
  rw [List.take_append_drop] at h
  rw [h, List.map_append, List.sum_append]; omega
theorem mend_le (m : Nat) : ∀ (t : T) (d : D) (p : List ByteArray), t.depth ≤ m → (t.mend d).2 ≤ (t.faults d p).length := by
  induction m with
  | zero => intro t _ _ h; have := T.depth_pos t; omega
  | succ m ih =>
    intro t d p hm
    rw [mend_eq, faults_eq, List.length_append]
    by_cases h0 : fitsV t d = 0
    · have h7 : ¬ fitsV t d = 7 := by omega
      rw [if_pos h0, if_pos h0, if_neg h7]
      by_cases hk : t.kind = 1
      · rw [if_pos hk, if_pos hk, List.length_append, List.length_map]
        have hF : ∀ l : List F, (∀ f ∈ l, f.type.depth ≤ m) → ((mendF l d).map fun x => x.2.2).sum ≤ (faultsF l d p).length := by
          intro l
          induction l with
          | nil => intro _; simp [mendF]
          | cons f r ihl =>
            intro hl
            simp only [mendF, faultsF, List.map_append, List.sum_append, List.length_append]
            have h2 := ihl fun g hg => hl g (by simp [hg])
            have h3 : ((mendF1 f d).map fun x => x.2.2).sum ≤ (faultsF1 f d p).length := by
              rw [mendF1_eq, faultsF1_eq]
              split
              · simpa using ih f.type _ (p ++ [f.name]) (hl f (by simp))
              · split <;> simp
            omega
        have h2 := hF t.fields fun f hf => by
          obtain ⟨i, hi, e⟩ := List.getElem_of_mem hf
          have := T.field_depth (t := t) (i := i) hi
          rw [e] at this; omega
        simp only [List.length_nil]; omega
      · rw [if_neg hk, if_neg hk]
        by_cases h23 : t.kind = 2 ∨ t.kind = 3
        · rw [if_pos h23]
          cases ho : t.of with
          | nil => simp [mendO]
          | cons x r =>
            rw [kidsFl_all]
            have hxd : x.depth ≤ m := by have := T.of_depth (t := t) (i := 0) (by rw [ho]; simp); simp only [ho, List.getElem_cons_zero] at this; omega
            have h2 : ∀ k, k ≤ d.kids.length → (((d.kids.take k).map fun y => x.mend y).map fun z => z.2).sum ≤ (kidsFl x d p k).length := by
              intro k
              induction k with
              | zero => intro _; simp
              | succ k ihk =>
                intro hk2
                rw [kidsFl_succ x d p k (by omega), List.take_succ_eq_append_getElem (by omega)]
                simp only [List.map_append, List.sum_append, List.length_append, List.map_cons, List.map_nil, List.sum_cons, List.sum_nil]
                have h5 := ihk (by omega)
                have h6 := ih x d.kids[k] (p ++ [partV d k]) hxd
                omega
            have h3 := h2 d.kids.length (Nat.le_refl _)
            rw [List.take_length] at h3
            simp only [mendO, List.length_nil]; omega
        · rw [if_neg h23]; simp
    · rw [if_neg h0, if_neg h0]; simp
theorem rightT_kid {t x : T} (h : rightT t = true) (hx : x ∈ t.kids) : rightT x = true := by
  simp only [rightT, Bool.and_eq_true, decide_eq_true_eq] at h ⊢
  have h1 := kid_small hx
  refine ⟨by omega, by omega, ?_⟩
  have h2 := h.2.2
  rw [allT_eq, Bool.and_eq_true] at h2
  obtain ⟨i, hi, e⟩ := List.getElem_of_mem hx
  have h3 := allL_at h2.2 hi
  rwa [e] at h3
theorem rightT_field {t : T} {i : Nat} (h : rightT t = true) (hi : i < t.fields.length) : rightT (t.fields[i]).type = true :=
  rightT_kid h (by unfold T.kids; exact List.mem_append.2 (.inl (List.mem_map.2 ⟨_, List.getElem_mem hi, rfl⟩)))
theorem rightT_of {t x : T} (h : rightT t = true) (hx : t.of = [x]) : rightT x = true :=
  rightT_kid h (by unfold T.kids; rw [hx]; simp)
theorem leastV_right {t : T} (h : rightT t = true) : leastV t = t.least := by unfold leastV; rw [if_pos h]
theorem rightT_small {t : T} (h : rightT t = true) : t.size ≤ 128 ∧ t.depth ≤ 12 ∧ allT t = true := by
  simpa only [rightT, Bool.and_eq_true, decide_eq_true_eq] using h
theorem mend_bound {t : T} {d : D} (h : rightT t = true) (hd : partB d = true) (hs : d.size ≤ 512) : (t.mend d).2 ≤ 65536 := by
  have h1 := mend_le t.depth t d [] (Nat.le_refl _)
  have h2 := faults_le t.depth t d [] (Nat.le_refl _) hd
  have h3 : t.size * d.size ≤ 128 * 512 := Nat.mul_le_mul (rightT_small h).1 hs
  omega
end Go.Proofs.YteecdmceleanjaaGreatDoor
namespace Go.Proofs.YteecdmceleanjaaGreatDoor
open Go.RowKit

theorem DocSt.kid2 {w3 w7 w8 : World} {box B' : Nat} {kd nm : Int} {st : ByteArray} {xs : List ByteArray} {ls : List D} {v3 v4 : Value} {cs : List Value} {F G : List Nat} (h : DocSt w3 w7 box kd nm st xs ls v3 v4 cs F) (hbox : box < w3.heap.size) {x : D} {y0 y1 y2 y3 y4 : Value}
    (hG : OwnIn w7 B' x y0 y1 y2 y3 y4 G) (hGN : G.Nodup) (hGd : ∀ k ∈ G, w3.heap.size ≤ k ∧ k ∉ blk v3 ∧ k ∉ blk v4 ∧ k ∉ F) (hB' : w3.heap.size ≤ B') {g cap : Nat}
    (hown : w8.ownsRow w3.heap.size 29 5 (.slice (some ⟨g, 0, none⟩) (ls.length + 1) cap) (ls.length + 1) (cs ++ [y0, y1, y2, y3, y4])) (ob : Obj) (hgrow : (w7.alloc ob).grownBy w8 v4.ownBlock) (hat : v4.ownBlock = some g ∨ g = w7.heap.size + 1) :
    DocSt w3 (w8.setCell ⟨box, 4, none⟩ (.slice (some ⟨g, 0, none⟩) (ls.length + 1) cap)) box kd nm st xs (ls ++ [x]) v3 (.slice (some ⟨g, 0, none⟩) (ls.length + 1) cap) (cs ++ [y0, y1, y2, y3, y4]) (F ++ G) := by
  have hz := h.t.size
  have l3 := h.o3.lt
  have l4 := h.o4.lt
  have lk := h.ok.lt
  have lG := hG.lt
  have hgb : g ≠ box := by
    rcases hat with e | e
    · have := (l4 g e).1; omega
    · omega
  have keep7 : ∀ k, k < w7.heap.size → v4.ownBlock ≠ some k → w8.heap[k]? = w7.heap[k]? := fun k hk hne =>
    (hgrow.block k (by rw [World.size_alloc]; omega) (fun e => hne e.symm)).trans (Below.heap_alloc w7 ob k hk)
  have far : ∀ k, k ≠ box → (w8.setCell ⟨box, 4, none⟩ (.slice (some ⟨g, 0, none⟩) (ls.length + 1) cap)).heap[k]? = w8.heap[k]? := fun k hk => Below.heap_setCell _ _ _ k hk
  have hnd := h.nd
  simp only [List.nodup_append, List.mem_append, ne_eq] at hnd
  obtain ⟨n3, ⟨n4, nF, n4F⟩, n3d⟩ := hnd
  have hb4 : v4.ownBlock ≠ some box := fun e => by have := (l4 box e).1; omega
  refine ⟨?_, ?_, ?_, ?_, ?_, ?_⟩
  · exact (h.bx.same (keep7 box (by omega) hb4)).set4 _
  · exact ownsRow_same h.o3 fun k hk => (far k (by have := (l3 k (blk_mem.1 hk)).1; omega)).trans (keep7 k (l3 k (blk_mem.1 hk)).2 fun e => n3d k hk k (.inl (blk_mem.2 e)) rfl)
  · rw [List.length_append]
    exact ownsRow_same hown fun k hk => far k (by
      have : k = g := by simpa [blk, Value.ownBlock] using hk
      omega)
  · exact OwnKids.push (hG.same hB' fun k hk => (far k (by have := (hGd k hk).1; omega)).trans (keep7 k (lG k hk).2 fun e => (hGd k hk).2.2.1 (blk_mem.2 e)))
      (h.ok.same (Nat.le_refl _) fun k hk => (far k (by have := (lk k hk).1; omega)).trans (keep7 k (lk k hk).2 fun e => n4F k (blk_mem.2 e) k hk rfl))
  · have hb : blk (.slice (some ⟨g, 0, none⟩) (ls.length + 1) cap) = [g] := rfl
    rw [hb, List.nodup_append, List.nodup_append, List.nodup_append]
    refine ⟨n3, ⟨by simp, ⟨nF, hGN, fun a ha b hb hab => by subst hab; exact (hGd a hb).2.2.2 ha⟩, fun a ha b hb hab => ?_⟩, fun a ha b hb hab => ?_⟩
    · simp only [List.mem_singleton] at ha
      subst ha; subst hab
      rcases List.mem_append.1 hb with hb | hb
      · rcases hat with e | e
        · exact n4F a (blk_mem.2 e) a hb rfl
        · have := (lk a hb).2; omega
      · rcases hat with e | e
        · exact (hGd a hb).2.2.1 (blk_mem.2 e)
        · have := (lG a hb).2; omega
    · subst hab
      rcases List.mem_append.1 hb with hb | hb
      · simp only [List.mem_singleton] at hb
        subst hb
        rcases hat with e | e
        · exact n3d a ha a (.inl (blk_mem.2 e)) rfl
        · have := (l3 a (blk_mem.1 ha)).2; omega
      · rcases List.mem_append.1 hb with hb | hb
        · exact n3d a ha a (.inr hb) rfl
        · exact (hGd a hb).2.1 ha
  · refine ⟨hgrow.os.trans h.t.os, hgrow.tape.trans h.t.tape, hgrow.output.trans h.t.output, ?_, fun k hk hk1 hk2 => ?_⟩
    · have h1 : (w7.alloc ob).heap.size ≤ w8.heap.size := hgrow.size
      rw [World.size_alloc] at h1
      simp [World.setCell]; omega
    · exact (far k hk2).trans ((keep7 k (by omega) fun e => by have := (l4 k e).1; omega).trans (h.t.block k hk hk1 hk2))
theorem MadeDoc.two {W0 : Nat} {w w' : World} {d : D} {a0 a1 a2 a3 a4 : Value} (h : MadeDoc W0 w d (.returned (.agg #[a0, a1, a2, a3, a4])) w') (u : Value) : MadeDoc2 W0 w d u (.returned (.tuple #[.agg #[a0, a1, a2, a3, a4], u])) w' := by
  obtain ⟨z0, z1, z2, z3, z4, G, e, h1, h2, h3⟩ := h
  injection e with e
  injection e with e
  injection e with e
  simp only [List.cons.injEq] at e
  obtain ⟨rfl, rfl, rfl, rfl, rfl, _⟩ := e
  exact ⟨_, _, _, _, _, G, rfl, h1, h2, h3⟩
/-- What mend is asked for. -/
def MendTo (m : Nat) : Prop := ∀ (t : T) (d : D) (tv uv : Value) (w : World) (B : Nat), t.depth ≤ m → rightT t = true → t.Fit → d.Fit → partB d = true → d.size ≤ 512 → B ≤ w.heap.size → TypeV w B t tv → DocV w B d uv →
  Calls Tryz.prog 51 #[tv, uv] w (MadeDoc2 w.heap.size w (t.mend d).1 (.int .i64 (t.mend d).2))
end Go.Proofs.YteecdmceleanjaaGreatDoor
namespace Go.Proofs.YteecdmceleanjaaGreatDoor
open Go.RowKit

structure DocK (W0 : Nat) (w3 w : World) (box : Nat) (kd nm : Int) (st : ByteArray) (xs : List ByteArray) (ls : List D) (v3 v4 : Value) (cs : List Value) (F : List Nat) : Prop where
  bx : Box5 w box (.int .i64 kd) (.int .i64 nm) (.string st) v3 v4
  o3 : w.ownsRow W0 9 1 v3 xs.length (xs.map Value.string)
  l3 : ∀ k ∈ blk v3, k < w3.heap.size ∧ k ≠ box
  o4 : w.ownsRow w3.heap.size 29 5 v4 ls.length cs
  ok : OwnKids w w3.heap.size ls cs F
  nd : (blk v4 ++ F).Nodup
  t : Turned w3 w [] box
theorem DocK.past {W0 : Nat} {w3 w w' : World} {box : Nat} {kd nm : Int} {st : ByteArray} {xs : List ByteArray} {ls : List D} {v3 v4 : Value} {cs : List Value} {F : List Nat} (h : DocK W0 w3 w box kd nm st xs ls v3 v4 cs F) (hb : Below w.heap.size w w') : DocK W0 w3 w' box kd nm st xs ls v3 v4 cs F :=
  ⟨h.bx.same (hb.block _ h.bx.lt), ownsRow_same h.o3 fun k hk => hb.block k (h.o3.lt k (blk_mem.1 hk)).2, h.l3, ownsRow_same h.o4 fun k hk => hb.block k (h.o4.lt k (blk_mem.1 hk)).2, h.ok.same (Nat.le_refl _) fun k hk => hb.block k (h.ok.lt k hk).2, h.nd, h.t.trans (Turned.of_below hb _ _)⟩
theorem DocK.kid {W0 : Nat} {w3 w7 w8 : World} {box B' : Nat} {kd nm : Int} {st : ByteArray} {xs : List ByteArray} {ls : List D} {v3 v4 : Value} {cs : List Value} {F G : List Nat} (h : DocK W0 w3 w7 box kd nm st xs ls v3 v4 cs F) (hbox : box < w3.heap.size) {x : D} {y0 y1 y2 y3 y4 : Value}
    (hG : OwnIn w7 B' x y0 y1 y2 y3 y4 G) (hGN : G.Nodup) (hGd : ∀ k ∈ G, w3.heap.size ≤ k ∧ k ∉ blk v4 ∧ k ∉ F) (hB' : w3.heap.size ≤ B') {g cap : Nat}
    (hown : w8.ownsRow w3.heap.size 29 5 (.slice (some ⟨g, 0, none⟩) (ls.length + 1) cap) (ls.length + 1) (cs ++ [y0, y1, y2, y3, y4])) (ob : Obj) (hgrow : (w7.alloc ob).grownBy w8 v4.ownBlock) (hat : v4.ownBlock = some g ∨ g = w7.heap.size + 1) :
    DocK W0 w3 (w8.setCell ⟨box, 4, none⟩ (.slice (some ⟨g, 0, none⟩) (ls.length + 1) cap)) box kd nm st xs (ls ++ [x]) v3 (.slice (some ⟨g, 0, none⟩) (ls.length + 1) cap) (cs ++ [y0, y1, y2, y3, y4]) (F ++ G) := by
  have hz := h.t.size
  have l3 := h.l3
  have l4 := h.o4.lt
  have lk := h.ok.lt
  have lG := hG.lt
  have hgb : g ≠ box := by
    rcases hat with e | e
    · have := (l4 g e).1; omega
    · omega
  have keep7 : ∀ k, k < w7.heap.size → v4.ownBlock ≠ some k → w8.heap[k]? = w7.heap[k]? := fun k hk hne =>
    (hgrow.block k (by rw [World.size_alloc]; omega) (fun e => hne e.symm)).trans (Below.heap_alloc w7 ob k hk)
  have far : ∀ k, k ≠ box → (w8.setCell ⟨box, 4, none⟩ (.slice (some ⟨g, 0, none⟩) (ls.length + 1) cap)).heap[k]? = w8.heap[k]? := fun k hk => Below.heap_setCell _ _ _ k hk
  have hnd := h.nd
  simp only [List.nodup_append, ne_eq] at hnd
  obtain ⟨n4, nF, n4F⟩ := hnd
  have hb4 : v4.ownBlock ≠ some box := fun e => by have := (l4 box e).1; omega
  refine ⟨?_, ?_, l3, ?_, ?_, ?_, ?_⟩
  · exact (h.bx.same (keep7 box (by omega) hb4)).set4 _
  · exact ownsRow_same h.o3 fun k hk => (far k (l3 k hk).2).trans (keep7 k (by have := (l3 k hk).1; omega) fun e => by have := (l4 k e).1; have := (l3 k hk).1; omega)
  · rw [List.length_append]
    exact ownsRow_same hown fun k hk => far k (by
      have : k = g := by simpa [blk, Value.ownBlock] using hk
      omega)
  · exact OwnKids.push (hG.same hB' fun k hk => (far k (by have := (hGd k hk).1; omega)).trans (keep7 k (lG k hk).2 fun e => (hGd k hk).2.1 (blk_mem.2 e)))
      (h.ok.same (Nat.le_refl _) fun k hk => (far k (by have := (lk k hk).1; omega)).trans (keep7 k (lk k hk).2 fun e => n4F k (blk_mem.2 e) k hk rfl))
  · have hb : blk (.slice (some ⟨g, 0, none⟩) (ls.length + 1) cap) = [g] := rfl
    rw [hb, List.nodup_append, List.nodup_append]
    refine ⟨by simp, ⟨nF, hGN, fun a ha b hb hab => by subst hab; exact (hGd a hb).2.2 ha⟩, fun a ha b hb hab => ?_⟩
    simp only [List.mem_singleton] at ha
    subst ha; subst hab
    rcases List.mem_append.1 hb with hb | hb
    · rcases hat with e | e
      · exact n4F a (blk_mem.2 e) a hb rfl
      · have := (lk a hb).2; omega
    · rcases hat with e | e
      · exact (hGd a hb).2.1 (blk_mem.2 e)
      · have := (lG a hb).2; omega
  · refine ⟨hgrow.os.trans h.t.os, hgrow.tape.trans h.t.tape, hgrow.output.trans h.t.output, ?_, fun k hk hk1 hk2 => ?_⟩
    · have h1 : (w7.alloc ob).heap.size ≤ w8.heap.size := hgrow.size
      rw [World.size_alloc] at h1
      simp [World.setCell]; omega
    · exact (far k hk2).trans ((keep7 k (by omega) fun e => by have := (l4 k e).1; omega).trans (h.t.block k hk hk1 hk2))
/-- The document is done, and stands in the result's variable. -/
theorem docK_out {w w3 wr : World} {W0 box r : Nat} {kd nm : Int} {st : ByteArray} {xs : List ByteArray} {ls : List D} {A6 A7 : Option Addr} {c6 c7 : Nat} {cs : List Value} {F : List Nat} {d : D} (h : DocK W0 w3 wr box kd nm st xs ls (.slice A6 xs.length c6) (.slice A7 ls.length c7) cs F) (hd : d = .mk kd nm st xs ls)
    (hr : w.heap.size ≤ r) (hrW : r < W0) (hr3 : r < w3.heap.size) (hbx : w.heap.size ≤ box) (hW : w.heap.size ≤ W0) (hb : Below w.heap.size w w3) :
    MadeDoc w.heap.size w d (.returned (.agg #[.int .i64 kd, .int .i64 nm, .string st, .slice A6 xs.length c6, .slice A7 ls.length c7])) (((((wr.setCell ⟨r, 0, none⟩ (.int .i64 kd)).setCell ⟨r, 1, none⟩ (.int .i64 nm)).setCell ⟨r, 2, none⟩ (.string st)).setCell ⟨r, 3, none⟩ (.slice A6 xs.length c6)).setCell ⟨r, 4, none⟩ (.slice A7 ls.length c7)) := by
  subst hd
  have hz := hb.size
  have hsame : ∀ k, r < k → (((((wr.setCell ⟨r, 0, none⟩ (.int .i64 kd)).setCell ⟨r, 1, none⟩ (.int .i64 nm)).setCell ⟨r, 2, none⟩ (.string st)).setCell ⟨r, 3, none⟩ (.slice A6 xs.length c6)).setCell ⟨r, 4, none⟩ (.slice A7 ls.length c7)).heap[k]? = wr.heap[k]? := fun k hk => by
    rw [Below.heap_setCell _ _ _ k (by show k ≠ r; omega), Below.heap_setCell _ _ _ k (by show k ≠ r; omega), Below.heap_setCell _ _ _ k (by show k ≠ r; omega), Below.heap_setCell _ _ _ k (by show k ≠ r; omega), Below.heap_setCell _ _ _ k (by show k ≠ r; omega)]
  have l1 := h.o3.lt
  have l2 := h.o4.lt
  have l3 := h.ok.lt
  refine ⟨_, _, _, _, _, _, rfl, OwnIn.make (d := .mk kd nm st xs ls)
    (by exact ownsRow_base (ownsRow_same h.o3 fun k hk => hsame k (by have := (l1 k (blk_mem.1 hk)).1; omega)) (by omega))
    (by exact ownsRow_base (ownsRow_same h.o4 fun k hk => hsame k (by have := (l2 k (blk_mem.1 hk)).1; omega)) (by omega))
    (h.ok.same (by omega) fun k hk => hsame k (by have := (l3 k hk).1; omega)), ?_, ?_⟩
  · rw [List.nodup_append]
    refine ⟨blk_nodup _, h.nd, fun a ha b hb' hab => ?_⟩
    subst hab
    have h1 := (h.l3 a ha).1
    rcases List.mem_append.1 hb' with h2 | h2
    · have := (l2 a (blk_mem.1 h2)).1; omega
    · have := (l3 a h2).1; omega
  · have hb2 : Below w.heap.size w wr := hb.trans (h.t.below (B := w.heap.size) (by simp) (by omega) (by omega))
    exact ((((hb2.setCell (by exact hr) _).setCell (by exact hr) _).setCell (by exact hr) _).setCell (by exact hr) _).setCell (by exact hr) _
end Go.Proofs.YteecdmceleanjaaGreatDoor
