/-
  Copies of documents: plain lemmas, and what a call that makes a document tells.
  A document that grows: its keys and its kids are appended to.
  What doc.Int, Bool and Bytes make.
  slices.Delete of documents: plain lemmas.
  slices.Insert of one document into a row of the call's own.
-/
import Derived.Test.YtgklnafliaplkaaGreatDoorB02
import Derived.OwnWalk
import Derived.Test.YtgklnafliaplkaaGreatDoorB01
import Derived.Deep.RegionLaw
import Derived.Deep.DrawnRows
import Derived.Shelf.Spec.SlicesInsert
import Derived.Lib.AppendZerosOnto
namespace Go.Proofs.YtgklnafliaplkaaGreatDoor
open Go.RowKit

theorem infoS : (Tryz.prog.info? 9).map (fun i => (i.zero, i.size, i.bytes)) = some (some (.string ByteArray.empty), 1, 16) := by kernel_rfl
theorem infoD : (Tryz.prog.info? 25).map (fun i => (i.zero, i.size, i.bytes)) = some (some (.agg #[.int .i64 0, .int .i64 0, .string ByteArray.empty, .slice none 0 0, .slice none 0 0]), 5, 80) := by kernel_rfl

theorem strs_one (xs : List ByteArray) : ∀ u ∈ xs.map Value.string, u.oneCell' = true := by
  intro u hu
  obtain ⟨x, _, rfl⟩ := List.mem_map.1 hu
  rfl
theorem ownsRow_slice {w : World} {base : Nat} {e : TypeId} {size n : Nat} {v : Value} {xs : List Value} (h : w.ownsRow base e size v n xs) : ∃ A c, v = .slice A n c := by
  rcases h.2 with ⟨rfl, rfl⟩ | ⟨g, cap, cur, rfl, _⟩
  · exact ⟨none, 0, rfl⟩
  · exact ⟨_, _, rfl⟩
/-- 'append(v, nil...)', v the call's own: v. -/
theorem run_append_nils {P : Program} (w : World) (t ty e : TypeId) (i : TypeInfo) (base size c : Nat) (ht : P.underlying t = some (.slice e)) (hi : P.info? e = some i) (v : Value) (n : Nat) (xs : List Value) (hown : w.ownsRow base e size v n xs) :
    (Builtin.append_ #[t, t] ty #[v, .slice none 0 c]).run P w = .ok v w := by
  rcases hown.2 with ⟨rfl, rfl⟩ | ⟨g, cap, cur, rfl, _, _, hnc, _⟩
  · simp [Builtin.append_, run_underlying ht, sizeOf, typeInfo, hi, Builtin.lenOf, Builtin.firstCells]
  · simp [Builtin.append_, run_underlying ht, sizeOf, typeInfo, hi, Builtin.lenOf, Builtin.firstCells, hnc, storeCells]
theorem wpList_append_nilsrc {P : Program} {w : World} {ops : Array Oper} {rest : List Oper} {o : Oper} {a : Act} {Q : Exit → Act → World → Prop} (hgd : o.guard = none) (s x : Operand) (t e : TypeId) (i : TypeInfo) (base size c : Nat)
    (ho : o.op = .call { callee := .builtin .append, args := #[s, x], argTypes := #[t, t] }) (ht : P.underlying t = some (.slice e)) (hi : P.info? e = some i) (v : Value) (n : Nat) (xs : List Value) (hs : a.eval s = v) (hown : w.ownsRow base e size v n xs) (hx : a.eval x = .slice none 0 c)
    (h : wpList P ops Q rest (a.put o.dst v) w) : wpList P ops Q (o :: rest) a w := by
  refine wpList_plain hgd fun K hK => ?_
  have hrun := run_append_nils (P := P) w t o.type e i base size c ht hi v n xs hown
  unfold Oper.wp execOp
  simp only [ho, resolve, invoke, builtin, Sem.run_bind, Sem.run_pure, Result.andThen_ok, List.map_toArray, List.map_cons, List.map_nil, hs, hx, hrun]
  exact hK _ _ h
/-- 'append(v, xs...)' of strings that can be read, v the call's own. -/
theorem wpList_append_strs {w : World} {ops : Array Oper} {rest : List Oper} {o : Oper} {a : Act} {Q : Exit → Act → World → Prop} (hgd : o.guard = none) (s x : Operand)
    (ho : o.op = .call { callee := .builtin .append, args := #[s, x], argTypes := #[22, 22] })
    (base B n : Nat) (v u : Value) (olds : List Value) (xs : List ByteArray) (hs : a.eval s = v) (hx : a.eval x = u) (hown : w.ownsRow base 9 1 v n olds) (hu : Strs w B u xs) (hn : n + xs.length ≤ 100000) (hbase : base ≤ w.heap.size)
    (h : ∀ v' w', w'.ownsRow base 9 1 v' (n + xs.length) (olds ++ xs.map Value.string) → w.grownBy w' v.ownBlock → (v'.ownBlock = v.ownBlock ∨ v'.ownBlock = some w.heap.size) → wpList Tryz.prog ops Q rest (a.put o.dst v') w') :
    wpList Tryz.prog ops Q (o :: rest) a w := by
  obtain ⟨i0, hi, hz0, hz1, hz2⟩ := info_parts infoS
  obtain ⟨A, c, rfl, hc1, hc2⟩ := hu
  cases A with
  | none =>
    have h0 : xs.length = 0 := by
      rcases Nat.eq_zero_or_pos xs.length with h0 | h0
      · exact h0
      · obtain ⟨b, off, e, _⟩ := hc2 h0; cases e
    obtain rfl : xs = [] := List.eq_nil_of_length_eq_zero h0
    exact wpList_append_nilsrc hgd s x 22 9 i0 base 1 c ho Tryz.underlying22 hi v n olds hs hown hx (h v w (by simpa using hown) (World.grownBy.refl w _) (.inl rfl))
  | some ad =>
    refine wpList_append_own_at _ hgd s x 22 ho base 9 i0 (.string ByteArray.empty) 1 16 Tryz.underlying22 hi hz0 hz1 hz2 (by rfl) (by omega) v n olds hs hown ad xs.length c (xs.map Value.string) hx (by simp) ?_ (strs_one _) (by unfold maxLen; omega) (by omega) hbase fun v' w' h1 h2 _ h4 => h v' w' h1 h2 h4
    intro j u hj
    rw [List.getElem?_map] at hj
    cases hxj : xs[j]? with
    | none => rw [hxj] at hj; cases hj
    | some y =>
      rw [hxj] at hj
      obtain ⟨hlt, rfl⟩ := List.getElem?_eq_some_iff.1 hxj
      obtain ⟨b, off, e, _, hc⟩ := hc2 (by omega)
      obtain rfl := Option.some.inj e
      have : (⟨b, off, none⟩ : Addr).add j = ⟨b, off + j, none⟩ := by unfold Addr.add; split <;> simp_all
      rw [this, hc j hlt]
      exact hj

theorem below_drewN (w : World) (n : Nat) : Below w.heap.size w (w.drewN n) := ⟨rfl, rfl, rfl, Nat.le_refl _, fun _ _ => rfl⟩
def Hold (p : Prop) : Prop := p
theorem hold {p : Prop} (h : Hold p) : p := h
/-- What a call that makes a document tells. -/
def MadeDoc (W0 : Nat) (w : World) (d : D) (e : Ending) (w' : World) : Prop :=
  ∃ (v0 v1 v2 v3 v4 : Value) (F : List Nat), e = .returned (.agg #[v0, v1, v2, v3, v4]) ∧ OwnIn w' W0 d v0 v1 v2 v3 v4 F ∧ F.Nodup ∧ Below W0 w w'
/-- .. a row of documents. -/
def MadeRow (W0 : Nat) (w : World) (l : List D) (e : Ending) (w' : World) : Prop :=
  ∃ (v : Value) (cs : List Value) (F : List Nat), e = .returned v ∧ w'.ownsRow W0 25 5 v l.length cs ∧ OwnKids w' W0 l cs F ∧ (blk v ++ F).Nodup ∧ Below W0 w w'

/-- A slice of documents that can be read. -/
def KidsV (w : World) (B : Nat) (l : List D) (v : Value) : Prop :=
  ∃ (A : Option Addr) (c : Nat), v = .slice A l.length c ∧ l.length ≤ c ∧ (0 < l.length → ∃ b off, A = some ⟨b, off, none⟩ ∧ b < B ∧ KidsIn w B b off 0 l)

theorem oneCell_agg {u0 u1 u2 u3 u4 : Value} {w : World} {B : Nat} {d : D} (h : DocIn w B d u0 u1 u2 u3 u4) : ∀ u ∈ [u0, u1, u2, u3, u4], u.oneCell' = true := by
  obtain ⟨A3, c3, A4, c4, rfl, rfl, rfl, rfl, rfl⟩ := h.forms
  intro u hu
  simp only [List.mem_cons, List.not_mem_nil, or_false] at hu
  rcases hu with rfl | rfl | rfl | rfl | rfl <;> rfl

theorem blk_nodup (v : Value) : (blk v).Nodup := by unfold blk; cases v.ownBlock <;> simp
theorem push_rel {W0 k n cap g : Nat} {w wr w2 w3 : World} {u y0 y1 y2 y3 y4 : Value} {l : List D} (hlt : k < l.length) {cs : List Value} {F G : List Nat} (HND : (blk u ++ F).Nodup) (HO : wr.ownsRow W0 25 5 u k cs)
    (HOK : OwnKids wr W0 (l.take k) cs F) (hb : Below W0 w wr) (hW : W0 ≤ wr.heap.size) (hb3 : Below wr.heap.size wr w2) (HG : OwnIn w2 (wr.heap.size + 1) l[k] y0 y1 y2 y3 y4 G) (HGN : G.Nodup) (o : Obj)
    (hgrow : (w2.alloc o).grownBy w3 u.ownBlock) (hat : u.ownBlock = some g ∨ g = w2.heap.size + 1) :
    OwnKids w3 W0 (l.take (k + 1)) (cs ++ [y0, y1, y2, y3, y4]) (F ++ G) ∧ (blk (.slice (some ⟨g, 0, none⟩) n cap) ++ (F ++ G)).Nodup ∧ Below W0 w w3 := by
  have hs := hb3.size
  have hu : ∀ j, u.ownBlock = some j → W0 ≤ j ∧ j < wr.heap.size := HO.lt
  have hF := HOK.lt
  have hG := HG.lt
  rw [List.nodup_append] at HND
  obtain ⟨_, hFn, hdis⟩ := HND
  have huF : ∀ j ∈ F, u.ownBlock ≠ some j := fun j hj h => hdis j (blk_mem.2 h) j hj rfl
  have keep : ∀ j, j < w2.heap.size → u.ownBlock ≠ some j → w3.heap[j]? = w2.heap[j]? := fun j hj hne =>
    (hgrow.block j (by simp; omega) (fun e => hne e.symm)).trans (Below.heap_alloc w2 o j hj)
  refine ⟨?_, ?_, ?_⟩
  · rw [List.take_succ_eq_append_getElem hlt]
    exact OwnKids.push (HG.same (by omega) fun j hj => keep j (hG j hj).2 fun h => by have := (hu j h).2; have := (hG j hj).1; omega)
      (HOK.same (Nat.le_refl _) fun j hj => (keep j (by have := (hF j hj).2; omega) (huF j hj)).trans (hb3.block j (hF j hj).2))
  · have hb : blk (.slice (some ⟨g, 0, none⟩) n cap) = [g] := rfl
    rw [hb, List.nodup_append]
    refine ⟨by simp, ?_, fun a ha b hbm hab => ?_⟩
    · rw [List.nodup_append]
      exact ⟨hFn, HGN, fun a ha b hb hab => by subst hab; have := (hF a ha).2; have := (hG a hb).1; omega⟩
    · simp only [List.mem_singleton] at ha
      subst ha; subst hab
      rcases List.mem_append.1 hbm with hm | hm
      · rcases hat with h | h
        · exact huF a hm h
        · have := (hF a hm).2; omega
      · rcases hat with h | h
        · have := (hu a h).2; have := (hG a hm).1; omega
        · have := (hG a hm).2; omega
  · refine hb.trans ?_
    refine (hb3.mono hW).trans ?_
    refine ((Below.refl W0 w2).alloc (by omega) o).trans ⟨hgrow.os, hgrow.tape, hgrow.output, hgrow.size, fun j hj => hgrow.block j (by simp; omega) fun e => by have := (hu j e.symm).1; omega⟩

end Go.Proofs.YtgklnafliaplkaaGreatDoor
namespace Go.Proofs.YtgklnafliaplkaaGreatDoor
open Go.RowKit

/-- The variable box holds a record of these keys and these kids, in blocks of their own, made since w3. -/
structure DocSt (w3 w : World) (box : Nat) (kd nm : Int) (st : ByteArray) (xs : List ByteArray) (ls : List D) (v3 v4 : Value) (cs : List Value) (F : List Nat) : Prop where
  bx : Box5 w box (.int .i64 kd) (.int .i64 nm) (.string st) v3 v4
  o3 : w.ownsRow w3.heap.size 9 1 v3 xs.length (xs.map Value.string)
  o4 : w.ownsRow w3.heap.size 25 5 v4 ls.length cs
  ok : OwnKids w w3.heap.size ls cs F
  nd : (blk v3 ++ (blk v4 ++ F)).Nodup
  t : Turned w3 w [] box
theorem DocSt.drewN {w3 w : World} {box : Nat} {kd nm : Int} {st : ByteArray} {xs : List ByteArray} {ls : List D} {v3 v4 : Value} {cs : List Value} {F : List Nat} (h : DocSt w3 w box kd nm st xs ls v3 v4 cs F) (n : Nat) : DocSt w3 (w.drewN n) box kd nm st xs ls v3 v4 cs F :=
  ⟨h.bx, h.o3, h.o4, h.ok.same (Nat.le_refl _) fun _ _ => rfl, h.nd, ⟨h.t.os, h.t.tape, h.t.output, h.t.size, h.t.block⟩⟩
theorem DocSt.key {w3 w4 w5 : World} {box : Nat} {kd nm : Int} {st : ByteArray} {xs : List ByteArray} {ls : List D} {v3 v4 : Value} {cs : List Value} {F : List Nat} (h : DocSt w3 w4 box kd nm st xs ls v3 v4 cs F) (hbox : box < w3.heap.size) {g cap : Nat} {S : ByteArray}
    (hown : w5.ownsRow w3.heap.size 9 1 (.slice (some ⟨g, 0, none⟩) (xs.length + 1) cap) (xs.length + 1) (xs.map Value.string ++ [.string S])) (ob : Obj) (hgrow : (w4.alloc ob).drew.grownBy w5 v3.ownBlock) (hat : v3.ownBlock = some g ∨ g = w4.heap.size + 1) :
    DocSt w3 (w5.setCell ⟨box, 3, none⟩ (.slice (some ⟨g, 0, none⟩) (xs.length + 1) cap)) box kd nm st (xs ++ [S]) ls (.slice (some ⟨g, 0, none⟩) (xs.length + 1) cap) v4 cs F := by
  have hz := h.t.size
  have l3 := h.o3.lt
  have l4 := h.o4.lt
  have lk := h.ok.lt
  have hgb : g ≠ box := by
    rcases hat with e | e
    · have := (l3 g e).1; omega
    · omega
  have keep : ∀ k, k < w4.heap.size → v3.ownBlock ≠ some k → w5.heap[k]? = w4.heap[k]? := fun k hk hne =>
    (hgrow.block k (by show k < (w4.alloc ob).heap.size; rw [World.size_alloc]; omega) (fun e => hne e.symm)).trans (Below.heap_alloc w4 ob k hk)
  have far : ∀ k, k ≠ box → (w5.setCell ⟨box, 3, none⟩ (.slice (some ⟨g, 0, none⟩) (xs.length + 1) cap)).heap[k]? = w5.heap[k]? := fun k hk => Below.heap_setCell _ _ _ k hk
  have hnd := h.nd
  simp only [List.nodup_append, List.mem_append, ne_eq] at hnd
  obtain ⟨_, ⟨n4, nF, n4F⟩, n3d⟩ := hnd
  have hb3 : v3.ownBlock ≠ some box := fun e => by have := (l3 box e).1; omega
  refine ⟨?_, ?_, ?_, ?_, ?_, ?_⟩
  · exact (h.bx.same (keep box (by omega) hb3)).set3 _
  · rw [List.length_append, List.map_append]
    exact ownsRow_same hown fun k hk => far k (by
      have : k = g := by simpa [blk, Value.ownBlock] using hk
      omega)
  · exact ownsRow_same h.o4 fun k hk => (far k (by have := (l4 k (blk_mem.1 hk)).1; omega)).trans (keep k (l4 k (blk_mem.1 hk)).2 fun e => n3d k (blk_mem.2 e) k (.inl hk) rfl)
  · exact h.ok.same (Nat.le_refl _) fun k hk => (far k (by have := (lk k hk).1; omega)).trans (keep k (lk k hk).2 fun e => n3d k (blk_mem.2 e) k (.inr hk) rfl)
  · have hb : blk (.slice (some ⟨g, 0, none⟩) (xs.length + 1) cap) = [g] := rfl
    rw [hb, List.nodup_append, List.nodup_append]
    refine ⟨by simp, ⟨n4, nF, n4F⟩, fun a ha b hb hab => ?_⟩
    simp only [List.mem_singleton] at ha
    subst ha; subst hab
    rcases hat with e | e
    · exact n3d a (blk_mem.2 e) a (List.mem_append.1 hb) rfl
    · rcases List.mem_append.1 hb with hb | hb
      · have := (l4 a (blk_mem.1 hb)).2; omega
      · have := (lk a hb).2; omega
  · refine ⟨hgrow.os.trans h.t.os, hgrow.tape.trans h.t.tape, hgrow.output.trans h.t.output, ?_, fun k hk hk1 hk2 => ?_⟩
    · have h1 : (w4.alloc ob).heap.size ≤ w5.heap.size := hgrow.size
      rw [World.size_alloc] at h1
      simp [World.setCell]; omega
    · exact (far k hk2).trans ((keep k (by omega) fun e => by have := (l3 k e).1; omega).trans (h.t.block k hk hk1 hk2))
theorem DocSt.kid {w3 w6 w7 w8 : World} {box : Nat} {kd nm : Int} {st : ByteArray} {xs : List ByteArray} {ls : List D} {v3 v4 : Value} {cs : List Value} {F G : List Nat} (h : DocSt w3 w6 box kd nm st xs ls v3 v4 cs F) (hbox : box < w3.heap.size) {x : D} {y0 y1 y2 y3 y4 : Value} (hb7 : Below w6.heap.size w6 w7)
    (hG : OwnIn w7 w6.heap.size x y0 y1 y2 y3 y4 G) (hGN : G.Nodup) {g cap : Nat}
    (hown : w8.ownsRow w3.heap.size 25 5 (.slice (some ⟨g, 0, none⟩) (ls.length + 1) cap) (ls.length + 1) (cs ++ [y0, y1, y2, y3, y4])) (ob : Obj) (hgrow : (w7.alloc ob).grownBy w8 v4.ownBlock) (hat : v4.ownBlock = some g ∨ g = w7.heap.size + 1) :
    DocSt w3 (w8.setCell ⟨box, 4, none⟩ (.slice (some ⟨g, 0, none⟩) (ls.length + 1) cap)) box kd nm st xs (ls ++ [x]) v3 (.slice (some ⟨g, 0, none⟩) (ls.length + 1) cap) (cs ++ [y0, y1, y2, y3, y4]) (F ++ G) := by
  have hz := h.t.size
  have hz7 := hb7.size
  have l3 := h.o3.lt
  have l4 := h.o4.lt
  have lk := h.ok.lt
  have lG := hG.lt
  have hgb : g ≠ box := by
    rcases hat with e | e
    · have := (l4 g e).1; omega
    · omega
  have keep7 : ∀ k, k < w7.heap.size → v4.ownBlock ≠ some k → w8.heap[k]? = w7.heap[k]? := fun k hk hne =>
    (hgrow.block k (by rw [World.size_alloc]; omega) (fun e => hne e.symm)).trans (Below.heap_alloc w7 ob k hk)
  have keep : ∀ k, k < w6.heap.size → v4.ownBlock ≠ some k → w8.heap[k]? = w6.heap[k]? := fun k hk hne => (keep7 k (by omega) hne).trans (hb7.block k hk)
  have far : ∀ k, k ≠ box → (w8.setCell ⟨box, 4, none⟩ (.slice (some ⟨g, 0, none⟩) (ls.length + 1) cap)).heap[k]? = w8.heap[k]? := fun k hk => Below.heap_setCell _ _ _ k hk
  have hnd := h.nd
  simp only [List.nodup_append, List.mem_append, ne_eq] at hnd
  obtain ⟨n3, ⟨n4, nF, n4F⟩, n3d⟩ := hnd
  have hb4 : v4.ownBlock ≠ some box := fun e => by have := (l4 box e).1; omega
  refine ⟨?_, ?_, ?_, ?_, ?_, ?_⟩
  · exact (h.bx.same (keep box (by omega) hb4)).set4 _
  · exact ownsRow_same h.o3 fun k hk => (far k (by have := (l3 k (blk_mem.1 hk)).1; omega)).trans (keep k (l3 k (blk_mem.1 hk)).2 fun e => n3d k hk k (.inl (blk_mem.2 e)) rfl)
  · rw [List.length_append]
    exact ownsRow_same hown fun k hk => far k (by
      have : k = g := by simpa [blk, Value.ownBlock] using hk
      omega)
  · exact OwnKids.push (hG.same (by omega) fun k hk => (far k (by have := (lG k hk).1; omega)).trans (keep7 k (lG k hk).2 fun e => by have := (l4 k e).2; have := (lG k hk).1; omega))
      (h.ok.same (Nat.le_refl _) fun k hk => (far k (by have := (lk k hk).1; omega)).trans (keep k (lk k hk).2 fun e => n4F k (blk_mem.2 e) k hk rfl))
  · have hb : blk (.slice (some ⟨g, 0, none⟩) (ls.length + 1) cap) = [g] := rfl
    rw [hb, List.nodup_append, List.nodup_append, List.nodup_append]
    refine ⟨n3, ⟨by simp, ⟨nF, hGN, fun a ha b hb hab => by subst hab; have := (lk a ha).2; have := (lG a hb).1; omega⟩, fun a ha b hb hab => ?_⟩, fun a ha b hb hab => ?_⟩
    · simp only [List.mem_singleton] at ha
      subst ha; subst hab
      rcases List.mem_append.1 hb with hb | hb
      · rcases hat with e | e
        · exact n4F a (blk_mem.2 e) a hb rfl
        · have := (lk a hb).2; omega
      · rcases hat with e | e
        · have := (l4 a e).2; have := (lG a hb).1; omega
        · have := (lG a hb).2; omega
    · subst hab
      rcases List.mem_append.1 hb with hb | hb
      · simp only [List.mem_singleton] at hb
        subst hb
        rcases hat with e | e
        · exact n3d a ha a (.inl (blk_mem.2 e)) rfl
        · have := (l3 a (blk_mem.1 ha)).2; omega
      · rcases List.mem_append.1 hb with hb | hb
        · exact n3d a ha a (.inr hb) rfl
        · have := (l3 a (blk_mem.1 ha)).2; have := (lG a hb).1; omega
  · refine ⟨hgrow.os.trans (hb7.os.trans h.t.os), hgrow.tape.trans (hb7.tape.trans h.t.tape), hgrow.output.trans (hb7.output.trans h.t.output), ?_, fun k hk hk1 hk2 => ?_⟩
    · have h1 : (w7.alloc ob).heap.size ≤ w8.heap.size := hgrow.size
      rw [World.size_alloc] at h1
      simp [World.setCell]; omega
    · exact (far k hk2).trans ((keep k (by omega) fun e => by have := (l4 k e).1; omega).trans (h.t.block k hk hk1 hk2))
/-- .. behind what turns nothing of it. -/
theorem DocSt.past {w3 w w' : World} {box : Nat} {kd nm : Int} {st : ByteArray} {xs : List ByteArray} {ls : List D} {v3 v4 : Value} {cs : List Value} {F : List Nat} (h : DocSt w3 w box kd nm st xs ls v3 v4 cs F) (hb : Below w.heap.size w w') : DocSt w3 w' box kd nm st xs ls v3 v4 cs F :=
  ⟨h.bx.same (hb.block _ h.bx.lt), ownsRow_same h.o3 fun k hk => hb.block k (h.o3.lt k (blk_mem.1 hk)).2, ownsRow_same h.o4 fun k hk => hb.block k (h.o4.lt k (blk_mem.1 hk)).2, h.ok.same (Nat.le_refl _) fun k hk => hb.block k (h.ok.lt k hk).2, h.nd, h.t.trans (Turned.of_below hb _ _)⟩
theorem DocSt.alloc {w3 w : World} {box : Nat} {kd nm : Int} {st : ByteArray} {xs : List ByteArray} {ls : List D} {v3 v4 : Value} {cs : List Value} {F : List Nat} (h : DocSt w3 w box kd nm st xs ls v3 v4 cs F) (o : Obj) : DocSt w3 (w.alloc o) box kd nm st xs ls v3 v4 cs F :=
  h.past ((Below.refl _ _).alloc (Nat.le_refl _) _)
/-- .. by a statement whose order is known. -/
theorem DocSt.key0 {w3 w4 w5 : World} {box : Nat} {kd nm : Int} {st : ByteArray} {xs : List ByteArray} {ls : List D} {v3 v4 : Value} {cs : List Value} {F : List Nat} (h : DocSt w3 w4 box kd nm st xs ls v3 v4 cs F) (hbox : box < w3.heap.size) {g cap : Nat} {S : ByteArray}
    (hown : w5.ownsRow w3.heap.size 9 1 (.slice (some ⟨g, 0, none⟩) (xs.length + 1) cap) (xs.length + 1) (xs.map Value.string ++ [.string S])) (ob : Obj) (hgrow : (w4.alloc ob).grownBy w5 v3.ownBlock) (hat : v3.ownBlock = some g ∨ g = w4.heap.size + 1) :
    DocSt w3 (w5.setCell ⟨box, 3, none⟩ (.slice (some ⟨g, 0, none⟩) (xs.length + 1) cap)) box kd nm st (xs ++ [S]) ls (.slice (some ⟨g, 0, none⟩) (xs.length + 1) cap) v4 cs F :=
  h.key hbox hown ob ⟨hgrow.os, hgrow.tape, hgrow.output, hgrow.size, hgrow.block⟩ hat
theorem frozen_alloc_lt {w : World} {b : Nat} (hb : b < w.heap.size) (ob : Obj) (o : Nat) : (w.alloc ob).frozen? ⟨b, o, none⟩ = w.frozen? ⟨b, o, none⟩ := World.frozen?_of_block (a := ⟨b, o, none⟩) (Below.heap_alloc w ob b hb)
theorem cell_alloc_lt' {w : World} {b : Nat} (hb : b < w.heap.size) (ob : Obj) (o : Nat) : (w.alloc ob).cell? ⟨b, o, none⟩ = w.cell? ⟨b, o, none⟩ := World.cell?_of_block (a := ⟨b, o, none⟩) (Below.heap_alloc w ob b hb)
/-- The document is done, and stands in the result's variable. -/
theorem doc_out {w w3 wr : World} {box r : Nat} {kd nm : Int} {st : ByteArray} {xs : List ByteArray} {ls : List D} {A6 A7 : Option Addr} {c6 c7 : Nat} {cs : List Value} {F : List Nat} {d : D} (h : DocSt w3 wr box kd nm st xs ls (.slice A6 xs.length c6) (.slice A7 ls.length c7) cs F) (hd : d = .mk kd nm st xs ls)
    (hr : w.heap.size ≤ r) (hr3 : r < w3.heap.size) (hbx : w.heap.size ≤ box) (hb : Below w.heap.size w w3) :
    MadeDoc w.heap.size w d (.returned (.agg #[.int .i64 kd, .int .i64 nm, .string st, .slice A6 xs.length c6, .slice A7 ls.length c7])) (((((wr.setCell ⟨r, 0, none⟩ (.int .i64 kd)).setCell ⟨r, 1, none⟩ (.int .i64 nm)).setCell ⟨r, 2, none⟩ (.string st)).setCell ⟨r, 3, none⟩ (.slice A6 xs.length c6)).setCell ⟨r, 4, none⟩ (.slice A7 ls.length c7)) := by
  subst hd
  have hz := hb.size
  have hsame : ∀ k, w3.heap.size ≤ k → (((((wr.setCell ⟨r, 0, none⟩ (.int .i64 kd)).setCell ⟨r, 1, none⟩ (.int .i64 nm)).setCell ⟨r, 2, none⟩ (.string st)).setCell ⟨r, 3, none⟩ (.slice A6 xs.length c6)).setCell ⟨r, 4, none⟩ (.slice A7 ls.length c7)).heap[k]? = wr.heap[k]? := fun k hk => by
    rw [Below.heap_setCell _ _ _ k (by show k ≠ r; omega), Below.heap_setCell _ _ _ k (by show k ≠ r; omega), Below.heap_setCell _ _ _ k (by show k ≠ r; omega), Below.heap_setCell _ _ _ k (by show k ≠ r; omega), Below.heap_setCell _ _ _ k (by show k ≠ r; omega)]
  have l1 := h.o3.lt
  have l2 := h.o4.lt
  have l3 := h.ok.lt
  refine ⟨_, _, _, _, _, _, rfl, OwnIn.make (d := .mk kd nm st xs ls)
    (by exact ownsRow_base (ownsRow_same h.o3 fun k hk => hsame k (l1 k (blk_mem.1 hk)).1) (by omega))
    (by exact ownsRow_base (ownsRow_same h.o4 fun k hk => hsame k (l2 k (blk_mem.1 hk)).1) (by omega))
    (h.ok.same (by omega) fun k hk => hsame k (l3 k hk).1), h.nd, ?_⟩
  have hb2 : Below w.heap.size w wr := hb.trans (h.t.below (B := w.heap.size) (by simp) (by omega) (by omega))
  exact ((((hb2.setCell (by exact hr) _).setCell (by exact hr) _).setCell (by exact hr) _).setCell (by exact hr) _).setCell (by exact hr) _
theorem heap_alloc_new' {w : World} {b : Nat} (hb : w.heap.size = b) (o : Obj) : (w.alloc o).heap[b]? = some o := hb ▸ heap_alloc_new w o
end Go.Proofs.YtgklnafliaplkaaGreatDoor
namespace Go.Proofs.YtgklnafliaplkaaGreatDoor
open Go.RowKit

theorem own_nokids {w : World} {W0 : Nat} (kind num : Int) (str : ByteArray) : OwnIn w W0 (.mk kind num str [] []) (.int .i64 kind) (.int .i64 num) (.string str) (.slice none 0 0) (.slice none 0 0) [] := by
  simp only [OwnIn]
  exact ⟨trivial, trivial, trivial, World.ownsRow_nil _ _ _ _, [], [], World.ownsRow_nil _ _ _ _, by simp [OwnKids], by simp [blk, Value.ownBlock]⟩
theorem made_nokids {W0 : Nat} {w w' : World} (kind num : Int) (str : ByteArray) (hb : Below W0 w w') : MadeDoc W0 w (.mk kind num str [] []) (.returned (.agg #[.int .i64 kind, .int .i64 num, .string str, .slice none 0 0, .slice none 0 0])) w' :=
  ⟨_, _, _, _, _, [], rfl, own_nokids kind num str, by simp, hb⟩

set_option maxRecDepth 100000 in
theorem int_v (n : Int) (w : World) : Calls Tryz.prog 66 #[.int .i64 n] w (MadeDoc w.heap.size w (.mk 4 n ⟨#[]⟩ [] [])) := by
  go_enter Tryz.func66, Tryz.ntmps66
  go_wp2_with fail
  exact ret_cell5 rfl rfl (Box5.new w _ _ _ _ _).load rfl (made_nokids _ _ _ ((Below.refl _ _).alloc (Nat.le_refl _) _))
set_option maxRecDepth 100000 in
theorem bytes_v (s : ByteArray) (w : World) : Calls Tryz.prog 65 #[.string s] w (MadeDoc w.heap.size w (.mk 6 0 s [] [])) := by
  go_enter Tryz.func65, Tryz.ntmps65
  go_wp2_with fail
  exact ret_cell5 rfl rfl (Box5.new w _ _ _ _ _).load rfl (made_nokids _ _ _ ((Below.refl _ _).alloc (Nat.le_refl _) _))
set_option maxRecDepth 100000 in
theorem bool_v (b : Bool) (w : World) : Calls Tryz.prog 64 #[.bool b] w (MadeDoc w.heap.size w (.mk 5 (if b then 1 else 0) ⟨#[]⟩ [] [])) := by
  cases b
  · go_enter Tryz.func64, Tryz.ntmps64
    go_wp2_with fail
    exact ret_cell5 rfl rfl ((Box5.new w _ _ _ _ _).alloc _).load rfl (made_nokids _ _ _ (((Below.refl _ _).alloc (Nat.le_refl _) _).alloc (by simp) _))
  · go_enter Tryz.func64, Tryz.ntmps64
    go_wp2_with fail
    exact ret_cell5 rfl rfl ((Box5.new w _ _ _ _ _).alloc _).load rfl (made_nokids _ _ _ (((Below.refl _ _).alloc (Nat.le_refl _) _).alloc (by simp) _))
end Go.Proofs.YtgklnafliaplkaaGreatDoor
namespace Go.Proofs.YtgklnafliaplkaaGreatDoor
open Go.RowKit

theorem setCells_block {g : Nat} {T : TypeId} {fr : Nat × Nat} : ∀ (vs : List Value) (o : Nat) (w : World) (cur : Array Value), w.heap[g]? = some (.cells cur T fr) →
    ∃ cur' : Array Value, (w.setCells g o vs).heap[g]? = some (.cells cur' T fr) ∧ cur'.size = cur.size ∧ ∀ j, cur'[j]? = if o ≤ j ∧ j < o + vs.length ∧ j < cur.size then vs[j - o]? else cur[j]?
  | [], o, w, cur, h => ⟨cur, h, rfl, fun j => by rw [if_neg (by simp; omega)]⟩
  | v :: r, o, w, cur, h => by
    obtain ⟨cur', h1, h2, h3⟩ := setCells_block (g := g) (T := T) (fr := fr) r (o + 1) (w.setCell ⟨g, o, none⟩ v) (cur.setIfInBounds o v) (by simp [World.setCell, Array.getElem?_modify, h])
    refine ⟨cur', h1, by simpa using h2, fun j => ?_⟩
    rw [h3 j]
    simp only [Array.size_setIfInBounds, List.length_cons]
    by_cases hjo : j = o
    · subst hjo
      rw [if_neg (by omega)]
      by_cases hs : j < cur.size
      · rw [if_pos ⟨by omega, by omega, hs⟩]; simp [hs]
      · rw [if_neg (by omega), Array.getElem?_eq_none (by simp; omega), Array.getElem?_eq_none (by omega)]
    · by_cases hc : o + 1 ≤ j ∧ j < o + 1 + r.length ∧ j < cur.size
      · rw [if_pos hc, if_pos ⟨by omega, by omega, hc.2.2⟩]
        obtain ⟨t, ht⟩ : ∃ t, j - o = t + 1 := ⟨j - o - 1, by omega⟩
        rw [ht, show j - (o + 1) = t from by omega]; simp
      · rw [if_neg hc, if_neg (by omega), Array.getElem?_setIfInBounds_ne (by omega)]
theorem heap_setCells_far {g k : Nat} (hk : k ≠ g) : ∀ (vs : List Value) (o : Nat) (w : World), (w.setCells g o vs).heap[k]? = w.heap[k]?
  | [], _, _ => rfl
  | _ :: r, o, w => (heap_setCells_far hk r (o + 1) _).trans (Below.heap_setCell w _ _ k hk)
theorem size_setCells {g : Nat} : ∀ (vs : List Value) (o : Nat) (w : World), (w.setCells g o vs).heap.size = w.heap.size
  | [], _, _ => rfl
  | _ :: r, o, w => (size_setCells r (o + 1) _).trans (by simp [World.setCell])
theorem tape_setCells {g : Nat} : ∀ (vs : List Value) (o : Nat) (w : World), (w.setCells g o vs).tape = w.tape ∧ (w.setCells g o vs).os = w.os ∧ (w.setCells g o vs).output = w.output
  | [], _, _ => ⟨rfl, rfl, rfl⟩
  | _ :: r, o, _ => tape_setCells r (o + 1) _

/-- clear of a slice of documents. -/
theorem run_clear_docs {P : Program} (w : World) (t e ty : TypeId) (z0 z1 z2 z3 z4 : Value) (ht : P.underlying t = some (.slice e)) (hv : ∀ w, (zeroValue e).run P w = .ok (.agg #[z0, z1, z2, z3, z4]) w) (h1 : ∀ u ∈ [z0, z1, z2, z3, z4], u.oneCell' = true) (b o c : Nat)
    (hc : ∀ j, j < 5 → (w.cell? ⟨b, o + j, none⟩).isSome = true) (hf : ∀ j, j < 5 → w.frozen? ⟨b, o + j, none⟩ = false) :
    (Builtin.clear_ #[t] ty #[.slice (some ⟨b, o, none⟩) 1 c]).run P w = .ok (.tuple #[]) (w.setCells b o [z0, z1, z2, z3, z4]) := by
  have hzc : (Builtin.zeroCells (Value.agg #[z0, z1, z2, z3, z4]).cells 1).toList = [z0, z1, z2, z3, z4] := by simp [Builtin.zeroCells, Value.cells]; rfl
  have hst := run_storeCells_cells (P := P) b o [z0, z1, z2, z3, z4] 0 w (by simpa using hc) (by simpa using hf) h1
  simp only [Nat.add_zero] at hst
  simp [Builtin.clear_, run_underlying ht, hv, hzc, hst]

theorem zeroD (w : World) : (zeroValue 25).run Tryz.prog w = .ok (.agg #[.int .i64 0, .int .i64 0, .string ⟨#[]⟩, .slice none 0 0, .slice none 0 0]) w := by kernel_rfl

theorem oneCell_own {w : World} {base : Nat} : ∀ {l : List D} {cs : List Value} {F : List Nat}, OwnKids w base l cs F → ∀ u ∈ cs, u.oneCell' = true
  | [], _, _, h, u, hu => by
    simp only [OwnKids] at h
    rw [h.1] at hu; simp at hu
  | d :: r, _, _, h, u, hu => by
    simp only [OwnKids] at h
    obtain ⟨v0, v1, v2, v3, v4, cs', F1, F2, rfl, h2, h3, rfl⟩ := h
    rcases List.mem_append.1 (show u ∈ [v0, v1, v2, v3, v4] ++ cs' by simpa using hu) with h | h
    · exact oneCell_agg h2.doc u h
    · exact oneCell_own h3 u h
end Go.Proofs.YtgklnafliaplkaaGreatDoor
namespace Go.Proofs.YtgklnafliaplkaaGreatDoor
open Go.RowKit

/-- What Insert tells of a row of documents: the five cells ns stand at place i. -/
def InsTold (w : World) (base : Nat) (v : Value) (n i : Nat) (cs ns : List Value) (e : Ending) (w' : World) : Prop :=
  ∃ g cap, e = .returned (.slice (some ⟨g, 0, none⟩) (n + 1) cap) ∧ w'.ownsRow base 25 5 (.slice (some ⟨g, 0, none⟩) (n + 1) cap) (n + 1) (cs.take (i * 5) ++ (ns ++ cs.drop (i * 5))) ∧ w.grownBy w' v.ownBlock ∧ (v.ownBlock = some g ∨ w.heap.size ≤ g)

/-- copy of documents: what src held before goes to dst. -/
theorem run_copyD (w : World) (ty : TypeId) (g o dLen dCap : Nat) (a : Addr) (sLen sCap : Nat) (cs : List Value) (hn : cs.length = Nat.min sLen dLen * 5) (hsrc : ∀ j v, cs[j]? = some v → w.cell? (a.add j) = some v)
    (hc : ∀ j, j < cs.length → (w.cell? ⟨g, o + j, none⟩).isSome = true) (hf : ∀ j, j < cs.length → w.frozen? ⟨g, o + j, none⟩ = false) (h1 : ∀ v ∈ cs, v.oneCell' = true) :
    (Builtin.copy_ #[23, 23] ty #[.slice (some ⟨g, o, none⟩) dLen dCap, .slice (some a) sLen sCap]).run Tryz.prog w = .ok (goInt (Nat.min sLen dLen)) (w.setCells g o cs) := by
  obtain ⟨i0, hi, _, hz1, _⟩ := info_parts infoD
  have hst := run_storeCells_cells (P := Tryz.prog) g o cs 0 w (by simpa using hc) (by simpa using hf) h1
  have hfc := run_firstCells_some (P := Tryz.prog) (w := w) 5 (Nat.min sLen dLen) a sLen sCap cs hn hsrc
  simp only [Nat.add_zero] at hst
  simp [Builtin.copy_, run_underlying Tryz.underlying23, Builtin.lenOf, sizeOf, typeInfo, hi, hz1, hfc, hst]

set_option maxHeartbeats 2000000 in
set_option maxRecDepth 100000 in
/-- .. at the end. -/
theorem insD_end {w : World} {base n c vb : Nat} {A : Option Addr} {cs : List Value} {y0 y1 y2 y3 y4 : Value} (hown : w.ownsRow base 25 5 (.slice A n c) n cs) (hn : n ≤ 10000) (hvb : w.heap[vb]? = some (.cells #[y0, y1, y2, y3, y4] 25 (0, 0)))
    (h1 : ∀ u ∈ [y0, y1, y2, y3, y4], u.oneCell' = true) (hbase : base ≤ w.heap.size) :
    Calls Tryz.prog 81 #[.slice A n c, .int .i64 n, .slice (some ⟨vb, 0, none⟩) 1 1] w (InsTold w base (.slice A n c) n n cs [y0, y1, y2, y3, y4]) := by
  obtain ⟨i0, hi, hz0, hz1, hz2⟩ := info_parts infoD
  have HI := Lib.hid hi; have HZ0 := Lib.hid hz0; have HZ1 := Lib.hid hz1; have HZ2 := Lib.hid hz2
  have HO := Lib.hid hown; have HV := Lib.hid hvb; have H1 := Lib.hid h1
  have hl := hown.1
  have ht : cs.take (n * 5) = cs := List.take_of_length_le (by omega)
  have hd : cs.drop (n * 5) = [] := List.drop_eq_nil_of_le (by omega)
  have HT := Lib.hid (And.intro ht hd)
  have hform : (A = none ∧ n = 0 ∧ c = 0) ∨ ∃ g, A = some ⟨g, 0, none⟩ ∧ n ≤ c := by
    rcases hown.2 with ⟨e, h0⟩ | ⟨g, cap, cur, e, _, _, a1, _⟩
    · injection e with e1 e2 e3; exact .inl ⟨e1, e2, e3⟩
    · injection e with e1 e2 e3; exact .inr ⟨g, e1, by omega⟩
  clear hi hz0 hz1 hz2 hown hvb h1 ht hd hl
  rcases hform with ⟨rfl, rfl, rfl⟩ | ⟨g, rfl, hnc⟩
  · go_enter Tryz.func81, Tryz.ntmps81
    go_wp2_with (at_builtin; refine wpList_append_lies _ rfl _ _ 23 rfl base 25 i0 (.agg #[.int .i64 0, .int .i64 0, .string ByteArray.empty, .slice none 0 0, .slice none 0 0]) 5 80 Tryz.underlying23 HI.out HZ0.out HZ1.out HZ2.out (by rfl) (by omega) _ 0 cs rfl HO.out ⟨vb, 0, none⟩ 1 _ [y0, y1, y2, y3, y4] rfl rfl (World.news_of_block HV.out) H1.out (by omega) (by unfold maxLen; omega) (by omega) hbase w.heap.size rfl ?_; intro g cap w3 hown3 hgrow3 hat3 hlt3)
    go_ret
    refine ⟨g, cap, rfl, ?_, hgrow3, ?_⟩
    · rw [HT.out.1, HT.out.2]; simpa using hown3
    · rcases hat3 with h | h
      · exact .inl h
      · exact .inr (by omega)
  · go_enter Tryz.func81, Tryz.ntmps81
    go_wp2_with (at_builtin; refine wpList_append_lies _ rfl _ _ 23 rfl base 25 i0 (.agg #[.int .i64 0, .int .i64 0, .string ByteArray.empty, .slice none 0 0, .slice none 0 0]) 5 80 Tryz.underlying23 HI.out HZ0.out HZ1.out HZ2.out (by rfl) (by omega) _ n cs rfl HO.out ⟨vb, 0, none⟩ 1 _ [y0, y1, y2, y3, y4] rfl rfl (World.news_of_block HV.out) H1.out (by omega) (by unfold maxLen; omega) (by omega) hbase w.heap.size rfl ?_; intro g' cap w3 hown3 hgrow3 hat3 hlt3)
    all_goals
      go_ret
      refine ⟨_, _, rfl, ?_, hgrow3, ?_⟩
      · rw [HT.out.1, HT.out.2]; simpa using hown3
      · rcases hat3 with h | h
        · exact .inl h
        · exact .inr (by omega)

/-- What stands in the row behind both copies. -/
theorem ins_cells {n i : Nat} {cs ys : List Value} {cur cur1 cur2 : Array Value} (hi : i < n) (hcs : cs.length = n * 5) (hys : ys.length = 5) (hsz : (n + 1) * 5 ≤ cur.size) (h0 : ∀ j, j < i * 5 → cur[j]? = cs[j]?)
    (c12 : cur1.size = cur.size) (c13 : ∀ j, cur1[j]? = if (i + 1) * 5 ≤ j ∧ j < (i + 1) * 5 + (cs.drop (i * 5)).length ∧ j < cur.size then (cs.drop (i * 5))[j - (i + 1) * 5]? else cur[j]?)
    (d2 : cur2.size = cur1.size) (d3 : ∀ j, cur2[j]? = if i * 5 ≤ j ∧ j < i * 5 + ys.length ∧ j < cur1.size then ys[j - i * 5]? else cur1[j]?) :
    cur2.toList.take ((n + 1) * 5) = cs.take (i * 5) ++ (ys ++ cs.drop (i * 5)) := by
  have hdl : (cs.drop (i * 5)).length = n * 5 - i * 5 := by rw [List.length_drop, hcs]
  apply List.ext_getElem?
  intro j
  rw [List.getElem?_take]
  by_cases hj : j < (n + 1) * 5
  · rw [if_pos hj, Array.getElem?_toList, d3 j]
    by_cases h1 : j < i * 5
    · rw [if_neg (by omega), c13 j, if_neg (by omega), h0 j h1, List.getElem?_append_left (by simp; omega), List.getElem?_take, if_pos h1]
    · rw [List.getElem?_append_right (by simp; omega), List.length_take, Nat.min_eq_left (by omega)]
      by_cases h2 : j < i * 5 + 5
      · rw [if_pos ⟨by omega, by omega, by omega⟩, List.getElem?_append_left (by omega)]
      · rw [if_neg (by omega), c13 j, if_pos ⟨by omega, by omega, by omega⟩, List.getElem?_append_right (by omega)]
        congr 1; omega
  · rw [if_neg hj, List.getElem?_eq_none (by simp; omega)]
end Go.Proofs.YtgklnafliaplkaaGreatDoor
