/-
  valid: faults that are gathered: how they lie, and what the gatherers make of one more.
  valid: the first fault alone: what Check's gatherer makes of one.
-/
import Derived.Test.YteecdmceleanjaaGreatDoorB10
import Derived.Deep.RegionLaw
import Derived.BigRegion
namespace Go.Proofs.YteecdmceleanjaaGreatDoor
open Go.RowKit

/-- A fault, as pure data: its path, its error. -/
abbrev Flt := List ByteArray × Int
/-- Faults of the call's own, in flat cells; F: the blocks of their paths. -/
def FltIn (w : World) (base : Nat) : List Flt → List Value → List Nat → Prop
  | [], cs, F => cs = [] ∧ F = []
  | f :: r, cs, F => ∃ (v : Value) (cs' : List Value) (F' : List Nat), cs = v :: .int .i64 f.2 :: cs' ∧ w.ownsRow base 9 1 v f.1.length (f.1.map Value.string) ∧ FltIn w base r cs' F' ∧ F = blk v ++ F'
theorem FltIn.same {w w' : World} {base : Nat} : ∀ {l : List Flt} {cs : List Value} {F : List Nat}, FltIn w base l cs F → (∀ k ∈ F, w'.heap[k]? = w.heap[k]?) → FltIn w' base l cs F
  | [], _, _, h, _ => by simpa [FltIn] using h
  | f :: r, _, _, h, hs => by
    simp only [FltIn] at h ⊢
    obtain ⟨v, cs', F', rfl, h1, h2, rfl⟩ := h
    exact ⟨v, cs', F', rfl, ownsRow_same h1 fun k hk => hs k (by simp [hk]), h2.same fun k hk => hs k (by simp [hk]), rfl⟩
theorem FltIn.lt {w : World} {base : Nat} : ∀ {l : List Flt} {cs : List Value} {F : List Nat}, FltIn w base l cs F → ∀ k ∈ F, base ≤ k ∧ k < w.heap.size
  | [], _, _, h, k, hk => by simp only [FltIn] at h; rw [h.2] at hk; simp at hk
  | f :: r, _, _, h, k, hk => by
    simp only [FltIn] at h
    obtain ⟨v, cs', F', rfl, h1, h2, rfl⟩ := h
    rcases List.mem_append.1 hk with hk | hk
    · exact h1.lt k (blk_mem.1 hk)
    · exact h2.lt k hk
theorem FltIn.len {w : World} {base : Nat} : ∀ {l : List Flt} {cs : List Value} {F : List Nat}, FltIn w base l cs F → cs.length = l.length * 2
  | [], _, _, h => by simp only [FltIn] at h; simp [h.1]
  | f :: r, _, _, h => by
    simp only [FltIn] at h
    obtain ⟨v, cs', F', rfl, h1, h2, rfl⟩ := h
    simp [h2.len]; omega
theorem FltIn.push {w : World} {base : Nat} {x : Flt} {v : Value} (hx : w.ownsRow base 9 1 v x.1.length (x.1.map Value.string)) : ∀ {l : List Flt} {cs : List Value} {F : List Nat}, FltIn w base l cs F → FltIn w base (l ++ [x]) (cs ++ [v, .int .i64 x.2]) (F ++ blk v)
  | [], _, _, h => by
    simp only [FltIn] at h
    obtain ⟨rfl, rfl⟩ := h
    simp only [List.nil_append, FltIn]
    exact ⟨v, [], [], rfl, hx, ⟨rfl, rfl⟩, by simp⟩
  | f :: r, _, _, h => by
    simp only [FltIn] at h
    obtain ⟨u, cs', F', rfl, h1, h2, rfl⟩ := h
    simp only [List.cons_append, FltIn]
    exact ⟨u, _, _, rfl, h1, FltIn.push hx h2, by simp⟩
/-- The variable 'all' holds these faults; G: all blocks of them. -/
structure AllSt (base : Nat) (w : World) (c : Nat) (l : List Flt) (G : List Nat) : Prop where
  ex : ∃ (v : Value) (cs : List Value) (F : List Nat), w.heap[c]? = some (.cells #[v] 37 (0, 0)) ∧ w.ownsRow base 34 2 v l.length cs ∧ FltIn w base l cs F ∧ G = blk v ++ F ∧ G.Nodup
theorem AllSt.lt {base : Nat} {w : World} {c : Nat} {l : List Flt} {G : List Nat} (h : AllSt base w c l G) : ∀ k ∈ G, base ≤ k ∧ k < w.heap.size := by
  obtain ⟨v, cs, F, _, h1, h2, rfl, _⟩ := h.ex
  intro k hk
  rcases List.mem_append.1 hk with hk | hk
  · exact h1.lt k (blk_mem.1 hk)
  · exact h2.lt k hk
theorem AllSt.same {base : Nat} {w w' : World} {c : Nat} {l : List Flt} {G : List Nat} (h : AllSt base w c l G) (hc : w'.heap[c]? = w.heap[c]?) (hs : ∀ k ∈ G, w'.heap[k]? = w.heap[k]?) : AllSt base w' c l G := by
  obtain ⟨v, cs, F, h0, h1, h2, rfl, h3⟩ := h.ex
  exact ⟨v, cs, F, hc.trans h0, ownsRow_same h1 fun k hk => hs k (by simp [hk]), h2.same fun k hk => hs k (by simp [hk]), rfl, h3⟩
theorem infoFt : (Tryz.prog.info? 34).map (fun i => (i.zero, i.size, i.bytes)) = some (some (.agg #[.slice none 0 0, .int .i64 0]), 2, 32) := by kernel_rfl
set_option maxHeartbeats 4000000 in
set_option maxRecDepth 100000 in
/-- 'all = append(all, f)'. -/
theorem all1_any {base c : Nat} {w : World} {l : List Flt} {G : List Nat} {p : List ByteArray} {n : Int} {pv : Value} (hs : AllSt base w c l G) (hl : l.length ≤ 100000) (hcb : c < base) (hb : base ≤ w.heap.size)
    (hp : w.ownsRow base 9 1 pv p.length (p.map Value.string)) (hd : ∀ k ∈ blk pv, k ∉ G) :
    Calls Tryz.prog 41 #[.agg #[pv, .int .i64 n], .pointer (some ⟨c, 0, none⟩)] w fun e w' => e = .returned (.bool true) ∧ ∃ G', AllSt base w' c (l ++ [(p, n)]) G' ∧ (∀ k ∈ G', k ∈ G ∨ k ∈ blk pv ∨ w.heap.size ≤ k) ∧ Turned w w' G c := by
  obtain ⟨v, cs, F, h0, h1, h2, hG, hnd⟩ := hs.ex
  obtain ⟨A, cp, rfl⟩ := ownsRow_slice hp
  obtain ⟨A', cp', rfl⟩ := ownsRow_slice h1
  obtain ⟨i0, hi, hz0, hz1, hz2⟩ := info_parts infoFt
  have HI := Lib.hid hi; have HZ0 := Lib.hid hz0; have HZ1 := Lib.hid hz1; have HZ2 := Lib.hid hz2
  have H0 := Lib.hid h0; have H1 := Lib.hid h1; have H2 := Lib.hid h2; have HG := Lib.hid hG; have HND := Lib.hid hnd; have HP := Lib.hid hp; have HD := Lib.hid hd
  have hc0 := cell_block h0 0
  have hcf := free_block h0 0
  have hcl : c < w.heap.size := by omega
  have ag : (Value.slice A' l.length cp').ownBlock ≠ some c := fun h => by have := (h1.lt c h).1; omega
  clear hi hz0 hz1 hz2 h0 h1 h2 hG hnd hp hd hs
  simp at hc0
  go_enter Tryz.func41, Tryz.ntmps41
  go_wp2_with (at_builtin; refine wpList_append_lies _ rfl _ _ 37 rfl base 34 i0 (.agg #[.slice none 0 0, .int .i64 0]) 2 32 Tryz.underlying37 HI.out HZ0.out HZ1.out HZ2.out (by rfl) (by omega) (.slice A' l.length cp') l.length _ rfl ((H1.out.alloc _).alloc _) ⟨w.heap.size + 1, 0, none⟩ 1 _ [.slice A p.length cp, .int .i64 n] rfl rfl (World.news_of_block (heap_alloc_new' (by simp) _)) (by simp [Value.oneCell']) (by omega) (by unfold maxLen; omega) (by omega) (by simp; omega) (w.heap.size + 1 + 1) (by simp) ?_; intro g5 cap5 w5 hown5 hgrow5 hat5 hlt5; have mf5 : w5.frozen? ⟨c, 0, none⟩ = false := ((hgrow5.frozen_far ⟨c, 0, none⟩ (by simp; omega) (Ne.symm ag)).trans ((frozen_alloc_lt (by simp; omega) _ 0).trans ((frozen_alloc_lt hcl _ 0).trans hcf))); have m45 := (hgrow5.cell_far ⟨c, 0, none⟩ (by simp; omega) (Ne.symm ag)).trans ((cell_alloc_lt' (by simp; omega) _ 0).trans ((cell_alloc_lt' hcl _ 0).trans hc0)))
  go_ret
  have hat : (Value.slice A' l.length cp').ownBlock = some g5 ∨ g5 = w.heap.size + 1 + 1 := hat5
  have l1 := H1.out.lt; have l2 := H2.out.lt; have l3 := HP.out.lt
  have hgc : g5 ≠ c := by
    rcases hat with h | h
    · have := (l1 g5 h).1; omega
    · omega
  have keep : ∀ k, k < w.heap.size → (Value.slice A' l.length cp').ownBlock ≠ some k → w5.heap[k]? = w.heap[k]? := fun k hk hne =>
    (hgrow5.block k (by simp; omega) (fun e => hne e.symm)).trans ((Below.heap_alloc _ _ k (by simp; omega)).trans (Below.heap_alloc w _ k hk))
  have far : ∀ k, k ≠ c → (w5.setCell ⟨c, 0, none⟩ (.slice (some ⟨g5, 0, none⟩) (l.length + 1) cap5)).heap[k]? = w5.heap[k]? := fun k hk => Below.heap_setCell _ _ _ k hk
  have hnd := HND.out
  rw [HG.out, List.nodup_append] at hnd
  obtain ⟨n1, n2, n3⟩ := hnd
  have hFa : ∀ k ∈ F, (Value.slice A' l.length cp').ownBlock ≠ some k := fun k hk e => n3 k (blk_mem.2 e) k hk rfl
  have hPa : ∀ k ∈ blk (.slice A p.length cp), k ∉ F ∧ (Value.slice A' l.length cp').ownBlock ≠ some k := fun k hk =>
    ⟨fun h => HD.out k hk (by rw [HG.out]; simp [h]), fun e => HD.out k hk (by rw [HG.out]; exact List.mem_append.2 (.inl (blk_mem.2 e)))⟩
  refine ⟨rfl, blk (.slice (some ⟨g5, 0, none⟩) (l.length + 1) cap5) ++ (F ++ blk (.slice A p.length cp)), ⟨_, cs ++ [.slice A p.length cp, .int .i64 n], _, ?_, ?_, FltIn.push (x := (p, n)) ?_ (H2.out.same fun k hk => (far k (by have := (l2 k hk).1; omega)).trans (keep k (l2 k hk).2 (hFa k hk))), rfl, ?_⟩, ?_, ?_⟩
  · have h5 : w5.heap[c]? = some (.cells #[.slice A' l.length cp'] 37 (0, 0)) := (keep c hcl ag).trans H0.out
    simp [World.setCell, Array.getElem?_modify, h5]
  · rw [List.length_append]
    exact ownsRow_same hown5 fun k hk => far k (by
      have : k = g5 := by simpa [blk, Value.ownBlock] using hk
      omega)
  · exact ownsRow_same HP.out fun k hk => (far k (by have := (l3 k (blk_mem.1 hk)).1; omega)).trans (keep k (l3 k (blk_mem.1 hk)).2 (hPa k hk).2)
  · have hbk : blk (.slice (some ⟨g5, 0, none⟩) (l.length + 1) cap5) = [g5] := rfl
    rw [hbk, List.nodup_append, List.nodup_append]
    refine ⟨by simp, ⟨n2, blk_nodup _, fun a ha b hb hab => by subst hab; exact (hPa a hb).1 ha⟩, fun a ha b hbm hab => ?_⟩
    simp only [List.mem_singleton] at ha
    subst ha; subst hab
    rcases List.mem_append.1 hbm with hm | hm
    · rcases hat with h | h
      · exact hFa a hm h
      · have := (l2 a hm).2; omega
    · rcases hat with h | h
      · exact (hPa a hm).2 h
      · have := (l3 a (blk_mem.1 hm)).2; omega
  · intro k hk
    rcases List.mem_append.1 hk with hk | hk
    · have : k = g5 := by simpa [blk, Value.ownBlock] using hk
      subst this
      rcases hat with h | h
      · exact .inl (by rw [HG.out]; exact List.mem_append.2 (.inl (blk_mem.2 h)))
      · exact .inr (.inr (by omega))
    · rcases List.mem_append.1 hk with hk | hk
      · exact .inl (by rw [HG.out]; simp [hk])
      · exact .inr (.inl hk)
  · refine ⟨hgrow5.os, hgrow5.tape, hgrow5.output, ?_, fun k hk hkG hkc => ?_⟩
    · have h1 := hgrow5.size
      simp only [World.size_alloc] at h1
      simp only [size_setCell]; omega
    · exact (far k hkc).trans (keep k hk fun e => hkG (by rw [HG.out]; exact List.mem_append.2 (.inl (blk_mem.2 e))))
/-- 'append(v, xs...)' of strings that can be read, v the call's own: as a step of a region that draws its order. -/
theorem step_append_strs {w : World} {ops : Array Oper} {o : Oper} {a : Act} {K : Act → World → Prop} {Q : Exit → Act → World → Prop} {E : Prop} (hgd : o.guard = none) (s x : Operand)
    (ho : o.op = .call { callee := .builtin .append, args := #[s, x], argTypes := #[22, 22] })
    (base B n : Nat) (v u : Value) (olds : List Value) (xs : List ByteArray) (hs : a.eval s = v) (hx : a.eval x = u) (hown : w.ownsRow base 9 1 v n olds) (hu : Strs w B u xs) (hn : n + xs.length ≤ 100000) (hbase : base ≤ w.heap.size)
    (h : ∀ v' w', w'.ownsRow base 9 1 v' (n + xs.length) (olds ++ xs.map Value.string) → w.grownBy w' v.ownBlock → (v'.ownBlock = v.ownBlock ∨ v'.ownBlock = some w.heap.size) → K (a.put o.dst v') w') :
    if Region.wanted o (yielded ops a.tmps) = true then Oper.wp Tryz.prog o a w K Q else E := by
  have hw : Region.wanted o (yielded ops a.tmps) = true := by simp [Region.wanted, hgd]
  rw [if_pos hw]
  obtain ⟨i0, hi, hz0, hz1, hz2⟩ := info_parts infoS
  obtain ⟨A, c, rfl, hc1, hc2⟩ := hu
  have key : ∃ v' w', (Builtin.append_ #[22, 22] o.type #[v, .slice A xs.length c]).run Tryz.prog w = .ok v' w' ∧ w'.ownsRow base 9 1 v' (n + xs.length) (olds ++ xs.map Value.string) ∧ w.grownBy w' v.ownBlock ∧ (v'.ownBlock = v.ownBlock ∨ v'.ownBlock = some w.heap.size) := by
    cases A with
    | none =>
      have h0 : xs.length = 0 := by
        rcases Nat.eq_zero_or_pos xs.length with h0 | h0
        · exact h0
        · obtain ⟨b, off, e, _⟩ := hc2 h0; cases e
      obtain rfl : xs = [] := List.eq_nil_of_length_eq_zero h0
      exact ⟨v, w, run_append_nils w 22 o.type 9 i0 base 1 c Tryz.underlying22 hi v n olds hown, by simpa using hown, World.grownBy.refl w _, .inl rfl⟩
    | some ad =>
      obtain ⟨v', w', hr, h2, h3, _, h5⟩ := run_append_own_at (P := Tryz.prog) w base 22 o.type 9 i0 (.string ByteArray.empty) 1 16 Tryz.underlying22 hi hz0 hz1 hz2 (by rfl) (by omega) v n olds hown ad xs.length c (xs.map Value.string) (by simp) (by
        intro j u hj
        rw [List.getElem?_map] at hj
        cases hxj : xs[j]? with
        | none => rw [hxj] at hj; cases hj
        | some y =>
          rw [hxj] at hj
          obtain ⟨hlt, rfl⟩ := List.getElem?_eq_some_iff.1 hxj
          obtain ⟨b, off, e, _, hc⟩ := hc2 (by omega)
          obtain rfl := Option.some.inj e
          have : (⟨b, off, none⟩ : Addr).add j = ⟨b, off + j, none⟩ := by unfold Addr.add; split <;> simp_all
          rw [this, hc j hlt]
          exact hj) (strs_one _) (by unfold maxLen; omega) (by omega) hbase
      exact ⟨v', w', hr, h2, h3, h5⟩
  obtain ⟨v', w', hr, h2, h3, h4⟩ := key
  unfold Oper.wp execOp
  simp only [ho, resolve, invoke, builtin, Sem.run_bind, Sem.run_pure, Result.andThen_ok, List.map_toArray, List.map_cons, List.map_nil, hs, hx, hr]
  exact h v' w' h2 h3 h4
set_option maxHeartbeats 4000000 in
set_option maxRecDepth 100000 in
/-- A fault is told: it is gathered, with a path of its own. -/
theorem tell_any {base c g : Nat} {w : World} {l : List Flt} {G : List Nat} {p : List ByteArray} {n : Int} {pv : Value} (hs : AllSt base w c l G) (hl : l.length ≤ 100000) (hcb : c < base) (hb : base ≤ w.heap.size) (hgb : g < base)
    (hg : w.cell? ⟨g, 0, none⟩ = some (.func (.func 41) #[] #[.pointer (some ⟨c, 0, none⟩)])) (hp : Strs w w.heap.size pv p) (hpl : p.length ≤ 10000) :
    Calls Tryz.prog 67 #[pv, .int .i64 n, .pointer (some ⟨g, 0, none⟩)] w fun e w' => e = .returned (.bool true) ∧ ∃ G', AllSt base w' c (l ++ [(p, n)]) G' ∧ (∀ k ∈ G', k ∈ G ∨ w.heap.size ≤ k) ∧ Turned w w' G c := by
  have HS := Lib.hid hs; have HG := Lib.hid hg; have HP := Lib.hid hp
  obtain ⟨A, cp, rfl, _, _⟩ := hp
  have hgl : g < w.heap.size := by omega
  clear hs
  go_enter Tryz.func67, Tryz.ntmps67
  go_wp2_with fail
  go_region_law (first
    | (refine step_append_strs (by rfl) _ _ (by rfl) base w.heap.size 0 (.slice none 0 0) _ [] p (by rfl) (by rfl) (World.ownsRow_nil _ _ _ _) (Strs.keep (w := w) (w' := w.drew) (fun _ _ => rfl) HP.out) (by omega) (by show base ≤ w.heap.size; omega) ?_
       intro v' w5 hown5 hgrow5 hat5
       rw [Nat.zero_add, List.nil_append] at hown5
       obtain ⟨A5, c5, rfl⟩ := ownsRow_slice hown5
       have hb5 : Below w.heap.size w w5 := ⟨hgrow5.os, hgrow5.tape, hgrow5.output, hgrow5.size, fun k hk => hgrow5.block k hk (by simp [Value.ownBlock])⟩
       have hg5 := (hb5.cell (p := ⟨g, 0, none⟩) hgl).trans hg
       have HB5 := Lib.hid hb5; have HO5 := Lib.hid hown5; have HA5 := Lib.hid hat5
       clear hgrow5 hb5 hown5 hat5)
    | (go_wp2_with fail
       go_at_call 41
       have hnew : ∀ k, k ∈ blk (.slice A5 p.length c5) → w.heap.size ≤ k := fun k hk => by
         rcases HA5.out with h | h
         · rw [blk_mem.1 hk] at h; simp [Value.ownBlock] at h
         · rw [blk_mem.1 hk] at h
           have : k = w.heap.size := by simpa using h
           omega
       refine (all1_any (HS.out.same (HB5.out.block c (by omega)) fun k hk => HB5.out.block k (HS.out.lt k hk).2) hl hcb (by have := HB5.out.size; omega) HO5.out (fun k hk hkG => by have := hnew k hk; have := (HS.out.lt k hkG).2; omega)).mono ?_
       rintro e w7 ⟨rfl, G', hG', hsub, ht⟩
       have HN := Lib.hid hnew; have HG' := Lib.hid hG'; have HSUB := Lib.hid hsub; have HT := Lib.hid ht
       clear hnew hG' hsub ht))
  all_goals (go_wp2_with fail)
  all_goals go_ret
  all_goals (
    refine ⟨rfl, G', HG'.out, fun k hk => ?_, (Turned.of_below HB5.out G c).trans HT.out⟩
    rcases HSUB.out k hk with h | h | h
    · exact .inl h
    · exact .inr (HN.out k h)
    · exact .inr (by have := HB5.out.size; omega))
end Go.Proofs.YteecdmceleanjaaGreatDoor
namespace Go.Proofs.YteecdmceleanjaaGreatDoor
open Go.RowKit

/-- The variable 'first' holds this fault. -/
structure ChkSt (base : Nat) (w : World) (c : Nat) (f : Flt) (G : List Nat) : Prop where
  ex : ∃ v : Value, w.heap[c]? = some (.cells #[v, .int .i64 f.2] 34 (0, 0)) ∧ w.ownsRow base 9 1 v f.1.length (f.1.map Value.string) ∧ G = blk v
theorem ChkSt.lt {base : Nat} {w : World} {c : Nat} {f : Flt} {G : List Nat} (h : ChkSt base w c f G) : ∀ k ∈ G, base ≤ k ∧ k < w.heap.size := by
  obtain ⟨v, _, h1, rfl⟩ := h.ex
  exact fun k hk => h1.lt k (blk_mem.1 hk)
theorem ChkSt.same {base : Nat} {w w' : World} {c : Nat} {f : Flt} {G : List Nat} (h : ChkSt base w c f G) (hc : w'.heap[c]? = w.heap[c]?) (hs : ∀ k ∈ G, w'.heap[k]? = w.heap[k]?) : ChkSt base w' c f G := by
  obtain ⟨v, h0, h1, rfl⟩ := h.ex
  exact ⟨v, hc.trans h0, ownsRow_same h1 hs, rfl⟩
set_option maxHeartbeats 4000000 in
set_option maxRecDepth 100000 in
/-- 'first = f'. -/
theorem check1_any {base c : Nat} {w : World} {f : Flt} {G : List Nat} {p : List ByteArray} {n : Int} {pv : Value} (hs : ChkSt base w c f G) (hcb : c < base) (hb : base ≤ w.heap.size)
    (hp : w.ownsRow base 9 1 pv p.length (p.map Value.string)) :
    Calls Tryz.prog 40 #[.agg #[pv, .int .i64 n], .pointer (some ⟨c, 0, none⟩)] w fun e w' => e = .returned (.bool false) ∧ ChkSt base w' c (p, n) (blk pv) ∧ Turned w w' [] c := by
  obtain ⟨v, h0, h1, hG⟩ := hs.ex
  obtain ⟨A, cp, rfl⟩ := ownsRow_slice hp
  have H0 := Lib.hid h0; have HP := Lib.hid hp
  have c0 := cell_block h0 0; have c1 := cell_block h0 1
  have hcf := free_block h0
  have hcl : c < w.heap.size := by omega
  clear h0 h1 hG hp hs
  simp at c0 c1
  go_enter Tryz.func40, Tryz.ntmps40
  go_wp2_with fail
  go_ret
  have far : ∀ k, k < w.heap.size → k ≠ c → ((((w.setCell ⟨c, 0, none⟩ (.slice A p.length cp)).setCell ⟨c, 1, none⟩ (.int .i64 n)).alloc (.cells #[.slice A p.length cp, .int .i64 n] 34)).heap[k]?) = w.heap[k]? := fun k hk hkc =>
    (Below.heap_alloc _ _ k (by simp; omega)).trans ((Below.heap_setCell _ _ _ k hkc).trans (Below.heap_setCell _ _ _ k hkc))
  have l3 := HP.out.lt
  have h5 := H0.out
  refine ⟨rfl, ⟨.slice A p.length cp, ?_, ownsRow_same HP.out fun k hk => far k (l3 k (blk_mem.1 hk)).2 (by have := (l3 k (blk_mem.1 hk)).1; omega), rfl⟩, ⟨rfl, rfl, rfl, by simp, fun k hk _ hkc => far k hk hkc⟩⟩
  refine (Below.heap_alloc _ _ c (by simp; omega)).trans ?_
  simp [World.setCell, Array.getElem?_modify, h5]
set_option maxHeartbeats 4000000 in
set_option maxRecDepth 100000 in
/-- 'tell(path, err)' with Check's gatherer behind it: false, and the fault is held. -/
theorem tellC_any {base c g : Nat} {w : World} {f : Flt} {G : List Nat} {p : List ByteArray} {n : Int} {pv : Value} (hs : ChkSt base w c f G) (hcb : c < base) (hb : base ≤ w.heap.size) (hgb : g < base)
    (hg : w.cell? ⟨g, 0, none⟩ = some (.func (.func 40) #[] #[.pointer (some ⟨c, 0, none⟩)])) (hp : Strs w w.heap.size pv p) (hpl : p.length ≤ 10000) :
    Calls Tryz.prog 67 #[pv, .int .i64 n, .pointer (some ⟨g, 0, none⟩)] w fun e w' => e = .returned (.bool false) ∧ ∃ G', ChkSt base w' c (p, n) G' ∧ (∀ k ∈ G', w.heap.size ≤ k) ∧ Turned w w' [] c := by
  have HS := Lib.hid hs; have HG := Lib.hid hg; have HP := Lib.hid hp
  obtain ⟨A, cp, rfl, _, _⟩ := hp
  have hgl : g < w.heap.size := by omega
  clear hs
  go_enter Tryz.func67, Tryz.ntmps67
  go_wp2_with fail
  go_region_law (first
    | (refine step_append_strs (by rfl) _ _ (by rfl) base w.heap.size 0 (.slice none 0 0) _ [] p (by rfl) (by rfl) (World.ownsRow_nil _ _ _ _) (Strs.keep (w := w) (w' := w.drew) (fun _ _ => rfl) HP.out) (by omega) (by show base ≤ w.heap.size; omega) ?_
       intro v' w5 hown5 hgrow5 hat5
       rw [Nat.zero_add, List.nil_append] at hown5
       obtain ⟨A5, c5, rfl⟩ := ownsRow_slice hown5
       have hb5 : Below w.heap.size w w5 := ⟨hgrow5.os, hgrow5.tape, hgrow5.output, hgrow5.size, fun k hk => hgrow5.block k hk (by simp [Value.ownBlock])⟩
       have hg5 := (hb5.cell (p := ⟨g, 0, none⟩) hgl).trans hg
       have HB5 := Lib.hid hb5; have HO5 := Lib.hid hown5; have HA5 := Lib.hid hat5
       clear hgrow5 hb5 hown5 hat5)
    | (go_wp2_with fail
       go_at_call 40
       have hnew : ∀ k, k ∈ blk (.slice A5 p.length c5) → w.heap.size ≤ k := fun k hk => by
         rcases HA5.out with h | h
         · rw [blk_mem.1 hk] at h; simp [Value.ownBlock] at h
         · rw [blk_mem.1 hk] at h
           have : k = w.heap.size := by simpa using h
           omega
       refine (check1_any (HS.out.same (HB5.out.block c (by omega)) fun k hk => HB5.out.block k (HS.out.lt k hk).2) hcb (by have := HB5.out.size; omega) HO5.out).mono ?_
       rintro e w7 ⟨rfl, hG', ht⟩
       have HN := Lib.hid hnew; have HG' := Lib.hid hG'; have HT := Lib.hid ht
       clear hnew hG' ht))
  all_goals (go_wp2_with fail)
  all_goals go_ret
  all_goals exact ⟨rfl, _, HG'.out, HN.out, (Turned.of_below HB5.out [] c).trans HT.out⟩
end Go.Proofs.YteecdmceleanjaaGreatDoor
