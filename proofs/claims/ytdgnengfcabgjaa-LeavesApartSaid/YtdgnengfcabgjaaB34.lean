/-
  leaves.moved: an iterator over another one.
-/
import Derived.Test.YtdgnengfcabgjaaB12
import Derived.Test.YtdgnengfcabgjaaB08
import Derived.Sort.CutIn
namespace Go.Proofs.Ytdgnengfcabgjaa
open Go.RowKit Go.Shelf
attribute [local go_sem] Oper.semAt_some

/-- A leaf whose path begins with from begins with to instead. -/
def mvd (from_ to_ : List ByteArray) (x : Lf) : Lf := if begs x.path from_ then ⟨to_ ++ x.path.drop from_.length, x.doc⟩ else x
theorem moved_any (A A1 A2 : Option Addr) (n c n1 c1 n2 c2 : Nat) (w : World) : Calls Try.prog 48 #[.slice A n c, .slice A1 n1 c1, .slice A2 n2 c2] w fun e w' =>
    e = .returned (.func (.func 71) #[] #[.pointer (some ⟨w.heap.size, 0, none⟩), .pointer (some ⟨w.heap.size + 1, 0, none⟩), .pointer (some ⟨w.heap.size + 2, 0, none⟩)]) ∧
      w' = ((w.alloc (.cells #[.slice A n c] 26)).alloc (.cells #[.slice A1 n1 c1] 22)).alloc (.cells #[.slice A2 n2 c2] 22) := by
  go_enter Try.func48, Try.ntmps48
  go_wp2_with fail
  go_ret
  exact ⟨rfl, rfl⟩

/-- Between two rounds of moved. -/
structure MvJ (from_ to_ : List ByteArray) (m : Nat) (J : List Mk → World → Prop) (W0 : World) (By : Nat) (yv : Value) (xs : List Mk) (W : World) : Prop where
  made : ∃ ys : List Mk, ys.map (·.lf) = xs.map (fun x => mvd from_ to_ x.lf) ∧ J ys W ∧ Mks m ys W ∧ ∀ y ∈ ys, y.hi ≤ W.heap.size
  box : Boxed W By 65 yv
  below : Below m W0 W
theorem strs_wide {w : World} {B B' : Nat} {v : Value} {xs : List ByteArray} (hb : B ≤ B') (h : Strs w B v xs) : Strs w B' v xs := by
  obtain ⟨A, c, e, l, h1⟩ := h
  refine ⟨A, c, e, l, fun hl => ?_⟩
  obtain ⟨b, off, e', hb', hc⟩ := h1 hl
  exact ⟨b, off, e', by omega, hc⟩
theorem memO_mark (o : Obj) (h : MemO o) : ¬ IsMark o := fun h2 => memO_rowMark o h (.inr h2)
theorem noStr (k : Nat) (o : Obj) (M : Nat) (h : Turns (fun _ => False) M k o) : IsMark o := h.elim False.elim And.left

theorem Keeps.set {T : Obj → Prop} {m b i : Nat} {W : World} {o : Obj} (v : Value) (hl : W.heap[b]? = some o) (ht : T o) (hm : m ≤ b) : Keeps T m W (W.setCell ⟨b, i, none⟩ v) := by
  refine ⟨(Below.refl m W).setCell (p := ⟨b, i, none⟩) hm v, fun k p hp hn => ?_⟩
  by_cases e : k = b
  · subst e; rw [hl] at hp; cases hp; exact absurd ht hn
  · exact (Below.heap_setCell _ ⟨b, i, none⟩ _ k e).trans hp
theorem Strs_drop {w : World} {B : Nat} {A : Option Addr} {p : List ByteArray} {c : Nat} (h : Strs w B (.slice A p.length c) p) (k : Nat) (hk : k ≤ p.length) : Strs w B (.slice (A.map fun x => x.add k) (p.length - k) (c - k)) (p.drop k) := by
  obtain ⟨A', c', e, hl, h1⟩ := h
  injection e with e1 e2 e3
  subst e1; subst e3
  refine ⟨_, _, by rw [List.length_drop], by rw [List.length_drop]; omega, fun h0 => ?_⟩
  rw [List.length_drop] at h0
  obtain ⟨b, off, eA, hb, hcl⟩ := h1 (by omega)
  refine ⟨b, off + k, ?_, hb, fun i hi => ?_⟩
  · rw [eA]; simp only [Option.map_some, Option.some.injEq]; unfold Addr.add; split <;> simp_all
  · rw [List.length_drop] at hi
    rw [Nat.add_assoc, hcl (k + i) (by omega)]; simp
theorem Strs_drop0 {w : World} {B : Nat} {A : Option Addr} {p : List ByteArray} {c : Nat} (h : Strs w B (.slice A p.length c) p) (k : Nat) (hk : k ≤ p.length) (hc : c = k) : Strs w B (.slice A (p.length - k) 0) (p.drop k) := by
  obtain ⟨A', c', e, hl, h1⟩ := h
  injection e with e1 e2 e3
  have h0 : (p.drop k).length = 0 := by rw [List.length_drop]; omega
  exact ⟨A, 0, by rw [List.length_drop], by omega, fun h => by omega⟩
theorem mv_new {lf : Lf} {v0 r v1 v2 v3 v4 v5 : Value} {F : List Nat} {lo hi m M bx : Nat} {W0 W3 w4 : World} {p : List ByteArray} (hmk : MkIn ⟨lf, v0, v1, v2, v3, v4, v5, F, lo, hi⟩ W3) (hr : w4.ownsRow W3.heap.size 9 1 r p.length (p.map Value.string))
    (hb4 : Below W3.heap.size W3 w4) (hlo : W0.heap.size ≤ lo) (hhi : hi ≤ W3.heap.size) (hk : KeepsI (Turns (fun _ => False) M) m W0 W3) (hbx : Box6 W3 bx v0 v1 v2 v3 v4 v5) (hb0 : W0.heap.size ≤ bx) (hm : m ≤ W0.heap.size) :
    MkIn ⟨⟨p, lf.doc⟩, r, v1, v2, v3, v4, v5, F, W0.heap.size, w4.heap.size⟩ (w4.setCell ⟨bx, 0, none⟩ r) ∧ KeepsI (Turns (fun _ => False) M) m W0 (w4.setCell ⟨bx, 0, none⟩ r) ∧ Keeps RowO m W3 (w4.setCell ⟨bx, 0, none⟩ r) ∧ Box6 (w4.setCell ⟨bx, 0, none⟩ r) bx r v1 v2 v3 v4 v5 := by
  have s0 := hk.below.size; have s4 := hb4.size
  have hbx4 : Box6 w4 bx v0 v1 v2 v3 v4 v5 := (hb4.block bx (heap_lt hbx)).trans hbx
  have hset : ∀ m', m' ≤ bx → Keeps RowO m' w4 (w4.setCell ⟨bx, 0, none⟩ r) := fun m' h => Keeps.set r hbx4 ⟨_, _, .inr rfl⟩ h
  refine ⟨MkIn.keeps (m := m) (T := RowO) (W := w4) ⟨ownsRow_base hr s0, ?_, ?_, ?_⟩ (hset m (by omega)) memO_rowO, ⟨?_, fun k o ho hn => ?_⟩, (Keeps.new hb4 (by omega)).trans (hset m (by omega)), hbx4.set_ 0 r⟩
  · exact hmk.doc.same hlo fun k hk => hb4.block k (hmk.doc.lt k hk).2
  · show (blk r ++ F).Nodup
    rw [List.nodup_append]
    exact ⟨blk_nodup _, (List.nodup_append.1 hmk.nodup).2.1, fun a ha b hb e => by subst e; have := (hr.lt a (blk_mem.1 ha)).1; have := hmk.hi a (List.mem_append_right _ hb); simp at this; omega⟩
  · intro k hk
    show k < w4.heap.size
    rcases List.mem_append.1 hk with hk | hk
    · exact (hr.lt k (blk_mem.1 hk)).2
    · have := (hmk.doc.lt k hk).2; omega
  · exact hk.below.trans ((hb4.mono (by omega)).trans (hset m (by omega)).below)
  · have hk3 := hk.same k o ho hn
    have hkl := heap_lt ho
    exact (Below.heap_setCell _ ⟨bx, 0, none⟩ _ k (show k ≠ bx by omega)).trans ((hb4.block k (heap_lt hk3)).trans hk3)
theorem mv_step {from_ to_ : List ByteArray} {m M By : Nat} {J : List Mk → World → Prop} {W W0 Wy W5 : World} {yv : Value} {ys pre : List Mk} {x y : Mk} (h1 : ys.map (·.lf) = pre.map (fun x => mvd from_ to_ x.lf)) (h3 : Mks m ys W0) (h4 : ∀ z ∈ ys, z.hi ≤ W0.heap.size) (h6 : Below m W W0)
    (hk : KeepsI (Turns (fun _ => False) M) m W0 Wy) (hx : MkIn y Wy) (hlo : W0.heap.size ≤ y.lo) (hhi : y.hi ≤ Wy.heap.size) (hm : m ≤ W0.heap.size) (hlf : y.lf = mvd from_ to_ x.lf) (hbx : Boxed Wy By 65 yv) (hJ5 : J (ys ++ [y]) W5) (hk5 : Keeps RowO m Wy W5) :
    MvJ from_ to_ m J W By yv (pre ++ [x]) W5 := by
  have s1 := hk.below.size; have s2 := hk5.size
  refine ⟨⟨ys ++ [y], by simp [h1, hlf], hJ5, ((h3.keeps (hk.to fun k o h => noStr k o _ h) memO_mark).snoc hx (by omega) (fun z hz => by have := h4 z hz; omega)).keeps hk5 memO_rowO, fun z hz => ?_⟩, hk5.same _ _ hbx (by rintro ⟨_, _, h | h⟩ <;> cases h), h6.trans (hk.below.trans hk5.below)⟩
  rcases List.mem_append.1 hz with hz | hz
  · have := h4 z hz; omega
  · simp only [List.mem_singleton] at hz; subst hz; omega

set_option maxRecDepth 100000 in
set_option maxHeartbeats 40000000 in
theorem moved_seq (ls : List Lf) (from_ to_ : List ByteArray) (v vf vt : Value) (Bl Bf Bt m B : Nat) (w0 : World) (hm : m ≤ w0.heap.size) (hBm : B ≤ m)
    (hBl : w0.cell? ⟨Bl, 0, none⟩ = some v) (hl1 : Bl < w0.heap.size) (hBf : w0.cell? ⟨Bf, 0, none⟩ = some vf) (hl2 : Bf < m) (hBt : w0.cell? ⟨Bt, 0, none⟩ = some vt) (hl3 : Bt < m)
    (hls : LvsIn w0 B v ls) (hfr : Strs w0 B vf from_) (hto : Strs w0 B vt to_)
    (hlen : ls.length ≤ 100000) (hp : ∀ x ∈ ls, x.path.length ≤ 10000) (hf : ∀ x ∈ ls, x.doc.Fit) (hlf : from_.length ≤ 10000) (hlt : to_.length ≤ 10000) :
    SeqR Try.prog 71 #[.pointer (some ⟨Bl, 0, none⟩), .pointer (some ⟨Bf, 0, none⟩), .pointer (some ⟨Bt, 0, none⟩)] (fun x => #[.agg (Mk.enc x).toArray]) (fun _ => False) RowO m MkR (fun xs W => xs.map (·.lf) = ls.map (mvd from_ to_) ∧ Mks m xs W) ls.length w0 := by
  intro l J W hW hJ hY h0
  obtain ⟨A, c, rfl, _⟩ := id hls
  have hcl : W.cell? ⟨Bl, 0, none⟩ = some (.slice A ls.length c) := (hW.cell (p := ⟨Bl, 0, none⟩) hl1).trans hBl
  have hcf : W.cell? ⟨Bf, 0, none⟩ = some vf := (hW.cell (p := ⟨Bf, 0, none⟩) (Nat.lt_of_lt_of_le hl2 hm)).trans hBf
  have hct : W.cell? ⟨Bt, 0, none⟩ = some vt := (hW.cell (p := ⟨Bt, 0, none⟩) (Nat.lt_of_lt_of_le hl3 hm)).trans hBt
  have hmW : m ≤ W.heap.size := Nat.le_trans hm hW.size
  obtain ⟨yv, hyv⟩ : ∃ yv, yv = Value.func (.yield l) #[] #[] := ⟨_, rfl⟩
  have hb1 : Below W.heap.size W (W.alloc (.cells #[yv] 65)) := (Below.refl _ W).alloc (Nat.le_refl _) _
  have hcl1 : (W.alloc (.cells #[yv] 65)).cell? ⟨Bl, 0, none⟩ = some (.slice A ls.length c) := (hb1.cell (p := ⟨Bl, 0, none⟩) (Nat.lt_of_lt_of_le hl1 hW.size)).trans hcl
  have hseq := copies_seq ls (.slice A ls.length c) (W.heap.size + 1) m B ((W.alloc (.cells #[yv] 65)).alloc (.cells #[.slice A ls.length c] 26)) (by simp; omega) hBm
    (by have := (Boxed.new (W.alloc (.cells #[yv] 65)) 26 (.slice A ls.length c)).cell; rwa [World.size_alloc] at this) (by simp)
    ((hls.keep fun p h => hW.cell (show p.block < w0.heap.size by omega)).keep fun p h => (hb1.trans (((Below.refl _ (W.alloc (.cells #[yv] 65))).alloc (Nat.le_refl _) _).mono (by simp))).cell (show p.block < W.heap.size by omega)) hlen hp hf
  have hbc : Below W.heap.size W ((W.alloc (.cells #[yv] 65)).alloc (.cells #[.slice A ls.length c] 26)) := hb1.trans (((Below.refl _ (W.alloc (.cells #[yv] 65))).alloc (Nat.le_refl _) _).mono (by simp))
  have hbx : Boxed ((W.alloc (.cells #[yv] 65)).alloc (.cells #[.slice A ls.length c] 26)) W.heap.size 65 yv := (Boxed.new W _ yv).alloc _
  have HFR := Lib.hid (hfr.keep fun p h => hW.cell (show p.block < w0.heap.size by omega) : Strs W B vf from_)
  have HTO := Lib.hid (hto.keep fun p h => hW.cell (show p.block < w0.heap.size by omega) : Strs W B vt to_)
  have HCF := Lib.hid hcf; have HCT := Lib.hid hct
  clear hls hfr hto hBl hBf hBt hl1 hcf hct hcl hb1 hW
  subst hyv
  refine callsIn_of_wp_marks Try.func71 rfl trivial ?_ rfl
  simp only [Try.ntmps71, List.size_toArray, List.length_cons, List.length_nil, Nat.reduceAdd, Nat.reduceSub, Array.replicate_succ, Array.replicate_zero, List.push_toArray, List.append_toArray, List.nil_append, List.cons_append]
  gi_wp2_with (refine ⟨trivial, rfl, ?_⟩; gi_at_call 44; refine (callsIn_wide.2 (copies_any _ _ _ _)).mono ?_; rintro e w' ⟨rfl, rfl⟩)
  refine range_reads (gf := 69) (lb := #[.pointer (some ⟨W.heap.size + 1, 0, none⟩)]) rfl (enters_of Try.func69 (by kernel_rfl) rfl) hseq (Below.refl _ _) (by simp; omega) ?t1 ?t2 ?t3 ?t4 (fun _ => rfl) (MvJ from_ to_ m J W W.heap.size (.func (.yield l) #[] #[])) ?tj (fun xs A B h hk => ⟨h.1, h.2.keeps hk memO_mark⟩) ?t0 ?round ?done
  case t1 => exact fun _ h => h
  case t2 => exact fun _ h => h
  case t3 => rintro r ⟨_, _, h | h⟩ <;> cases h
  case t4 => rintro r ⟨_, _, h | h⟩ <;> cases h
  case tj =>
    rintro xs A B ⟨⟨ys, h1, h2, h3, h4⟩, h5, h6⟩ hk
    have hk1 : KeepsI (Turns (fun _ => False) W.heap.size) m A B := hk.wide fun k o h => h.imp id fun h => ⟨h.1, by have := h.2; simp at this; omega⟩
    refine ⟨⟨ys, h1, hJ _ _ _ h2 hk1, h3.keeps (hk.to fun k o h => noStr k o _ h) memO_mark, fun y hy => by have := h4 y hy; have := hk.below.size; omega⟩, hk.same _ _ h5 (fun h => by rcases noStr _ _ _ h with ⟨_, h⟩ | ⟨_, h⟩ <;> cases h), h6.trans hk.below⟩
  case t0 => exact ⟨⟨[], rfl, hJ _ _ _ h0 ((Keeps.new (T := fun _ => False) hbc hmW).toI fun _ _ h => h.elim), ⟨by simp, by simp⟩, by simp⟩, hbx, hbc.mono hmW⟩
  case done =>
    rintro D xs W2 hD ⟨hs1, hs2⟩ ⟨⟨ys, h1, h2, h3, h4⟩, h5, h6⟩ hK
    have hD2 : m ≤ D := by simp at hD; omega
    have hkd : KeepsI (Turns (fun _ => False) W.heap.size) m W2 (W2.putObj D (.deferred none)) := KeepsI.put _ hK (.inr ⟨.inr ⟨_, rfl⟩, by simp at hD; omega⟩) hD2
    gi_wp2
    refine ⟨by simp, .inl ⟨_, _, rfl, run_takeDeferred hK, ?_⟩⟩
    refine ⟨_, results_none rfl _ _ _, ⟨_, rfl⟩, ys, ⟨?_, h3.keeps (hkd.to fun k o h => noStr k o _ h) memO_mark⟩, hJ _ _ _ h2 hkd⟩
    rw [h1, ← hs1, List.map_map]; rfl
  case round =>
    rintro l' pre x W0 W2 ⟨⟨ys, h1, h2, h3, h4⟩, h5, h6⟩ hk0 ⟨⟨hmk, hlo, hhi⟩, hmem⟩ hlenp
    obtain ⟨lf, v0, v1, v2, v3, v4, v5, F, lo, hi⟩ := x
    have hone := hmk.one
    simp only [Mk.enc] at hone ⊢
    have hmW0 : m ≤ W0.heap.size := Nat.le_trans hmW h6.size
    have hmW2 : m ≤ W2.heap.size := Nat.le_trans hmW0 hk0.below.size
    have h02 : W0.heap.size ≤ W2.heap.size := hk0.below.size
    have hWW2 : W.heap.size ≤ W2.heap.size := Nat.le_trans h6.size hk0.below.size
    have hk0' : KeepsI (Turns (fun _ => False) W.heap.size) m W0 W2 := hk0.wide fun k o h => h.imp id fun h => ⟨h.1, by have := h.2; simp at this; omega⟩
    have hlenq : lf.path.length ≤ 10000 := hp lf hmem
    have hyl : ys.length = pre.length := by simpa using congrArg List.length h1
    clear hseq hbc hbx hJ h0 hp hf hlen hk0 hcl1
    gi_wp2
    have hb6 : Box6 _ _ _ _ _ _ _ _ := Box6.new W2 (.slice none 0 0) (.int .i64 0) (.int .i64 0) (.string ⟨#[]⟩) (.slice none 0 0) (.slice none 0 0)
    obtain ⟨W₁, b6, hoth, hbel, hrun⟩ := Box6.fill (P := Try.prog) hb6 v0 v1 v2 v3 v4 v5 hone (fun _ w' => Result.ok Next.skip w')
    rw [hrun]
    gi_wp2
    have hWb : Below W2.heap.size W2 W₁ := ((Below.refl _ W2).alloc (Nat.le_refl _) _).trans hbel
    refine ⟨Keeps.new hWb hmW2, fun W3 hk3 => ?_⟩
    have b63 : Box6 W3 W2.heap.size v0 v1 v2 v3 v4 v5 := hk3.same _ _ b6 (by rintro ⟨⟨r, h⟩ | ⟨r, h⟩, _⟩ <;> cases h)
    have hmk3 : MkIn ⟨lf, v0, v1, v2, v3, v4, v5, F, lo, hi⟩ W3 := (hmk.below hWb (Nat.le_refl _)).keeps (hk3.to fun _ _ h => h.1) memO_mark
    have hk03 : KeepsI (Turns (fun _ => False) W.heap.size) m W0 W3 := (hk0'.trans (KeepsI.new hWb hmW2)).trans (hk3.wide fun k o h => .inr ⟨h.1, by have := h.2; simp at this; omega⟩)
    have hs23 : W2.heap.size ≤ W3.heap.size := Nat.le_trans hWb.size hk3.below.size
    have hbx3 : Boxed W3 W.heap.size 65 (.func (.yield l) #[] #[]) := hk03.same _ _ h5 (fun h => by rcases noStr _ _ _ h with ⟨_, h⟩ | ⟨_, h⟩ <;> cases h)
    have hbW3 : Below m W W3 := h6.trans hk03.below
    clear hrun hoth hbel hb6 b6 hk3 hWb hk0' hmk h5
    have hcF : W3.cell? ⟨Bf, 0, none⟩ = some vf := (hbW3.cell (p := ⟨Bf, 0, none⟩) hl2).trans HCF.out
    have hcT : W3.cell? ⟨Bt, 0, none⟩ = some vt := (hbW3.cell (p := ⟨Bt, 0, none⟩) hl3).trans HCT.out
    have hsF : Strs W3 W3.heap.size vf from_ := strs_wide (by omega) (HFR.out.keep fun p h => hbW3.cell (show p.block < m by omega))
    have hsT : Strs W3 W3.heap.size vt to_ := strs_wide (by omega) (HTO.out.keep fun p h => hbW3.cell (show p.block < m by omega))
    have hsP : Strs W3 W3.heap.size v0 lf.path := Strs_of_own hmk3.path
    have hBG := Lib.hid (begins_any lf.path from_ v0 vf _ W3 hsP hsF hlf)
    obtain ⟨c0, c1, c2, c3, c4, c5⟩ := b63.cells
    obtain ⟨A0, n0, hv0⟩ : ∃ A n, v0 = .slice A lf.path.length n := ownsRow_slice hmk3.path
    subst hv0
    have hcY := hbx3.cell
    have hsl : W.heap.size < W3.heap.size := hbx3.lt
    by_cases hbg : begs lf.path from_ = true
    · rw [hbg] at hBG
      obtain ⟨Af, nf, rfl, _, _⟩ := id HFR.out
      obtain ⟨At, nt, rfl, _, _⟩ := id HTO.out
      have hlp : from_.length ≤ lf.path.length := by simp [begs] at hbg; exact hbg.1
      have hlpi : (from_.length : Int) ≤ (lf.path.length : Int) := by omega
      have HJN : ∀ (u : Value) (n : Nat), Strs W3 W3.heap.size u (lf.path.drop from_.length) → Hid (Calls Try.prog 70 #[.slice At to_.length nt, u] (W3.drewN n) (fun e w4 => ∃ r, e = .returned r ∧ ∃ Ar nr, r = .slice Ar (to_.length + (lf.path.length - from_.length)) nr ∧
          Box6 w4 W2.heap.size (.slice A0 lf.path.length n0) v1 v2 v3 v4 v5 ∧ Box6 (w4.setCell ⟨W2.heap.size, 0, none⟩ r) W2.heap.size r v1 v2 v3 v4 v5 ∧ Boxed (w4.setCell ⟨W2.heap.size, 0, none⟩ r) W.heap.size 65 (.func (.yield l) #[] #[]) ∧
          YieldAt Fence.wide 0 Try.prog l #[.agg #[r, v1, v2, v3, v4, v5]] (w4.setCell ⟨W2.heap.size, 0, none⟩ r) fun e W5 => e = .returned (.bool true) ∧ Keeps RowO m W3 W5 ∧ MvJ from_ to_ m J W W.heap.size (.func (.yield l) #[] #[]) (pre ++ [⟨lf, .slice A0 lf.path.length n0, v1, v2, v3, v4, v5, F, lo, hi⟩]) W5)) := fun u n hu => Lib.hid <| by
        refine (joined_any to_ (lf.path.drop from_.length) (.slice At to_.length nt) u W3.heap.size (W3.drewN n) (Nat.le_refl _) hsT hu (by have := hlenq; rw [List.length_drop]; omega)).mono ?_
        rintro e w4 ⟨r, rfl, hr4, hb4⟩
        rw [← List.length_append] at hr4
        have hb34 : Below W3.heap.size W3 w4 := (below_drewN W3 n).trans hb4
        obtain ⟨Ar, nr, hre⟩ := ownsRow_slice hr4
        obtain ⟨y1, y2, y3, y4⟩ := mv_new (p := to_ ++ lf.path.drop from_.length) hmk3 hr4 hb34 hlo (by omega) hk03 b63 h02 hmW0
        have hbx5 : Boxed (w4.setCell ⟨W2.heap.size, 0, none⟩ r) W.heap.size 65 (.func (.yield l) #[] #[]) := y3.same _ _ hbx3 (by rintro ⟨_, _, h | h⟩ <;> cases h)
        refine ⟨r, rfl, Ar, nr, hre.trans (by rw [List.length_append, List.length_drop]), (hb34.block _ (heap_lt b63)).trans b63, y4, hbx5, ?_⟩
        refine YieldAt.mono (hY ys _ W0 _ h2 y2 ⟨y1, Nat.le_refl _, by simp⟩ (by omega)) ?_
        rintro e W5 ⟨rfl, hJ5, hk5⟩
        exact ⟨rfl, y3.trans hk5, mv_step h1 h3 h4 h6 y2 y1 (Nat.le_refl _) (by simp) hmW0 (by simp [mvd, hbg]) hbx5 hJ5 hk5⟩
      have hlpi : (from_.length : Int) ≤ (lf.path.length : Int) := by omega
      have hsD : n0 ≠ from_.length → Hid (Strs W3 W3.heap.size (.slice (A0.map fun x => x.add from_.length) (lf.path.length - from_.length) (n0 - from_.length)) (lf.path.drop from_.length)) := fun _ => Lib.hid (Strs_drop hsP _ hlp)
      have hsD0 : n0 = from_.length → Hid (Strs W3 W3.heap.size (.slice A0 (lf.path.length - from_.length) 0) (lf.path.drop from_.length)) := fun h => Lib.hid (Strs_drop0 hsP _ hlp h)
      have HJN' := Lib.hid HJN
      clear hY hmk3 hk03 hsP hsF hsT hbW3 h2 HJN b63 hbx3 h1 h3 h4 h6 hone hlenq
      by_cases hn0 : n0 = from_.length
      · subst hn0
        have HD := hsD0 rfl
        clear hsD hsD0
        gi_wp2_with (first
          | (refine ⟨trivial, rfl, ?_⟩; gi_at_call 58; refine (CallsIn.inRound l' (callsIn_wide.2 hBG.out)).mono ?_; rintro e w4 ⟨rfl, n, rfl⟩))
        have mixed : Try.prog.follows .mixedOrders = true := by kernel_rfl
        have e0 : (W3.drewN n).drew.cell? ⟨W2.heap.size, 0, none⟩ = some (.slice A0 lf.path.length from_.length) := c0
        have e1 : (W3.drewN n).drew.cell? ⟨Bf, 0, none⟩ = some (.slice Af from_.length nf) := hcF
        have e2 : (W3.drewN n).drew.cell? ⟨Bt, 0, none⟩ = some (.slice At to_.length nt) := hcT
        gi_cut [] from 25 (fun wx => ∃ (r : Value), Hid (∃ Ar nr, r = .slice Ar (to_.length + (lf.path.length - from_.length)) nr) ∧ Hid (Box6 wx W2.heap.size r v1 v2 v3 v4 v5) ∧ Hid (Boxed wx W.heap.size 65 (.func (.yield l) #[] #[])) ∧
          Hid (YieldAt Fence.wide 0 Try.prog l #[.agg #[r, v1, v2, v3, v4, v5]] wx fun e W5 => e = .returned (.bool true) ∧ Keeps RowO m W3 W5 ∧ MvJ from_ to_ m J W W.heap.size (.func (.yield l) #[] #[]) (pre ++ [⟨lf, .slice A0 lf.path.length from_.length, v1, v2, v3, v4, v5, F, lo, hi⟩]) W5))
        case first =>
          rename_i J1 K1 hJ1 hK1
          gi_region_with_o (refine ⟨trivial, rfl, ?_⟩; gi_at_call 70; refine (CallsIn.inRound l' (callsIn_wide.2 (HJN'.out _ _ HD.out).out)).mono ?_; rintro e w4 ⟨_, rfl, Ar, nr, rfl, hb4, hb5, hy5, hyy⟩
                            obtain ⟨d0, d1, d2, d3, d4, d5⟩ := hb4.cells; have f0 := hb4.frozen 0; have H5 := Lib.hid hb5; have HY5 := Lib.hid hy5; have HYY := Lib.hid hyy; clear hb4 hb5 hy5 hyy HJN')
          all_goals
            refine hK1 _ _ (Met.intro (hJ1 _ _ ?_))
            (repeat apply Exists.intro)
            refine ⟨?rel, rfl⟩
            case rel => exact ⟨_, Lib.hid ⟨_, _, rfl⟩, H5, HY5, HYY⟩
        case rest =>
          obtain ⟨r, HR5, H5, HY5, HYY⟩ := hcut
          obtain ⟨Ar, nr, rfl⟩ := HR5.out
          obtain ⟨g0, g1, g2, g3, g4, g5⟩ := H5.out.cells
          have hcY5 := HY5.out.cell
          obtain ⟨fn, tmps, assign, body, hy, hR⟩ := HYY.out
          clear H5 HY5 HYY c0 c1 c2 c3 c4 c5 e0 e1 e2 hcF hcT hcY mixed HR5 HJN' HD
          gi_wp2_with ((first | refine ⟨rfl, ?_⟩ | skip); refine (show RoundIn (Fence.wide.inRound l') 0 _ _ _ _ _ _ _ _ from hR).mono ?_; rintro e W5 ⟨rfl, hk5, hj5⟩)
      · have HD := hsD hn0
        clear hsD hsD0
        gi_wp2_with (first
          | (refine ⟨trivial, rfl, ?_⟩; gi_at_call 58; refine (CallsIn.inRound l' (callsIn_wide.2 hBG.out)).mono ?_; rintro e w4 ⟨rfl, n, rfl⟩))
        have mixed : Try.prog.follows .mixedOrders = true := by kernel_rfl
        have e0 : (W3.drewN n).drew.cell? ⟨W2.heap.size, 0, none⟩ = some (.slice A0 lf.path.length n0) := c0
        have e1 : (W3.drewN n).drew.cell? ⟨Bf, 0, none⟩ = some (.slice Af from_.length nf) := hcF
        have e2 : (W3.drewN n).drew.cell? ⟨Bt, 0, none⟩ = some (.slice At to_.length nt) := hcT
        gi_cut [] from 25 (fun wx => ∃ (r : Value), Hid (∃ Ar nr, r = .slice Ar (to_.length + (lf.path.length - from_.length)) nr) ∧ Hid (Box6 wx W2.heap.size r v1 v2 v3 v4 v5) ∧ Hid (Boxed wx W.heap.size 65 (.func (.yield l) #[] #[])) ∧
          Hid (YieldAt Fence.wide 0 Try.prog l #[.agg #[r, v1, v2, v3, v4, v5]] wx fun e W5 => e = .returned (.bool true) ∧ Keeps RowO m W3 W5 ∧ MvJ from_ to_ m J W W.heap.size (.func (.yield l) #[] #[]) (pre ++ [⟨lf, .slice A0 lf.path.length n0, v1, v2, v3, v4, v5, F, lo, hi⟩]) W5))
        case first =>
          rename_i J1 K1 hJ1 hK1
          gi_region_with_o (refine ⟨trivial, rfl, ?_⟩; gi_at_call 70; refine (CallsIn.inRound l' (callsIn_wide.2 (HJN'.out _ _ HD.out).out)).mono ?_; rintro e w4 ⟨_, rfl, Ar, nr, rfl, hb4, hb5, hy5, hyy⟩
                            obtain ⟨d0, d1, d2, d3, d4, d5⟩ := hb4.cells; have f0 := hb4.frozen 0; have H5 := Lib.hid hb5; have HY5 := Lib.hid hy5; have HYY := Lib.hid hyy; clear hb4 hb5 hy5 hyy HJN')
          all_goals
            refine hK1 _ _ (Met.intro (hJ1 _ _ ?_))
            (repeat apply Exists.intro)
            refine ⟨?rel, rfl⟩
            case rel => exact ⟨_, Lib.hid ⟨_, _, rfl⟩, H5, HY5, HYY⟩
        case rest =>
          obtain ⟨r, HR5, H5, HY5, HYY⟩ := hcut
          obtain ⟨Ar, nr, rfl⟩ := HR5.out
          obtain ⟨g0, g1, g2, g3, g4, g5⟩ := H5.out.cells
          have hcY5 := HY5.out.cell
          obtain ⟨fn, tmps, assign, body, hy, hR⟩ := HYY.out
          clear H5 HY5 HYY c0 c1 c2 c3 c4 c5 e0 e1 e2 hcF hcT hcY mixed HR5 HJN' HD
          gi_wp2_with ((first | refine ⟨rfl, ?_⟩ | skip); refine (show RoundIn (Fence.wide.inRound l') 0 _ _ _ _ _ _ _ _ from hR).mono ?_; rintro e W5 ⟨rfl, hk5, hj5⟩)
    · have hbg2 : begs lf.path from_ = false := by simpa using hbg
      rw [hbg2] at hBG
      have HKK := Lib.hid (fun n => hk03.trans (KeepsI.new (below_drewN W3 n) (by omega)))
      have HMK := Lib.hid (fun n => hmk3.below (below_drewN W3 n) (Nat.le_refl _))
      have HYY := Lib.hid (fun n => hY ys ⟨lf, .slice A0 lf.path.length n0, v1, v2, v3, v4, v5, F, lo, hi⟩ W0 (W3.drewN n) h2 (hk03.trans (KeepsI.new (below_drewN W3 n) (by omega))) ⟨hmk3.below (below_drewN W3 n) (Nat.le_refl _), hlo, by show hi ≤ W3.heap.size; omega⟩ (by omega))
      clear hY hmk3 hk03 hsP hsF hsT hbW3 h2
      gi_wp2_with (first
        | (refine ⟨trivial, rfl, ?_⟩; gi_at_call 58; refine (CallsIn.inRound l' (callsIn_wide.2 hBG.out)).mono ?_; rintro e w4 ⟨rfl, n, rfl⟩
           obtain ⟨fn, tmps, assign, body, hy, hR⟩ := HYY.out n
           simp only [Mk.enc] at hy
           clear hBG HYY)
        | ((first | refine ⟨rfl, ?_⟩ | skip); refine (show RoundIn (Fence.wide.inRound l') 0 _ _ _ _ _ _ _ _ from hR).mono ?_; rintro e W5 ⟨rfl, hJ5, hk5⟩))
      have hend := mv_step h1 h3 h4 h6 (HKK.out n) (HMK.out n) hlo (by show hi ≤ W3.heap.size; omega) hmW0 (x := ⟨lf, .slice A0 lf.path.length n0, v1, v2, v3, v4, v5, F, lo, hi⟩) (by simp [mvd, hbg2]) (show Boxed (W3.drewN n) W.heap.size _ _ from hbx3) hJ5 hk5
      exact ⟨(Keeps.new (below_drewN W3 n) (by omega)).trans hk5, hend⟩
end Go.Proofs.Ytdgnengfcabgjaa
