/-
  leaves.joined: a path, and what is behind, of memory of its own.
  Leaves in memory: rows that can be read, and leaves of memory of their own.
  The leaves of a document, as a walk through it tells them.
  From the row's reading of a row of leaves to 'LvsIn'.
-/
import Derived.Test.YtdgnengfcabgjaaB02
import Derived.Deep.QuietTactic
import Derived.BigQuiet
import Derived.Test.YtdgnengfcabgjaaB03
import Derived.Test.YtdgnengfcabgjaaB01
namespace Go.Proofs.Ytdgnengfcabgjaa
open Go.RowKit

theorem joined_any (p q : List ByteArray) (v u : Value) (B : Nat) (w : World) (hB : B ≤ w.heap.size) (hv : Strs w B v p) (hu : Strs w B u q) (hlen : p.length + q.length ≤ 100000) :
    Calls Try.prog 70 #[v, u] w fun e w' => ∃ r, e = .returned r ∧ w'.ownsRow w.heap.size 9 1 r (p.length + q.length) ((p ++ q).map Value.string) ∧ Below w.heap.size w w' := by
  have HV := Lib.hid hv; have HU := Lib.hid hu
  clear hv hu
  go_enter Try.func70, Try.ntmps70
  go_wp2_with (first
    | (at_builtin; refine wpList_append_strs rfl _ _ rfl w.heap.size B 0 (.slice none 0 0) v [] p rfl rfl (World.ownsRow_nil _ _ _ _) HV.out (by omega) (Nat.le_refl _) ?_
       intro v1 w1 h1 hg1 _
       rw [Nat.zero_add, List.nil_append] at h1
       have hb1 : Below w.heap.size w w1 := (Below.refl w.heap.size w).grown hg1 (Nat.le_refl _) (fun j e => by simp [Value.ownBlock] at e)
       have H1 := Lib.hid h1
       have HB1 := Lib.hid hb1
       have hsz := hb1.size
       have HU1 := Lib.hid (HU.out.keep fun _ hp => hb1.cell (Nat.lt_of_lt_of_le hp hB))
       clear h1 hg1 hb1 HV HU)
    | (at_builtin; refine wpList_append_strs rfl _ _ rfl w.heap.size B p.length _ u (p.map Value.string) q rfl rfl H1.out HU1.out (by omega) hsz ?_
       intro v2 w2 h2 hg2 _
       rw [← List.map_append] at h2
       have hb2 : Below w.heap.size w w2 := HB1.out.grown hg2 hsz (fun j e => (H1.out.lt j e).1)
       have H2 := Lib.hid (And.intro h2 hb2)
       clear h2 hg2 hb2))
  go_ret
  exact ⟨_, rfl, H2.out.1, H2.out.2⟩
end Go.Proofs.Ytdgnengfcabgjaa
namespace Go.Proofs.Ytdgnengfcabgjaa
open Go.RowKit

structure Lf where
  path : List ByteArray
  doc : D
/-- A row of leaves that can be read. -/
def LvsIn (w : World) (B : Nat) (v : Value) (l : List Lf) : Prop :=
  ∃ (A : Option Addr) (c : Nat), v = .slice A l.length c ∧ l.length ≤ c ∧ (0 < l.length → ∃ b off, A = some ⟨b, off, none⟩ ∧ b < B ∧ ∀ (k : Nat) (h : k < l.length), ∃ v0 v1 v2 v3 v4 v5 : Value,
    w.cell? ⟨b, off + k * 6, none⟩ = some v0 ∧ w.cell? ⟨b, off + k * 6 + 1, none⟩ = some v1 ∧ w.cell? ⟨b, off + k * 6 + 2, none⟩ = some v2 ∧ w.cell? ⟨b, off + k * 6 + 3, none⟩ = some v3 ∧ w.cell? ⟨b, off + k * 6 + 4, none⟩ = some v4 ∧ w.cell? ⟨b, off + k * 6 + 5, none⟩ = some v5 ∧
      Strs w B v0 (l[k]).path ∧ DocIn w B (l[k]).doc v1 v2 v3 v4 v5)
theorem LvsIn.keep {w w' : World} {B : Nat} (h : ∀ p : Addr, p.block < B → w'.cell? p = w.cell? p) {v : Value} {l : List Lf} (hs : LvsIn w B v l) : LvsIn w' B v l := by
  obtain ⟨A, c, e, hl, h1⟩ := hs
  refine ⟨A, c, e, hl, fun h0 => ?_⟩
  obtain ⟨b, off, eA, hb, hk⟩ := h1 h0
  refine ⟨b, off, eA, hb, fun k hlt => ?_⟩
  obtain ⟨v0, v1, v2, v3, v4, v5, c0, c1, c2, c3, c4, c5, hp, hd⟩ := hk k hlt
  exact ⟨v0, v1, v2, v3, v4, v5, (h _ hb).trans c0, (h _ hb).trans c1, (h _ hb).trans c2, (h _ hb).trans c3, (h _ hb).trans c4, (h _ hb).trans c5, hp.keep h, hd.keep (Nat.le_refl _) h⟩
/-- A leaf that was made: its cells, the blocks that its document owns, and between which blocks all of it lies. -/
structure Mk where
  lf : Lf
  v0 : Value
  v1 : Value
  v2 : Value
  v3 : Value
  v4 : Value
  v5 : Value
  F : List Nat
  lo : Nat
  hi : Nat
def Mk.enc (x : Mk) : List Value := [x.v0, x.v1, x.v2, x.v3, x.v4, x.v5]
structure MkIn (x : Mk) (W : World) : Prop where
  path : W.ownsRow x.lo 9 1 x.v0 x.lf.path.length (x.lf.path.map Value.string)
  doc : OwnIn W x.lo x.lf.doc x.v1 x.v2 x.v3 x.v4 x.v5 x.F
  nodup : (blk x.v0 ++ x.F).Nodup
  hi : ∀ k, k ∈ blk x.v0 ++ x.F → k < x.hi
/-- What is told of a leaf when it is handed over: it is there, of memory that was laid since the heap had n blocks. -/
def MkR (x : Mk) (n : Nat) (W : World) : Prop := MkIn x W ∧ n ≤ x.lo ∧ x.hi ≤ W.heap.size
theorem MkIn.same {x : Mk} {W W' : World} (h : MkIn x W) (hs : ∀ k, k ∈ blk x.v0 ++ x.F → W'.heap[k]? = W.heap[k]?) : MkIn x W' :=
  ⟨ownsRow_same h.path fun k hk => hs k (List.mem_append_left _ hk), h.doc.same (Nat.le_refl _) fun k hk => hs k (List.mem_append_right _ hk), h.nodup, h.hi⟩
theorem MkIn.lt {x : Mk} {W : World} (h : MkIn x W) : ∀ k, k ∈ blk x.v0 ++ x.F → x.lo ≤ k ∧ k < W.heap.size := fun k hk => by
  rcases List.mem_append.1 hk with hk | hk
  · exact h.path.lt k (blk_mem.1 hk)
  · exact h.doc.lt k hk
theorem MkIn.below {x : Mk} {W W' : World} {B : Nat} (h : MkIn x W) (hb : Below B W W') (hB : W.heap.size ≤ B) : MkIn x W' := h.same fun k hk => hb.block k (by have := (h.lt k hk).2; omega)
theorem MkIn.one {x : Mk} {W : World} (h : MkIn x W) : ∀ u ∈ x.enc, u.oneCell' = true := by
  intro u hu
  rcases List.mem_cons.1 hu with rfl | hu
  · obtain ⟨A, c, e⟩ := ownsRow_slice h.path; rw [e]; rfl
  · exact oneCell_agg h.doc.doc u hu
/-- Strings and documents: of what a leaf's memory is made. -/
def MemO (o : Obj) : Prop := ∃ cs fz, o = .cells cs 9 fz ∨ o = .cells cs 25 fz
theorem ownsRow_obj {w : World} {base : Nat} {e : TypeId} {size n : Nat} {v : Value} {xs : List Value} (h : w.ownsRow base e size v n xs) {k : Nat} (hk : k ∈ blk v) : ∃ cs, w.heap[k]? = some (.cells cs e (0, 0)) := by
  rcases h.2 with ⟨rfl, _⟩ | ⟨g, cap, cur, rfl, _, hg, _⟩
  · simp [blk, Value.ownBlock] at hk
  · obtain rfl : k = g := by simpa [blk, Value.ownBlock] using hk
    exact ⟨_, hg⟩
mutual
theorem OwnIn.obj {w : World} {base : Nat} : ∀ {d : D} {v0 v1 v2 v3 v4 : Value} {F : List Nat}, OwnIn w base d v0 v1 v2 v3 v4 F → ∀ k ∈ F, ∃ o, w.heap[k]? = some o ∧ MemO o
  | .mk _ _ _ _ _, _, _, _, _, _, _, h, k, hk => by
    simp only [OwnIn] at h
    obtain ⟨h0, h1, h2, h3, cs, Fs, h4, h5, rfl⟩ := h
    simp only [List.mem_append] at hk
    rcases hk with hk | hk | hk
    · obtain ⟨cs, hc⟩ := ownsRow_obj h3 hk; exact ⟨_, hc, _, _, .inl rfl⟩
    · obtain ⟨cs, hc⟩ := ownsRow_obj h4 hk; exact ⟨_, hc, _, _, .inr rfl⟩
    · exact OwnKids.obj h5 k hk
theorem OwnKids.obj {w : World} {base : Nat} : ∀ {l : List D} {cs : List Value} {F : List Nat}, OwnKids w base l cs F → ∀ k ∈ F, ∃ o, w.heap[k]? = some o ∧ MemO o
  | [], _, _, h, k, hk => by
    simp only [OwnKids] at h
    rw [h.2] at hk; simp at hk
  | d :: r, _, _, h, k, hk => by
    simp only [OwnKids] at h
    obtain ⟨v0, v1, v2, v3, v4, cs', F1, F2, h1, h2, h3, rfl⟩ := h
    rcases List.mem_append.1 hk with hk | hk
    · exact OwnIn.obj h2 k hk
    · exact OwnKids.obj h3 k hk
end
theorem MkIn.keeps {x : Mk} {W W' : World} {T : Obj → Prop} {m : Nat} (h : MkIn x W) (hk : Keeps T m W W') (hT : ∀ o, MemO o → ¬ T o) : MkIn x W' := h.same fun k hm => by
  have : ∃ o, W.heap[k]? = some o ∧ MemO o := by
    rcases List.mem_append.1 hm with hm | hm
    · obtain ⟨cs, hc⟩ := ownsRow_obj h.path hm; exact ⟨_, hc, _, _, .inl rfl⟩
    · exact h.doc.obj k hm
  obtain ⟨o, ho, hM⟩ := this
  rw [hk.same _ _ ho (hT o hM), ho]
theorem memO_rowO (o : Obj) (h : MemO o) : ¬ RowO o := by
  rintro ⟨cs, fz, h2⟩
  obtain ⟨cs', fz', h1⟩ := h
  rcases h1 with rfl | rfl <;> rcases h2 with h2 | h2 <;> cases h2
theorem memO_rowMark (o : Obj) (h : MemO o) : ¬ (RowO o ∨ IsMark o) := by
  rintro (h2 | h2)
  · exact memO_rowO o h h2
  · obtain ⟨cs', fz', h1⟩ := h
    rcases h1 with rfl | rfl <;> rcases h2 with ⟨_, h2⟩ | ⟨_, h2⟩ <;> cases h2
/-- Leaves that were made one behind another: all from block m on, no memory shared. -/
structure Mks (m : Nat) (xs : List Mk) (W : World) : Prop where
  each : ∀ x ∈ xs, MkIn x W ∧ m ≤ x.lo
  apart : xs.Pairwise fun x y => x.hi ≤ y.lo
theorem Mks.keeps {m n : Nat} {xs : List Mk} {W W' : World} {T : Obj → Prop} (h : Mks m xs W) (hk : Keeps T n W W') (hT : ∀ o, MemO o → ¬ T o) : Mks m xs W' := ⟨fun x hx => ⟨(h.each x hx).1.keeps hk hT, (h.each x hx).2⟩, h.apart⟩
theorem Mks.below {m B : Nat} {xs : List Mk} {W W' : World} (h : Mks m xs W) (hb : Below B W W') (hB : W.heap.size ≤ B) : Mks m xs W' := ⟨fun x hx => ⟨(h.each x hx).1.below hb hB, (h.each x hx).2⟩, h.apart⟩
theorem Mks.snoc {m : Nat} {xs : List Mk} {x : Mk} {W : World} (h : Mks m xs W) (hx : MkIn x W) (hm : m ≤ x.lo) (hap : ∀ y ∈ xs, y.hi ≤ x.lo) : Mks m (xs ++ [x]) W :=
  ⟨fun y hy => by
    rcases List.mem_append.1 hy with hy | hy
    · exact h.each y hy
    · simp only [List.mem_singleton] at hy; subst hy; exact ⟨hx, hm⟩, List.pairwise_append.2 ⟨h.apart, by simp, fun y hy z hz => by simp only [List.mem_singleton] at hz; subst hz; exact hap y hy⟩⟩
end Go.Proofs.Ytdgnengfcabgjaa
namespace Go.Proofs.Ytdgnengfcabgjaa
open Go.RowKit

mutual
/-- The leaves of a document that stands at a path: of every document ahead of its kids. -/
def vis (p : List ByteArray) : D → List Lf
  | .mk kind num str keys kids => if kind = 1 ∨ kind = 2 then ⟨p, .mk kind num str [] []⟩ :: visK p kids keys else [⟨p, .mk kind num str keys kids⟩]
def visK (p : List ByteArray) : List D → List ByteArray → List Lf
  | [], _ => []
  | _ :: _, [] => []
  | d :: ds, k :: ks => vis (p ++ [k]) d ++ visK p ds ks
end
def bare (d : D) : D := .mk d.kind d.num d.str [] []
theorem vis_leaf (p : List ByteArray) {d : D} (h : ¬ (d.kind = 1 ∨ d.kind = 2)) : vis p d = [⟨p, d⟩] := by
  obtain ⟨kind, num, str, keys, kids⟩ := d
  simp only [D.kind] at h
  rw [vis, if_neg h]
theorem vis_keyed (p : List ByteArray) {d : D} (h : d.kind = 1 ∨ d.kind = 2) : vis p d = ⟨p, bare d⟩ :: visK p d.kids d.keys := by
  obtain ⟨kind, num, str, keys, kids⟩ := d
  simp only [D.kind] at h
  rw [vis, if_pos h]; rfl
theorem visK_drop (p : List ByteArray) {ds : List D} {ks : List ByteArray} {i : Nat} (h1 : i < ds.length) (h2 : i < ks.length) : visK p (ds.drop i) (ks.drop i) = vis (p ++ [ks[i]]) ds[i] ++ visK p (ds.drop (i + 1)) (ks.drop (i + 1)) := by
  rw [List.drop_eq_getElem_cons h1, List.drop_eq_getElem_cons h2, visK]
theorem visK_end (p : List ByteArray) {ds : List D} {ks : List ByteArray} {i : Nat} (h : ds.length ≤ i ∨ ks.length ≤ i) : visK p (ds.drop i) (ks.drop i) = [] := by
  rcases h with h | h
  · rw [List.drop_eq_nil_of_le h, visK]
  · rw [List.drop_eq_nil_of_le h]
    cases ds.drop i <;> simp [visK]
theorem visK_take (p : List ByteArray) {ds : List D} {ks : List ByteArray} : ∀ {i : Nat}, i < ds.length → i < ks.length → visK p (ds.take (i + 1)) (ks.take (i + 1)) = visK p (ds.take i) (ks.take i) ++ vis (p ++ [(ks[i]?).getD ⟨#[]⟩]) ((ds[i]?).getD (.mk 0 0 ⟨#[]⟩ [] [])) := by
  intro i
  induction i generalizing ds ks with
  | zero =>
    intro h1 h2
    obtain ⟨d, ds, rfl⟩ := List.exists_cons_of_length_pos h1
    obtain ⟨k, ks, rfl⟩ := List.exists_cons_of_length_pos h2
    simp [visK]
  | succ i ih =>
    intro h1 h2
    cases ds with
    | nil => simp at h1
    | cons d ds =>
      cases ks with
      | nil => simp at h2
      | cons k ks =>
        simp only [List.take_succ_cons, visK]
        rw [ih (by simpa using h1) (by simpa using h2), List.append_assoc]
        simp
end Go.Proofs.Ytdgnengfcabgjaa
namespace Go.Proofs.Ytdgnengfcabgjaa
open Go.RowKit Go.Deep

theorem cLeaf : Try.prog.cellsOf 42 = 6 := by kernel_rfl
section
variable {H : Type} {enc : TypeId × Value → H} {W : World} {base : Nat} {sp : Nat → Bool} {held : Bool}
theorem open_leaf {fuel : Nat} {cs : List Value} {x : DataW H × List MemPlace} (h : DataW.trod enc Try.prog W base sp held fuel 42 cs = some x) :
    ∃ (lf : Lf) (v0 v1 v2 v3 v4 v5 : Value), cs = [v0, v1, v2, v3, v4, v5] ∧ Strs W W.heap.size v0 lf.path ∧ DocIn W W.heap.size lf.doc v1 v2 v3 v4 v5 ∧ ∀ s ∈ lf.path, s.size ≤ maxLen := by
  cases fuel with
  | zero => simp [DataW.trod] at h
  | succ fuel =>
    obtain ⟨xs, n, hn, _, hcl, hxl, hfd⟩ := DataW.trod_struct Try.underlying42 h
    rw [cLeaf] at hcl
    match cs, hcl with
    | [v0, v1, v2, v3, v4, v5], _ =>
      match xs, hxl with
      | [y0, y1], _ =>
        have h0 : DataW.trod enc Try.prog W base sp held n 22 [v0] = some y0 := by simpa [cStrs] using hfd 0 _ rfl
        have h1 : DataW.trod enc Try.prog W base sp held n 25 [v1, v2, v3, v4, v5] = some y1 := by simpa [cStrs, cDoc] using hfd 1 _ rfl
        obtain ⟨u0, ks, e0, hks, _, hsz⟩ := open_strs h0
        obtain ⟨d, w0, w1, w2, w3, w4, e1, hd⟩ := open_docs n n (Nat.le_refl _) _ _ h1
        simp only [List.cons.injEq, and_true] at e0 e1
        obtain ⟨rfl, rfl, rfl, rfl, rfl⟩ := e1
        subst e0
        exact ⟨⟨ks, d⟩, _, _, _, _, _, _, rfl, hks, hd, hsz⟩
theorem open_leaves_ {fuel : Nat} {cs : List Value} {x : DataW H × List MemPlace} (h : DataW.trod enc Try.prog W base sp held fuel 26 cs = some x) :
    ∃ (v : Value) (ls : List Lf), cs = [v] ∧ LvsIn W W.heap.size v ls ∧ ∀ x ∈ ls, ∀ s ∈ x.path, s.size ≤ maxLen := by
  rcases DataW.trod_slice Try.underlying26 h with ⟨e4, _⟩ | ⟨a, len, cap, elems, rest, n', hn', e4, _, _, hl, _, hlen, hel, _, _⟩
  · exact ⟨_, [], e4, ⟨none, 0, rfl, by simp, fun h => by simp at h⟩, by simp⟩
  · rw [cLeaf] at hel
    have hget : ∀ i, i < len → ∃ (lf : Lf), ∃ v0 v1 v2 v3 v4 v5 : Value, W.cell? ((a.add (i * 6)).add 0) = some v0 ∧ W.cell? ((a.add (i * 6)).add 1) = some v1 ∧ W.cell? ((a.add (i * 6)).add 2) = some v2 ∧ W.cell? ((a.add (i * 6)).add 3) = some v3 ∧ W.cell? ((a.add (i * 6)).add 4) = some v4 ∧ W.cell? ((a.add (i * 6)).add 5) = some v5 ∧
        Strs W W.heap.size v0 lf.path ∧ DocIn W W.heap.size lf.doc v1 v2 v3 v4 v5 ∧ ∀ s ∈ lf.path, s.size ≤ maxLen := by
      intro i hi
      have h' := hel i hi
      rw [List.getElem?_eq_getElem (by omega)] at h'
      obtain ⟨cs', hc1, hc2⟩ := Option.bind_eq_some_iff.1 h'
      obtain ⟨lf, w0, w1, w2, w3, w4, w5, rfl, hp, hd, hs⟩ := open_leaf hc2
      have hc := (mapM_cells hc1).2
      exact ⟨lf, w0, w1, w2, w3, w4, w5, hc 0 (by omega), hc 1 (by omega), hc 2 (by omega), hc 3 (by omega), hc 4 (by omega), hc 5 (by omega), hp, hd, hs⟩
    obtain ⟨l, hll, hlp⟩ := pick_list len hget
    refine ⟨_, l, e4, ⟨some a, cap, by rw [hll], by omega, fun h0 => ?_⟩, fun x hx s hs => ?_⟩
    · obtain ⟨_, _, _, _, _, _, hz, _⟩ := hlp 0 h0
      obtain ⟨q1, q2⟩ := cell_spot hz
      rw [show (a.add (0 * 6)).add 0 = a from by simp [Addr.add]] at q1 q2
      refine ⟨a.block, a.off, by rw [← q1], q2, fun i hi => ?_⟩
      obtain ⟨w0, w1, w2, w3, w4, w5, c0, c1, c2, c3, c4, c5, hp, hd, _⟩ := hlp i hi
      rw [q1, add_none, add_none] at c0 c1 c2 c3 c4 c5
      exact ⟨w0, w1, w2, w3, w4, w5, c0, c1, c2, c3, c4, c5, hp, hd⟩
    · obtain ⟨i, hi, rfl⟩ := List.getElem_of_mem hx
      obtain ⟨_, _, _, _, _, _, _, _, _, _, _, _, _, _, h8⟩ := hlp i hi
      exact h8 s hs
theorem open_leaves {v : Value} {d : DataW H} {p : List MemPlace} (h : DataW.Trod enc Try.prog W base sp held 26 v d p) (hv : ∃ a len cap, v = .slice a len cap) : ∃ ls : List Lf, LvsIn W W.heap.size v ls ∧ ∀ x ∈ ls, ∀ s ∈ x.path, s.size ≤ maxLen := by
  obtain ⟨fuel, h⟩ := h
  obtain ⟨a0, l0, c0, rfl⟩ := hv
  obtain ⟨v, ls, e, hs⟩ := open_leaves_ (show DataW.trod enc Try.prog W base sp held fuel 26 [.slice a0 l0 c0] = some (d, p) from h)
  simp only [List.cons.injEq, and_true] at e
  subst e
  exact ⟨ls, hs⟩
end
end Go.Proofs.Ytdgnengfcabgjaa
