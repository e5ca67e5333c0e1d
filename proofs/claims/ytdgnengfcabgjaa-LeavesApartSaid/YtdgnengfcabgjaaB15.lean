/-
  Documents that lie in given blocks: as DocIn, over a set of blocks. And a row of documents of the call's own, whose parts lie in other blocks of the set.
  Rows of whatever element: appends onto a row of the call's own that say what else they keep; slices of rows; documents in flat cells.
  append onto a row of the call's own: the longer row, and the older one as it was: of whatever element.
-/
import Derived.Test.YtdgnengfcabgjaaB01
import Derived.Test.YtdgnengfcabgjaaB02
import Derived.Test.YtdgnengfcabgjaaB11
import Derived.Test.YtdgnengfcabgjaaB14
import Derived.Maps.AppendAt
namespace Go.Proofs.Ytdgnengfcabgjaa
open Go.RowKit

mutual
/-- The five cells of a document. -/
def DocS (w : World) (S : Nat → Prop) : D → Value → Value → Value → Value → Value → Prop
  | .mk kind num str keys kids, v0, v1, v2, v3, v4 =>
    v0 = .int .i64 kind ∧ v1 = .int .i64 num ∧ v2 = .string str ∧ StrsS w S v3 keys ∧
      (∃ (A : Option Addr) (c : Nat), v4 = .slice A kids.length c ∧ kids.length ≤ c ∧ (0 < kids.length → ∃ b off, A = some ⟨b, off, none⟩ ∧ S b ∧ KidsS w S b off 0 kids))
def KidsS (w : World) (S : Nat → Prop) (b off : Nat) : Nat → List D → Prop
  | _, [] => True
  | i, d :: r => (∃ v0 v1 v2 v3 v4 : Value, w.cell? ⟨b, off + i * 5, none⟩ = some v0 ∧ w.cell? ⟨b, off + i * 5 + 1, none⟩ = some v1 ∧ w.cell? ⟨b, off + i * 5 + 2, none⟩ = some v2 ∧ w.cell? ⟨b, off + i * 5 + 3, none⟩ = some v3 ∧ w.cell? ⟨b, off + i * 5 + 4, none⟩ = some v4 ∧ DocS w S d v0 v1 v2 v3 v4) ∧ KidsS w S b off (i + 1) r
end
mutual
theorem DocS.keep {w w' : World} {S S' : Nat → Prop} (hB : ∀ k, S k → S' k) (h : ∀ p : Addr, S p.block → w'.cell? p = w.cell? p) : ∀ {d : D} {v0 v1 v2 v3 v4 : Value}, DocS w S d v0 v1 v2 v3 v4 → DocS w' S' d v0 v1 v2 v3 v4
  | .mk _ _ _ _ kids, _, _, _, _, _, hd => by
    simp only [DocS] at hd ⊢
    obtain ⟨h0, h1, h2, h3, ⟨A, c, e, k1, k2⟩⟩ := hd
    refine ⟨h0, h1, h2, h3.keep hB h, ⟨A, c, e, k1, fun hl => ?_⟩⟩
    obtain ⟨b, off, ea, hb, hk⟩ := k2 hl
    exact ⟨b, off, ea, hB _ hb, KidsS.keep hB h hb hk⟩
theorem KidsS.keep {w w' : World} {S S' : Nat → Prop} (hB : ∀ k, S k → S' k) (h : ∀ p : Addr, S p.block → w'.cell? p = w.cell? p) {b off : Nat} (hb : S b) : ∀ {l : List D} {i : Nat}, KidsS w S b off i l → KidsS w' S' b off i l
  | [], _, _ => by simp [KidsS]
  | d :: r, i, hk => by
    simp only [KidsS] at hk ⊢
    obtain ⟨⟨v0, v1, v2, v3, v4, c0, c1, c2, c3, c4, hd⟩, hr⟩ := hk
    have hh : ∀ n, w'.cell? ⟨b, n, none⟩ = w.cell? ⟨b, n, none⟩ := fun n => h ⟨b, n, none⟩ hb
    exact ⟨⟨v0, v1, v2, v3, v4, (hh _).trans c0, (hh _).trans c1, (hh _).trans c2, (hh _).trans c3, (hh _).trans c4, DocS.keep hB h hd⟩, KidsS.keep hB h hb hr⟩
end
theorem DocS.forms {w : World} {S : Nat → Prop} {d : D} {v0 v1 v2 v3 v4 : Value} (h : DocS w S d v0 v1 v2 v3 v4) :
    ∃ A3 c3 A4 c4, v0 = .int .i64 d.kind ∧ v1 = .int .i64 d.num ∧ v2 = .string d.str ∧ v3 = .slice A3 d.keys.length c3 ∧ v4 = .slice A4 d.kids.length c4 := by
  obtain ⟨_, _, _, _, _⟩ := d
  simp only [DocS] at h
  obtain ⟨h0, h1, h2, ⟨A3, c3, h3, _⟩, ⟨A4, c4, h4, _⟩⟩ := h
  exact ⟨A3, c3, A4, c4, h0, h1, h2, h3, h4⟩
mutual
theorem DocS.toIn {w : World} {S : Nat → Prop} {B : Nat} (hS : ∀ k, S k → k < B) : ∀ {d : D} {v0 v1 v2 v3 v4 : Value}, DocS w S d v0 v1 v2 v3 v4 → DocIn w B d v0 v1 v2 v3 v4
  | .mk _ _ _ _ kids, _, _, _, _, _, hd => by
    simp only [DocS] at hd
    simp only [DocIn]
    obtain ⟨h0, h1, h2, ⟨A, c, e, l, h3⟩, ⟨A', c', e', k1, k2⟩⟩ := hd
    refine ⟨h0, h1, h2, ⟨A, c, e, l, fun hl => ?_⟩, ⟨A', c', e', k1, fun hl => ?_⟩⟩
    · obtain ⟨b, off, ea, hb, hk⟩ := h3 hl
      exact ⟨b, off, ea, hS _ hb, hk⟩
    · obtain ⟨b, off, ea, hb, hk⟩ := k2 hl
      exact ⟨b, off, ea, hS _ hb, KidsS.toIn hS hk⟩
theorem KidsS.toIn {w : World} {S : Nat → Prop} {B : Nat} (hS : ∀ k, S k → k < B) {b off : Nat} : ∀ {l : List D} {i : Nat}, KidsS w S b off i l → KidsIn w B b off i l
  | [], _, _ => by simp [KidsIn]
  | d :: r, i, hk => by
    simp only [KidsS] at hk
    simp only [KidsIn]
    obtain ⟨⟨v0, v1, v2, v3, v4, c0, c1, c2, c3, c4, hd⟩, hr⟩ := hk
    exact ⟨⟨v0, v1, v2, v3, v4, c0, c1, c2, c3, c4, DocS.toIn hS hd⟩, KidsS.toIn hS hr⟩
end
mutual
theorem DocIn.toS {w : World} {B : Nat} : ∀ {d : D} {v0 v1 v2 v3 v4 : Value}, DocIn w B d v0 v1 v2 v3 v4 → DocS w (fun k => k < B) d v0 v1 v2 v3 v4
  | .mk _ _ _ _ kids, _, _, _, _, _, hd => by
    simp only [DocIn] at hd
    simp only [DocS]
    obtain ⟨h0, h1, h2, ⟨A, c, e, l, h3⟩, ⟨A', c', e', k1, k2⟩⟩ := hd
    refine ⟨h0, h1, h2, ⟨A, c, e, l, fun hl => ?_⟩, ⟨A', c', e', k1, fun hl => ?_⟩⟩
    · obtain ⟨b, off, ea, hb, hk⟩ := h3 hl
      exact ⟨b, off, ea, hb, hk⟩
    · obtain ⟨b, off, ea, hb, hk⟩ := k2 hl
      exact ⟨b, off, ea, hb, KidsIn.toS hk⟩
theorem KidsIn.toS {w : World} {B : Nat} {b off : Nat} : ∀ {l : List D} {i : Nat}, KidsIn w B b off i l → KidsS w (fun k => k < B) b off i l
  | [], _, _ => by simp [KidsS]
  | d :: r, i, hk => by
    simp only [KidsIn] at hk
    simp only [KidsS]
    obtain ⟨⟨v0, v1, v2, v3, v4, c0, c1, c2, c3, c4, hd⟩, hr⟩ := hk
    exact ⟨⟨v0, v1, v2, v3, v4, c0, c1, c2, c3, c4, DocIn.toS hd⟩, KidsIn.toS hr⟩
end
/-- Documents that can be read in flat cells; their parts in blocks of the set. -/
def DocR (w : World) (S : Nat → Prop) : List D → List Value → Prop
  | [], cs => cs = []
  | d :: r, cs => ∃ (v0 v1 v2 v3 v4 : Value) (cs' : List Value), cs = v0 :: v1 :: v2 :: v3 :: v4 :: cs' ∧ DocS w S d v0 v1 v2 v3 v4 ∧ DocR w S r cs'
theorem DocR.keep {w w' : World} {S S' : Nat → Prop} (hB : ∀ k, S k → S' k) (h : ∀ p : Addr, S p.block → w'.cell? p = w.cell? p) : ∀ {l : List D} {cs : List Value}, DocR w S l cs → DocR w' S' l cs
  | [], _, hs => hs
  | d :: r, _, hs => by
    simp only [DocR] at hs ⊢
    obtain ⟨v0, v1, v2, v3, v4, cs', rfl, h1, h2⟩ := hs
    exact ⟨v0, v1, v2, v3, v4, cs', rfl, h1.keep hB h, h2.keep hB h⟩
theorem DocR.append {w : World} {S : Nat → Prop} : ∀ {a b : List D} {c d : List Value}, DocR w S a c → DocR w S b d → DocR w S (a ++ b) (c ++ d)
  | [], _, _, _, ha, hb => by simp only [DocR] at ha; subst ha; simpa using hb
  | f :: r, b, _, d, ha, hb => by
    simp only [DocR] at ha
    obtain ⟨v0, v1, v2, v3, v4, cs', rfl, h1, h2⟩ := ha
    simp only [List.cons_append, DocR]
    exact ⟨v0, v1, v2, v3, v4, cs' ++ d, rfl, h1, h2.append hb⟩
theorem DocR.len {w : World} {S : Nat → Prop} : ∀ {l : List D} {cs : List Value}, DocR w S l cs → cs.length = l.length * 5
  | [], _, h => by simp only [DocR] at h; simp [h]
  | f :: r, _, h => by
    simp only [DocR] at h
    obtain ⟨v0, v1, v2, v3, v4, cs', rfl, _, h2⟩ := h
    simp [h2.len]; omega
/-- A row of documents of the call's own; their parts lie elsewhere: in blocks of the set, or made since. -/
structure RowD (W0 : Nat) (S0 : Nat → Prop) (w : World) (l : List D) (v : Value) : Prop where
  ex : ∃ cs, w.ownsRow W0 25 5 v l.length cs ∧ DocR w (fun k => (S0 k ∨ W0 ≤ k) ∧ k < w.heap.size ∧ v.ownBlock ≠ some k) l cs
theorem RowD.nil (W0 : Nat) (S0 : Nat → Prop) (w : World) : RowD W0 S0 w [] (.slice none 0 0) := ⟨[], World.ownsRow_nil _ _ _ _, rfl⟩
theorem RowD.past {W0 : Nat} {S0 : Nat → Prop} {w w' : World} {l : List D} {v : Value} (h : RowD W0 S0 w l v) (hb : Below w.heap.size w w') : RowD W0 S0 w' l v := by
  obtain ⟨cs, h1, h2⟩ := h.ex
  exact ⟨cs, ownsRow_same h1 fun k hk => hb.block k (h1.lt k (blk_mem.1 hk)).2, h2.keep (fun k hk => ⟨hk.1, Nat.lt_of_lt_of_le hk.2.1 hb.size, hk.2.2⟩) fun p hp => hb.cell hp.2.1⟩
theorem strsS_own2 {w : World} {base : Nat} {v : Value} {xs : List ByteArray} (h : w.ownsRow base 9 1 v xs.length (xs.map Value.string)) : StrsS w (fun k => base ≤ k ∧ k < w.heap.size) v xs := by
  obtain ⟨A, c, e, hc, hcell⟩ := Strs_of_own h
  subst e
  refine ⟨A, c, rfl, hc, fun hl => ?_⟩
  obtain ⟨g, cap, e, hg, hlt⟩ := h.form hl
  injection e with e1 _ _
  subst e1
  obtain ⟨b, off, e2, _, hc2⟩ := hcell hl
  injection e2 with e2
  injection e2 with e2 e3 _
  subst e2; subst e3
  exact ⟨g, 0, rfl, ⟨hg, hlt⟩, hc2⟩
mutual
theorem OwnIn.docS {w : World} {base : Nat} : ∀ {d : D} {v0 v1 v2 v3 v4 : Value} {F : List Nat}, OwnIn w base d v0 v1 v2 v3 v4 F → DocS w (fun k => base ≤ k ∧ k < w.heap.size) d v0 v1 v2 v3 v4
  | .mk _ _ _ keys kids, v0, v1, v2, v3, v4, F, h => by
    simp only [OwnIn] at h
    simp only [DocS]
    obtain ⟨h0, h1, h2, h3, cs, Fs, h4, h5, rfl⟩ := h
    refine ⟨h0, h1, h2, strsS_own2 h3, ?_⟩
    rcases Nat.eq_zero_or_pos kids.length with hz | hz
    · rcases h4.2 with ⟨rfl, _⟩ | ⟨g, cap, cur, rfl, _, hh, hc, _⟩
      · exact ⟨none, 0, by rw [hz], by omega, fun h => by omega⟩
      · exact ⟨some ⟨g, 0, none⟩, cap, rfl, hc, fun h => by omega⟩
    · obtain ⟨g, cap, rfl, hg, hlt⟩ := h4.form hz
      have hc : kids.length ≤ cap := by
        rcases h4.2 with ⟨e, _⟩ | ⟨g', cap', cur, e, _, _, hc, _⟩
        · cases e
        · injection e with _ _ e3; omega
      refine ⟨some ⟨g, 0, none⟩, cap, rfl, hc, fun _ => ⟨g, 0, rfl, ⟨hg, hlt⟩, ?_⟩⟩
      exact OwnKids.kidsS h5 (i := 0) fun j hj => by
        rw [Nat.zero_mul, Nat.add_zero, Nat.zero_add, h4.cellAt j (by have := h4.1; omega)]
theorem OwnKids.kidsS {w : World} {base : Nat} {g off : Nat} : ∀ {l : List D} {cs : List Value} {F : List Nat}, OwnKids w base l cs F → ∀ {i : Nat}, (∀ j, j < cs.length → w.cell? ⟨g, off + i * 5 + j, none⟩ = cs[j]?) → KidsS w (fun k => base ≤ k ∧ k < w.heap.size) g off i l
  | [], _, _, _, _, _ => by simp [KidsS]
  | d :: r, _, _, h, i, hc => by
    simp only [OwnKids] at h
    obtain ⟨v0, v1, v2, v3, v4, cs', F1, F2, rfl, h2, h3, rfl⟩ := h
    simp only [KidsS]
    refine ⟨⟨v0, v1, v2, v3, v4, hc 0 (by simp), hc 1 (by simp), hc 2 (by simp), hc 3 (by simp), hc 4 (by simp), OwnIn.docS h2⟩, OwnKids.kidsS h3 fun j hj => ?_⟩
    have := hc (j + 5) (by simp; omega)
    rw [show off + (i + 1) * 5 + j = off + i * 5 + (j + 5) from by omega, this]
    simp
end
theorem DocR.kids {w : World} {S S' : Nat → Prop} {g off : Nat} (hS : ∀ k, S k → S' k) : ∀ {l : List D} {cs : List Value}, DocR w S l cs → ∀ {i : Nat}, (∀ j, j < cs.length → w.cell? ⟨g, off + i * 5 + j, none⟩ = cs[j]?) → KidsS w S' g off i l
  | [], _, _, _, _ => by simp [KidsS]
  | d :: r, _, h, i, hc => by
    simp only [DocR] at h
    obtain ⟨v0, v1, v2, v3, v4, cs', rfl, h2, h3⟩ := h
    simp only [KidsS]
    refine ⟨⟨v0, v1, v2, v3, v4, hc 0 (by simp), hc 1 (by simp), hc 2 (by simp), hc 3 (by simp), hc 4 (by simp), h2.keep hS fun _ _ => rfl⟩, DocR.kids hS h3 fun j hj => ?_⟩
    have := hc (j + 5) (by simp; omega)
    rw [show off + (i + 1) * 5 + j = off + i * 5 + (j + 5) from by omega, this]
    simp
/-- One document more: its five cells in a row that was just made. -/
theorem RowD.one {W0 : Nat} {S0 S2 : Nat → Prop} {w : World} {l : List D} {v : Value} (ty : TypeId) (h : RowD W0 S0 w l v) {g : Nat} {d : D} {a0 a1 a2 a3 a4 : Value} (hd : DocS w S2 d a0 a1 a2 a3 a4)
    (c0 : w.cell? ⟨g, 0, none⟩ = some a0) (c1 : w.cell? ⟨g, 1, none⟩ = some a1) (c2 : w.cell? ⟨g, 2, none⟩ = some a2) (c3 : w.cell? ⟨g, 3, none⟩ = some a3) (c4 : w.cell? ⟨g, 4, none⟩ = some a4)
    (hS : ∀ k, S2 k → (S0 k ∨ W0 ≤ k) ∧ k < w.heap.size ∧ v.ownBlock ≠ some k) (hn : l.length + 1 ≤ 100000) (hW : W0 ≤ w.heap.size) :
    ∃ v' w', (Builtin.append_ #[23, 23] ty #[v, .slice (some ⟨g, 0, none⟩) 1 1]).run Try.prog w = .ok v' w' ∧ RowD W0 S0 w' (l ++ [d]) v' ∧ w.grownBy w' v.ownBlock ∧ (v'.ownBlock = v.ownBlock ∨ v'.ownBlock = some w.heap.size) := by
  obtain ⟨cs, ho, hr⟩ := h.ex
  obtain ⟨i0, hi, hz0, hz1, hz2⟩ := info_parts infoD
  have hd' := hd.keep (w' := w) hS fun _ _ => rfl
  obtain ⟨A3, e3, A4, e4, f0, f1, f2, f3, f4⟩ := hd.forms
  obtain ⟨v', w', hrun, hown, hgrow, _, hat⟩ := run_append_own_at (P := Try.prog) w W0 23 ty 25 i0 (.agg #[.int .i64 0, .int .i64 0, .string ByteArray.empty, .slice none 0 0, .slice none 0 0]) 5 80 Try.underlying23 hi hz0 hz1 hz2 (by rfl) (by omega) v l.length cs ho ⟨g, 0, none⟩ 1 1 [a0, a1, a2, a3, a4] rfl (fun j x hj => by
    have e : (⟨g, 0, none⟩ : Addr).add j = ⟨g, 0 + j, none⟩ := by unfold Addr.add; split <;> simp_all
    rw [e, Nat.zero_add]
    match j, hj with
    | 0, hj => simp at hj; subst hj; exact c0
    | 1, hj => simp at hj; subst hj; exact c1
    | 2, hj => simp at hj; subst hj; exact c2
    | 3, hj => simp at hj; subst hj; exact c3
    | 4, hj => simp at hj; subst hj; exact c4) (fun u hu => by
      simp only [List.mem_cons, List.not_mem_nil, or_false] at hu
      rcases hu with rfl | rfl | rfl | rfl | rfl
      · rw [f0]; rfl
      · rw [f1]; rfl
      · rw [f2]; rfl
      · rw [f3]; rfl
      · rw [f4]; rfl) (by unfold maxLen; omega) (by omega) hW
  have hS' : ∀ k, (S0 k ∨ W0 ≤ k) ∧ k < w.heap.size ∧ v.ownBlock ≠ some k → (S0 k ∨ W0 ≤ k) ∧ k < w'.heap.size ∧ v'.ownBlock ≠ some k := fun k hk => ⟨hk.1, Nat.lt_of_lt_of_le hk.2.1 hgrow.size, fun e => by
    rcases hat with e2 | e2
    · exact hk.2.2 (e2 ▸ e)
    · rw [e] at e2; injection e2 with e2; omega⟩
  exact ⟨v', w', hrun, ⟨cs ++ [a0, a1, a2, a3, a4], by rw [List.length_append]; exact hown, (hr.append (show DocR w _ [d] [a0, a1, a2, a3, a4] from ⟨a0, a1, a2, a3, a4, [], rfl, hd', rfl⟩)).keep hS' fun p hp => World.cell?_of_block (hgrow.block p.block hp.2.1 fun e => hp.2.2 e.symm)⟩, hgrow, hat⟩
end Go.Proofs.Ytdgnengfcabgjaa
namespace Go.Proofs.Ytdgnengfcabgjaa
open Go.RowKit

theorem e_cell_block {w : World} {b : Nat} {arr : Array Value} {ty : TypeId} (hb : w.heap[b]? = some (.cells arr ty (0, 0))) (i : Nat) : w.cell? ⟨b, i, none⟩ = arr[i]? := by simp [World.cell?, hb]
theorem e_size_block {w : World} {b : Nat} {o : Obj} (hb : w.heap[b]? = some o) : b < w.heap.size := by
  rcases Nat.lt_or_ge b w.heap.size with h | h
  · exact h
  · simp [h] at hb
/-- A row that can be read, as cells: of whatever element type. -/
def RowE (w : World) (size : Nat) (v : Value) (n : Nat) (cs : List Value) : Prop :=
  ∃ (A : Option Addr) (c : Nat), v = .slice A n c ∧ n ≤ c ∧ cs.length = n * size ∧ (∀ u ∈ cs, u.oneCell' = true) ∧ (A = none → n = 0) ∧ ∀ a, A = some a → ∀ j u, cs[j]? = some u → w.cell? (a.add j) = some u
theorem e_add_at (b off j : Nat) : (⟨b, off, none⟩ : Addr).add j = ⟨b, off + j, none⟩ := by unfold Addr.add; split <;> simp_all
theorem RowE.keep {w w' : World} {size n : Nat} {v : Value} {cs : List Value} (h : 0 < n → ∀ p : Addr, v.ownBlock = some p.block → w'.cell? p = w.cell? p) (hv : RowE w size v n cs) : RowE w' size v n cs := by
  obtain ⟨A, c, rfl, h1, h2, h3, h4, h5⟩ := hv
  refine ⟨A, c, rfl, h1, h2, h3, h4, fun a ha j u hj => ?_⟩
  rcases Nat.eq_zero_or_pos n with h0 | h0
  · rw [h0, Nat.zero_mul] at h2
    rw [List.eq_nil_of_length_eq_zero h2] at hj; simp at hj
  · rw [h h0 _ (by subst ha; simp only [Value.ownBlock]; congr 1; exact (block_of_add a j).symm)]
    exact h5 a ha j u hj
/-- From one world to a later one: what lay below B stays, and so do the call's own rows of this element that begin as L does, and what is no row of it, or one of one element at most. -/
def KeepE (e : TypeId) (s B : Nat) (L : List Value) (w w' : World) : Prop :=
  Below B w w' ∧ (∀ (v : Value) (n : Nat) (M : List Value), M <+: L → w.ownsRow B e s v n M → w'.ownsRow B e s v n M) ∧
    (∀ (k : Nat) (cs : Array Value) (ty : TypeId), (ty ≠ e ∨ cs.size ≤ s) → w.heap[k]? = some (.cells cs ty (0, 0)) → w'.heap[k]? = some (.cells cs ty (0, 0)))
theorem KeepE.refl (e : TypeId) (s B : Nat) (L : List Value) (w : World) : KeepE e s B L w w := ⟨Below.refl _ _, fun _ _ _ _ h => h, fun _ _ _ _ h => h⟩
theorem KeepE.trans {e : TypeId} {s B : Nat} {L : List Value} (a b c : World) (h : KeepE e s B L a b) (h' : KeepE e s B L b c) : KeepE e s B L a c :=
  ⟨h.1.trans h'.1, fun v n M hM hv => h'.2.1 v n M hM (h.2.1 v n M hM hv), fun k cs ty ht hk => h'.2.2 k cs ty ht (h.2.2 k cs ty ht hk)⟩
theorem rowE_below {w w' : World} {e : TypeId} {s B n : Nat} {v : Value} {M : List Value} (h : Below w.heap.size w w') (hv : w.ownsRow B e s v n M) : w'.ownsRow B e s v n M := by
  refine ownsRow_same hv fun k hk => ?_
  exact h.block _ (hv.lt k (blk_mem.1 hk)).2
theorem KeepE.of_below {e : TypeId} {s B : Nat} {L : List Value} {w w' : World} (hB : B ≤ w.heap.size) (h : Below w.heap.size w w') : KeepE e s B L w w' :=
  ⟨h.mono hB, fun _ _ _ _ hv => rowE_below h hv, fun k _ _ _ hk => (h.block k (e_size_block hk)).trans hk⟩
/-- A slice of so many; an empty one has no room. -/
def CapOkE (v : Value) (n : Nat) : Prop := ∃ A c, v = .slice A n c ∧ (n = 0 → c = 0)
theorem run_append_nilsE {P : Program} (w : World) (t ty e : TypeId) (i : TypeInfo) (base size c : Nat) (ht : P.underlying t = some (.slice e)) (hi : P.info? e = some i) (v : Value) (n : Nat) (xs : List Value) (hown : w.ownsRow base e size v n xs) :
    (Builtin.append_ #[t, t] ty #[v, .slice none 0 c]).run P w = .ok v w := by
  rcases hown.2 with ⟨rfl, rfl⟩ | ⟨g, cap, cur, rfl, _, _, hnc, _⟩
  · simp [Builtin.append_, run_underlying ht, sizeOf, typeInfo, hi, Builtin.lenOf, Builtin.firstCells]
  · simp [Builtin.append_, run_underlying ht, sizeOf, typeInfo, hi, Builtin.lenOf, Builtin.firstCells, hnc, storeCells]
/-- 'append(v, u...)', v a row of the call's own. -/
theorem append_keepE {P : Program} {w : World} {s bytes B m n : Nat} {L M N : List Value} {v u : Value} {t ty e : TypeId} (i : TypeInfo) (z : Value) (ht : P.underlying t = some (.slice e)) (hi : P.info? e = some i) (hz : i.zero = some z)
    (hs0 : 0 < s) (hs8 : s ≤ 8) (hb8 : bytes ≤ 120) (hsize : i.size = s) (hby : i.bytes = bytes) (hzs : z.cells.size = s) (hB : B ≤ w.heap.size) (hown : w.ownsRow B e s v m M) (hco : CapOkE v m) (hu : RowE w s u n N) (hMN : M ++ N <+: L) (hsm : m + n ≤ 10000) :
    ∃ v' w', (Builtin.append_ #[t, t] ty #[v, u]).run P w = .ok v' w' ∧ w'.ownsRow B e s v' (m + n) (M ++ N) ∧ CapOkE v' (m + n) ∧ KeepE e s B L w w' := by
  obtain ⟨A, c, rfl, hc, hl, h1, hA, hcell⟩ := hu
  have hM := hown.1
  cases A with
  | none =>
    obtain rfl := hA rfl
    obtain rfl : N = [] := List.eq_nil_of_length_eq_zero (by rw [hl, Nat.zero_mul])
    exact ⟨v, w, run_append_nilsE (P := P) w t ty e i B s c ht hi v _ _ hown, by simpa using hown, hco, KeepE.refl _ _ _ _ _⟩
  | some ad =>
    have hnews := hcell ad rfl
    have hnl : N.length = n * i.size := by rw [hsize]; exact hl
    have hlen : (M ++ N).length = (m + n) * s := by rw [List.length_append, hM, hl, Nat.add_mul]
    have hbb : (m + n) * i.bytes ≤ 1200000 := by rw [hby]; exact Nat.mul_le_mul hsm hb8
    have grown : ∀ (old : Nat), old < m + n →
        (w.drew.alloc (.cells (M.toArray ++ N.toArray ++ Builtin.zeroCells z.cells (grownCap w (m + n) old e - (m + n))) e)).ownsRow B e s (.slice (some ⟨w.heap.size, 0, none⟩) (m + n) (grownCap w (m + n) old e)) (m + n) (M ++ N) ∧
        KeepE e s B L w (w.drew.alloc (.cells (M.toArray ++ N.toArray ++ Builtin.zeroCells z.cells (grownCap w (m + n) old e - (m + n))) e)) := by
      intro old ho
      have hge := grownCap_ge w (m + n) old e
      have hcm : grownCap w (m + n) old e ≤ maxLen := grownCap_le_maxLen w (m + n) old e (by unfold maxLen; omega)
      refine ⟨⟨hlen, .inr ⟨w.heap.size, _, _, rfl, hB, heap_alloc_new w.drew _, hge, hcm, ?_, ?_⟩⟩, KeepE.of_below hB ((Below.refl _ _).drew.alloc (Nat.le_refl _) _)⟩
      · simp only [Array.size_append, List.size_toArray, size_zeroCells, hzs]
        rw [hM, hl, ← Nat.add_mul, ← Nat.add_mul]
        congr 1
        omega
      · simp only [Array.toList_append]
        rw [← hlen]
        exact List.take_left
    by_cases hn : n = 0
    · subst hn
      obtain rfl : N = [] := List.eq_nil_of_length_eq_zero (by rw [hl, Nat.zero_mul])
      rcases hown.2 with ⟨rfl, h0⟩ | ⟨g, cap, cur, rfl, hbg, hg, hnc, hcm, hcs, htake⟩
      · subst h0
        obtain rfl : M = [] := List.eq_nil_of_length_eq_zero (by rw [hM, Nat.zero_mul])
        refine ⟨.slice none 0 0, w, ?_, by simpa using hown, ⟨_, _, rfl, fun _ => rfl⟩, KeepE.refl _ _ _ _ _⟩
        simp [Builtin.append_, run_underlying ht, sizeOf, typeInfo, hi, Builtin.lenOf, Builtin.firstCells, loadCells, loadCellsFrom]
      · have hms : m * s ≤ cap * s := Nat.mul_le_mul_right s hnc
        have hr := run_append_room (P := P) w t ty e i ht hi g m cap cur hg ad 0 c [] (by simp) (by simp) (by simp) (by simpa using hnc) (by rw [hsize, hcs]; simpa using hms)
        have e0 : (List.take (m * i.size) cur.toList ++ ([] : List Value) ++ List.drop (m * i.size + ([] : List Value).length) cur.toList).toArray = cur := by simp
        rw [e0] at hr
        have hsame : ∀ k, (w.setRow g cur).heap[k]? = w.heap[k]? := fun k => by
          by_cases hk : k = g
          · subst hk; rw [setRow_heap w _ cur cur e _ hg, hg]
          · exact setRow_other w g k cur hk
        refine ⟨_, _, hr, by simpa using ownsRow_same hown fun k _ => hsame k, hco, ?_⟩
        exact ⟨⟨rfl, rfl, rfl, by simp [World.setRow], fun k _ => hsame k⟩, fun v n' M' _ hv => ownsRow_same hv fun k _ => hsame k, fun k cs ty _ hk => (hsame k).trans hk⟩
    have capok : ∀ A c', CapOkE (.slice A (m + n) c') (m + n) := fun A c' => ⟨_, _, rfl, fun h => by omega⟩
    rcases hown.2 with ⟨rfl, h0⟩ | ⟨g, cap, cur, rfl, hbg, hg, hnc, hcm, hcs, htake⟩
    · subst h0
      obtain rfl : M = [] := List.eq_nil_of_length_eq_zero (by rw [hM, Nat.zero_mul])
      have hbn : n * i.bytes ≤ 1200000 := by rw [Nat.zero_add] at hbb; exact hbb
      have hr := run_append_nil (P := P) w t ty e i z ht hi hz ad n c N hnl hnews (by omega) (by omega) (by omega)
      have hgr := grown 0 (by omega)
      simp only [Nat.zero_add, List.nil_append, Array.empty_append] at hgr capok ⊢
      exact ⟨_, _, hr, hgr.1, capok _ _, hgr.2⟩
    · by_cases hroom : m + n ≤ cap
      · have hm1 : 1 ≤ m := by
          obtain ⟨A', c', e', h⟩ := hco
          injection e' with e1 e2 e3
          rcases Nat.eq_zero_or_pos m with h0 | h0
          · have := h h0; omega
          · exact h0
        have hms : (m + n) * s ≤ cap * s := Nat.mul_le_mul_right s hroom
        have hfit : m * i.size + N.length ≤ cur.size := by rw [hsize, hcs, hl, ← Nat.add_mul]; exact hms
        have hr := run_append_room (P := P) w t ty e i ht hi g m cap cur hg ad n c N hnl hnews h1 hroom hfit
        simp only [hsize] at hr htake hcs
        have hfit2 : m * s + N.length ≤ cap * s := by rw [hl, ← Nat.add_mul]; exact hms
        generalize hcur : (List.take (m * s) cur.toList ++ N ++ List.drop (m * s + N.length) cur.toList).toArray = cur' at hr
        have hcl : cur'.toList = M ++ N ++ List.drop (m * s + N.length) cur.toList := by rw [← hcur, htake]
        have hcz : cur'.size = cap * s := by
          rw [← Array.length_toList, hcl]
          simp only [List.length_append, List.length_drop, Array.length_toList, hcs]; omega
        refine ⟨_, _, hr, ⟨hlen, .inr ⟨g, cap, cur', rfl, hbg, setRow_heap w g cur _ e _ hg, by omega, hcm, hcz, ?_⟩⟩, capok _ _, ?_, fun v' n' M' hM' hv' => ?_, fun k cs ty hty hk => ?_⟩
        · rw [← hlen, hcl]; exact List.take_left
        · exact ⟨rfl, rfl, rfl, by simp [World.setRow], fun k hk => setRow_other w g k _ (by omega)⟩
        · refine ⟨hv'.1, ?_⟩
          have hM'l := hv'.1
          rcases hv'.2 with h | ⟨g', cap', cu, hv, hbg', hg', hnc', hcm', hcs', ht'⟩
          · exact .inl h
          · refine .inr ⟨g', cap', ?_⟩
            by_cases hgg : g' = g
            · subst hgg
              rw [hg] at hg'
              simp only [Option.some.injEq, Obj.cells.injEq, and_true] at hg'
              subst hg'
              refine ⟨cur', hv, hbg', setRow_heap w _ cur _ e _ hg, hnc', hcm', by omega, ?_⟩
              refine List.ext_getElem? fun j => ?_
              rw [List.getElem?_take]
              split
              · rename_i hj
                rw [hcl]
                have hj' : j < M'.length := by omega
                have hL := (List.prefix_iff_getElem?.1 hM') j hj'
                rcases Nat.lt_or_ge j (M ++ N).length with hj2 | hj2
                · rw [List.getElem?_append_left hj2]
                  have hL2 := (List.prefix_iff_getElem?.1 hMN) j hj2
                  rw [List.getElem?_eq_getElem hj2, List.getElem?_eq_getElem hj', ← hL2, ← hL]
                · rw [List.getElem?_append_right hj2, List.getElem?_drop, show m * s + N.length + (j - (M ++ N).length) = j by simp only [List.length_append] at hj2 ⊢; omega]
                  have : (List.take (n' * s) cur.toList)[j]? = M'[j]? := by rw [ht']
                  rw [List.getElem?_take, if_pos hj] at this
                  exact this
              · rename_i hj
                rw [List.getElem?_eq_none (by omega)]
            · exact ⟨cu, hv, hbg', by rw [setRow_other w g g' _ hgg]; exact hg', hnc', hcm', hcs', ht'⟩
        · by_cases hk2 : k = g
          · subst hk2
            rw [hg] at hk
            simp only [Option.some.injEq, Obj.cells.injEq, and_true] at hk
            obtain ⟨hk, rfl⟩ := hk
            subst hk
            rcases hty with hty | hty
            · exact absurd rfl hty
            · have h2 : 2 * s ≤ cap * s := Nat.mul_le_mul_right s (by omega)
              omega
          · rw [setRow_other w g k _ hk2]; exact hk
      · have holds : ∀ j u, M[j]? = some u → w.cell? ((⟨g, 0, none⟩ : Addr).add j) = some u := hown.cells (g := g) rfl
        have hr := run_append_grow (P := P) w t ty e i z ht hi hz ⟨g, 0, none⟩ m cap M (by rw [hsize]; exact hM) holds ad n c N hnl hnews (by omega) (by omega) (growslice_fits (by omega) (by omega))
        have hgr := grown cap (by omega)
        exact ⟨_, _, hr, hgr.1, capok _ _, hgr.2⟩
theorem op_appendE {P : Program} {w w' : World} {o : Oper} {a : Act} {K : Act → World → Prop} {Q : Exit → Act → World → Prop} {v u v' : Value} (s x : Operand) (t : TypeId) (ho : o.op = .call { callee := .builtin .append, args := #[s, x], argTypes := #[t, t] }) (hs : a.eval s = v) (hx : a.eval x = u)
    (hr : (Builtin.append_ #[t, t] o.type #[v, u]).run P w = .ok v' w') (h : K (a.put o.dst v') w') : o.wp P a w K Q := by
  unfold Oper.wp execOp
  simp only [ho, resolve, invoke, builtin, Sem.run_bind, Sem.run_pure, Result.andThen_ok, List.map_toArray, List.map_cons, List.map_nil, hs, hx, hr]
  exact h
/-- 's[l:h]' of a row of elements of so many cells with room for c. -/
def cutE (s : Nat) (A : Option Addr) (l h c : Nat) : Value := .slice (if c = l then A else A.map (·.add (l * s))) (h - l) (c - l)
theorem op_cutE_h {P : Program} {t : TypeId} {s : Nat} {w : World} {o : Oper} {a : Act} {K : Act → World → Prop} {Q : Exit → Act → World → Prop} {A : Option Addr} {n c k : Nat} (elemE : P.underlying t = some (.slice (P.elem t))) (sizeE : ∀ w, (sizeOf (P.elem t)).run P w = .ok s w) (x h : Operand) (ho : o.op = .slice t x none (some h) none) (hx : a.eval x = .slice A n c) (hh : a.eval h = .int .i64 (k : Nat)) (hk : k ≤ c)
    (hK : K (a.put o.dst (cutE s A 0 k c)) w) : o.wp P a w K Q := by
  unfold Oper.wp execOp
  simp only [ho, Option.map_none, Option.map_some, hx, hh]
  rw [Sem.run_bind, run_sliceAt_slice _ _ _ _ _ _ elemE, run_slice_h _ _ _ _ _ elemE _ _ (by omega) (by omega), sizeE]
  simp only [Result.andThen, Sem.run_pure, sliced, Int.toNat_natCast]
  exact hK
theorem op_cutE_l {P : Program} {t : TypeId} {s : Nat} {w : World} {o : Oper} {a : Act} {K : Act → World → Prop} {Q : Exit → Act → World → Prop} {A : Option Addr} {n c k : Nat} (elemE : P.underlying t = some (.slice (P.elem t))) (sizeE : ∀ w, (sizeOf (P.elem t)).run P w = .ok s w) (x h : Operand) (ho : o.op = .slice t x (some h) none none) (hx : a.eval x = .slice A n c) (hh : a.eval h = .int .i64 (k : Nat)) (hk : k ≤ n)
    (hK : K (a.put o.dst (cutE s A k n c)) w) : o.wp P a w K Q := by
  unfold Oper.wp execOp
  simp only [ho, Option.map_none, Option.map_some, hx, hh]
  rw [Sem.run_bind, run_sliceAt_slice _ _ _ _ _ _ elemE, run_slice_l _ _ _ _ _ elemE _ _ (by omega) (by omega), sizeE]
  simp only [Result.andThen, Sem.run_pure, sliced, Int.toNat_natCast]
  exact hK
theorem rowE_cut {w : World} {s : Nat} {A : Option Addr} {n c l h : Nat} {cs : List Value} (hr : RowE w s (.slice A n c) n cs) (hl : l ≤ h) (hh : h ≤ n) : RowE w s (cutE s A l h c) (h - l) ((cs.drop (l * s)).take ((h - l) * s)) := by
  obtain ⟨A', c', e, hc, hlen, h1, hn, hcell⟩ := hr
  injection e with e1 e2 e3
  subst e1 e3
  have hls : h * s ≤ n * s := Nat.mul_le_mul_right s hh
  have hds : (h - l) * s = h * s - l * s := Nat.sub_mul _ _ _
  refine ⟨_, _, rfl, by omega, by rw [List.length_take, List.length_drop, hlen, hds]; omega, fun u hu => h1 u (List.mem_of_mem_drop (List.mem_of_mem_take hu)), fun h0 => ?_, fun a ha j u hj => ?_⟩
  · have : A = none := by
      split at h0
      · exact h0
      · simpa using h0
    have := hn this; omega
  · rw [List.getElem?_take] at hj
    split at hj
    · rename_i hj1
      rw [List.getElem?_drop] at hj
      split at ha
      · rename_i hcl
        have : h - l = 0 := by omega
        rw [this, Nat.zero_mul] at hj1
        omega
      · cases A with
        | none => cases ha
        | some a0 =>
          simp only [Option.map_some, Option.some.injEq] at ha
          subst ha
          rw [Addr.add_add]
          exact hcell a0 rfl _ _ hj
    · cases hj
theorem rowE_one {w : World} {e : TypeId} {s g : Nat} {cs : Array Value} (h : w.heap[g]? = some (.cells cs e (0, 0))) (hs : cs.size = s) (h1 : ∀ u ∈ cs.toList, u.oneCell' = true) : RowE w s (.slice (some ⟨g, 0, none⟩) 1 1) 1 cs.toList := by
  refine ⟨_, 1, rfl, Nat.le_refl _, by simpa using hs, h1, fun e => (by cases e), fun a e j u hj => ?_⟩
  injection e with e
  subst e
  rw [e_add_at, Nat.zero_add, e_cell_block h]
  simpa using hj
theorem DocR.take {w : World} {S : Nat → Prop} : ∀ {l : List D} {cs : List Value} (k : Nat), DocR w S l cs → DocR w S (l.take k) (cs.take (k * 5))
  | [], _, k, h => by simp only [DocR] at h; subst h; simp [DocR]
  | d :: r, _, 0, h => by simp [DocR]
  | d :: r, _, k + 1, h => by
    simp only [DocR] at h
    obtain ⟨v0, v1, v2, v3, v4, cs', rfl, h1, h2⟩ := h
    rw [show (k + 1) * 5 = k * 5 + 1 + 1 + 1 + 1 + 1 by omega]
    simp only [List.take_succ_cons, DocR]
    exact ⟨v0, v1, v2, v3, v4, _, rfl, h1, h2.take k⟩
theorem DocR.drop {w : World} {S : Nat → Prop} : ∀ {l : List D} {cs : List Value} (k : Nat), DocR w S l cs → DocR w S (l.drop k) (cs.drop (k * 5))
  | [], _, k, h => by simp only [DocR] at h; subst h; simp [DocR]
  | d :: r, _, 0, h => by simpa using h
  | d :: r, _, k + 1, h => by
    simp only [DocR] at h
    obtain ⟨v0, v1, v2, v3, v4, cs', rfl, h1, h2⟩ := h
    rw [show (k + 1) * 5 = k * 5 + 1 + 1 + 1 + 1 + 1 by omega]
    simp only [List.drop_succ_cons]
    exact h2.drop k
theorem DocS.one {w : World} {S : Nat → Prop} {d : D} {v0 v1 v2 v3 v4 : Value} (h : DocS w S d v0 v1 v2 v3 v4) : ∀ u ∈ [v0, v1, v2, v3, v4], u.oneCell' = true := by
  obtain ⟨A3, c3, A4, c4, rfl, rfl, rfl, rfl, rfl⟩ := h.forms
  intro u hu
  simp only [List.mem_cons, List.not_mem_nil, or_false] at hu
  rcases hu with rfl | rfl | rfl | rfl | rfl <;> rfl
theorem kidsS_flat {w : World} {S : Nat → Prop} {b off : Nat} : ∀ {l : List D} {i : Nat}, KidsS w S b off i l → ∃ cs, DocR w S l cs ∧ cs.length = l.length * 5 ∧ (∀ u ∈ cs, u.oneCell' = true) ∧ ∀ j u, cs[j]? = some u → w.cell? ⟨b, off + i * 5 + j, none⟩ = some u
  | [], _, _ => ⟨[], rfl, rfl, by simp, by simp⟩
  | d :: r, i, h => by
    simp only [KidsS] at h
    obtain ⟨⟨v0, v1, v2, v3, v4, c0, c1, c2, c3, c4, hd⟩, hr⟩ := h
    obtain ⟨cs, h1, h2, h3, h4⟩ := kidsS_flat hr
    refine ⟨v0 :: v1 :: v2 :: v3 :: v4 :: cs, ⟨v0, v1, v2, v3, v4, cs, rfl, hd, h1⟩, by simp [h2]; omega, fun u hu => ?_, fun j u hj => ?_⟩
    · rw [show v0 :: v1 :: v2 :: v3 :: v4 :: cs = [v0, v1, v2, v3, v4] ++ cs from rfl, List.mem_append] at hu
      rcases hu with hu | hu
      · exact hd.one u hu
      · exact h3 u hu
    · match j, hj with
      | 0, hj => simp at hj; subst hj; exact c0
      | 1, hj => simp at hj; subst hj; exact c1
      | 2, hj => simp at hj; subst hj; exact c2
      | 3, hj => simp at hj; subst hj; exact c3
      | 4, hj => simp at hj; subst hj; exact c4
      | j + 5, hj =>
        have := h4 j u (by simpa using hj)
        rwa [show off + (i + 1) * 5 + j = off + i * 5 + (j + 5) by omega] at this
/-- A row of documents in blocks of the set. -/
def RowS (w : World) (S : Nat → Prop) (l : List D) (v : Value) : Prop :=
  ∃ (A : Option Addr) (c : Nat), v = .slice A l.length c ∧ l.length ≤ c ∧ (0 < l.length → ∃ b off, A = some ⟨b, off, none⟩ ∧ S b ∧ KidsS w S b off 0 l)
theorem rowE_rowS {w : World} {S : Nat → Prop} {l : List D} {v : Value} (h : RowS w S l v) : ∃ cs, RowE w 5 v l.length cs ∧ DocR w S l cs := by
  obtain ⟨A, c, rfl, hc, h⟩ := h
  rcases Nat.eq_zero_or_pos l.length with h0 | h0
  · obtain rfl : l = [] := List.eq_nil_of_length_eq_zero h0
    exact ⟨[], ⟨A, c, rfl, hc, rfl, by simp, fun _ => rfl, by simp⟩, rfl⟩
  · obtain ⟨b, off, rfl, _, hk⟩ := h h0
    obtain ⟨cs, h1, h2, h3, h4⟩ := kidsS_flat hk
    refine ⟨cs, ⟨_, c, rfl, hc, h2, h3, by simp, fun a ha j u hj => ?_⟩, h1⟩
    injection ha with ha; subst ha
    rw [e_add_at]
    have := h4 j u hj
    rwa [Nat.zero_mul, Nat.add_zero] at this
theorem rowE_strsS {w : World} {S : Nat → Prop} {l : List ByteArray} {v : Value} (h : StrsS w S v l) : RowE w 1 v l.length (l.map Value.string) := by
  obtain ⟨A, c, rfl, hc, h⟩ := h
  refine ⟨A, c, rfl, hc, by simp, fun u hu => ?_, fun hA => ?_, fun a ha j u hj => ?_⟩
  · obtain ⟨x, _, rfl⟩ := List.mem_map.1 hu; rfl
  · rcases Nat.eq_zero_or_pos l.length with h0 | h0
    · exact h0
    · obtain ⟨b, off, e, _⟩ := h h0; rw [hA] at e; cases e
  · rw [List.getElem?_map] at hj
    cases hxj : l[j]? with
    | none => rw [hxj] at hj; cases hj
    | some y =>
      rw [hxj] at hj
      obtain ⟨hlt, rfl⟩ := List.getElem?_eq_some_iff.1 hxj
      obtain ⟨b, off, e, _, hk⟩ := h (by omega)
      rw [ha] at e
      injection e with e; subst e
      rw [e_add_at, hk j hlt]; exact hj
/-- A row of the call's own that holds documents in blocks of the set. -/
theorem own_rowS {w : World} {base : Nat} {v4 : Value} {ls : List D} {cs : List Value} {S S' : Nat → Prop} (h4 : w.ownsRow base 25 5 v4 ls.length cs) (h5 : DocR w S ls cs) (hS : ∀ k, S k → S' k) (hb : ∀ k, base ≤ k → k < w.heap.size → S' k) : RowS w S' ls v4 := by
  rcases Nat.eq_zero_or_pos ls.length with hz | hz
  · rcases h4.2 with ⟨rfl, _⟩ | ⟨g, cap, cur, rfl, _, hh, hc, _⟩
    · exact ⟨none, 0, by rw [hz], by omega, fun h => by omega⟩
    · exact ⟨some ⟨g, 0, none⟩, cap, rfl, hc, fun h => by omega⟩
  · obtain ⟨g, cap, rfl, hg, hlt⟩ := h4.form hz
    have hc : ls.length ≤ cap := by
      rcases h4.2 with ⟨e, _⟩ | ⟨g', cap', cur, e, _, _, hc, _⟩
      · cases e
      · injection e with _ _ e3; omega
    refine ⟨some ⟨g, 0, none⟩, cap, rfl, hc, fun _ => ⟨g, 0, rfl, hb g hg hlt, ?_⟩⟩
    exact DocR.kids hS h5 (i := 0) fun j hj => by
      rw [Nat.zero_mul, Nat.add_zero, Nat.zero_add, h4.cellAt j (by have := h4.1; omega)]
/-- A document as a call hands it over, in blocks of the set. -/
def DocSV (w : World) (S : Nat → Prop) (d : D) (v : Value) : Prop := ∃ v0 v1 v2 v3 v4, v = .agg #[v0, v1, v2, v3, v4] ∧ DocS w S d v0 v1 v2 v3 v4
theorem DocSV.keep {w w' : World} {S S' : Nat → Prop} (hB : ∀ k, S k → S' k) (h : ∀ p : Addr, S p.block → w'.cell? p = w.cell? p) {d : D} {v : Value} (hd : DocSV w S d v) : DocSV w' S' d v := by
  obtain ⟨v0, v1, v2, v3, v4, e, h1⟩ := hd
  exact ⟨v0, v1, v2, v3, v4, e, h1.keep hB h⟩
theorem DocSV.toV {w : World} {S : Nat → Prop} {B : Nat} (hS : ∀ k, S k → k < B) {d : D} {v : Value} (hd : DocSV w S d v) : DocV w B d v := by
  obtain ⟨v0, v1, v2, v3, v4, e, h1⟩ := hd
  exact ⟨v0, v1, v2, v3, v4, e, h1.toIn hS⟩
theorem DocV.toSV {w : World} {B : Nat} {d : D} {v : Value} (hd : DocV w B d v) : DocSV w (fun k => k < B) d v := by
  obtain ⟨v0, v1, v2, v3, v4, e, h1⟩ := hd
  exact ⟨v0, v1, v2, v3, v4, e, h1.toS⟩
theorem DocS.keys_ {w : World} {S : Nat → Prop} {d : D} {v0 v1 v2 v3 v4 : Value} (h : DocS w S d v0 v1 v2 v3 v4) : StrsS w S v3 d.keys := by
  obtain ⟨_, _, _, _, _⟩ := d
  simp only [DocS] at h
  exact h.2.2.2.1
theorem DocS.kids_ {w : World} {S : Nat → Prop} {d : D} {v0 v1 v2 v3 v4 : Value} (h : DocS w S d v0 v1 v2 v3 v4) : RowS w S d.kids v4 := by
  obtain ⟨_, _, _, _, _⟩ := d
  simp only [DocS] at h
  exact h.2.2.2.2
end Go.Proofs.Ytdgnengfcabgjaa
namespace Go.Proofs.Ytdgnengfcabgjaa
open Go.RowKit

theorem run_append_own2 {P : Program} {w : World} (base : Nat) (t ty e : TypeId) (i : TypeInfo) (z : Value) (size bytes : Nat) (ht : P.underlying t = some (.slice e)) (hi : P.info? e = some i) (hz : i.zero = some z)
    (hsize : i.size = size) (hby : i.bytes = bytes) (hzs : z.cells.size = size) (hsz : 0 < size) (v : Value) (n : Nat) (xs : List Value) (hown : w.ownsRow base e size v n xs)
    (a : Addr) (m c : Nat) (news : List Value) (hl : news.length = m * size) (hnews : ∀ j u, news[j]? = some u → w.cell? (a.add j) = some u) (h1 : ∀ u ∈ news, u.oneCell' = true)
    (h63 : n + m ≤ maxLen) (hbytes : (n + m) * bytes ≤ 140737488355328) (hbase : base ≤ w.heap.size) :
    ∃ v' w', (Builtin.append_ #[t, t] ty #[v, .slice (some a) m c]).run P w = .ok v' w' ∧ w'.ownsRow base e size v' (n + m) (xs ++ news) ∧ w.grownBy w' v.ownBlock ∧ (v'.ownBlock = v.ownBlock ∨ v'.ownBlock = some w.heap.size) ∧ w'.ownsRow base e size v n xs := by
  obtain ⟨v', w', hr, h2, h3, _, h5⟩ := run_append_own_at (P := P) w base t ty e i z size bytes ht hi hz hsize hby hzs hsz v n xs hown a m c news hl hnews h1 h63 hbytes hbase
  refine ⟨v', w', hr, h2, h3, h5, hown.1, ?_⟩
  have hsmall : n + m ≤ 9223372036854775807 := by simp only [maxLen] at h63; omega
  rcases hown.2 with h0 | ⟨g, cap, cur, rfl, hbg, hg, hnc, hcm, hcs, htake⟩
  · exact .inl h0
  · have hnl : news.length = m * i.size := by rw [hsize]; exact hl
    by_cases hroom : n + m ≤ cap
    · have hms : (n + m) * size ≤ cap * size := Nat.mul_le_mul_right size hroom
      rw [Nat.add_mul] at hms
      have hfit : n * i.size + news.length ≤ cur.size := by rw [hsize, hcs, hl]; exact hms
      have hr2 := run_append_room (P := P) w t ty e i ht hi g n cap cur hg a m c news hnl hnews h1 hroom hfit
      rw [hr] at hr2
      injection hr2 with e1 e2
      rw [e2]
      refine .inr ⟨g, cap, _, rfl, hbg, setRow_heap w g cur _ e _ hg, hnc, hcm, ?_, ?_⟩
      · simp only [List.size_toArray, List.length_append, List.length_take, List.length_drop, Array.length_toList, hsize]
        rw [hcs] at hfit ⊢
        rw [hsize] at hfit
        omega
      · rw [hsize, List.append_assoc, List.take_append_of_le_length (by rw [List.length_take, Array.length_toList]; rw [hcs, hsize] at hfit; rw [hcs]; omega), List.take_take, Nat.min_self]
        exact htake
    · have holds : ∀ j u, xs[j]? = some u → w.cell? ((⟨g, 0, none⟩ : Addr).add j) = some u := hown.cells (g := g) rfl
      have hb2 : (n + m) * i.bytes ≤ 140737488355328 := by rw [hby]; exact hbytes
      have hr2 := run_append_grow (P := P) w t ty e i z ht hi hz ⟨g, 0, none⟩ n cap xs (by rw [hsize]; exact hown.1) holds a m c news hnl hnews (by omega) (by omega) (growslice_fits (by omega) (by omega))
      rw [hr] at hr2
      injection hr2 with e1 e2
      rw [e2]
      refine .inr ⟨g, cap, cur, rfl, hbg, (Below.heap_alloc w.drew _ g (show g < w.drew.heap.size from e_size_block hg)).trans hg, hnc, hcm, hcs, htake⟩
end Go.Proofs.Ytdgnengfcabgjaa
