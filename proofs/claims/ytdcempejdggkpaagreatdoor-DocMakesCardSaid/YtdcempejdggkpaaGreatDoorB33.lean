/-
  Documents that lie in given blocks: as DocIn, over a set of blocks. And a row of documents of the call's own, whose parts lie in other blocks of the set.
  Rows of whatever element: appends onto a row of the call's own that say what else they keep; slices of rows; documents in flat cells.
  The document's own 'with': a document with a kid at a place, instead of the one there, or more.
-/
import Derived.Test.YtdcempejdggkpaaGreatDoorB31
import Derived.Test.YtdcempejdggkpaaGreatDoorB07
import Derived.Test.YtdcempejdggkpaaGreatDoorB08
import Derived.Test.YtdcempejdggkpaaGreatDoorB06
import Derived.Test.YtdcempejdggkpaaGreatDoorB32
import Derived.BigRegion
import Derived.Deep.CutRange
import Derived.IntWalk
namespace Go.Proofs.YtdcempejdggkpaaGreatDoor
open Go.RowKit

mutual
/-- The five cells of a document. -/
def DocS (w : World) (S : Nat → Prop) : D → Value → Value → Value → Value → Value → Prop
  | .mk kind num str keys kids, v0, v1, v2, v3, v4 =>
    v0 = .int .i64 kind ∧ v1 = .int .i64 num ∧ v2 = .string str ∧ StrsS w S v3 keys ∧
      (∃ (A : Option Addr) (c : Nat), v4 = .slice A kids.length c ∧ kids.length ≤ c ∧ (0 < kids.length → ∃ b off, A = some ⟨b, off, none⟩ ∧ S b ∧ KidsS w S b off 0 kids))
def KidsS (w : World) (S : Nat → Prop) (b off : Nat) : Nat → List D → Prop
  | _, [] => True
  | i, d :: r => (∃ v0 v1 v2 v3 v4 : Value, w.cell? ⟨b, off + i * 5, none⟩ = some v0 ∧ w.cell? ⟨b, off + i * 5 + 1, none⟩ = some v1 ∧ w.cell? ⟨b, off + i * 5 + 2, none⟩ = some v2 ∧ w.cell? ⟨b, off + i * 5 + 3, none⟩ = some v3 ∧ w.cell? ⟨b, off + i * 5 + 4, none⟩ = some v4 ∧ DocS w S d v0 v1 v2 v3 v4) ∧ KidsS w S b off (i + 1) r
end
mutual
theorem DocS.keep {w w' : World} {S S' : Nat → Prop} (hB : ∀ k, S k → S' k) (h : ∀ p : Addr, S p.block → w'.cell? p = w.cell? p) : ∀ {d : D} {v0 v1 v2 v3 v4 : Value}, DocS w S d v0 v1 v2 v3 v4 → DocS w' S' d v0 v1 v2 v3 v4
  | .mk _ _ _ _ kids, _, _, _, _, _, hd => by
    simp only [DocS] at hd ⊢
    obtain ⟨h0, h1, h2, h3, ⟨A, c, e, k1, k2⟩⟩ := hd
    refine ⟨h0, h1, h2, h3.keep hB h, ⟨A, c, e, k1, fun hl => ?_⟩⟩
    obtain ⟨b, off, ea, hb, hk⟩ := k2 hl
    exact ⟨b, off, ea, hB _ hb, KidsS.keep hB h hb hk⟩
theorem KidsS.keep {w w' : World} {S S' : Nat → Prop} (hB : ∀ k, S k → S' k) (h : ∀ p : Addr, S p.block → w'.cell? p = w.cell? p) {b off : Nat} (hb : S b) : ∀ {l : List D} {i : Nat}, KidsS w S b off i l → KidsS w' S' b off i l
  | [], _, _ => by simp [KidsS]
  | d :: r, i, hk => by
    simp only [KidsS] at hk ⊢
    obtain ⟨⟨v0, v1, v2, v3, v4, c0, c1, c2, c3, c4, hd⟩, hr⟩ := hk
    have hh : ∀ n, w'.cell? ⟨b, n, none⟩ = w.cell? ⟨b, n, none⟩ := fun n => h ⟨b, n, none⟩ hb
    exact ⟨⟨v0, v1, v2, v3, v4, (hh _).trans c0, (hh _).trans c1, (hh _).trans c2, (hh _).trans c3, (hh _).trans c4, DocS.keep hB h hd⟩, KidsS.keep hB h hb hr⟩
end
theorem DocS.forms {w : World} {S : Nat → Prop} {d : D} {v0 v1 v2 v3 v4 : Value} (h : DocS w S d v0 v1 v2 v3 v4) :
    ∃ A3 c3 A4 c4, v0 = .int .i64 d.kind ∧ v1 = .int .i64 d.num ∧ v2 = .string d.str ∧ v3 = .slice A3 d.keys.length c3 ∧ v4 = .slice A4 d.kids.length c4 := by
  obtain ⟨_, _, _, _, _⟩ := d
  simp only [DocS] at h
  obtain ⟨h0, h1, h2, ⟨A3, c3, h3, _⟩, ⟨A4, c4, h4, _⟩⟩ := h
  exact ⟨A3, c3, A4, c4, h0, h1, h2, h3, h4⟩
mutual
theorem DocS.toIn {w : World} {S : Nat → Prop} {B : Nat} (hS : ∀ k, S k → k < B) : ∀ {d : D} {v0 v1 v2 v3 v4 : Value}, DocS w S d v0 v1 v2 v3 v4 → DocIn w B d v0 v1 v2 v3 v4
  | .mk _ _ _ _ kids, _, _, _, _, _, hd => by
    simp only [DocS] at hd
    simp only [DocIn]
    obtain ⟨h0, h1, h2, ⟨A, c, e, l, h3⟩, ⟨A', c', e', k1, k2⟩⟩ := hd
    refine ⟨h0, h1, h2, ⟨A, c, e, l, fun hl => ?_⟩, ⟨A', c', e', k1, fun hl => ?_⟩⟩
    · obtain ⟨b, off, ea, hb, hk⟩ := h3 hl
      exact ⟨b, off, ea, hS _ hb, hk⟩
    · obtain ⟨b, off, ea, hb, hk⟩ := k2 hl
      exact ⟨b, off, ea, hS _ hb, KidsS.toIn hS hk⟩
theorem KidsS.toIn {w : World} {S : Nat → Prop} {B : Nat} (hS : ∀ k, S k → k < B) {b off : Nat} : ∀ {l : List D} {i : Nat}, KidsS w S b off i l → KidsIn w B b off i l
  | [], _, _ => by simp [KidsIn]
  | d :: r, i, hk => by
    simp only [KidsS] at hk
    simp only [KidsIn]
    obtain ⟨⟨v0, v1, v2, v3, v4, c0, c1, c2, c3, c4, hd⟩, hr⟩ := hk
    exact ⟨⟨v0, v1, v2, v3, v4, c0, c1, c2, c3, c4, DocS.toIn hS hd⟩, KidsS.toIn hS hr⟩
end
mutual
theorem DocIn.toS {w : World} {B : Nat} : ∀ {d : D} {v0 v1 v2 v3 v4 : Value}, DocIn w B d v0 v1 v2 v3 v4 → DocS w (fun k => k < B) d v0 v1 v2 v3 v4
  | .mk _ _ _ _ kids, _, _, _, _, _, hd => by
    simp only [DocIn] at hd
    simp only [DocS]
    obtain ⟨h0, h1, h2, ⟨A, c, e, l, h3⟩, ⟨A', c', e', k1, k2⟩⟩ := hd
    refine ⟨h0, h1, h2, ⟨A, c, e, l, fun hl => ?_⟩, ⟨A', c', e', k1, fun hl => ?_⟩⟩
    · obtain ⟨b, off, ea, hb, hk⟩ := h3 hl
      exact ⟨b, off, ea, hb, hk⟩
    · obtain ⟨b, off, ea, hb, hk⟩ := k2 hl
      exact ⟨b, off, ea, hb, KidsIn.toS hk⟩
theorem KidsIn.toS {w : World} {B : Nat} {b off : Nat} : ∀ {l : List D} {i : Nat}, KidsIn w B b off i l → KidsS w (fun k => k < B) b off i l
  | [], _, _ => by simp [KidsS]
  | d :: r, i, hk => by
    simp only [KidsIn] at hk
    simp only [KidsS]
    obtain ⟨⟨v0, v1, v2, v3, v4, c0, c1, c2, c3, c4, hd⟩, hr⟩ := hk
    exact ⟨⟨v0, v1, v2, v3, v4, c0, c1, c2, c3, c4, DocIn.toS hd⟩, KidsIn.toS hr⟩
end
/-- Documents that can be read in flat cells; their parts in blocks of the set. -/
def DocR (w : World) (S : Nat → Prop) : List D → List Value → Prop
  | [], cs => cs = []
  | d :: r, cs => ∃ (v0 v1 v2 v3 v4 : Value) (cs' : List Value), cs = v0 :: v1 :: v2 :: v3 :: v4 :: cs' ∧ DocS w S d v0 v1 v2 v3 v4 ∧ DocR w S r cs'
theorem DocR.keep {w w' : World} {S S' : Nat → Prop} (hB : ∀ k, S k → S' k) (h : ∀ p : Addr, S p.block → w'.cell? p = w.cell? p) : ∀ {l : List D} {cs : List Value}, DocR w S l cs → DocR w' S' l cs
  | [], _, hs => hs
  | d :: r, _, hs => by
    simp only [DocR] at hs ⊢
    obtain ⟨v0, v1, v2, v3, v4, cs', rfl, h1, h2⟩ := hs
    exact ⟨v0, v1, v2, v3, v4, cs', rfl, h1.keep hB h, h2.keep hB h⟩
theorem DocR.append {w : World} {S : Nat → Prop} : ∀ {a b : List D} {c d : List Value}, DocR w S a c → DocR w S b d → DocR w S (a ++ b) (c ++ d)
  | [], _, _, _, ha, hb => by simp only [DocR] at ha; subst ha; simpa using hb
  | f :: r, b, _, d, ha, hb => by
    simp only [DocR] at ha
    obtain ⟨v0, v1, v2, v3, v4, cs', rfl, h1, h2⟩ := ha
    simp only [List.cons_append, DocR]
    exact ⟨v0, v1, v2, v3, v4, cs' ++ d, rfl, h1, h2.append hb⟩
theorem DocR.len {w : World} {S : Nat → Prop} : ∀ {l : List D} {cs : List Value}, DocR w S l cs → cs.length = l.length * 5
  | [], _, h => by simp only [DocR] at h; simp [h]
  | f :: r, _, h => by
    simp only [DocR] at h
    obtain ⟨v0, v1, v2, v3, v4, cs', rfl, _, h2⟩ := h
    simp [h2.len]; omega
/-- A row of documents of the call's own; their parts lie elsewhere: in blocks of the set, or made since. -/
structure RowD (W0 : Nat) (S0 : Nat → Prop) (w : World) (l : List D) (v : Value) : Prop where
  ex : ∃ cs, w.ownsRow W0 27 5 v l.length cs ∧ DocR w (fun k => (S0 k ∨ W0 ≤ k) ∧ k < w.heap.size ∧ v.ownBlock ≠ some k) l cs
theorem RowD.nil (W0 : Nat) (S0 : Nat → Prop) (w : World) : RowD W0 S0 w [] (.slice none 0 0) := ⟨[], World.ownsRow_nil _ _ _ _, rfl⟩
theorem RowD.past {W0 : Nat} {S0 : Nat → Prop} {w w' : World} {l : List D} {v : Value} (h : RowD W0 S0 w l v) (hb : Below w.heap.size w w') : RowD W0 S0 w' l v := by
  obtain ⟨cs, h1, h2⟩ := h.ex
  exact ⟨cs, ownsRow_same h1 fun k hk => hb.block k (h1.lt k (blk_mem.1 hk)).2, h2.keep (fun k hk => ⟨hk.1, Nat.lt_of_lt_of_le hk.2.1 hb.size, hk.2.2⟩) fun p hp => hb.cell hp.2.1⟩
theorem strsS_own2 {w : World} {base : Nat} {v : Value} {xs : List ByteArray} (h : w.ownsRow base 9 1 v xs.length (xs.map Value.string)) : StrsS w (fun k => base ≤ k ∧ k < w.heap.size) v xs := by
  obtain ⟨A, c, e, hc, hcell⟩ := Strs_of_own h
  subst e
  refine ⟨A, c, rfl, hc, fun hl => ?_⟩
  obtain ⟨g, cap, e, hg, hlt⟩ := h.form hl
  injection e with e1 _ _
  subst e1
  obtain ⟨b, off, e2, _, hc2⟩ := hcell hl
  injection e2 with e2
  injection e2 with e2 e3 _
  subst e2; subst e3
  exact ⟨g, 0, rfl, ⟨hg, hlt⟩, hc2⟩
mutual
theorem OwnIn.docS {w : World} {base : Nat} : ∀ {d : D} {v0 v1 v2 v3 v4 : Value} {F : List Nat}, OwnIn w base d v0 v1 v2 v3 v4 F → DocS w (fun k => base ≤ k ∧ k < w.heap.size) d v0 v1 v2 v3 v4
  | .mk _ _ _ keys kids, v0, v1, v2, v3, v4, F, h => by
    simp only [OwnIn] at h
    simp only [DocS]
    obtain ⟨h0, h1, h2, h3, cs, Fs, h4, h5, rfl⟩ := h
    refine ⟨h0, h1, h2, strsS_own2 h3, ?_⟩
    rcases Nat.eq_zero_or_pos kids.length with hz | hz
    · rcases h4.2 with ⟨rfl, _⟩ | ⟨g, cap, cur, rfl, _, hh, hc, _⟩
      · exact ⟨none, 0, by rw [hz], by omega, fun h => by omega⟩
      · exact ⟨some ⟨g, 0, none⟩, cap, rfl, hc, fun h => by omega⟩
    · obtain ⟨g, cap, rfl, hg, hlt⟩ := h4.form hz
      have hc : kids.length ≤ cap := by
        rcases h4.2 with ⟨e, _⟩ | ⟨g', cap', cur, e, _, _, hc, _⟩
        · cases e
        · injection e with _ _ e3; omega
      refine ⟨some ⟨g, 0, none⟩, cap, rfl, hc, fun _ => ⟨g, 0, rfl, ⟨hg, hlt⟩, ?_⟩⟩
      exact OwnKids.kidsS h5 (i := 0) fun j hj => by
        rw [Nat.zero_mul, Nat.add_zero, Nat.zero_add, h4.cellAt j (by have := h4.1; omega)]
theorem OwnKids.kidsS {w : World} {base : Nat} {g off : Nat} : ∀ {l : List D} {cs : List Value} {F : List Nat}, OwnKids w base l cs F → ∀ {i : Nat}, (∀ j, j < cs.length → w.cell? ⟨g, off + i * 5 + j, none⟩ = cs[j]?) → KidsS w (fun k => base ≤ k ∧ k < w.heap.size) g off i l
  | [], _, _, _, _, _ => by simp [KidsS]
  | d :: r, _, _, h, i, hc => by
    simp only [OwnKids] at h
    obtain ⟨v0, v1, v2, v3, v4, cs', F1, F2, rfl, h2, h3, rfl⟩ := h
    simp only [KidsS]
    refine ⟨⟨v0, v1, v2, v3, v4, hc 0 (by simp), hc 1 (by simp), hc 2 (by simp), hc 3 (by simp), hc 4 (by simp), OwnIn.docS h2⟩, OwnKids.kidsS h3 fun j hj => ?_⟩
    have := hc (j + 5) (by simp; omega)
    rw [show off + (i + 1) * 5 + j = off + i * 5 + (j + 5) from by omega, this]
    simp
end
theorem DocR.kids {w : World} {S S' : Nat → Prop} {g off : Nat} (hS : ∀ k, S k → S' k) : ∀ {l : List D} {cs : List Value}, DocR w S l cs → ∀ {i : Nat}, (∀ j, j < cs.length → w.cell? ⟨g, off + i * 5 + j, none⟩ = cs[j]?) → KidsS w S' g off i l
  | [], _, _, _, _ => by simp [KidsS]
  | d :: r, _, h, i, hc => by
    simp only [DocR] at h
    obtain ⟨v0, v1, v2, v3, v4, cs', rfl, h2, h3⟩ := h
    simp only [KidsS]
    refine ⟨⟨v0, v1, v2, v3, v4, hc 0 (by simp), hc 1 (by simp), hc 2 (by simp), hc 3 (by simp), hc 4 (by simp), h2.keep hS fun _ _ => rfl⟩, DocR.kids hS h3 fun j hj => ?_⟩
    have := hc (j + 5) (by simp; omega)
    rw [show off + (i + 1) * 5 + j = off + i * 5 + (j + 5) from by omega, this]
    simp
/-- One document more: its five cells in a row that was just made. -/
theorem RowD.one {W0 : Nat} {S0 S2 : Nat → Prop} {w : World} {l : List D} {v : Value} (ty : TypeId) (h : RowD W0 S0 w l v) {g : Nat} {d : D} {a0 a1 a2 a3 a4 : Value} (hd : DocS w S2 d a0 a1 a2 a3 a4)
    (c0 : w.cell? ⟨g, 0, none⟩ = some a0) (c1 : w.cell? ⟨g, 1, none⟩ = some a1) (c2 : w.cell? ⟨g, 2, none⟩ = some a2) (c3 : w.cell? ⟨g, 3, none⟩ = some a3) (c4 : w.cell? ⟨g, 4, none⟩ = some a4)
    (hS : ∀ k, S2 k → (S0 k ∨ W0 ≤ k) ∧ k < w.heap.size ∧ v.ownBlock ≠ some k) (hn : l.length + 1 ≤ 100000) (hW : W0 ≤ w.heap.size) :
    ∃ v' w', (Builtin.append_ #[23, 23] ty #[v, .slice (some ⟨g, 0, none⟩) 1 1]).run Tryz.prog w = .ok v' w' ∧ RowD W0 S0 w' (l ++ [d]) v' ∧ w.grownBy w' v.ownBlock ∧ (v'.ownBlock = v.ownBlock ∨ v'.ownBlock = some w.heap.size) := by
  obtain ⟨cs, ho, hr⟩ := h.ex
  obtain ⟨i0, hi, hz0, hz1, hz2⟩ := info_parts infoD
  have hd' := hd.keep (w' := w) hS fun _ _ => rfl
  obtain ⟨A3, e3, A4, e4, f0, f1, f2, f3, f4⟩ := hd.forms
  obtain ⟨v', w', hrun, hown, hgrow, _, hat⟩ := run_append_own_at (P := Tryz.prog) w W0 23 ty 27 i0 (.agg #[.int .i64 0, .int .i64 0, .string ByteArray.empty, .slice none 0 0, .slice none 0 0]) 5 80 Tryz.underlying23 hi hz0 hz1 hz2 (by rfl) (by omega) v l.length cs ho ⟨g, 0, none⟩ 1 1 [a0, a1, a2, a3, a4] rfl (fun j x hj => by
    have e : (⟨g, 0, none⟩ : Addr).add j = ⟨g, 0 + j, none⟩ := by unfold Addr.add; split <;> simp_all
    rw [e, Nat.zero_add]
    match j, hj with
    | 0, hj => simp at hj; subst hj; exact c0
    | 1, hj => simp at hj; subst hj; exact c1
    | 2, hj => simp at hj; subst hj; exact c2
    | 3, hj => simp at hj; subst hj; exact c3
    | 4, hj => simp at hj; subst hj; exact c4) (fun u hu => by
      simp only [List.mem_cons, List.not_mem_nil, or_false] at hu
      rcases hu with rfl | rfl | rfl | rfl | rfl
      · rw [f0]; rfl
      · rw [f1]; rfl
      · rw [f2]; rfl
      · rw [f3]; rfl
      · rw [f4]; rfl) (by unfold maxLen; omega) (by omega) hW
  have hS' : ∀ k, (S0 k ∨ W0 ≤ k) ∧ k < w.heap.size ∧ v.ownBlock ≠ some k → (S0 k ∨ W0 ≤ k) ∧ k < w'.heap.size ∧ v'.ownBlock ≠ some k := fun k hk => ⟨hk.1, Nat.lt_of_lt_of_le hk.2.1 hgrow.size, fun e => by
    rcases hat with e2 | e2
    · exact hk.2.2 (e2 ▸ e)
    · rw [e] at e2; injection e2 with e2; omega⟩
  exact ⟨v', w', hrun, ⟨cs ++ [a0, a1, a2, a3, a4], by rw [List.length_append]; exact hown, (hr.append (show DocR w _ [d] [a0, a1, a2, a3, a4] from ⟨a0, a1, a2, a3, a4, [], rfl, hd', rfl⟩)).keep hS' fun p hp => World.cell?_of_block (hgrow.block p.block hp.2.1 fun e => hp.2.2 e.symm)⟩, hgrow, hat⟩
end Go.Proofs.YtdcempejdggkpaaGreatDoor
namespace Go.Proofs.YtdcempejdggkpaaGreatDoor
open Go.RowKit

theorem e_cell_block {w : World} {b : Nat} {arr : Array Value} {ty : TypeId} (hb : w.heap[b]? = some (.cells arr ty (0, 0))) (i : Nat) : w.cell? ⟨b, i, none⟩ = arr[i]? := by simp [World.cell?, hb]
theorem e_size_block {w : World} {b : Nat} {o : Obj} (hb : w.heap[b]? = some o) : b < w.heap.size := by
  rcases Nat.lt_or_ge b w.heap.size with h | h
  · exact h
  · simp [h] at hb
/-- A row that can be read, as cells: of whatever element type. -/
def RowE (w : World) (size : Nat) (v : Value) (n : Nat) (cs : List Value) : Prop :=
  ∃ (A : Option Addr) (c : Nat), v = .slice A n c ∧ n ≤ c ∧ cs.length = n * size ∧ (∀ u ∈ cs, u.oneCell' = true) ∧ (A = none → n = 0) ∧ ∀ a, A = some a → ∀ j u, cs[j]? = some u → w.cell? (a.add j) = some u
theorem e_add_at (b off j : Nat) : (⟨b, off, none⟩ : Addr).add j = ⟨b, off + j, none⟩ := by unfold Addr.add; split <;> simp_all
theorem RowE.keep {w w' : World} {size n : Nat} {v : Value} {cs : List Value} (h : 0 < n → ∀ p : Addr, v.ownBlock = some p.block → w'.cell? p = w.cell? p) (hv : RowE w size v n cs) : RowE w' size v n cs := by
  obtain ⟨A, c, rfl, h1, h2, h3, h4, h5⟩ := hv
  refine ⟨A, c, rfl, h1, h2, h3, h4, fun a ha j u hj => ?_⟩
  rcases Nat.eq_zero_or_pos n with h0 | h0
  · rw [h0, Nat.zero_mul] at h2
    rw [List.eq_nil_of_length_eq_zero h2] at hj; simp at hj
  · rw [h h0 _ (by subst ha; simp only [Value.ownBlock]; congr 1; exact (block_of_add a j).symm)]
    exact h5 a ha j u hj
/-- From one world to a later one: what lay below B stays, and so do the call's own rows of this element that begin as L does, and what is no row of it, or one of one element at most. -/
def KeepE (e : TypeId) (s B : Nat) (L : List Value) (w w' : World) : Prop :=
  Below B w w' ∧ (∀ (v : Value) (n : Nat) (M : List Value), M <+: L → w.ownsRow B e s v n M → w'.ownsRow B e s v n M) ∧
    (∀ (k : Nat) (cs : Array Value) (ty : TypeId), (ty ≠ e ∨ cs.size ≤ s) → w.heap[k]? = some (.cells cs ty (0, 0)) → w'.heap[k]? = some (.cells cs ty (0, 0)))
theorem KeepE.refl (e : TypeId) (s B : Nat) (L : List Value) (w : World) : KeepE e s B L w w := ⟨Below.refl _ _, fun _ _ _ _ h => h, fun _ _ _ _ h => h⟩
theorem KeepE.trans {e : TypeId} {s B : Nat} {L : List Value} (a b c : World) (h : KeepE e s B L a b) (h' : KeepE e s B L b c) : KeepE e s B L a c :=
  ⟨h.1.trans h'.1, fun v n M hM hv => h'.2.1 v n M hM (h.2.1 v n M hM hv), fun k cs ty ht hk => h'.2.2 k cs ty ht (h.2.2 k cs ty ht hk)⟩
theorem rowE_below {w w' : World} {e : TypeId} {s B n : Nat} {v : Value} {M : List Value} (h : Below w.heap.size w w') (hv : w.ownsRow B e s v n M) : w'.ownsRow B e s v n M := by
  refine ownsRow_same hv fun k hk => ?_
  exact h.block _ (hv.lt k (blk_mem.1 hk)).2
theorem KeepE.of_below {e : TypeId} {s B : Nat} {L : List Value} {w w' : World} (hB : B ≤ w.heap.size) (h : Below w.heap.size w w') : KeepE e s B L w w' :=
  ⟨h.mono hB, fun _ _ _ _ hv => rowE_below h hv, fun k _ _ _ hk => (h.block k (e_size_block hk)).trans hk⟩
/-- A slice of so many; an empty one has no room. -/
def CapOkE (v : Value) (n : Nat) : Prop := ∃ A c, v = .slice A n c ∧ (n = 0 → c = 0)
theorem run_append_nilsE {P : Program} (w : World) (t ty e : TypeId) (i : TypeInfo) (base size c : Nat) (ht : P.underlying t = some (.slice e)) (hi : P.info? e = some i) (v : Value) (n : Nat) (xs : List Value) (hown : w.ownsRow base e size v n xs) :
    (Builtin.append_ #[t, t] ty #[v, .slice none 0 c]).run P w = .ok v w := by
  rcases hown.2 with ⟨rfl, rfl⟩ | ⟨g, cap, cur, rfl, _, _, hnc, _⟩
  · simp [Builtin.append_, run_underlying ht, sizeOf, typeInfo, hi, Builtin.lenOf, Builtin.firstCells]
  · simp [Builtin.append_, run_underlying ht, sizeOf, typeInfo, hi, Builtin.lenOf, Builtin.firstCells, hnc, storeCells]
/-- 'append(v, u...)', v a row of the call's own. -/
theorem append_keepE {P : Program} {w : World} {s bytes B m n : Nat} {L M N : List Value} {v u : Value} {t ty e : TypeId} (i : TypeInfo) (z : Value) (ht : P.underlying t = some (.slice e)) (hi : P.info? e = some i) (hz : i.zero = some z)
    (hs0 : 0 < s) (hs8 : s ≤ 8) (hb8 : bytes ≤ 120) (hsize : i.size = s) (hby : i.bytes = bytes) (hzs : z.cells.size = s) (hB : B ≤ w.heap.size) (hown : w.ownsRow B e s v m M) (hco : CapOkE v m) (hu : RowE w s u n N) (hMN : M ++ N <+: L) (hsm : m + n ≤ 10000) :
    ∃ v' w', (Builtin.append_ #[t, t] ty #[v, u]).run P w = .ok v' w' ∧ w'.ownsRow B e s v' (m + n) (M ++ N) ∧ CapOkE v' (m + n) ∧ KeepE e s B L w w' := by
  obtain ⟨A, c, rfl, hc, hl, h1, hA, hcell⟩ := hu
  have hM := hown.1
  cases A with
  | none =>
    obtain rfl := hA rfl
    obtain rfl : N = [] := List.eq_nil_of_length_eq_zero (by rw [hl, Nat.zero_mul])
    exact ⟨v, w, run_append_nilsE (P := P) w t ty e i B s c ht hi v _ _ hown, by simpa using hown, hco, KeepE.refl _ _ _ _ _⟩
  | some ad =>
    have hnews := hcell ad rfl
    have hnl : N.length = n * i.size := by rw [hsize]; exact hl
    have hlen : (M ++ N).length = (m + n) * s := by rw [List.length_append, hM, hl, Nat.add_mul]
    have hbb : (m + n) * i.bytes ≤ 1200000 := by rw [hby]; exact Nat.mul_le_mul hsm hb8
    have grown : ∀ (old : Nat), old < m + n →
        (w.drew.alloc (.cells (M.toArray ++ N.toArray ++ Builtin.zeroCells z.cells (grownCap w (m + n) old e - (m + n))) e)).ownsRow B e s (.slice (some ⟨w.heap.size, 0, none⟩) (m + n) (grownCap w (m + n) old e)) (m + n) (M ++ N) ∧
        KeepE e s B L w (w.drew.alloc (.cells (M.toArray ++ N.toArray ++ Builtin.zeroCells z.cells (grownCap w (m + n) old e - (m + n))) e)) := by
      intro old ho
      have hge := grownCap_ge w (m + n) old e
      have hcm : grownCap w (m + n) old e ≤ maxLen := grownCap_le_maxLen w (m + n) old e (by unfold maxLen; omega)
      refine ⟨⟨hlen, .inr ⟨w.heap.size, _, _, rfl, hB, heap_alloc_new w.drew _, hge, hcm, ?_, ?_⟩⟩, KeepE.of_below hB ((Below.refl _ _).drew.alloc (Nat.le_refl _) _)⟩
      · simp only [Array.size_append, List.size_toArray, size_zeroCells, hzs]
        rw [hM, hl, ← Nat.add_mul, ← Nat.add_mul]
        congr 1
        omega
      · simp only [Array.toList_append]
        rw [← hlen]
        exact List.take_left
    by_cases hn : n = 0
    · subst hn
      obtain rfl : N = [] := List.eq_nil_of_length_eq_zero (by rw [hl, Nat.zero_mul])
      rcases hown.2 with ⟨rfl, h0⟩ | ⟨g, cap, cur, rfl, hbg, hg, hnc, hcm, hcs, htake⟩
      · subst h0
        obtain rfl : M = [] := List.eq_nil_of_length_eq_zero (by rw [hM, Nat.zero_mul])
        refine ⟨.slice none 0 0, w, ?_, by simpa using hown, ⟨_, _, rfl, fun _ => rfl⟩, KeepE.refl _ _ _ _ _⟩
        simp [Builtin.append_, run_underlying ht, sizeOf, typeInfo, hi, Builtin.lenOf, Builtin.firstCells, loadCells, loadCellsFrom]
      · have hms : m * s ≤ cap * s := Nat.mul_le_mul_right s hnc
        have hr := run_append_room (P := P) w t ty e i ht hi g m cap cur hg ad 0 c [] (by simp) (by simp) (by simp) (by simpa using hnc) (by rw [hsize, hcs]; simpa using hms)
        have e0 : (List.take (m * i.size) cur.toList ++ ([] : List Value) ++ List.drop (m * i.size + ([] : List Value).length) cur.toList).toArray = cur := by simp
        rw [e0] at hr
        have hsame : ∀ k, (w.setRow g cur).heap[k]? = w.heap[k]? := fun k => by
          by_cases hk : k = g
          · subst hk; rw [setRow_heap w _ cur cur e _ hg, hg]
          · exact setRow_other w g k cur hk
        refine ⟨_, _, hr, by simpa using ownsRow_same hown fun k _ => hsame k, hco, ?_⟩
        exact ⟨⟨rfl, rfl, rfl, by simp [World.setRow], fun k _ => hsame k⟩, fun v n' M' _ hv => ownsRow_same hv fun k _ => hsame k, fun k cs ty _ hk => (hsame k).trans hk⟩
    have capok : ∀ A c', CapOkE (.slice A (m + n) c') (m + n) := fun A c' => ⟨_, _, rfl, fun h => by omega⟩
    rcases hown.2 with ⟨rfl, h0⟩ | ⟨g, cap, cur, rfl, hbg, hg, hnc, hcm, hcs, htake⟩
    · subst h0
      obtain rfl : M = [] := List.eq_nil_of_length_eq_zero (by rw [hM, Nat.zero_mul])
      have hbn : n * i.bytes ≤ 1200000 := by rw [Nat.zero_add] at hbb; exact hbb
      have hr := run_append_nil (P := P) w t ty e i z ht hi hz ad n c N hnl hnews (by omega) (by omega) (by omega)
      have hgr := grown 0 (by omega)
      simp only [Nat.zero_add, List.nil_append, Array.empty_append] at hgr capok ⊢
      exact ⟨_, _, hr, hgr.1, capok _ _, hgr.2⟩
    · by_cases hroom : m + n ≤ cap
      · have hm1 : 1 ≤ m := by
          obtain ⟨A', c', e', h⟩ := hco
          injection e' with e1 e2 e3
          rcases Nat.eq_zero_or_pos m with h0 | h0
          · have := h h0; omega
          · exact h0
        have hms : (m + n) * s ≤ cap * s := Nat.mul_le_mul_right s hroom
        have hfit : m * i.size + N.length ≤ cur.size := by rw [hsize, hcs, hl, ← Nat.add_mul]; exact hms
        have hr := run_append_room (P := P) w t ty e i ht hi g m cap cur hg ad n c N hnl hnews h1 hroom hfit
        simp only [hsize] at hr htake hcs
        have hfit2 : m * s + N.length ≤ cap * s := by rw [hl, ← Nat.add_mul]; exact hms
        generalize hcur : (List.take (m * s) cur.toList ++ N ++ List.drop (m * s + N.length) cur.toList).toArray = cur' at hr
        have hcl : cur'.toList = M ++ N ++ List.drop (m * s + N.length) cur.toList := by rw [← hcur, htake]
        have hcz : cur'.size = cap * s := by
          rw [← Array.length_toList, hcl]
          simp only [List.length_append, List.length_drop, Array.length_toList, hcs]; omega
        refine ⟨_, _, hr, ⟨hlen, .inr ⟨g, cap, cur', rfl, hbg, setRow_heap w g cur _ e _ hg, by omega, hcm, hcz, ?_⟩⟩, capok _ _, ?_, fun v' n' M' hM' hv' => ?_, fun k cs ty hty hk => ?_⟩
        · rw [← hlen, hcl]; exact List.take_left
        · exact ⟨rfl, rfl, rfl, by simp [World.setRow], fun k hk => setRow_other w g k _ (by omega)⟩
        · refine ⟨hv'.1, ?_⟩
          have hM'l := hv'.1
          rcases hv'.2 with h | ⟨g', cap', cu, hv, hbg', hg', hnc', hcm', hcs', ht'⟩
          · exact .inl h
          · refine .inr ⟨g', cap', ?_⟩
            by_cases hgg : g' = g
            · subst hgg
              rw [hg] at hg'
              simp only [Option.some.injEq, Obj.cells.injEq, and_true] at hg'
              subst hg'
              refine ⟨cur', hv, hbg', setRow_heap w _ cur _ e _ hg, hnc', hcm', by omega, ?_⟩
              refine List.ext_getElem? fun j => ?_
              rw [List.getElem?_take]
              split
              · rename_i hj
                rw [hcl]
                have hj' : j < M'.length := by omega
                have hL := (List.prefix_iff_getElem?.1 hM') j hj'
                rcases Nat.lt_or_ge j (M ++ N).length with hj2 | hj2
                · rw [List.getElem?_append_left hj2]
                  have hL2 := (List.prefix_iff_getElem?.1 hMN) j hj2
                  rw [List.getElem?_eq_getElem hj2, List.getElem?_eq_getElem hj', ← hL2, ← hL]
                · rw [List.getElem?_append_right hj2, List.getElem?_drop, show m * s + N.length + (j - (M ++ N).length) = j by simp only [List.length_append] at hj2 ⊢; omega]
                  have : (List.take (n' * s) cur.toList)[j]? = M'[j]? := by rw [ht']
                  rw [List.getElem?_take, if_pos hj] at this
                  exact this
              · rename_i hj
                rw [List.getElem?_eq_none (by omega)]
            · exact ⟨cu, hv, hbg', by rw [setRow_other w g g' _ hgg]; exact hg', hnc', hcm', hcs', ht'⟩
        · by_cases hk2 : k = g
          · subst hk2
            rw [hg] at hk
            simp only [Option.some.injEq, Obj.cells.injEq, and_true] at hk
            obtain ⟨hk, rfl⟩ := hk
            subst hk
            rcases hty with hty | hty
            · exact absurd rfl hty
            · have h2 : 2 * s ≤ cap * s := Nat.mul_le_mul_right s (by omega)
              omega
          · rw [setRow_other w g k _ hk2]; exact hk
      · have holds : ∀ j u, M[j]? = some u → w.cell? ((⟨g, 0, none⟩ : Addr).add j) = some u := hown.cells (g := g) rfl
        have hr := run_append_grow (P := P) w t ty e i z ht hi hz ⟨g, 0, none⟩ m cap M (by rw [hsize]; exact hM) holds ad n c N hnl hnews (by omega) (by omega) (growslice_fits (by omega) (by omega))
        have hgr := grown cap (by omega)
        exact ⟨_, _, hr, hgr.1, capok _ _, hgr.2⟩
theorem op_appendE {P : Program} {w w' : World} {o : Oper} {a : Act} {K : Act → World → Prop} {Q : Exit → Act → World → Prop} {v u v' : Value} (s x : Operand) (t : TypeId) (ho : o.op = .call { callee := .builtin .append, args := #[s, x], argTypes := #[t, t] }) (hs : a.eval s = v) (hx : a.eval x = u)
    (hr : (Builtin.append_ #[t, t] o.type #[v, u]).run P w = .ok v' w') (h : K (a.put o.dst v') w') : o.wp P a w K Q := by
  unfold Oper.wp execOp
  simp only [ho, resolve, invoke, builtin, Sem.run_bind, Sem.run_pure, Result.andThen_ok, List.map_toArray, List.map_cons, List.map_nil, hs, hx, hr]
  exact h
/-- 's[l:h]' of a row of elements of so many cells with room for c. -/
def cutE (s : Nat) (A : Option Addr) (l h c : Nat) : Value := .slice (if c = l then A else A.map (·.add (l * s))) (h - l) (c - l)
theorem op_cutE_h {P : Program} {t : TypeId} {s : Nat} {w : World} {o : Oper} {a : Act} {K : Act → World → Prop} {Q : Exit → Act → World → Prop} {A : Option Addr} {n c k : Nat} (elemE : P.underlying t = some (.slice (P.elem t))) (sizeE : ∀ w, (sizeOf (P.elem t)).run P w = .ok s w) (x h : Operand) (ho : o.op = .slice t x none (some h) none) (hx : a.eval x = .slice A n c) (hh : a.eval h = .int .i64 (k : Nat)) (hk : k ≤ c)
    (hK : K (a.put o.dst (cutE s A 0 k c)) w) : o.wp P a w K Q := by
  unfold Oper.wp execOp
  simp only [ho, Option.map_none, Option.map_some, hx, hh]
  rw [Sem.run_bind, run_sliceAt_slice _ _ _ _ _ _ elemE, run_slice_h _ _ _ _ _ elemE _ _ (by omega) (by omega), sizeE]
  simp only [Result.andThen, Sem.run_pure, sliced, Int.toNat_natCast]
  exact hK
theorem op_cutE_l {P : Program} {t : TypeId} {s : Nat} {w : World} {o : Oper} {a : Act} {K : Act → World → Prop} {Q : Exit → Act → World → Prop} {A : Option Addr} {n c k : Nat} (elemE : P.underlying t = some (.slice (P.elem t))) (sizeE : ∀ w, (sizeOf (P.elem t)).run P w = .ok s w) (x h : Operand) (ho : o.op = .slice t x (some h) none none) (hx : a.eval x = .slice A n c) (hh : a.eval h = .int .i64 (k : Nat)) (hk : k ≤ n)
    (hK : K (a.put o.dst (cutE s A k n c)) w) : o.wp P a w K Q := by
  unfold Oper.wp execOp
  simp only [ho, Option.map_none, Option.map_some, hx, hh]
  rw [Sem.run_bind, run_sliceAt_slice _ _ _ _ _ _ elemE, run_slice_l _ _ _ _ _ elemE _ _ (by omega) (by omega), sizeE]
  simp only [Result.andThen, Sem.run_pure, sliced, Int.toNat_natCast]
  exact hK
theorem rowE_cut {w : World} {s : Nat} {A : Option Addr} {n c l h : Nat} {cs : List Value} (hr : RowE w s (.slice A n c) n cs) (hl : l ≤ h) (hh : h ≤ n) : RowE w s (cutE s A l h c) (h - l) ((cs.drop (l * s)).take ((h - l) * s)) := by
  obtain ⟨A', c', e, hc, hlen, h1, hn, hcell⟩ := hr
  injection e with e1 e2 e3
  subst e1 e3
  have hls : h * s ≤ n * s := Nat.mul_le_mul_right s hh
  have hds : (h - l) * s = h * s - l * s := Nat.sub_mul _ _ _
  refine ⟨_, _, rfl, by omega, by rw [List.length_take, List.length_drop, hlen, hds]; omega, fun u hu => h1 u (List.mem_of_mem_drop (List.mem_of_mem_take hu)), fun h0 => ?_, fun a ha j u hj => ?_⟩
  · have : A = none := by
      split at h0
      · exact h0
      · simpa using h0
    have := hn this; omega
  · rw [List.getElem?_take] at hj
    split at hj
    · rename_i hj1
      rw [List.getElem?_drop] at hj
      split at ha
      · rename_i hcl
        have : h - l = 0 := by omega
        rw [this, Nat.zero_mul] at hj1
        omega
      · cases A with
        | none => cases ha
        | some a0 =>
          simp only [Option.map_some, Option.some.injEq] at ha
          subst ha
          rw [Addr.add_add]
          exact hcell a0 rfl _ _ hj
    · cases hj
theorem rowE_one {w : World} {e : TypeId} {s g : Nat} {cs : Array Value} (h : w.heap[g]? = some (.cells cs e (0, 0))) (hs : cs.size = s) (h1 : ∀ u ∈ cs.toList, u.oneCell' = true) : RowE w s (.slice (some ⟨g, 0, none⟩) 1 1) 1 cs.toList := by
  refine ⟨_, 1, rfl, Nat.le_refl _, by simpa using hs, h1, fun e => (by cases e), fun a e j u hj => ?_⟩
  injection e with e
  subst e
  rw [e_add_at, Nat.zero_add, e_cell_block h]
  simpa using hj
theorem DocR.take {w : World} {S : Nat → Prop} : ∀ {l : List D} {cs : List Value} (k : Nat), DocR w S l cs → DocR w S (l.take k) (cs.take (k * 5))
  | [], _, k, h => by simp only [DocR] at h; subst h; simp [DocR]
  | d :: r, _, 0, h => by simp [DocR]
  | d :: r, _, k + 1, h => by
    simp only [DocR] at h
    obtain ⟨v0, v1, v2, v3, v4, cs', rfl, h1, h2⟩ := h
    rw [show (k + 1) * 5 = k * 5 + 1 + 1 + 1 + 1 + 1 by omega]
    simp only [List.take_succ_cons, DocR]
    exact ⟨v0, v1, v2, v3, v4, _, rfl, h1, h2.take k⟩
theorem DocR.drop {w : World} {S : Nat → Prop} : ∀ {l : List D} {cs : List Value} (k : Nat), DocR w S l cs → DocR w S (l.drop k) (cs.drop (k * 5))
  | [], _, k, h => by simp only [DocR] at h; subst h; simp [DocR]
  | d :: r, _, 0, h => by simpa using h
  | d :: r, _, k + 1, h => by
    simp only [DocR] at h
    obtain ⟨v0, v1, v2, v3, v4, cs', rfl, h1, h2⟩ := h
    rw [show (k + 1) * 5 = k * 5 + 1 + 1 + 1 + 1 + 1 by omega]
    simp only [List.drop_succ_cons]
    exact h2.drop k
theorem DocS.one {w : World} {S : Nat → Prop} {d : D} {v0 v1 v2 v3 v4 : Value} (h : DocS w S d v0 v1 v2 v3 v4) : ∀ u ∈ [v0, v1, v2, v3, v4], u.oneCell' = true := by
  obtain ⟨A3, c3, A4, c4, rfl, rfl, rfl, rfl, rfl⟩ := h.forms
  intro u hu
  simp only [List.mem_cons, List.not_mem_nil, or_false] at hu
  rcases hu with rfl | rfl | rfl | rfl | rfl <;> rfl
theorem kidsS_flat {w : World} {S : Nat → Prop} {b off : Nat} : ∀ {l : List D} {i : Nat}, KidsS w S b off i l → ∃ cs, DocR w S l cs ∧ cs.length = l.length * 5 ∧ (∀ u ∈ cs, u.oneCell' = true) ∧ ∀ j u, cs[j]? = some u → w.cell? ⟨b, off + i * 5 + j, none⟩ = some u
  | [], _, _ => ⟨[], rfl, rfl, by simp, by simp⟩
  | d :: r, i, h => by
    simp only [KidsS] at h
    obtain ⟨⟨v0, v1, v2, v3, v4, c0, c1, c2, c3, c4, hd⟩, hr⟩ := h
    obtain ⟨cs, h1, h2, h3, h4⟩ := kidsS_flat hr
    refine ⟨v0 :: v1 :: v2 :: v3 :: v4 :: cs, ⟨v0, v1, v2, v3, v4, cs, rfl, hd, h1⟩, by simp [h2]; omega, fun u hu => ?_, fun j u hj => ?_⟩
    · rw [show v0 :: v1 :: v2 :: v3 :: v4 :: cs = [v0, v1, v2, v3, v4] ++ cs from rfl, List.mem_append] at hu
      rcases hu with hu | hu
      · exact hd.one u hu
      · exact h3 u hu
    · match j, hj with
      | 0, hj => simp at hj; subst hj; exact c0
      | 1, hj => simp at hj; subst hj; exact c1
      | 2, hj => simp at hj; subst hj; exact c2
      | 3, hj => simp at hj; subst hj; exact c3
      | 4, hj => simp at hj; subst hj; exact c4
      | j + 5, hj =>
        have := h4 j u (by simpa using hj)
        rwa [show off + (i + 1) * 5 + j = off + i * 5 + (j + 5) by omega] at this
/-- A row of documents in blocks of the set. -/
def RowS (w : World) (S : Nat → Prop) (l : List D) (v : Value) : Prop :=
  ∃ (A : Option Addr) (c : Nat), v = .slice A l.length c ∧ l.length ≤ c ∧ (0 < l.length → ∃ b off, A = some ⟨b, off, none⟩ ∧ S b ∧ KidsS w S b off 0 l)
theorem rowE_rowS {w : World} {S : Nat → Prop} {l : List D} {v : Value} (h : RowS w S l v) : ∃ cs, RowE w 5 v l.length cs ∧ DocR w S l cs := by
  obtain ⟨A, c, rfl, hc, h⟩ := h
  rcases Nat.eq_zero_or_pos l.length with h0 | h0
  · obtain rfl : l = [] := List.eq_nil_of_length_eq_zero h0
    exact ⟨[], ⟨A, c, rfl, hc, rfl, by simp, fun _ => rfl, by simp⟩, rfl⟩
  · obtain ⟨b, off, rfl, _, hk⟩ := h h0
    obtain ⟨cs, h1, h2, h3, h4⟩ := kidsS_flat hk
    refine ⟨cs, ⟨_, c, rfl, hc, h2, h3, by simp, fun a ha j u hj => ?_⟩, h1⟩
    injection ha with ha; subst ha
    rw [e_add_at]
    have := h4 j u hj
    rwa [Nat.zero_mul, Nat.add_zero] at this
theorem rowE_strsS {w : World} {S : Nat → Prop} {l : List ByteArray} {v : Value} (h : StrsS w S v l) : RowE w 1 v l.length (l.map Value.string) := by
  obtain ⟨A, c, rfl, hc, h⟩ := h
  refine ⟨A, c, rfl, hc, by simp, fun u hu => ?_, fun hA => ?_, fun a ha j u hj => ?_⟩
  · obtain ⟨x, _, rfl⟩ := List.mem_map.1 hu; rfl
  · rcases Nat.eq_zero_or_pos l.length with h0 | h0
    · exact h0
    · obtain ⟨b, off, e, _⟩ := h h0; rw [hA] at e; cases e
  · rw [List.getElem?_map] at hj
    cases hxj : l[j]? with
    | none => rw [hxj] at hj; cases hj
    | some y =>
      rw [hxj] at hj
      obtain ⟨hlt, rfl⟩ := List.getElem?_eq_some_iff.1 hxj
      obtain ⟨b, off, e, _, hk⟩ := h (by omega)
      rw [ha] at e
      injection e with e; subst e
      rw [e_add_at, hk j hlt]; exact hj
/-- A row of the call's own that holds documents in blocks of the set. -/
theorem own_rowS {w : World} {base : Nat} {v4 : Value} {ls : List D} {cs : List Value} {S S' : Nat → Prop} (h4 : w.ownsRow base 27 5 v4 ls.length cs) (h5 : DocR w S ls cs) (hS : ∀ k, S k → S' k) (hb : ∀ k, base ≤ k → k < w.heap.size → S' k) : RowS w S' ls v4 := by
  rcases Nat.eq_zero_or_pos ls.length with hz | hz
  · rcases h4.2 with ⟨rfl, _⟩ | ⟨g, cap, cur, rfl, _, hh, hc, _⟩
    · exact ⟨none, 0, by rw [hz], by omega, fun h => by omega⟩
    · exact ⟨some ⟨g, 0, none⟩, cap, rfl, hc, fun h => by omega⟩
  · obtain ⟨g, cap, rfl, hg, hlt⟩ := h4.form hz
    have hc : ls.length ≤ cap := by
      rcases h4.2 with ⟨e, _⟩ | ⟨g', cap', cur, e, _, _, hc, _⟩
      · cases e
      · injection e with _ _ e3; omega
    refine ⟨some ⟨g, 0, none⟩, cap, rfl, hc, fun _ => ⟨g, 0, rfl, hb g hg hlt, ?_⟩⟩
    exact DocR.kids hS h5 (i := 0) fun j hj => by
      rw [Nat.zero_mul, Nat.add_zero, Nat.zero_add, h4.cellAt j (by have := h4.1; omega)]
/-- A document as a call hands it over, in blocks of the set. -/
def DocSV (w : World) (S : Nat → Prop) (d : D) (v : Value) : Prop := ∃ v0 v1 v2 v3 v4, v = .agg #[v0, v1, v2, v3, v4] ∧ DocS w S d v0 v1 v2 v3 v4
theorem DocSV.keep {w w' : World} {S S' : Nat → Prop} (hB : ∀ k, S k → S' k) (h : ∀ p : Addr, S p.block → w'.cell? p = w.cell? p) {d : D} {v : Value} (hd : DocSV w S d v) : DocSV w' S' d v := by
  obtain ⟨v0, v1, v2, v3, v4, e, h1⟩ := hd
  exact ⟨v0, v1, v2, v3, v4, e, h1.keep hB h⟩
theorem DocSV.toV {w : World} {S : Nat → Prop} {B : Nat} (hS : ∀ k, S k → k < B) {d : D} {v : Value} (hd : DocSV w S d v) : DocV w B d v := by
  obtain ⟨v0, v1, v2, v3, v4, e, h1⟩ := hd
  exact ⟨v0, v1, v2, v3, v4, e, h1.toIn hS⟩
theorem DocV.toSV {w : World} {B : Nat} {d : D} {v : Value} (hd : DocV w B d v) : DocSV w (fun k => k < B) d v := by
  obtain ⟨v0, v1, v2, v3, v4, e, h1⟩ := hd
  exact ⟨v0, v1, v2, v3, v4, e, h1.toS⟩
theorem DocS.keys_ {w : World} {S : Nat → Prop} {d : D} {v0 v1 v2 v3 v4 : Value} (h : DocS w S d v0 v1 v2 v3 v4) : StrsS w S v3 d.keys := by
  obtain ⟨_, _, _, _, _⟩ := d
  simp only [DocS] at h
  exact h.2.2.2.1
theorem DocS.kids_ {w : World} {S : Nat → Prop} {d : D} {v0 v1 v2 v3 v4 : Value} (h : DocS w S d v0 v1 v2 v3 v4) : RowS w S d.kids v4 := by
  obtain ⟨_, _, _, _, _⟩ := d
  simp only [DocS] at h
  exact h.2.2.2.2
end Go.Proofs.YtdcempejdggkpaaGreatDoor
namespace Go.Proofs.YtdcempejdggkpaaGreatDoor
open Go.RowKit

/-- What the statement 'append(append(append([]E{}, l[:k]...), x), l[b:]...)' yields, step by step. -/
def WithPhi (e : TypeId) (s B pt fld : Nat) (A : Option Addr) (n c k b : Nat) (cs : List Value) (xv : Value) (fc : Array Value) : Nat → Value → (Nat → Nat × Nat) → World → Prop
  | 0, v, _, w => w.ownsRow B e s v 0 [] ∧ CapOkE v 0
  | 1, v, _, _ => v = .pointer (some ⟨pt, fld, none⟩)
  | 2, v, _, _ => v = .slice A n c
  | 3, v, _, _ => v = .int .i64 (k : Nat)
  | 4, v, _, _ => v = cutE s A 0 k c
  | 5, v, _, w => w.ownsRow B e s v k (cs.take (k * s)) ∧ CapOkE v k
  | 6, v, _, _ => v = xv
  | 7, v, _, w => ∃ g, v = .slice (some ⟨g, 0, none⟩) 1 1 ∧ w.heap[g]? = some (.cells fc e (0, 0))
  | 8, v, _, w => w.ownsRow B e s v (k + 1) (cs.take (k * s) ++ fc.toList) ∧ CapOkE v (k + 1)
  | 9, v, _, _ => v = .pointer (some ⟨pt, fld, none⟩)
  | 10, v, _, _ => v = .slice A n c
  | 11, v, _, _ => v = .int .i64 (b : Nat)
  | 12, v, _, _ => v = cutE s A b n c
  | 13, v, _, w => w.ownsRow B e s v (k + 1 + (n - b)) (cs.take (k * s) ++ fc.toList ++ cs.drop (b * s)) ∧ CapOkE v (k + 1 + (n - b))
  | _, _, _, _ => True
theorem withphi_keep {e : TypeId} {s B pt fld : Nat} {A : Option Addr} {n c k b : Nat} {cs : List Value} {xv : Value} {fc : Array Value} (hfc : fc.size ≤ s) : ∀ i v It w w', WithPhi e s B pt fld A n c k b cs xv fc i v It w → KeepE e s B (cs.take (k * s) ++ fc.toList ++ cs.drop (b * s)) w w' → WithPhi e s B pt fld A n c k b cs xv fc i v It w' := by
  intro i v It w w' h hb
  match i, h with
  | 0, h => exact ⟨hb.2.1 v 0 [] List.nil_prefix h.1, h.2⟩
  | 1, h => exact h
  | 2, h => exact h
  | 3, h => exact h
  | 4, h => exact h
  | 5, h => exact ⟨hb.2.1 v k _ (by rw [List.append_assoc]; exact List.prefix_append _ _) h.1, h.2⟩
  | 6, h => exact h
  | 7, ⟨g, e, h⟩ => exact ⟨g, e, hb.2.2 _ _ _ (.inr hfc) h⟩
  | 8, h => exact ⟨hb.2.1 v _ _ (List.prefix_append _ _) h.1, h.2⟩
  | 9, h => exact h
  | 10, h => exact h
  | 11, h => exact h
  | 12, h => exact h
  | 13, h => exact ⟨hb.2.1 v _ _ (List.prefix_refl _) h.1, h.2⟩
  | _ + 14, _ => exact trivial
theorem withphi_loc {e : TypeId} {s B pt fld : Nat} {A : Option Addr} {n c k b : Nat} {cs : List Value} {xv : Value} {fc : Array Value} : ∀ i j v It g w, WithPhi e s B pt fld A n c k b cs xv fc i v It w → WithPhi e s B pt fld A n c k b cs xv fc i v (setG It j g) w := by
  intro i j v It g w h
  match i, h with
  | 0, h => exact h
  | 1, h => exact h
  | 2, h => exact h
  | 3, h => exact h
  | 4, h => exact h
  | 5, h => exact h
  | 6, h => exact h
  | 7, h => exact h
  | 8, h => exact h
  | 9, h => exact h
  | 10, h => exact h
  | 11, h => exact h
  | 12, h => exact h
  | 13, h => exact h
  | _ + 14, _ => exact trivial
theorem elemS : Tryz.prog.underlying 22 = some (.slice (Tryz.prog.elem 22)) := by kernel_rfl
theorem sizeS (w : World) : (sizeOf (Tryz.prog.elem 22)).run Tryz.prog w = .ok 1 w := by kernel_rfl
theorem elemD : Tryz.prog.underlying 23 = some (.slice (Tryz.prog.elem 23)) := by kernel_rfl
theorem sizeD (w : World) : (sizeOf (Tryz.prog.elem 23)).run Tryz.prog w = .ok 5 w := by kernel_rfl
/-- Where a cut of a row below B begins. -/
theorem cutE_block {s : Nat} {A : Option Addr} {S : Nat → Prop} {l h c : Nat} (hA : ∀ a, A = some a → S a.block) : ∀ p : Addr, (cutE s A l h c).ownBlock = some p.block → S p.block := by
  intro p hp
  unfold cutE at hp
  cases A with
  | none => split at hp <;> simp [Value.ownBlock] at hp
  | some a =>
    have := hA a rfl
    split at hp
    · simp only [Value.ownBlock, Option.some.injEq] at hp; rwa [hp] at this
    · simp only [Value.ownBlock, Option.map_some, Option.some.injEq] at hp
      rw [block_of_add] at hp; rwa [hp] at this
/-- The two cuts of a row, and what lies below B. -/
structure Cuts (w : World) (s : Nat) (S : Nat → Prop) (A : Option Addr) (n c k b : Nat) (cs : List Value) : Prop where
  nc : n ≤ c
  kn : k ≤ n
  bn : b ≤ n
  blk : 0 < n → ∀ a, A = some a → S a.block
  one : RowE w s (cutE s A 0 k c) k (cs.take (k * s))
  two : RowE w s (cutE s A b n c) (n - b) (cs.drop (b * s))
theorem Cuts.of {w : World} {s : Nat} {S : Nat → Prop} {A : Option Addr} {n c k b : Nat} {cs : List Value} (hr : RowE w s (.slice A n c) n cs) (hk : k ≤ n) (hb : b ≤ n) (hA : 0 < n → ∀ a, A = some a → S a.block) : Cuts w s S A n c k b cs := by
  have hnc : n ≤ c := by obtain ⟨_, _, e, h, _⟩ := hr; injection e with _ _ e3; omega
  have hl : cs.length = n * s := hr.choose_spec.choose_spec.2.2.1
  refine ⟨hnc, hk, hb, hA, ?_, ?_⟩
  · have := rowE_cut (l := 0) (h := k) hr (Nat.zero_le _) hk
    simpa only [Nat.zero_mul, List.drop_zero, Nat.sub_zero] using this
  · have := rowE_cut (l := b) (h := n) hr hb (Nat.le_refl _)
    rwa [List.take_of_length_le (by rw [List.length_drop, hl, Nat.sub_mul]; omega)] at this
theorem Cuts.keep1 {w w' : World} {s : Nat} {S : Nat → Prop} {A : Option Addr} {n c k b : Nat} {cs : List Value} (h : Cuts w s S A n c k b cs) (hc : ∀ p : Addr, S p.block → w'.cell? p = w.cell? p) : RowE w' s (cutE s A 0 k c) k (cs.take (k * s)) := h.one.keep fun h0 p hp => hc p (cutE_block (h.blk (by have := h.kn; omega)) p hp)
theorem Cuts.keep2 {w w' : World} {s : Nat} {S : Nat → Prop} {A : Option Addr} {n c k b : Nat} {cs : List Value} (h : Cuts w s S A n c k b cs) (hc : ∀ p : Addr, S p.block → w'.cell? p = w.cell? p) : RowE w' s (cutE s A b n c) (n - b) (cs.drop (b * s)) := h.two.keep fun h0 p hp => hc p (cutE_block (h.blk (by omega)) p hp)
set_option maxHeartbeats 16000000 in
set_option maxRecDepth 100000 in
theorem with_any {d x : D} {s : ByteArray} {v u : Value} {k b : Nat} {mo : Bool} {w : World} {S : Nat → Prop} (hkd : d.kind ≤ 2) (hbk : b = if mo then k else k + 1) (hk1 : k ≤ d.keys.length) (hb1 : b ≤ d.keys.length) (hk2 : k ≤ d.kids.length) (hb2 : b ≤ d.kids.length) (hn1 : d.keys.length ≤ 4000) (hn2 : d.kids.length ≤ 4000) (hS : ∀ q, S q → q < w.heap.size) (hd : DocSV w S d v) (hx : DocSV w S x u) :
    Calls Tryz.prog 29 #[v, .int .i64 (k : Nat), .string s, u, .bool mo] w (fun e w' => ∃ z, e = .returned z ∧ DocSV w' (fun q => S q ∨ (w.heap.size + 4 ≤ q ∧ q < w'.heap.size)) (.mk d.kind d.num d.str (d.keys.take k ++ s :: d.keys.drop b) (d.kids.take k ++ x :: d.kids.drop b)) z ∧ Below w.heap.size w w') := by
  obtain ⟨d0, d1, d2, d3, d4, rfl, hdi⟩ := hd
  obtain ⟨u0, u1, u2, u3, u4, rfl, hxi⟩ := hx
  obtain ⟨A3, c3, A4, c4, rfl, rfl, rfl, rfl, rfl⟩ := hdi.forms
  obtain ⟨X3, x3c, X4, x4c, rfl, rfl, rfl, rfl, rfl⟩ := hxi.forms
  have hkv : RowS w S d.kids (.slice A4 d.kids.length c4) := hdi.kids_
  have hsv : StrsS w S (.slice A3 d.keys.length c3) d.keys := hdi.keys_
  obtain ⟨kcs, hkr, hkd2⟩ := rowE_rowS hkv
  have hsr := rowE_strsS hsv
  have hA3 : 0 < d.keys.length → ∀ a, A3 = some a → S a.block := fun h0 a ha => by
    obtain ⟨A', c', e, _, h⟩ := hsv
    injection e with e1 _ _
    subst e1
    obtain ⟨b', off', e, hb', _⟩ := h h0
    rw [ha] at e; injection e with e; subst e; exact hb'
  have hA4 : 0 < d.kids.length → ∀ a, A4 = some a → S a.block := fun h0 a ha => by
    obtain ⟨A', c', e, _, h⟩ := hkv
    injection e with e1 _ _
    subst e1
    obtain ⟨b', off', e, hb', _⟩ := h h0
    rw [ha] at e; injection e with e; subst e; exact hb'
  have CS := Lib.hid (Cuts.of (S := S) hsr hk1 hb1 hA3)
  have CK := Lib.hid (Cuts.of (S := S) hkr hk2 hb2 hA4)
  have HDR := Lib.hid hkd2; have HS := Lib.hid hS
  have HXI := Lib.hid hxi; have HDI := Lib.hid hdi
  clear hdi hxi hkv hsv hkr hkd2 hsr hA3 hA4 hS
  obtain ⟨W0, hW0⟩ : ∃ W0, W0 = (((w.alloc (.cells #[.int .i64 d.kind, .int .i64 d.num, .string d.str, .slice A3 d.keys.length c3, .slice A4 d.kids.length c4] 27)).alloc (.cells #[Value.int .i64 x.kind, .int .i64 x.num, .string x.str, .slice X3 x.keys.length x3c, .slice X4 x.kids.length x4c] 27)).alloc (.cells #[.int .i64 0, .int .i64 0, .string ⟨#[]⟩, .slice none 0 0, .slice none 0 0] 27)) := ⟨_, rfl⟩
  have hz0 : W0.heap.size = w.heap.size + 3 := by rw [hW0]; simp
  have hbd : Box5 W0 w.heap.size (.int .i64 d.kind) (.int .i64 d.num) (.string d.str) (.slice A3 d.keys.length c3) (.slice A4 d.kids.length c4) := by rw [hW0]; exact ((Box5.new w _ _ _ _ _).alloc _).alloc _
  have hbx : Box5 W0 (w.heap.size + 1) (.int .i64 x.kind) (.int .i64 x.num) (.string x.str) (.slice X3 x.keys.length x3c) (.slice X4 x.kids.length x4c) := by rw [hW0]; exact (Box5.new' (by simp) _ _ _ _ _).alloc _
  have hbr : Box5 W0 (w.heap.size + 2) (.int .i64 0) (.int .i64 0) (.string ⟨#[]⟩) (.slice none 0 0) (.slice none 0 0) := by rw [hW0]; exact Box5.new' (by simp) _ _ _ _ _
  have hbl : Below w.heap.size w W0 := by rw [hW0]; exact (((Below.refl _ _).alloc (Nat.le_refl _) _).alloc (by simp) _).alloc (by simp; omega) _
  obtain ⟨W1, hW1⟩ : ∃ W1, W1 = W0.alloc (.cells #[.int .i64 d.kind, .int .i64 d.num, .string d.str, .slice none 0 0, .slice none 0 0] 27) := ⟨_, rfl⟩
  have hz1 : W1.heap.size = w.heap.size + 4 := by rw [hW1]; simp [hz0]
  have HBD : Hid (Box5 W1 w.heap.size (.int .i64 d.kind) (.int .i64 d.num) (.string d.str) (.slice A3 d.keys.length c3) (.slice A4 d.kids.length c4)) := by rw [hW1]; exact hbd.alloc _
  have HBX : Hid (Box5 W1 (w.heap.size + 1) (.int .i64 x.kind) (.int .i64 x.num) (.string x.str) (.slice X3 x.keys.length x3c) (.slice X4 x.kids.length x4c)) := by rw [hW1]; exact hbx.alloc _
  have HBR : Hid (Box5 W1 (w.heap.size + 2) (.int .i64 0) (.int .i64 0) (.string ⟨#[]⟩) (.slice none 0 0) (.slice none 0 0)) := by rw [hW1]; exact hbr.alloc _
  have HBO : Hid (Box5 W1 (w.heap.size + 3) (.int .i64 d.kind) (.int .i64 d.num) (.string d.str) (.slice none 0 0) (.slice none 0 0)) := by rw [hW1]; exact Box5.new' hz0 _ _ _ _ _
  have HBL : Hid (Below w.heap.size w W1) := by rw [hW1]; exact hbl.alloc (by omega) _
  have HW0 := Lib.hid hW0; have HW1 := Lib.hid hW1
  have hdk : d.kind ≤ 2 := hkd
  have hkw : IntKind.i64.wrap ((k : Int) + 1) = (k : Int) + 1 := IntWalk.i64_in _ (by omega)
  have HBK := Lib.hid hbk
  obtain ⟨i0, hi, hz0', hz1', hz2'⟩ := info_parts infoS
  have I1 := Lib.hid hi; have I2 := Lib.hid hz0'; have I3 := Lib.hid hz1'; have I4 := Lib.hid hz2'
  clear hi hz0' hz1' hz2'
  obtain ⟨j0, hi, hz0', hz1', hz2'⟩ := info_parts infoD
  have J1 := Lib.hid hi; have J2 := Lib.hid hz0'; have J3 := Lib.hid hz1'; have J4 := Lib.hid hz2'
  clear hi hz0' hz1' hz2'
  clear hbd hbx hbr hbl hW0 hW1 hbk hkd
  have hdl : w.heap.size < W1.heap.size := by omega
  have hxl : w.heap.size + 1 < W1.heap.size := by omega
  go_enter Tryz.func29, Tryz.ntmps29
  go_upto_if 22 with fail
  go_cut [12] from 23 (fun s12 wx => s12 = .int .i64 (b : Nat) ∧ wx = W1)
  case first =>
    cases mo with
    | true =>
      go_wp2_with fail
      go_meet
      case rel => exact ⟨by rw [HBK.out]; rfl, by rw [HW1.out, HW0.out]⟩
    | false =>
      go_wp2_with fail
      go_meet
      case rel => exact ⟨by rw [HBK.out]; rfl, by rw [HW1.out, HW0.out]⟩
  case rest =>
    obtain ⟨rfl, hwc⟩ := hcut
    rw [hwc]
    clear hkw hwc
    obtain ⟨q0, q1, q2, q3, q4⟩ := HBD.out.cells
    go_wp2_with fail
    clear q0 q1 q2 q3 q4
    have WQ : Hid (∀ wq : World, KeepE 9 1 W1.heap.size ((d.keys.map Value.string).take (k * 1) ++ #[Value.string s].toList ++ (d.keys.map Value.string).drop (b * 1)) W1.drew wq → Below W1.heap.size W1 wq) := fun wq h => ((KeepE.of_below (Nat.le_refl _) (Below.refl _ _).drew).trans _ _ _ h).1
    have WC : Hid (∀ wq : World, KeepE 9 1 W1.heap.size ((d.keys.map Value.string).take (k * 1) ++ #[Value.string s].toList ++ (d.keys.map Value.string).drop (b * 1)) W1.drew wq → ∀ p : Addr, S p.block → wq.cell? p = w.cell? p) := fun wq h p hp => by
      have := HS.out p.block hp
      exact ((WQ.out wq h).cell (by omega)).trans (HBL.out.cell (by omega))
    have wst := HBO.out.cells
    refine wp_region_grow4_calm (KeepE 9 1 W1.heap.size ((d.keys.map Value.string).take (k * 1) ++ #[Value.string s].toList ++ (d.keys.map Value.string).drop (b * 1))) (fun _ => KeepE 9 1 W1.heap.size ((d.keys.map Value.string).take (k * 1) ++ #[Value.string s].toList ++ (d.keys.map Value.string).drop (b * 1))) (fun _ _ _ h => h) (fun _ _ => KeepE.refl _ _ _ _ _) (KeepE.refl _ _ _ _) KeepE.trans 14 58 [false, false, false, false, false, false, false, false, false, false, false, false, false, false]
      (WithPhi 9 1 W1.heap.size w.heap.size 3 A3 d.keys.length c3 k b (d.keys.map Value.string) (Value.string s) #[Value.string s]) (by kernel_rfl) (by kernel_rfl) (by simp) (fun _ _ h => h.1.size) (fun i' k' v' It' g' w' _ _ h => withphi_loc i' k' v' It' g' w' h) (fun i' j' v' It' w' w'' _ _ h hk => withphi_keep (fc := #[Value.string s]) (by simp) i' v' It' w' w'' h hk) ?_ ?_
    · simp only [List.take_succ_cons, List.take_zero]
      refine ⟨?_, ?_, ?_, ?_, ?_, ?_, ?_, ?_, ?_, ?_, ?_, ?_, ?_, ?_, trivial⟩
      · intro vs It wq hq hdep K' hK
        simp only [depFacts, putAll, Act.put, List.setIfInBounds_toArray, List.set_cons_zero, List.set_cons_succ, Nat.zero_add, Nat.reduceAdd] at hdep hK ⊢
        have hb := (Below.refl wq.heap.size wq).alloc (Nat.le_refl _) (.cells #[] 9)
        go_simp
        exact hK _ _ (KeepE.of_below (WQ.out wq hq).size hb) ⟨⟨by simp, .inr ⟨_, 0, #[], rfl, (WQ.out wq hq).size, heap_alloc_new wq _, Nat.le_refl _, by unfold maxLen; omega, by simp, by simp⟩⟩, ⟨_, _, rfl, fun _ => rfl⟩⟩
      · intro vs It wq hq hdep K' hK
        simp only [depFacts, putAll, Act.put, List.setIfInBounds_toArray, List.set_cons_zero, List.set_cons_succ, Nat.zero_add, Nat.reduceAdd] at hdep hK ⊢
        go_simp
        exact hK _ _ (KeepE.refl _ _ _ _ _) rfl
      · intro vs It wq hq hdep K' hK
        simp only [depFacts, putAll, Act.put, List.setIfInBounds_toArray, List.set_cons_zero, List.set_cons_succ, Nat.zero_add, Nat.reduceAdd] at hdep hK ⊢
        have f1 : vs 1 = .pointer (some ⟨w.heap.size, 3, none⟩) := hdep.1 rfl
        rw [f1] at hK ⊢
        obtain ⟨x0, x1, x2, x3, x4⟩ := (HBD.out.same ((WQ.out wq hq).block _ hdl)).cells
        go_simp
        exact hK _ _ (KeepE.refl _ _ _ _ _) rfl
      · intro vs It wq hq hdep K' hK
        simp only [depFacts, putAll, Act.put, List.setIfInBounds_toArray, List.set_cons_zero, List.set_cons_succ, Nat.zero_add, Nat.reduceAdd] at hdep hK ⊢
        go_simp
        exact hK _ _ (KeepE.refl _ _ _ _ _) rfl
      · intro vs It wq hq hdep K' hK
        simp only [depFacts, putAll, Act.put, List.setIfInBounds_toArray, List.set_cons_zero, List.set_cons_succ, Nat.zero_add, Nat.reduceAdd] at hdep hK ⊢
        have f1 : vs 2 = .slice A3 d.keys.length c3 := hdep.1 rfl
        have f2 : vs 3 = .int .i64 (k : Nat) := hdep.2.1 rfl
        exact op_cutE_h elemS sizeS (.tmp 29) (.tmp 30) rfl f1 f2 (Nat.le_trans CS.out.kn CS.out.nc) (hK _ _ (KeepE.refl _ _ _ _ _) rfl)
      · intro vs It wq hq hdep K' hK
        simp only [depFacts, putAll, Act.put, List.setIfInBounds_toArray, List.set_cons_zero, List.set_cons_succ, Nat.zero_add, Nat.reduceAdd] at hdep hK ⊢
        have f1 : wq.ownsRow W1.heap.size 9 1 (vs 0) 0 [] ∧ CapOkE (vs 0) 0 := hdep.1 rfl
        have f2 : vs 4 = cutE 1 A3 0 k c3 := hdep.2.1 rfl
        obtain ⟨v', w', hr, ho, hco, hk⟩ := append_keepE (P := Tryz.prog) (w := wq) (s := 1) (bytes := 16) (B := W1.heap.size) (L := ((d.keys.map Value.string).take (k * 1) ++ #[Value.string s].toList ++ (d.keys.map Value.string).drop (b * 1))) (m := 0) (n := k) (M := []) (N := ((d.keys.map Value.string).take (k * 1))) (v := vs 0) (u := vs 4) (t := 22) (ty := 22) (e := 9) i0 _ (by rfl) I1.out I2.out (by decide) (by decide) (by decide) I3.out I4.out rfl (WQ.out wq hq).size f1.1 f1.2 (by rw [f2]; exact CS.out.keep1 (WC.out wq hq)) (by rw [List.append_assoc, List.nil_append]; exact List.prefix_append _ _) (by have := CS.out.kn; omega)
        rw [Nat.zero_add] at ho hco
        rw [List.nil_append] at ho
        exact op_appendE (.tmp 27) (.tmp 31) 22 rfl rfl rfl hr (hK _ _ hk ⟨ho, hco⟩)
      · intro vs It wq hq hdep K' hK
        simp only [depFacts, putAll, Act.put, List.setIfInBounds_toArray, List.set_cons_zero, List.set_cons_succ, Nat.zero_add, Nat.reduceAdd] at hdep hK ⊢
        go_simp
        exact hK _ _ (KeepE.refl _ _ _ _ _) rfl
      · intro vs It wq hq hdep K' hK
        simp only [depFacts, putAll, Act.put, List.setIfInBounds_toArray, List.set_cons_zero, List.set_cons_succ, Nat.zero_add, Nat.reduceAdd] at hdep hK ⊢
        have f1 : vs 6 = Value.string s := hdep.1 rfl
        rw [f1] at hK ⊢
        go_simp
        exact hK _ _ (KeepE.of_below (WQ.out wq hq).size ((Below.refl _ _).alloc (Nat.le_refl _) _)) ⟨_, rfl, heap_alloc_new wq _⟩
      · intro vs It wq hq hdep K' hK
        simp only [depFacts, putAll, Act.put, List.setIfInBounds_toArray, List.set_cons_zero, List.set_cons_succ, Nat.zero_add, Nat.reduceAdd] at hdep hK ⊢
        have f1 : wq.ownsRow W1.heap.size 9 1 (vs 5) k ((d.keys.map Value.string).take (k * 1)) ∧ CapOkE (vs 5) k := hdep.1 rfl
        obtain ⟨g, f2, hg⟩ : ∃ g, vs 7 = .slice (some ⟨g, 0, none⟩) 1 1 ∧ wq.heap[g]? = some (.cells #[Value.string s] 9 (0, 0)) := hdep.2.1 rfl
        obtain ⟨v', w', hr, ho, hco, hk⟩ := append_keepE (P := Tryz.prog) (w := wq) (s := 1) (bytes := 16) (B := W1.heap.size) (L := ((d.keys.map Value.string).take (k * 1) ++ #[Value.string s].toList ++ (d.keys.map Value.string).drop (b * 1))) (m := k) (n := 1) (M := ((d.keys.map Value.string).take (k * 1))) (N := #[Value.string s].toList) (v := vs 5) (u := vs 7) (t := 22) (ty := 22) (e := 9) i0 _ (by rfl) I1.out I2.out (by decide) (by decide) (by decide) I3.out I4.out rfl (WQ.out wq hq).size f1.1 f1.2 (by rw [f2]; exact rowE_one hg rfl (by simp [Value.oneCell'])) (List.prefix_append _ _) (by have := CS.out.kn; omega)
        exact op_appendE (.tmp 32) (.tmp 34) 22 rfl rfl rfl hr (hK _ _ hk ⟨ho, hco⟩)
      · intro vs It wq hq hdep K' hK
        simp only [depFacts, putAll, Act.put, List.setIfInBounds_toArray, List.set_cons_zero, List.set_cons_succ, Nat.zero_add, Nat.reduceAdd] at hdep hK ⊢
        go_simp
        exact hK _ _ (KeepE.refl _ _ _ _ _) rfl
      · intro vs It wq hq hdep K' hK
        simp only [depFacts, putAll, Act.put, List.setIfInBounds_toArray, List.set_cons_zero, List.set_cons_succ, Nat.zero_add, Nat.reduceAdd] at hdep hK ⊢
        have f1 : vs 9 = .pointer (some ⟨w.heap.size, 3, none⟩) := hdep.1 rfl
        rw [f1] at hK ⊢
        obtain ⟨x0, x1, x2, x3, x4⟩ := (HBD.out.same ((WQ.out wq hq).block _ hdl)).cells
        go_simp
        exact hK _ _ (KeepE.refl _ _ _ _ _) rfl
      · intro vs It wq hq hdep K' hK
        simp only [depFacts, putAll, Act.put, List.setIfInBounds_toArray, List.set_cons_zero, List.set_cons_succ, Nat.zero_add, Nat.reduceAdd] at hdep hK ⊢
        go_simp
        exact hK _ _ (KeepE.refl _ _ _ _ _) rfl
      · intro vs It wq hq hdep K' hK
        simp only [depFacts, putAll, Act.put, List.setIfInBounds_toArray, List.set_cons_zero, List.set_cons_succ, Nat.zero_add, Nat.reduceAdd] at hdep hK ⊢
        have f1 : vs 10 = .slice A3 d.keys.length c3 := hdep.1 rfl
        have f2 : vs 11 = .int .i64 (b : Nat) := hdep.2.1 rfl
        exact op_cutE_l elemS sizeS (.tmp 37) (.tmp 38) rfl f1 f2 CS.out.bn (hK _ _ (KeepE.refl _ _ _ _ _) rfl)
      · intro vs It wq hq hdep K' hK
        simp only [depFacts, putAll, Act.put, List.setIfInBounds_toArray, List.set_cons_zero, List.set_cons_succ, Nat.zero_add, Nat.reduceAdd] at hdep hK ⊢
        have f1 : wq.ownsRow W1.heap.size 9 1 (vs 8) (k + 1) ((d.keys.map Value.string).take (k * 1) ++ #[Value.string s].toList) ∧ CapOkE (vs 8) (k + 1) := hdep.1 rfl
        have f2 : vs 12 = cutE 1 A3 b d.keys.length c3 := hdep.2.1 rfl
        obtain ⟨v', w', hr, ho, hco, hk⟩ := append_keepE (P := Tryz.prog) (w := wq) (s := 1) (bytes := 16) (B := W1.heap.size) (L := ((d.keys.map Value.string).take (k * 1) ++ #[Value.string s].toList ++ (d.keys.map Value.string).drop (b * 1))) (m := k + 1) (n := d.keys.length - b) (M := ((d.keys.map Value.string).take (k * 1) ++ #[Value.string s].toList)) (N := ((d.keys.map Value.string).drop (b * 1))) (v := vs 8) (u := vs 12) (t := 22) (ty := 22) (e := 9) i0 _ (by rfl) I1.out I2.out (by decide) (by decide) (by decide) I3.out I4.out rfl (WQ.out wq hq).size f1.1 f1.2 (by rw [f2]; exact CS.out.keep2 (WC.out wq hq)) (List.prefix_refl _) (by have := CS.out.kn; omega)
        exact op_appendE (.tmp 35) (.tmp 39) 22 rfl rfl rfl hr (hK _ _ hk ⟨ho, hco⟩)
    · intro vs It wq hq _ hall
      simp only [putAll, Act.put, List.setIfInBounds_toArray, List.set_cons_zero, List.set_cons_succ, List.take_succ_cons, List.take_zero, List.drop_succ_cons, List.drop_zero, allFacts, Nat.zero_add, Nat.reduceAdd] at hall ⊢
      obtain ⟨_, _, _, _, _, _, _, _, _, _, _, _, _, e13, _⟩ := hall
      obtain ⟨ho, AA, cc, e13, _⟩ : wq.ownsRow W1.heap.size 9 1 (vs 13) (k + 1 + (d.keys.length - b)) ((d.keys.map Value.string).take (k * 1) ++ #[Value.string s].toList ++ (d.keys.map Value.string).drop (b * 1)) ∧ CapOkE (vs 13) (k + 1 + (d.keys.length - b)) := e13
      rw [e13] at ho ⊢
      have HQ1 := Lib.hid (WQ.out wq hq)
      have hzq := (WQ.out wq hq).size
      have HO1 := Lib.hid ho
      have hbo := HBO.out.same ((WQ.out wq hq).block _ (by omega))
      obtain ⟨q0, q1, q2, q3, q4⟩ := hbo.cells
      have q5 := hbo.frozen
      have HBO1 := Lib.hid hbo
      clear hbo ho hq WQ WC wst
      go_wp2_with fail
      refine NoPanic.normal ?_
      clear q0 q1 q2 q3 q4 q5 e13
      obtain ⟨N1, hN1⟩ : ∃ N1, N1 = k + 1 + (d.keys.length - b) := ⟨_, rfl⟩
      rw [← hN1] at HO1 ⊢
      have HN1 := Lib.hid hN1
      obtain ⟨W2, hW2⟩ : ∃ W2, W2 = wq.setCell ⟨w.heap.size + 3, 3, none⟩ (.slice AA N1 cc) := ⟨_, rfl⟩
      rw [← hW2]
      have hfar2 : ∀ q, q ≠ w.heap.size + 3 → W2.heap[q]? = wq.heap[q]? := fun q hq => by rw [hW2]; exact Below.heap_setCell _ _ _ q hq
      have hsz2 : W2.heap.size = wq.heap.size := by rw [hW2]; simp [World.setCell]
      have HBD2 : Hid (Box5 W2 w.heap.size (.int .i64 d.kind) (.int .i64 d.num) (.string d.str) (.slice A3 d.keys.length c3) (.slice A4 d.kids.length c4)) := (HBD.out.same (HQ1.out.block _ (by omega))).same (hfar2 _ (by omega))
      have HBX2 : Hid (Box5 W2 (w.heap.size + 1) (.int .i64 x.kind) (.int .i64 x.num) (.string x.str) (.slice X3 x.keys.length x3c) (.slice X4 x.kids.length x4c)) := (HBX.out.same (HQ1.out.block _ (by omega))).same (hfar2 _ (by omega))
      have HBR2 : Hid (Box5 W2 (w.heap.size + 2) (.int .i64 0) (.int .i64 0) (.string ⟨#[]⟩) (.slice none 0 0) (.slice none 0 0)) := (HBR.out.same (HQ1.out.block _ (by omega))).same (hfar2 _ (by omega))
      have HBO2 : Hid (Box5 W2 (w.heap.size + 3) (.int .i64 d.kind) (.int .i64 d.num) (.string d.str) (.slice AA N1 cc) (.slice none 0 0)) := by rw [hW2]; exact HBO1.out.set3 _
      have HBL2 : Hid (Below w.heap.size w W2) := by rw [hW2]; exact (HBL.out.trans (HQ1.out.mono (by omega))).setCell (by show w.heap.size ≤ w.heap.size + 3; omega) _
      have HO2 : Hid (W2.ownsRow W1.heap.size 9 1 (.slice AA N1 cc) N1 ((d.keys.map Value.string).take (k * 1) ++ #[Value.string s].toList ++ (d.keys.map Value.string).drop (b * 1))) := by rw [hW2]; exact ownsRow_setCell_below HO1.out (by show w.heap.size + 3 < W1.heap.size; omega) _
      have hdl2 : w.heap.size < W2.heap.size := by omega
      have hxl2 : w.heap.size + 1 < W2.heap.size := by omega
      have hz2 : w.heap.size + 4 ≤ W2.heap.size := by omega
      clear hW2 hfar2 hN1
      go_wp2_with fail
      have WQ2 : Hid (∀ wq : World, KeepE 27 5 W2.heap.size (kcs.take (k * 5) ++ #[Value.int .i64 x.kind, .int .i64 x.num, .string x.str, .slice X3 x.keys.length x3c, .slice X4 x.kids.length x4c].toList ++ kcs.drop (b * 5)) W2.drew wq → Below W2.heap.size W2 wq) := fun wq h => ((KeepE.of_below (Nat.le_refl _) (Below.refl _ _).drew).trans _ _ _ h).1
      have WC2 : Hid (∀ wq : World, KeepE 27 5 W2.heap.size (kcs.take (k * 5) ++ #[Value.int .i64 x.kind, .int .i64 x.num, .string x.str, .slice X3 x.keys.length x3c, .slice X4 x.kids.length x4c].toList ++ kcs.drop (b * 5)) W2.drew wq → ∀ p : Addr, S p.block → wq.cell? p = w.cell? p) := fun wq h p hp => by
        have := HS.out p.block hp
        exact ((WQ2.out wq h).cell (by omega)).trans (HBL2.out.cell (by omega))
      refine wp_region_grow4_calm (KeepE 27 5 W2.heap.size (kcs.take (k * 5) ++ #[Value.int .i64 x.kind, .int .i64 x.num, .string x.str, .slice X3 x.keys.length x3c, .slice X4 x.kids.length x4c].toList ++ kcs.drop (b * 5))) (fun _ => KeepE 27 5 W2.heap.size (kcs.take (k * 5) ++ #[Value.int .i64 x.kind, .int .i64 x.num, .string x.str, .slice X3 x.keys.length x3c, .slice X4 x.kids.length x4c].toList ++ kcs.drop (b * 5))) (fun _ _ _ h => h) (fun _ _ => KeepE.refl _ _ _ _ _) (KeepE.refl _ _ _ _) KeepE.trans 14 58 [false, false, false, false, false, false, false, false, false, false, false, false, false, false]
        (WithPhi 27 5 W2.heap.size w.heap.size 4 A4 d.kids.length c4 k b kcs (Value.agg #[Value.int .i64 x.kind, .int .i64 x.num, .string x.str, .slice X3 x.keys.length x3c, .slice X4 x.kids.length x4c]) #[Value.int .i64 x.kind, .int .i64 x.num, .string x.str, .slice X3 x.keys.length x3c, .slice X4 x.kids.length x4c]) (by kernel_rfl) (by kernel_rfl) (by simp) (fun _ _ h => h.1.size) (fun i' k' v' It' g' w' _ _ h => withphi_loc i' k' v' It' g' w' h) (fun i' j' v' It' w' w'' _ _ h hk => withphi_keep (fc := #[Value.int .i64 x.kind, .int .i64 x.num, .string x.str, .slice X3 x.keys.length x3c, .slice X4 x.kids.length x4c]) (by simp) i' v' It' w' w'' h hk) ?_ ?_
      · simp only [List.take_succ_cons, List.take_zero]
        refine ⟨?_, ?_, ?_, ?_, ?_, ?_, ?_, ?_, ?_, ?_, ?_, ?_, ?_, ?_, trivial⟩
        · intro vs It wq hq hdep K' hK
          simp only [depFacts, putAll, Act.put, List.setIfInBounds_toArray, List.set_cons_zero, List.set_cons_succ, Nat.zero_add, Nat.reduceAdd] at hdep hK ⊢
          have hb := (Below.refl wq.heap.size wq).alloc (Nat.le_refl _) (.cells #[] 27)
          go_simp
          exact hK _ _ (KeepE.of_below (WQ2.out wq hq).size hb) ⟨⟨by simp, .inr ⟨_, 0, #[], rfl, (WQ2.out wq hq).size, heap_alloc_new wq _, Nat.le_refl _, by unfold maxLen; omega, by simp, by simp⟩⟩, ⟨_, _, rfl, fun _ => rfl⟩⟩
        · intro vs It wq hq hdep K' hK
          simp only [depFacts, putAll, Act.put, List.setIfInBounds_toArray, List.set_cons_zero, List.set_cons_succ, Nat.zero_add, Nat.reduceAdd] at hdep hK ⊢
          go_simp
          exact hK _ _ (KeepE.refl _ _ _ _ _) rfl
        · intro vs It wq hq hdep K' hK
          simp only [depFacts, putAll, Act.put, List.setIfInBounds_toArray, List.set_cons_zero, List.set_cons_succ, Nat.zero_add, Nat.reduceAdd] at hdep hK ⊢
          have f1 : vs 1 = .pointer (some ⟨w.heap.size, 4, none⟩) := hdep.1 rfl
          rw [f1] at hK ⊢
          obtain ⟨x0, x1, x2, x3, x4⟩ := (HBD2.out.same ((WQ2.out wq hq).block _ hdl2)).cells
          go_simp
          exact hK _ _ (KeepE.refl _ _ _ _ _) rfl
        · intro vs It wq hq hdep K' hK
          simp only [depFacts, putAll, Act.put, List.setIfInBounds_toArray, List.set_cons_zero, List.set_cons_succ, Nat.zero_add, Nat.reduceAdd] at hdep hK ⊢
          go_simp
          exact hK _ _ (KeepE.refl _ _ _ _ _) rfl
        · intro vs It wq hq hdep K' hK
          simp only [depFacts, putAll, Act.put, List.setIfInBounds_toArray, List.set_cons_zero, List.set_cons_succ, Nat.zero_add, Nat.reduceAdd] at hdep hK ⊢
          have f1 : vs 2 = .slice A4 d.kids.length c4 := hdep.1 rfl
          have f2 : vs 3 = .int .i64 (k : Nat) := hdep.2.1 rfl
          exact op_cutE_h elemD sizeD (.tmp 44) (.tmp 45) rfl f1 f2 (Nat.le_trans CK.out.kn CK.out.nc) (hK _ _ (KeepE.refl _ _ _ _ _) rfl)
        · intro vs It wq hq hdep K' hK
          simp only [depFacts, putAll, Act.put, List.setIfInBounds_toArray, List.set_cons_zero, List.set_cons_succ, Nat.zero_add, Nat.reduceAdd] at hdep hK ⊢
          have f1 : wq.ownsRow W2.heap.size 27 5 (vs 0) 0 [] ∧ CapOkE (vs 0) 0 := hdep.1 rfl
          have f2 : vs 4 = cutE 5 A4 0 k c4 := hdep.2.1 rfl
          obtain ⟨v', w', hr, ho, hco, hk⟩ := append_keepE (P := Tryz.prog) (w := wq) (s := 5) (bytes := 80) (B := W2.heap.size) (L := (kcs.take (k * 5) ++ #[Value.int .i64 x.kind, .int .i64 x.num, .string x.str, .slice X3 x.keys.length x3c, .slice X4 x.kids.length x4c].toList ++ kcs.drop (b * 5))) (m := 0) (n := k) (M := []) (N := (kcs.take (k * 5))) (v := vs 0) (u := vs 4) (t := 23) (ty := 23) (e := 27) j0 _ (by rfl) J1.out J2.out (by decide) (by decide) (by decide) J3.out J4.out rfl (WQ2.out wq hq).size f1.1 f1.2 (by rw [f2]; exact CK.out.keep1 (WC2.out wq hq)) (by rw [List.append_assoc, List.nil_append]; exact List.prefix_append _ _) (by have := CK.out.kn; omega)
          rw [Nat.zero_add] at ho hco
          rw [List.nil_append] at ho
          exact op_appendE (.tmp 42) (.tmp 46) 23 rfl rfl rfl hr (hK _ _ hk ⟨ho, hco⟩)
        · intro vs It wq hq hdep K' hK
          simp only [depFacts, putAll, Act.put, List.setIfInBounds_toArray, List.set_cons_zero, List.set_cons_succ, Nat.zero_add, Nat.reduceAdd] at hdep hK ⊢
          obtain ⟨x0, x1, x2, x3, x4⟩ := (HBX2.out.same ((WQ2.out wq hq).block _ hxl2)).cells
          go_simp
          exact hK _ _ (KeepE.refl _ _ _ _ _) rfl
        · intro vs It wq hq hdep K' hK
          simp only [depFacts, putAll, Act.put, List.setIfInBounds_toArray, List.set_cons_zero, List.set_cons_succ, Nat.zero_add, Nat.reduceAdd] at hdep hK ⊢
          have f1 : vs 6 = Value.agg #[Value.int .i64 x.kind, .int .i64 x.num, .string x.str, .slice X3 x.keys.length x3c, .slice X4 x.kids.length x4c] := hdep.1 rfl
          rw [f1] at hK ⊢
          go_simp
          exact hK _ _ (KeepE.of_below (WQ2.out wq hq).size ((Below.refl _ _).alloc (Nat.le_refl _) _)) ⟨_, rfl, heap_alloc_new wq _⟩
        · intro vs It wq hq hdep K' hK
          simp only [depFacts, putAll, Act.put, List.setIfInBounds_toArray, List.set_cons_zero, List.set_cons_succ, Nat.zero_add, Nat.reduceAdd] at hdep hK ⊢
          have f1 : wq.ownsRow W2.heap.size 27 5 (vs 5) k (kcs.take (k * 5)) ∧ CapOkE (vs 5) k := hdep.1 rfl
          obtain ⟨g, f2, hg⟩ : ∃ g, vs 7 = .slice (some ⟨g, 0, none⟩) 1 1 ∧ wq.heap[g]? = some (.cells #[Value.int .i64 x.kind, .int .i64 x.num, .string x.str, .slice X3 x.keys.length x3c, .slice X4 x.kids.length x4c] 27 (0, 0)) := hdep.2.1 rfl
          obtain ⟨v', w', hr, ho, hco, hk⟩ := append_keepE (P := Tryz.prog) (w := wq) (s := 5) (bytes := 80) (B := W2.heap.size) (L := (kcs.take (k * 5) ++ #[Value.int .i64 x.kind, .int .i64 x.num, .string x.str, .slice X3 x.keys.length x3c, .slice X4 x.kids.length x4c].toList ++ kcs.drop (b * 5))) (m := k) (n := 1) (M := (kcs.take (k * 5))) (N := #[Value.int .i64 x.kind, .int .i64 x.num, .string x.str, .slice X3 x.keys.length x3c, .slice X4 x.kids.length x4c].toList) (v := vs 5) (u := vs 7) (t := 23) (ty := 23) (e := 27) j0 _ (by rfl) J1.out J2.out (by decide) (by decide) (by decide) J3.out J4.out rfl (WQ2.out wq hq).size f1.1 f1.2 (by rw [f2]; exact rowE_one hg rfl (fun u hu => HXI.out.one u (by simpa using hu))) (List.prefix_append _ _) (by have := CK.out.kn; omega)
          exact op_appendE (.tmp 47) (.tmp 49) 23 rfl rfl rfl hr (hK _ _ hk ⟨ho, hco⟩)
        · intro vs It wq hq hdep K' hK
          simp only [depFacts, putAll, Act.put, List.setIfInBounds_toArray, List.set_cons_zero, List.set_cons_succ, Nat.zero_add, Nat.reduceAdd] at hdep hK ⊢
          go_simp
          exact hK _ _ (KeepE.refl _ _ _ _ _) rfl
        · intro vs It wq hq hdep K' hK
          simp only [depFacts, putAll, Act.put, List.setIfInBounds_toArray, List.set_cons_zero, List.set_cons_succ, Nat.zero_add, Nat.reduceAdd] at hdep hK ⊢
          have f1 : vs 9 = .pointer (some ⟨w.heap.size, 4, none⟩) := hdep.1 rfl
          rw [f1] at hK ⊢
          obtain ⟨x0, x1, x2, x3, x4⟩ := (HBD2.out.same ((WQ2.out wq hq).block _ hdl2)).cells
          go_simp
          exact hK _ _ (KeepE.refl _ _ _ _ _) rfl
        · intro vs It wq hq hdep K' hK
          simp only [depFacts, putAll, Act.put, List.setIfInBounds_toArray, List.set_cons_zero, List.set_cons_succ, Nat.zero_add, Nat.reduceAdd] at hdep hK ⊢
          go_simp
          exact hK _ _ (KeepE.refl _ _ _ _ _) rfl
        · intro vs It wq hq hdep K' hK
          simp only [depFacts, putAll, Act.put, List.setIfInBounds_toArray, List.set_cons_zero, List.set_cons_succ, Nat.zero_add, Nat.reduceAdd] at hdep hK ⊢
          have f1 : vs 10 = .slice A4 d.kids.length c4 := hdep.1 rfl
          have f2 : vs 11 = .int .i64 (b : Nat) := hdep.2.1 rfl
          exact op_cutE_l elemD sizeD (.tmp 52) (.tmp 53) rfl f1 f2 CK.out.bn (hK _ _ (KeepE.refl _ _ _ _ _) rfl)
        · intro vs It wq hq hdep K' hK
          simp only [depFacts, putAll, Act.put, List.setIfInBounds_toArray, List.set_cons_zero, List.set_cons_succ, Nat.zero_add, Nat.reduceAdd] at hdep hK ⊢
          have f1 : wq.ownsRow W2.heap.size 27 5 (vs 8) (k + 1) (kcs.take (k * 5) ++ #[Value.int .i64 x.kind, .int .i64 x.num, .string x.str, .slice X3 x.keys.length x3c, .slice X4 x.kids.length x4c].toList) ∧ CapOkE (vs 8) (k + 1) := hdep.1 rfl
          have f2 : vs 12 = cutE 5 A4 b d.kids.length c4 := hdep.2.1 rfl
          obtain ⟨v', w', hr, ho, hco, hk⟩ := append_keepE (P := Tryz.prog) (w := wq) (s := 5) (bytes := 80) (B := W2.heap.size) (L := (kcs.take (k * 5) ++ #[Value.int .i64 x.kind, .int .i64 x.num, .string x.str, .slice X3 x.keys.length x3c, .slice X4 x.kids.length x4c].toList ++ kcs.drop (b * 5))) (m := k + 1) (n := d.kids.length - b) (M := (kcs.take (k * 5) ++ #[Value.int .i64 x.kind, .int .i64 x.num, .string x.str, .slice X3 x.keys.length x3c, .slice X4 x.kids.length x4c].toList)) (N := (kcs.drop (b * 5))) (v := vs 8) (u := vs 12) (t := 23) (ty := 23) (e := 27) j0 _ (by rfl) J1.out J2.out (by decide) (by decide) (by decide) J3.out J4.out rfl (WQ2.out wq hq).size f1.1 f1.2 (by rw [f2]; exact CK.out.keep2 (WC2.out wq hq)) (List.prefix_refl _) (by have := CK.out.kn; omega)
          exact op_appendE (.tmp 50) (.tmp 54) 23 rfl rfl rfl hr (hK _ _ hk ⟨ho, hco⟩)
      · intro vs It wq hq _ hall
        simp only [putAll, Act.put, List.setIfInBounds_toArray, List.set_cons_zero, List.set_cons_succ, List.take_succ_cons, List.take_zero, List.drop_succ_cons, List.drop_zero, allFacts, Nat.zero_add, Nat.reduceAdd] at hall ⊢
        obtain ⟨_, _, _, _, _, _, _, _, _, _, _, _, _, e13, _⟩ := hall
        obtain ⟨ho, AB, cd, e13, _⟩ : wq.ownsRow W2.heap.size 27 5 (vs 13) (k + 1 + (d.kids.length - b)) (kcs.take (k * 5) ++ #[Value.int .i64 x.kind, .int .i64 x.num, .string x.str, .slice X3 x.keys.length x3c, .slice X4 x.kids.length x4c].toList ++ kcs.drop (b * 5)) ∧ CapOkE (vs 13) (k + 1 + (d.kids.length - b)) := e13
        rw [e13] at ho ⊢
        have HQ3 := Lib.hid (WQ2.out wq hq)
        have HC3 := Lib.hid (WC2.out wq hq)
        have hzq3 := (WQ2.out wq hq).size
        have HO3 := Lib.hid ho
        have hbo3 := HBO2.out.same ((WQ2.out wq hq).block _ (by omega))
        obtain ⟨q0, q1, q2, q3, q4⟩ := hbo3.cells
        have q5 := hbo3.frozen
        have HBO3 := Lib.hid hbo3
        clear hbo3 ho hq WQ2 WC2
        go_wp2_with fail
        refine NoPanic.normal ?_
        clear q0 q1 q2 q3 q4 q5 e13
        obtain ⟨N2, hN2⟩ : ∃ N2, N2 = k + 1 + (d.kids.length - b) := ⟨_, rfl⟩
        rw [← hN2] at HO3 ⊢
        have HN2 := Lib.hid hN2
        obtain ⟨W3, hW3⟩ : ∃ W3, W3 = wq.setCell ⟨w.heap.size + 3, 4, none⟩ (.slice AB N2 cd) := ⟨_, rfl⟩
        rw [← hW3]
        have hfar3 : ∀ q, q ≠ w.heap.size + 3 → W3.heap[q]? = wq.heap[q]? := fun q hq => by rw [hW3]; exact Below.heap_setCell _ _ _ q hq
        have hsz3 : W3.heap.size = wq.heap.size := by rw [hW3]; simp [World.setCell]
        have HBR3 : Hid (Box5 W3 (w.heap.size + 2) (.int .i64 0) (.int .i64 0) (.string ⟨#[]⟩) (.slice none 0 0) (.slice none 0 0)) := (HBR2.out.same (HQ3.out.block _ (by omega))).same (hfar3 _ (by omega))
        have HBO4 : Hid (Box5 W3 (w.heap.size + 3) (.int .i64 d.kind) (.int .i64 d.num) (.string d.str) (.slice AA N1 cc) (.slice AB N2 cd)) := by rw [hW3]; exact HBO3.out.set4 _
        have HBL3 : Hid (Below w.heap.size w W3) := by rw [hW3]; exact (HBL2.out.trans (HQ3.out.mono (by omega))).setCell (by show w.heap.size ≤ w.heap.size + 3; omega) _
        have HO4 : Hid (W3.ownsRow W1.heap.size 9 1 (.slice AA N1 cc) N1 ((d.keys.map Value.string).take (k * 1) ++ #[Value.string s].toList ++ (d.keys.map Value.string).drop (b * 1))) := by rw [hW3]; exact ownsRow_setCell_below (rowE_below HQ3.out HO2.out) (by show w.heap.size + 3 < W1.heap.size; omega) _
        have HO5 : Hid (W3.ownsRow W2.heap.size 27 5 (.slice AB N2 cd) N2 (kcs.take (k * 5) ++ #[Value.int .i64 x.kind, .int .i64 x.num, .string x.str, .slice X3 x.keys.length x3c, .slice X4 x.kids.length x4c].toList ++ kcs.drop (b * 5))) := by rw [hW3]; exact ownsRow_setCell_below HO3.out (by show w.heap.size + 3 < W2.heap.size; omega) _
        have HC4 : Hid (∀ p : Addr, S p.block → W3.cell? p = w.cell? p) := fun p hp => by
          have := HS.out p.block hp
          exact (World.cell?_of_block (hfar3 p.block (by omega))).trans (HC3.out p hp)
        have hrl : w.heap.size + 2 < W3.heap.size := by omega
        have hol : w.heap.size + 3 < W3.heap.size := by omega
        clear hW3 hfar3 hN2 HO1 HO2 HO3 HBD2 HBX2 HBR2 HBO2 HBL2 HBO3 HC3
        obtain ⟨q0, q1, q2, q3, q4⟩ := HBO4.out.cells
        obtain ⟨r0, r1, r2, r3, r4⟩ := HBR3.out.cells
        have r5 := HBR3.out.frozen
        go_wp2_with fail
        clear q0 q1 q2 q3 q4 r0 r1 r2 r3 r4 r5
        have hfin := ((((HBR3.out.set0 (.int .i64 d.kind)).set1 (.int .i64 d.num)).set2 (.string d.str)).set3 (.slice AA N1 cc)).set4 (.slice AB N2 cd)
        have hsf : ∀ q, q ≠ w.heap.size + 2 → (((((W3.setCell ⟨w.heap.size + 2, 0, none⟩ (.int .i64 d.kind)).setCell ⟨w.heap.size + 2, 1, none⟩ (.int .i64 d.num)).setCell ⟨w.heap.size + 2, 2, none⟩ (.string d.str)).setCell ⟨w.heap.size + 2, 3, none⟩ (.slice AA N1 cc)).setCell ⟨w.heap.size + 2, 4, none⟩ (.slice AB N2 cd)).heap[q]? = W3.heap[q]? := fun q hq => by
          rw [Below.heap_setCell _ _ _ q hq, Below.heap_setCell _ _ _ q hq, Below.heap_setCell _ _ _ q hq, Below.heap_setCell _ _ _ q hq, Below.heap_setCell _ _ _ q hq]
        have hbf : Below w.heap.size w (((((W3.setCell ⟨w.heap.size + 2, 0, none⟩ (.int .i64 d.kind)).setCell ⟨w.heap.size + 2, 1, none⟩ (.int .i64 d.num)).setCell ⟨w.heap.size + 2, 2, none⟩ (.string d.str)).setCell ⟨w.heap.size + 2, 3, none⟩ (.slice AA N1 cc)).setCell ⟨w.heap.size + 2, 4, none⟩ (.slice AB N2 cd)) :=
          ((((HBL3.out.setCell (by show w.heap.size ≤ w.heap.size + 2; omega) _).setCell (by show w.heap.size ≤ w.heap.size + 2; omega) _).setCell (by show w.heap.size ≤ w.heap.size + 2; omega) _).setCell (by show w.heap.size ≤ w.heap.size + 2; omega) _).setCell (by show w.heap.size ≤ w.heap.size + 2; omega) _
        have hszf : (((((W3.setCell ⟨w.heap.size + 2, 0, none⟩ (.int .i64 d.kind)).setCell ⟨w.heap.size + 2, 1, none⟩ (.int .i64 d.num)).setCell ⟨w.heap.size + 2, 2, none⟩ (.string d.str)).setCell ⟨w.heap.size + 2, 3, none⟩ (.slice AA N1 cc)).setCell ⟨w.heap.size + 2, 4, none⟩ (.slice AB N2 cd)).heap.size = W3.heap.size := by simp [World.setCell]
        refine ret_cell5 rfl rfl hfin.load rfl ?_
        generalize (((((W3.setCell ⟨w.heap.size + 2, 0, none⟩ (.int .i64 d.kind)).setCell ⟨w.heap.size + 2, 1, none⟩ (.int .i64 d.num)).setCell ⟨w.heap.size + 2, 2, none⟩ (.string d.str)).setCell ⟨w.heap.size + 2, 3, none⟩ (.slice AA N1 cc)).setCell ⟨w.heap.size + 2, 4, none⟩ (.slice AB N2 cd)) = Wf at hfin hsf hbf hszf ⊢
        refine ⟨_, rfl, ⟨_, _, _, _, _, rfl, ?_⟩, hbf⟩
        have hcB : ∀ p : Addr, S p.block → Wf.cell? p = w.cell? p := fun p hp => by
          have := HS.out p.block hp
          exact (World.cell?_of_block (hsf p.block (by omega))).trans (HC4.out p hp)
        have hl1 : N1 = (d.keys.take k ++ s :: d.keys.drop b).length := by rw [HN1.out]; simp; omega
        have hl2 : N2 = (d.kids.take k ++ x :: d.kids.drop b).length := by rw [HN2.out]; simp; omega
        have ho1 : Wf.ownsRow W1.heap.size 9 1 (.slice AA N1 cc) (d.keys.take k ++ s :: d.keys.drop b).length ((d.keys.take k ++ s :: d.keys.drop b).map Value.string) := by
          have h := ownsRow_same (w' := Wf) HO4.out fun q hq => hsf q (by have := (HO4.out.lt q (blk_mem.1 hq)).1; omega)
          rw [hl1] at h ⊢
          simpa [List.map_take, List.map_drop] using h
        have ho2 : Wf.ownsRow W2.heap.size 27 5 (.slice AB N2 cd) (d.kids.take k ++ x :: d.kids.drop b).length (kcs.take (k * 5) ++ #[Value.int .i64 x.kind, .int .i64 x.num, .string x.str, .slice X3 x.keys.length x3c, .slice X4 x.kids.length x4c].toList ++ kcs.drop (b * 5)) := by
          have h := ownsRow_same (w' := Wf) HO5.out fun q hq => hsf q (by have := (HO5.out.lt q (blk_mem.1 hq)).1; omega)
          rw [hl2] at h ⊢
          exact h
        have hrd : DocR w S (d.kids.take k ++ x :: d.kids.drop b) (kcs.take (k * 5) ++ #[Value.int .i64 x.kind, .int .i64 x.num, .string x.str, .slice X3 x.keys.length x3c, .slice X4 x.kids.length x4c].toList ++ kcs.drop (b * 5)) := by
          rw [List.append_assoc]
          exact (HDR.out.take k).append ⟨_, _, _, _, _, _, rfl, HXI.out, HDR.out.drop b⟩
        have hkv := own_rowS (S' := fun q => S q ∨ (w.heap.size + 4 ≤ q ∧ q < Wf.heap.size)) ho2 (hrd.keep (fun _ h => h) hcB) (fun q hq => .inl hq) fun q hq1 hq2 => .inr ⟨by omega, hq2⟩
        simp only [DocS]
        exact ⟨trivial, trivial, trivial, (strsS_own2 ho1).keep (fun q hq => .inr ⟨by omega, hq.2⟩) fun _ _ => rfl, hkv⟩
end Go.Proofs.YtdcempejdggkpaaGreatDoor
