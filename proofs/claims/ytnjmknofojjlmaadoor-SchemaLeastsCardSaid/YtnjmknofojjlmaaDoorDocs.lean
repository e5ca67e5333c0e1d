/-
  Documents as pure trees, and how they lie in memory: plain lemmas, no program.
-/
import Derived.WalkKit
import Derived.Deep.Draws
import Derived.LoopTactic
namespace Go.Proofs.YtnjmknofojjlmaaDoor
open Go.RowKit

theorem block_of_add (a : Addr) (n : Nat) : (a.add n).block = a.block := by unfold Addr.add; split <;> rfl
theorem add_of_add (a : Addr) (i j : Nat) : (a.add i).add j = a.add (i + j) := by
  unfold Addr.add
  by_cases hi : i = 0 <;> by_cases hj : j = 0 <;> simp [hi, hj, Nat.add_assoc]

/-- A document, as pure data. -/
inductive D where
  | mk (kind num : Int) (str : ByteArray) (keys : List ByteArray) (kids : List D)

namespace D
def kind : D → Int | .mk k _ _ _ _ => k
def num : D → Int | .mk _ n _ _ _ => n
def str : D → ByteArray | .mk _ _ s _ _ => s
def keys : D → List ByteArray | .mk _ _ _ k _ => k
def kids : D → List D | .mk _ _ _ _ l => l
mutual
def size : D → Nat
  | .mk _ _ _ _ l => sizes l + 1
def sizes : List D → Nat
  | [] => 0
  | d :: r => size d + sizes r
end
mutual
def depth : D → Nat
  | .mk _ _ _ _ l => depths l + 1
def depths : List D → Nat
  | [] => 0
  | d :: r => max (depth d) (depths r)
end
theorem depth_kid {d : D} {i : Nat} (h : i < d.kids.length) : (d.kids[i]).depth < d.depth := by
  obtain ⟨k, n, s, ks, l⟩ := d
  simp only [kids] at h ⊢
  simp only [depth]
  have : ∀ (l : List D) (i : Nat) (h : i < l.length), (l[i]).depth ≤ depths l := by
    intro l
    induction l with
    | nil => intro i h; simp at h
    | cons d r ih =>
      intro i h
      cases i with
      | zero => simp only [List.getElem_cons_zero, depths]; omega
      | succ j => simp only [List.getElem_cons_succ, depths]; have := ih j (by simpa using h); omega
  have := this l i h
  omega
end D

/-- A slice of strings: nil let in. -/
def Strs (w : World) (B : Nat) (v : Value) (xs : List ByteArray) : Prop :=
  ∃ (A : Option Addr) (c : Nat), v = .slice A xs.length c ∧ xs.length ≤ c ∧
    (0 < xs.length → ∃ b off, A = some ⟨b, off, none⟩ ∧ b < B ∧ ∀ (i : Nat) (h : i < xs.length), w.cell? ⟨b, off + i, none⟩ = some (.string xs[i]))

mutual
/-- The five cells of a document. -/
def DocIn (w : World) (B : Nat) : D → Value → Value → Value → Value → Value → Prop
  | .mk kind num str keys kids, v0, v1, v2, v3, v4 =>
    v0 = .int .i64 kind ∧ v1 = .int .i64 num ∧ v2 = .string str ∧ Strs w B v3 keys ∧
      ∃ (A : Option Addr) (c : Nat), v4 = .slice A kids.length c ∧ kids.length ≤ c ∧ (0 < kids.length → ∃ b off, A = some ⟨b, off, none⟩ ∧ b < B ∧ KidsIn w B b off 0 kids)
def KidsIn (w : World) (B : Nat) (b off : Nat) : Nat → List D → Prop
  | _, [] => True
  | i, d :: r => (∃ v0 v1 v2 v3 v4 : Value, w.cell? ⟨b, off + i * 5, none⟩ = some v0 ∧ w.cell? ⟨b, off + i * 5 + 1, none⟩ = some v1 ∧ w.cell? ⟨b, off + i * 5 + 2, none⟩ = some v2 ∧ w.cell? ⟨b, off + i * 5 + 3, none⟩ = some v3 ∧ w.cell? ⟨b, off + i * 5 + 4, none⟩ = some v4 ∧ DocIn w B d v0 v1 v2 v3 v4) ∧ KidsIn w B b off (i + 1) r
end
theorem KidsIn.at_ {w : World} {B b off : Nat} : ∀ {l : List D} {i : Nat}, KidsIn w B b off i l → ∀ (k : Nat) (h : k < l.length),
    ∃ v0 v1 v2 v3 v4 : Value, w.cell? ⟨b, off + (i + k) * 5, none⟩ = some v0 ∧ w.cell? ⟨b, off + (i + k) * 5 + 1, none⟩ = some v1 ∧ w.cell? ⟨b, off + (i + k) * 5 + 2, none⟩ = some v2 ∧ w.cell? ⟨b, off + (i + k) * 5 + 3, none⟩ = some v3 ∧ w.cell? ⟨b, off + (i + k) * 5 + 4, none⟩ = some v4 ∧ DocIn w B (l[k]) v0 v1 v2 v3 v4
  | [], _, _, k, h => by simp at h
  | d :: r, i, hk, 0, _ => by simp only [KidsIn] at hk; simpa using hk.1
  | d :: r, i, hk, k + 1, h => by
    simp only [KidsIn] at hk
    have := KidsIn.at_ hk.2 k (by simpa using h)
    rw [show i + 1 + k = i + (k + 1) from by omega] at this
    simpa using this

theorem Strs.keep {w w' : World} {B : Nat} (h : ∀ p : Addr, p.block < B → w'.cell? p = w.cell? p) {v : Value} {xs : List ByteArray} (hs : Strs w B v xs) : Strs w' B v xs := by
  obtain ⟨A, c, e, l, h1⟩ := hs
  refine ⟨A, c, e, l, fun hl => ?_⟩
  obtain ⟨b, off, e', hb, hc⟩ := h1 hl
  exact ⟨b, off, e', hb, fun i hi => (h ⟨b, off + i, none⟩ hb).trans (hc i hi)⟩
theorem Strs.more {w : World} {B B' : Nat} (hB : B ≤ B') {v : Value} {xs : List ByteArray} (hs : Strs w B v xs) : Strs w B' v xs := by
  obtain ⟨A, c, e, l, h1⟩ := hs
  refine ⟨A, c, e, l, fun hl => ?_⟩
  obtain ⟨b, off, e', hb, hc⟩ := h1 hl
  exact ⟨b, off, e', by omega, hc⟩
mutual
theorem DocIn.keep {w w' : World} {B B' : Nat} (hB : B ≤ B') (h : ∀ p : Addr, p.block < B → w'.cell? p = w.cell? p) : ∀ {d : D} {v0 v1 v2 v3 v4 : Value}, DocIn w B d v0 v1 v2 v3 v4 → DocIn w' B' d v0 v1 v2 v3 v4
  | .mk _ _ _ _ kids, _, _, _, _, _, hd => by
    simp only [DocIn] at hd ⊢
    obtain ⟨h0, h1, h2, h3, A', c', e', k1, k2⟩ := hd
    refine ⟨h0, h1, h2, (h3.keep h).more hB, A', c', e', k1, fun hl => ?_⟩
    obtain ⟨b, off, ea, hb, hk⟩ := k2 hl
    exact ⟨b, off, ea, by omega, KidsIn.keep hB h hb hk⟩
theorem KidsIn.keep {w w' : World} {B B' : Nat} (hB : B ≤ B') (h : ∀ p : Addr, p.block < B → w'.cell? p = w.cell? p) {b off : Nat} (hb : b < B) : ∀ {l : List D} {i : Nat}, KidsIn w B b off i l → KidsIn w' B' b off i l
  | [], _, _ => by simp [KidsIn]
  | d :: r, i, hk => by
    simp only [KidsIn] at hk ⊢
    obtain ⟨⟨v0, v1, v2, v3, v4, c0, c1, c2, c3, c4, hd⟩, hr⟩ := hk
    have hh : ∀ n, w'.cell? ⟨b, n, none⟩ = w.cell? ⟨b, n, none⟩ := fun n => h ⟨b, n, none⟩ hb
    exact ⟨⟨v0, v1, v2, v3, v4, (hh _).trans c0, (hh _).trans c1, (hh _).trans c2, (hh _).trans c3, (hh _).trans c4, DocIn.keep hB h hd⟩, KidsIn.keep hB h hb hr⟩
end
theorem DocIn.below {w w' : World} {B : Nat} {d : D} {v0 v1 v2 v3 v4 : Value} (h : DocIn w B d v0 v1 v2 v3 v4) (hb : Below B w w') : DocIn w' B d v0 v1 v2 v3 v4 := DocIn.keep (Nat.le_refl _) (fun _ hp => hb.cell hp) h

theorem DocIn.forms {w : World} {B : Nat} {d : D} {v0 v1 v2 v3 v4 : Value} (h : DocIn w B d v0 v1 v2 v3 v4) :
    ∃ A3 c3 A4 c4, v0 = .int .i64 d.kind ∧ v1 = .int .i64 d.num ∧ v2 = .string d.str ∧ v3 = .slice A3 d.keys.length c3 ∧ v4 = .slice A4 d.kids.length c4 := by
  obtain ⟨_, _, _, _, _⟩ := d
  simp only [DocIn] at h
  obtain ⟨h0, h1, h2, ⟨A3, c3, h3, _⟩, A4, c4, h4, _⟩ := h
  exact ⟨A3, c3, A4, c4, h0, h1, h2, h3, h4⟩

theorem D.size_pos (d : D) : 0 < d.size := by obtain ⟨_, _, _, _, _⟩ := d; simp [D.size]
theorem D.len_le_sizes : ∀ l : List D, l.length ≤ D.sizes l
  | [] => by simp [D.sizes]
  | d :: r => by have := D.len_le_sizes r; have := D.size_pos d; simp only [D.sizes, List.length_cons]; omega
theorem D.sizes_append : ∀ a b : List D, D.sizes (a ++ b) = D.sizes a + D.sizes b
  | [], b => by simp [D.sizes]
  | d :: r, b => by simp only [List.cons_append, D.sizes, D.sizes_append r b]; omega
theorem D.sizes_take_succ (l : List D) (k : Nat) (h : k < l.length) : D.sizes (l.take (k + 1)) = D.sizes (l.take k) + (l[k]).size := by
  rw [List.take_succ_eq_append_getElem h, D.sizes_append]; simp [D.sizes]
theorem D.sizes_take_le (l : List D) (k : Nat) : D.sizes (l.take k) ≤ D.sizes l := by
  have := D.sizes_append (l.take k) (l.drop k)
  rw [List.take_append_drop] at this
  omega
mutual
/-- No part is greater than can be gone over. -/
def D.Fit : D → Prop
  | .mk _ _ s ks l => s.size ≤ 10000 ∧ ks.length ≤ 10000 ∧ l.length ≤ 10000 ∧ (∀ k ∈ ks, k.size ≤ 10000) ∧ D.Fits l
def D.Fits : List D → Prop
  | [] => True
  | d :: r => d.Fit ∧ D.Fits r
end
theorem D.Fit.keys {d : D} (h : d.Fit) : d.keys.length ≤ 10000 := by obtain ⟨_, _, _, _, _⟩ := d; simp only [D.Fit] at h; exact h.2.1
theorem D.Fit.kids {d : D} (h : d.Fit) : d.kids.length ≤ 10000 := by obtain ⟨_, _, _, _, _⟩ := d; simp only [D.Fit] at h; exact h.2.2.1
theorem D.Fit.str {d : D} (h : d.Fit) : d.str.size ≤ 10000 := by obtain ⟨_, _, _, _, _⟩ := d; simp only [D.Fit] at h; exact h.1
theorem D.Fit.key {d : D} (h : d.Fit) {i : Nat} (hi : i < d.keys.length) : (d.keys[i]).size ≤ 10000 := by obtain ⟨_, _, _, _, _⟩ := d; simp only [D.Fit] at h; exact h.2.2.2.1 _ (List.getElem_mem hi)
theorem D.Fits.at_ : ∀ {l : List D}, D.Fits l → ∀ {i : Nat} (hi : i < l.length), (l[i]).Fit
  | [], _, i, hi => by simp at hi
  | d :: r, h, 0, _ => by simp only [D.Fits] at h; exact h.1
  | d :: r, h, i + 1, hi => by simp only [D.Fits] at h; exact D.Fits.at_ h.2 (by simpa using hi)
theorem D.Fit.kid {d : D} (h : d.Fit) {i : Nat} (hi : i < d.kids.length) : (d.kids[i]).Fit := by obtain ⟨_, _, _, _, _⟩ := d; simp only [D.Fit] at h; exact h.2.2.2.2.at_ hi
/-- The kids, as the fifth cell leads to them. -/
theorem DocIn.kids_ {w : World} {B : Nat} {d : D} {v0 v1 v2 v3 : Value} {A : Option Addr} {n c : Nat} (h : DocIn w B d v0 v1 v2 v3 (.slice A n c)) :
    n = d.kids.length ∧ d.kids.length ≤ c ∧ (0 < d.kids.length → ∃ b off, A = some ⟨b, off, none⟩ ∧ b < B ∧ KidsIn w B b off 0 d.kids) := by
  obtain ⟨_, _, _, _, l⟩ := d
  simp only [DocIn] at h
  obtain ⟨_, _, _, _, A', c', e, k1, k2⟩ := h
  injection e with e1 e2 e3
  subst e1; subst e2; subst e3
  exact ⟨rfl, k1, k2⟩
theorem DocIn.keys_ {w : World} {B : Nat} {d : D} {v0 v1 v2 v3 v4 : Value} (h : DocIn w B d v0 v1 v2 v3 v4) : Strs w B v3 d.keys := by
  obtain ⟨_, _, _, _, l⟩ := d
  simp only [DocIn] at h
  exact h.2.2.2.1
/-- Below B nothing has turned, and what lies there reads as it did. -/
theorem below_add {W w1 : World} (hb : Below W.heap.size W w1) : (∀ b o, b < W.heap.size → w1.cell? ⟨b, o, none⟩ = W.cell? ⟨b, o, none⟩) ∧ (∀ b o, b < W.heap.size → w1.frozen? ⟨b, o, none⟩ = W.frozen? ⟨b, o, none⟩) :=
  ⟨fun b o h => hb.cell (p := ⟨b, o, none⟩) h, fun b o h => hb.frozen (p := ⟨b, o, none⟩) h⟩
end Go.Proofs.YtnjmknofojjlmaaDoor
