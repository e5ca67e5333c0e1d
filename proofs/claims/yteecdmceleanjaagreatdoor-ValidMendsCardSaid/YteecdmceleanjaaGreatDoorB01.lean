/-
  Documents as pure trees, and how they lie in memory: plain lemmas, no program.
  The order of documents, as pure functions.
  Types as pure trees, and how they lie in memory: plain lemmas, no program.
  
  A document's variable.
  More of the order of documents.
  A document handed over as a value.
  Documents that a call has made: in blocks of their own, each met once.
  
  What a call has turned: memory of its own, and a box.
  A document that grows: its keys and its kids are appended to.
  What a call tells that makes a document, and something beside it.
-/
import Derived.WalkKit
import Derived.Deep.Draws
import Derived.LoopTactic
import Derived.Lib.Bytealg
import Derived.Test.YteecdmceleanjaaGreatDoorProg
import Derived.Lib.Hide
import Derived.WalkLawsBesides
import Derived.WalkSpells
import Derived.Maps.AppendAt
import Derived.Deep.AppendLies
import Derived.OwnWalk
namespace Go.Proofs.YteecdmceleanjaaGreatDoor
open Go.RowKit

/-- A document, as pure data. -/
inductive D where
  | mk (kind num : Int) (str : ByteArray) (keys : List ByteArray) (kids : List D)

namespace D
def kind : D → Int | .mk k _ _ _ _ => k
def num : D → Int | .mk _ n _ _ _ => n
def str : D → ByteArray | .mk _ _ s _ _ => s
def keys : D → List ByteArray | .mk _ _ _ k _ => k
def kids : D → List D | .mk _ _ _ _ l => l
mutual
def size : D → Nat
  | .mk _ _ _ _ l => sizes l + 1
def sizes : List D → Nat
  | [] => 0
  | d :: r => size d + sizes r
end
mutual
def depth : D → Nat
  | .mk _ _ _ _ l => depths l + 1
def depths : List D → Nat
  | [] => 0
  | d :: r => max (depth d) (depths r)
end
theorem depth_kid {d : D} {i : Nat} (h : i < d.kids.length) : (d.kids[i]).depth < d.depth := by
  obtain ⟨k, n, s, ks, l⟩ := d
  simp only [kids] at h ⊢
  simp only [depth]
  have : ∀ (l : List D) (i : Nat) (h : i < l.length), (l[i]).depth ≤ depths l := by
    intro l
    induction l with
    | nil => intro i h; simp at h
    | cons d r ih =>
      intro i h
      cases i with
      | zero => simp only [List.getElem_cons_zero, depths]; omega
      | succ j => simp only [List.getElem_cons_succ, depths]; have := ih j (by simpa using h); omega
  have := this l i h
  omega
end D

/-- A slice of strings: nil let in. -/
def Strs (w : World) (B : Nat) (v : Value) (xs : List ByteArray) : Prop :=
  ∃ (A : Option Addr) (c : Nat), v = .slice A xs.length c ∧ xs.length ≤ c ∧
    (0 < xs.length → ∃ b off, A = some ⟨b, off, none⟩ ∧ b < B ∧ ∀ (i : Nat) (h : i < xs.length), w.cell? ⟨b, off + i, none⟩ = some (.string xs[i]))

mutual
/-- The five cells of a document. -/
def DocIn (w : World) (B : Nat) : D → Value → Value → Value → Value → Value → Prop
  | .mk kind num str keys kids, v0, v1, v2, v3, v4 =>
    v0 = .int .i64 kind ∧ v1 = .int .i64 num ∧ v2 = .string str ∧ Strs w B v3 keys ∧
      ∃ (A : Option Addr) (c : Nat), v4 = .slice A kids.length c ∧ kids.length ≤ c ∧ (0 < kids.length → ∃ b off, A = some ⟨b, off, none⟩ ∧ b < B ∧ KidsIn w B b off 0 kids)
def KidsIn (w : World) (B : Nat) (b off : Nat) : Nat → List D → Prop
  | _, [] => True
  | i, d :: r => (∃ v0 v1 v2 v3 v4 : Value, w.cell? ⟨b, off + i * 5, none⟩ = some v0 ∧ w.cell? ⟨b, off + i * 5 + 1, none⟩ = some v1 ∧ w.cell? ⟨b, off + i * 5 + 2, none⟩ = some v2 ∧ w.cell? ⟨b, off + i * 5 + 3, none⟩ = some v3 ∧ w.cell? ⟨b, off + i * 5 + 4, none⟩ = some v4 ∧ DocIn w B d v0 v1 v2 v3 v4) ∧ KidsIn w B b off (i + 1) r
end
theorem KidsIn.at_ {w : World} {B b off : Nat} : ∀ {l : List D} {i : Nat}, KidsIn w B b off i l → ∀ (k : Nat) (h : k < l.length),
    ∃ v0 v1 v2 v3 v4 : Value, w.cell? ⟨b, off + (i + k) * 5, none⟩ = some v0 ∧ w.cell? ⟨b, off + (i + k) * 5 + 1, none⟩ = some v1 ∧ w.cell? ⟨b, off + (i + k) * 5 + 2, none⟩ = some v2 ∧ w.cell? ⟨b, off + (i + k) * 5 + 3, none⟩ = some v3 ∧ w.cell? ⟨b, off + (i + k) * 5 + 4, none⟩ = some v4 ∧ DocIn w B (l[k]) v0 v1 v2 v3 v4
  | [], _, _, k, h => by simp at h
  | d :: r, i, hk, 0, _ => by simp only [KidsIn] at hk; simpa using hk.1
  | d :: r, i, hk, k + 1, h => by
    simp only [KidsIn] at hk
    have := KidsIn.at_ hk.2 k (by simpa using h)
    rw [show i + 1 + k = i + (k + 1) from by omega] at this
    simpa using this

theorem Strs.keep {w w' : World} {B : Nat} (h : ∀ p : Addr, p.block < B → w'.cell? p = w.cell? p) {v : Value} {xs : List ByteArray} (hs : Strs w B v xs) : Strs w' B v xs := by
  obtain ⟨A, c, e, l, h1⟩ := hs
  refine ⟨A, c, e, l, fun hl => ?_⟩
  obtain ⟨b, off, e', hb, hc⟩ := h1 hl
  exact ⟨b, off, e', hb, fun i hi => (h ⟨b, off + i, none⟩ hb).trans (hc i hi)⟩
theorem Strs.more {w : World} {B B' : Nat} (hB : B ≤ B') {v : Value} {xs : List ByteArray} (hs : Strs w B v xs) : Strs w B' v xs := by
  obtain ⟨A, c, e, l, h1⟩ := hs
  refine ⟨A, c, e, l, fun hl => ?_⟩
  obtain ⟨b, off, e', hb, hc⟩ := h1 hl
  exact ⟨b, off, e', by omega, hc⟩
mutual
theorem DocIn.keep {w w' : World} {B B' : Nat} (hB : B ≤ B') (h : ∀ p : Addr, p.block < B → w'.cell? p = w.cell? p) : ∀ {d : D} {v0 v1 v2 v3 v4 : Value}, DocIn w B d v0 v1 v2 v3 v4 → DocIn w' B' d v0 v1 v2 v3 v4
  | .mk _ _ _ _ kids, _, _, _, _, _, hd => by
    simp only [DocIn] at hd ⊢
    obtain ⟨h0, h1, h2, h3, A', c', e', k1, k2⟩ := hd
    refine ⟨h0, h1, h2, (h3.keep h).more hB, A', c', e', k1, fun hl => ?_⟩
    obtain ⟨b, off, ea, hb, hk⟩ := k2 hl
    exact ⟨b, off, ea, by omega, KidsIn.keep hB h hb hk⟩
theorem KidsIn.keep {w w' : World} {B B' : Nat} (hB : B ≤ B') (h : ∀ p : Addr, p.block < B → w'.cell? p = w.cell? p) {b off : Nat} (hb : b < B) : ∀ {l : List D} {i : Nat}, KidsIn w B b off i l → KidsIn w' B' b off i l
  | [], _, _ => by simp [KidsIn]
  | d :: r, i, hk => by
    simp only [KidsIn] at hk ⊢
    obtain ⟨⟨v0, v1, v2, v3, v4, c0, c1, c2, c3, c4, hd⟩, hr⟩ := hk
    have hh : ∀ n, w'.cell? ⟨b, n, none⟩ = w.cell? ⟨b, n, none⟩ := fun n => h ⟨b, n, none⟩ hb
    exact ⟨⟨v0, v1, v2, v3, v4, (hh _).trans c0, (hh _).trans c1, (hh _).trans c2, (hh _).trans c3, (hh _).trans c4, DocIn.keep hB h hd⟩, KidsIn.keep hB h hb hr⟩
end
theorem DocIn.below {w w' : World} {B : Nat} {d : D} {v0 v1 v2 v3 v4 : Value} (h : DocIn w B d v0 v1 v2 v3 v4) (hb : Below B w w') : DocIn w' B d v0 v1 v2 v3 v4 := DocIn.keep (Nat.le_refl _) (fun _ hp => hb.cell hp) h

theorem DocIn.forms {w : World} {B : Nat} {d : D} {v0 v1 v2 v3 v4 : Value} (h : DocIn w B d v0 v1 v2 v3 v4) :
    ∃ A3 c3 A4 c4, v0 = .int .i64 d.kind ∧ v1 = .int .i64 d.num ∧ v2 = .string d.str ∧ v3 = .slice A3 d.keys.length c3 ∧ v4 = .slice A4 d.kids.length c4 := by
  obtain ⟨_, _, _, _, _⟩ := d
  simp only [DocIn] at h
  obtain ⟨h0, h1, h2, ⟨A3, c3, h3, _⟩, A4, c4, h4, _⟩ := h
  exact ⟨A3, c3, A4, c4, h0, h1, h2, h3, h4⟩

theorem D.size_pos (d : D) : 0 < d.size := by obtain ⟨_, _, _, _, _⟩ := d; simp [D.size]
theorem D.len_le_sizes : ∀ l : List D, l.length ≤ D.sizes l
  | [] => by simp [D.sizes]
  | d :: r => by have := D.len_le_sizes r; have := D.size_pos d; simp only [D.sizes, List.length_cons]; omega
theorem D.sizes_append : ∀ a b : List D, D.sizes (a ++ b) = D.sizes a + D.sizes b
  | [], b => by simp [D.sizes]
  | d :: r, b => by simp only [List.cons_append, D.sizes, D.sizes_append r b]; omega
theorem D.sizes_take_succ (l : List D) (k : Nat) (h : k < l.length) : D.sizes (l.take (k + 1)) = D.sizes (l.take k) + (l[k]).size := by
  rw [List.take_succ_eq_append_getElem h, D.sizes_append]; simp [D.sizes]
theorem D.sizes_take_le (l : List D) (k : Nat) : D.sizes (l.take k) ≤ D.sizes l := by
  have := D.sizes_append (l.take k) (l.drop k)
  rw [List.take_append_drop] at this
  omega
mutual
/-- No part is greater than can be gone over. -/
def D.Fit : D → Prop
  | .mk _ _ s ks l => s.size ≤ 10000 ∧ ks.length ≤ 10000 ∧ l.length ≤ 10000 ∧ (∀ k ∈ ks, k.size ≤ 10000) ∧ D.Fits l
def D.Fits : List D → Prop
  | [] => True
  | d :: r => d.Fit ∧ D.Fits r
end
theorem D.Fit.keys {d : D} (h : d.Fit) : d.keys.length ≤ 10000 := by obtain ⟨_, _, _, _, _⟩ := d; simp only [D.Fit] at h; exact h.2.1
theorem D.Fit.kids {d : D} (h : d.Fit) : d.kids.length ≤ 10000 := by obtain ⟨_, _, _, _, _⟩ := d; simp only [D.Fit] at h; exact h.2.2.1
theorem D.Fit.str {d : D} (h : d.Fit) : d.str.size ≤ 10000 := by obtain ⟨_, _, _, _, _⟩ := d; simp only [D.Fit] at h; exact h.1
theorem D.Fit.key {d : D} (h : d.Fit) {i : Nat} (hi : i < d.keys.length) : (d.keys[i]).size ≤ 10000 := by obtain ⟨_, _, _, _, _⟩ := d; simp only [D.Fit] at h; exact h.2.2.2.1 _ (List.getElem_mem hi)
theorem D.Fits.at_ : ∀ {l : List D}, D.Fits l → ∀ {i : Nat} (hi : i < l.length), (l[i]).Fit
  | [], _, i, hi => by simp at hi
  | d :: r, h, 0, _ => by simp only [D.Fits] at h; exact h.1
  | d :: r, h, i + 1, hi => by simp only [D.Fits] at h; exact D.Fits.at_ h.2 (by simpa using hi)
theorem D.Fit.kid {d : D} (h : d.Fit) {i : Nat} (hi : i < d.kids.length) : (d.kids[i]).Fit := by obtain ⟨_, _, _, _, _⟩ := d; simp only [D.Fit] at h; exact h.2.2.2.2.at_ hi
/-- The kids, as the fifth cell leads to them. -/
theorem DocIn.kids_ {w : World} {B : Nat} {d : D} {v0 v1 v2 v3 : Value} {A : Option Addr} {n c : Nat} (h : DocIn w B d v0 v1 v2 v3 (.slice A n c)) :
    n = d.kids.length ∧ d.kids.length ≤ c ∧ (0 < d.kids.length → ∃ b off, A = some ⟨b, off, none⟩ ∧ b < B ∧ KidsIn w B b off 0 d.kids) := by
  obtain ⟨_, _, _, _, l⟩ := d
  simp only [DocIn] at h
  obtain ⟨_, _, _, _, A', c', e, k1, k2⟩ := h
  injection e with e1 e2 e3
  subst e1; subst e2; subst e3
  exact ⟨rfl, k1, k2⟩
theorem DocIn.keys_ {w : World} {B : Nat} {d : D} {v0 v1 v2 v3 v4 : Value} (h : DocIn w B d v0 v1 v2 v3 v4) : Strs w B v3 d.keys := by
  obtain ⟨_, _, _, _, l⟩ := d
  simp only [DocIn] at h
  exact h.2.2.2.1
/-- Below B nothing has turned, and what lies there reads as it did. -/
theorem below_add {W w1 : World} (hb : Below W.heap.size W w1) : (∀ b o, b < W.heap.size → w1.cell? ⟨b, o, none⟩ = W.cell? ⟨b, o, none⟩) ∧ (∀ b o, b < W.heap.size → w1.frozen? ⟨b, o, none⟩ = W.frozen? ⟨b, o, none⟩) :=
  ⟨fun b o h => hb.cell (p := ⟨b, o, none⟩) h, fun b o h => hb.frozen (p := ⟨b, o, none⟩) h⟩
end Go.Proofs.YteecdmceleanjaaGreatDoor
namespace Go.Proofs.YteecdmceleanjaaGreatDoor
open Go.RowKit

def icmp (a b : Int) : Int := if a < b then -1 else if b < a then 1 else 0
def scmp (a b : ByteArray) : Int := Lib.compareBytes a.data.toList b.data.toList
def kcmp : List ByteArray → List ByteArray → Int
  | [], [] => 0
  | [], _ :: _ => -1
  | _ :: _, [] => 1
  | a :: x, b :: y => if scmp a b = 0 then kcmp x y else scmp a b
def orI (a b : Int) : Int := if a = 0 then b else a

theorem compareBytes_cases (a b : List UInt8) : Lib.compareBytes a b = -1 ∨ Lib.compareBytes a b = 0 ∨ Lib.compareBytes a b = 1 := by
  induction a generalizing b with
  | nil => cases b <;> simp [Lib.compareBytes]
  | cons x a ih =>
    cases b with
    | nil => simp [Lib.compareBytes]
    | cons y b =>
      simp only [Lib.compareBytes]
      split
      · simp
      · split
        · simp
        · exact ih b
theorem less_compare (a b : List UInt8) : Op.bytesLess a b = decide (Lib.compareBytes a b = -1) := by
  induction a generalizing b with
  | nil => cases b <;> simp [Lib.compareBytes, Op.bytesLess]
  | cons x a ih =>
    cases b with
    | nil => simp [Lib.compareBytes, Op.bytesLess]
    | cons y b =>
      simp only [Lib.compareBytes, Op.bytesLess]
      by_cases h : x < y
      · simp [h]
      · by_cases h2 : y < x
        · have : ¬ x = y := by rintro rfl; exact h h2
          simp [h, h2, this]
        · have : x = y := by
            rw [UInt8.lt_iff_toNat_lt] at h h2
            exact UInt8.toNat_inj.1 (by omega)
          subst this
          simp [h, ih b]
theorem eq_compare (a b : List UInt8) : Lib.compareBytes a b = 0 ↔ a = b := by
  induction a generalizing b with
  | nil => cases b <;> simp [Lib.compareBytes]
  | cons x a ih =>
    cases b with
    | nil => simp [Lib.compareBytes]
    | cons y b =>
      simp only [Lib.compareBytes]
      by_cases h : x < y
      · have : ¬ x = y := by rintro rfl; rw [UInt8.lt_iff_toNat_lt] at h; omega
        simp [h, this]
      · by_cases h2 : y < x
        · have : ¬ x = y := by rintro rfl; exact h h2
          simp [h, h2, this]
        · have : x = y := by
            rw [UInt8.lt_iff_toNat_lt] at h h2
            exact UInt8.toNat_inj.1 (by omega)
          subst this
          simp [h, ih b]
theorem compare_flip (a b : List UInt8) : Lib.compareBytes b a = - Lib.compareBytes a b := by
  induction a generalizing b with
  | nil => cases b <;> simp [Lib.compareBytes]
  | cons x a ih =>
    cases b with
    | nil => simp [Lib.compareBytes]
    | cons y b =>
      simp only [Lib.compareBytes]
      by_cases h : x < y
      · have : ¬ y < x := by rw [UInt8.lt_iff_toNat_lt] at *; omega
        simp [h, this]
      · by_cases h2 : y < x
        · simp [h, h2]
        · simp [h, h2, ih b]
theorem less_trans : ∀ (a b c : List UInt8), Op.bytesLess a b = true → Op.bytesLess b c = true → Op.bytesLess a c = true
  | _, [], _, h, _ => by simp [Op.bytesLess] at h
  | _, _ :: _, [], _, h => by simp [Op.bytesLess] at h
  | [], _ :: _, _ :: _, _, _ => by simp [Op.bytesLess]
  | x :: a, y :: b, z :: c, h, h' => by
    simp only [Op.bytesLess, Bool.or_eq_true, decide_eq_true_eq, Bool.and_eq_true, beq_iff_eq, UInt8.lt_iff_toNat_lt] at h h' ⊢
    rcases h with h | ⟨rfl, h⟩
    · rcases h' with h' | ⟨rfl, _⟩
      · exact .inl (by omega)
      · exact .inl h
    · rcases h' with h' | ⟨rfl, h'⟩
      · exact .inl h'
      · exact .inr ⟨rfl, less_trans a b c h h'⟩

/-- An order, told as -1, 0, 1. -/
structure Ordered {α : Type} (c : α → α → Int) (P : α → Prop) : Prop where
  cases : ∀ a b, P a → P b → c a b = -1 ∨ c a b = 0 ∨ c a b = 1
  flip : ∀ a b, P a → P b → c b a = - c a b
  eq : ∀ a b, P a → P b → (c a b = 0 ↔ a = b)
  trans : ∀ a b d, P a → P b → P d → c a b = -1 → c b d = -1 → c a d = -1

theorem icmp_ordered : Ordered icmp (fun _ => True) where
  cases a b _ _ := by unfold icmp; split <;> (try split) <;> simp
  flip a b _ _ := by unfold icmp; split <;> split <;> (try split) <;> omega
  eq a b _ _ := by
    unfold icmp
    by_cases h1 : a < b
    · simp [h1]; omega
    · by_cases h2 : b < a
      · simp [h1, h2]; omega
      · simp [h1, h2]; omega
  trans a b d _ _ _ h h' := by
    unfold icmp at *
    by_cases h1 : a < b
    · by_cases h2 : b < d
      · rw [if_pos (by omega)]
      · rw [if_neg h2] at h'; split at h' <;> simp at h'
    · rw [if_neg h1] at h; split at h <;> simp at h

theorem data_inj {a b : ByteArray} (h : a.data.toList = b.data.toList) : a = b := by
  obtain ⟨⟨l⟩⟩ := a; obtain ⟨⟨m⟩⟩ := b; simpa using h
theorem scmp_ordered : Ordered scmp (fun _ => True) where
  cases a b _ _ := compareBytes_cases _ _
  flip a b _ _ := compare_flip _ _
  eq a b _ _ := by unfold scmp; rw [eq_compare]; exact ⟨data_inj, fun h => by rw [h]⟩
  trans a b d _ _ _ h h' := by
    unfold scmp at *
    have := less_trans _ _ _ (by rw [less_compare]; simpa using h) (by rw [less_compare]; simpa using h')
    rw [less_compare] at this
    simpa using this

theorem Ordered.refl {α : Type} {c : α → α → Int} {P : α → Prop} (o : Ordered c P) (a : α) (h : P a) : c a a = 0 := (o.eq a a h h).2 rfl
theorem Ordered.mono {α : Type} {c : α → α → Int} {P Q : α → Prop} (o : Ordered c P) (h : ∀ a, Q a → P a) : Ordered c Q :=
  ⟨fun a b ha hb => o.cases a b (h a ha) (h b hb), fun a b ha hb => o.flip a b (h a ha) (h b hb), fun a b ha hb => o.eq a b (h a ha) (h b hb), fun a b d ha hb hd => o.trans a b d (h a ha) (h b hb) (h d hd)⟩
theorem Ordered.comap {α β : Type} {c : β → β → Int} {P : β → Prop} (o : Ordered c P) (f : α → β) (hf : ∀ a b, f a = f b → a = b) : Ordered (fun a b => c (f a) (f b)) (fun a => P (f a)) :=
  ⟨fun a b ha hb => o.cases _ _ ha hb, fun a b ha hb => o.flip _ _ ha hb, fun a b ha hb => by rw [o.eq _ _ ha hb]; exact ⟨hf a b, fun h => by rw [h]⟩, fun a b d ha hb hd => o.trans _ _ _ ha hb hd⟩
theorem Ordered.prod {α β : Type} {c : α → α → Int} {e : β → β → Int} {P : α → Prop} {Q : β → Prop} (o : Ordered c P) (r : Ordered e Q) :
    Ordered (fun x y : α × β => orI (c x.1 y.1) (e x.2 y.2)) (fun x => P x.1 ∧ Q x.2) where
  cases a b ha hb := by
    unfold orI; rcases o.cases _ _ ha.1 hb.1 with h | h | h
    · simp [h]
    · simp [h, r.cases _ _ ha.2 hb.2]
    · simp [h]
  flip a b ha hb := by
    unfold orI; rw [o.flip _ _ ha.1 hb.1]
    by_cases h : c a.1 b.1 = 0
    · simp [h, r.flip _ _ ha.2 hb.2]
    · have : ¬ - c a.1 b.1 = 0 := by omega
      simp [h, this]
  eq a b ha hb := by
    unfold orI
    by_cases h : c a.1 b.1 = 0
    · simp only [h, if_true]
      rw [o.eq _ _ ha.1 hb.1] at h
      rw [r.eq _ _ ha.2 hb.2, Prod.ext_iff]; simp [h]
    · rw [if_neg h]
      constructor
      · intro hh; exact absurd hh h
      · rintro rfl; exact absurd (o.refl _ ha.1) h
  trans a b d ha hb hd h h' := by
    unfold orI at *
    by_cases h1 : c a.1 b.1 = 0
    · rw [if_pos h1] at h
      rw [o.eq _ _ ha.1 hb.1] at h1
      rw [h1]
      by_cases h2 : c b.1 d.1 = 0
      · rw [if_pos h2] at h' ⊢; exact r.trans _ _ _ ha.2 hb.2 hd.2 h h'
      · rw [if_neg h2] at h' ⊢; exact h'
    · rw [if_neg h1] at h
      by_cases h2 : c b.1 d.1 = 0
      · rw [o.eq _ _ hb.1 hd.1] at h2
        rw [← h2, if_neg h1]; exact h
      · rw [if_neg h2] at h'
        have := o.trans _ _ _ ha.1 hb.1 hd.1 h h'
        rw [this]; simp
/-- Rows, one by one; a beginning is less. -/
def lcmp {α : Type} (c : α → α → Int) : List α → List α → Int
  | [], [] => 0
  | [], _ :: _ => -1
  | _ :: _, [] => 1
  | a :: x, b :: y => orI (c a b) (lcmp c x y)
theorem lcmp_ordered {α : Type} {c : α → α → Int} {P : α → Prop} (o : Ordered c P) : Ordered (lcmp c) (fun l => ∀ x ∈ l, P x) where
  cases a := by
    induction a with
    | nil => intro b _ _; cases b <;> simp [lcmp]
    | cons x a ih =>
      intro b ha hb
      cases b with
      | nil => simp [lcmp]
      | cons y b =>
        simp only [lcmp, orI]
        have h1 := o.cases x y (ha x (by simp)) (hb y (by simp))
        have h2 := ih b (fun z hz => ha z (by simp [hz])) (fun z hz => hb z (by simp [hz]))
        split <;> assumption
  flip a := by
    induction a with
    | nil => intro b _ _; cases b <;> simp [lcmp]
    | cons x a ih =>
      intro b ha hb
      cases b with
      | nil => simp [lcmp]
      | cons y b =>
        simp only [lcmp, orI]
        rw [o.flip x y (ha x (by simp)) (hb y (by simp)), ih b (fun z hz => ha z (by simp [hz])) (fun z hz => hb z (by simp [hz]))]
        by_cases h : c x y = 0
        · simp [h]
        · have : ¬ - c x y = 0 := by omega
          simp [h, this]
  eq a := by
    induction a with
    | nil => intro b _ _; cases b <;> simp [lcmp]
    | cons x a ih =>
      intro b ha hb
      cases b with
      | nil => simp [lcmp]
      | cons y b =>
        simp only [lcmp, orI]
        have h1 := o.eq x y (ha x (by simp)) (hb y (by simp))
        have h2 := ih b (fun z hz => ha z (by simp [hz])) (fun z hz => hb z (by simp [hz]))
        by_cases h : c x y = 0
        · rw [if_pos h, h2]; simp [h1.1 h]
        · rw [if_neg h]
          constructor
          · intro hh; exact absurd hh h
          · intro hh; injection hh with e1 e2; exact absurd (h1.2 e1) h
  trans a := by
    induction a with
    | nil => intro b d _ _ _ h h'; cases b <;> cases d <;> simp [lcmp] at *
    | cons x a ih =>
      intro b d ha hb hd h h'
      cases b with
      | nil => simp [lcmp] at h
      | cons y b =>
        cases d with
        | nil => simp [lcmp] at h'
        | cons z d =>
          have hx := ha x (by simp)
          have hy := hb y (by simp)
          have hz := hd z (by simp)
          have i := ih b d (fun t ht => ha t (by simp [ht])) (fun t ht => hb t (by simp [ht])) (fun t ht => hd t (by simp [ht]))
          simp only [lcmp, orI] at h h' ⊢
          by_cases h1 : c x y = 0
          · rw [if_pos h1] at h
            rw [o.eq _ _ hx hy] at h1
            subst h1
            by_cases h2 : c x z = 0
            · rw [if_pos h2] at h' ⊢; exact i h h'
            · rw [if_neg h2] at h' ⊢; exact h'
          · rw [if_neg h1] at h
            by_cases h2 : c y z = 0
            · rw [o.eq _ _ hy hz] at h2
              subst h2
              rw [if_neg h1]; exact h
            · rw [if_neg h2] at h'
              have := o.trans _ _ _ hx hy hz h h'
              rw [this]; simp

theorem kcmp_eq : ∀ a b, kcmp a b = lcmp scmp a b
  | [], [] => rfl
  | [], _ :: _ => rfl
  | _ :: _, [] => rfl
  | a :: x, b :: y => by simp only [kcmp, lcmp, orI, kcmp_eq x y]

namespace D
/-- All but the kids. -/
def root (a b : D) : Int := orI (icmp a.kind b.kind) (orI (icmp a.num b.num) (orI (scmp a.str b.str) (orI (icmp a.keys.length b.keys.length) (orI (kcmp a.keys b.keys) (icmp a.kids.length b.kids.length)))))
mutual
def cmp : D → D → Int
  | .mk k n s ks l, .mk k' n' s' ks' l' => orI (root (.mk k n s ks l) (.mk k' n' s' ks' l')) (cmps l l')
def cmps : List D → List D → Int
  | [], [] => 0
  | [], _ :: _ => -1
  | _ :: _, [] => 1
  | a :: x, b :: y => orI (cmp a b) (cmps x y)
end
theorem cmps_eq : ∀ a b, cmps a b = lcmp cmp a b
  | [], [] => by simp [cmps, lcmp]
  | [], _ :: _ => by simp [cmps, lcmp]
  | _ :: _, [] => by simp [cmps, lcmp]
  | a :: x, b :: y => by simp only [cmps, lcmp, cmps_eq x y]
theorem orI_assoc (a b c : Int) : orI (orI a b) c = orI a (orI b c) := by
  unfold orI; by_cases h : a = 0
  · simp [h]
  · simp [h]
/-- All of a document, as a row of things that are ordered. -/
def key (d : D) : Int × Int × ByteArray × Int × List ByteArray × Int × List D := (d.kind, d.num, d.str, d.keys.length, d.keys, d.kids.length, d.kids)
theorem key_inj (a b : D) (h : key a = key b) : a = b := by
  obtain ⟨_, _, _, _, _⟩ := a; obtain ⟨_, _, _, _, _⟩ := b
  simp [key, kind, num, str, keys, kids] at h
  simp [h]
theorem cmp_key (a b : D) : cmp a b = orI (icmp (key a).1 (key b).1) (orI (icmp (key a).2.1 (key b).2.1) (orI (scmp (key a).2.2.1 (key b).2.2.1) (orI (icmp (key a).2.2.2.1 (key b).2.2.2.1) (orI (lcmp scmp (key a).2.2.2.2.1 (key b).2.2.2.2.1)
    (orI (icmp (key a).2.2.2.2.2.1 (key b).2.2.2.2.2.1) (lcmp cmp (key a).2.2.2.2.2.2 (key b).2.2.2.2.2.2)))))) := by
  obtain ⟨_, _, _, _, _⟩ := a; obtain ⟨_, _, _, _, _⟩ := b
  simp only [cmp, root, key, kind, num, str, keys, kids, kcmp_eq, cmps_eq, orI_assoc]
theorem depth_le_depths : ∀ (l : List D) (d : D), d ∈ l → d.depth ≤ depths l
  | [], _, h => by simp at h
  | x :: r, d, h => by
    simp only [depths]
    rcases List.mem_cons.1 h with rfl | h
    · omega
    · have := depth_le_depths r d h; omega
theorem cmp_ordered_at (n : Nat) : Ordered cmp (fun d => d.depth ≤ n) := by
  induction n with
  | zero =>
    have no : ∀ d : D, ¬ d.depth ≤ 0 := fun d => by obtain ⟨_, _, _, _, _⟩ := d; simp [depth]
    exact ⟨fun a _ h => absurd h (no a), fun a _ h => absurd h (no a), fun a _ h => absurd h (no a), fun a _ _ h => absurd h (no a)⟩
  | succ n ih =>
    have h := (icmp_ordered.prod (icmp_ordered.prod (scmp_ordered.prod (icmp_ordered.prod ((lcmp_ordered scmp_ordered).prod (icmp_ordered.prod (lcmp_ordered ih))))))).comap key key_inj
    have e : cmp = fun a b => _ := funext fun a => funext fun b => cmp_key a b
    rw [e]
    refine h.mono fun d hd => ⟨trivial, trivial, trivial, trivial, fun _ _ => trivial, trivial, fun x hx => ?_⟩
    obtain ⟨_, _, _, _, l⟩ := d
    simp only [depth] at hd
    have := depth_le_depths l x hx
    show x.depth ≤ n
    omega
theorem cmp_ordered : Ordered cmp (fun _ => True) where
  cases a b _ _ := (cmp_ordered_at (max a.depth b.depth)).cases a b (by show _ ≤ _; omega) (by show _ ≤ _; omega)
  flip a b _ _ := (cmp_ordered_at (max a.depth b.depth)).flip a b (by show _ ≤ _; omega) (by show _ ≤ _; omega)
  eq a b _ _ := (cmp_ordered_at (max a.depth b.depth)).eq a b (by show _ ≤ _; omega) (by show _ ≤ _; omega)
  trans a b d _ _ _ := (cmp_ordered_at (max (max a.depth b.depth) d.depth)).trans a b d (by show _ ≤ _; omega) (by show _ ≤ _; omega) (by show _ ≤ _; omega)
end D
end Go.Proofs.YteecdmceleanjaaGreatDoor
namespace Go.Proofs.YteecdmceleanjaaGreatDoor
open Go.RowKit

mutual
/-- A type, as pure data. -/
inductive T where
  | mk (kind lo hi : Int) (names : List ByteArray) (fields : List F) (of : List T)
/-- A field. -/
inductive F where
  | mk (name : ByteArray) (opt : Bool) (type : T)
end

namespace F
def name : F → ByteArray | .mk n _ _ => n
def opt : F → Bool | .mk _ o _ => o
def type : F → T | .mk _ _ t => t
end F
namespace T
def kind : T → Int | .mk k _ _ _ _ _ => k
def lo : T → Int | .mk _ k _ _ _ _ => k
def hi : T → Int | .mk _ _ k _ _ _ => k
def names : T → List ByteArray | .mk _ _ _ l _ _ => l
def fields : T → List F | .mk _ _ _ _ l _ => l
def of : T → List T | .mk _ _ _ _ _ l => l
def kids (t : T) : List T := t.fields.map F.type ++ t.of
mutual
def size : T → Nat
  | .mk _ _ _ _ f l => sizesF f + sizes l + 1
def sizesF : List F → Nat
  | [] => 0
  | f :: r => sizeF f + sizesF r
def sizeF : F → Nat
  | .mk _ _ t => size t
def sizes : List T → Nat
  | [] => 0
  | d :: r => size d + sizes r
end
mutual
def depth : T → Nat
  | .mk _ _ _ _ f l => max (depthsF f) (depths l) + 1
def depthsF : List F → Nat
  | [] => 0
  | f :: r => max (depthF f) (depthsF r)
def depthF : F → Nat
  | .mk _ _ t => depth t
def depths : List T → Nat
  | [] => 0
  | d :: r => max (depth d) (depths r)
end
theorem sizeF_eq (f : F) : sizeF f = f.type.size := by obtain ⟨_, _, _⟩ := f; rfl
theorem depthF_eq (f : F) : depthF f = f.type.depth := by obtain ⟨_, _, _⟩ := f; rfl
theorem sizesF_eq : ∀ l : List F, sizesF l = sizes (l.map F.type)
  | [] => rfl
  | f :: r => by simp only [sizesF, List.map_cons, sizes, sizesF_eq r, sizeF_eq]
theorem depthsF_eq : ∀ l : List F, depthsF l = depths (l.map F.type)
  | [] => rfl
  | f :: r => by simp only [depthsF, List.map_cons, depths, depthsF_eq r, depthF_eq]
theorem sizes_append : ∀ a b : List T, sizes (a ++ b) = sizes a + sizes b
  | [], b => by simp [sizes]
  | d :: r, b => by simp only [List.cons_append, sizes, sizes_append r b]; omega
theorem depths_append : ∀ a b : List T, depths (a ++ b) = max (depths a) (depths b)
  | [], b => by simp [depths]
  | d :: r, b => by simp only [List.cons_append, depths, depths_append r b]; omega
theorem size_eq (t : T) : t.size = sizes (t.fields.map F.type) + sizes t.of + 1 := by
  obtain ⟨_, _, _, _, _, _⟩ := t; simp only [size, fields, of, sizesF_eq]
theorem depth_eq (t : T) : t.depth = max (depths (t.fields.map F.type)) (depths t.of) + 1 := by
  obtain ⟨_, _, _, _, _, _⟩ := t; simp only [depth, fields, of, depthsF_eq]
theorem size_pos (t : T) : 0 < t.size := by rw [size_eq]; omega
theorem depth_pos (t : T) : 0 < t.depth := by rw [depth_eq]; omega
theorem len_le_sizes : ∀ l : List T, l.length ≤ sizes l
  | [] => by simp [sizes]
  | d :: r => by have := len_le_sizes r; have := size_pos d; simp only [sizes, List.length_cons]; omega
theorem depth_le_depths : ∀ {l : List T} {i : Nat} (h : i < l.length), (l[i]).depth ≤ depths l
  | d :: r, 0, _ => by simp only [List.getElem_cons_zero, depths]; omega
  | d :: r, i + 1, h => by simp only [List.getElem_cons_succ, depths]; have := depth_le_depths (l := r) (i := i) (by simpa using h); omega
theorem depths_le {l : List T} {m : Nat} (h : ∀ (i : Nat) (h : i < l.length), (l[i]).depth ≤ m) : depths l ≤ m := by
  induction l with
  | nil => simp [depths]
  | cons d r ih =>
    simp only [depths]
    have h0 := h 0 (by simp)
    have := ih fun i hi => h (i + 1) (by simpa using hi)
    simp at h0
    omega
theorem field_depth {t : T} {i : Nat} (h : i < t.fields.length) : (t.fields[i]).type.depth < t.depth := by
  have := depth_le_depths (l := t.fields.map F.type) (i := i) (by simpa using h)
  rw [List.getElem_map] at this
  rw [depth_eq t]; omega
theorem of_depth {t : T} {i : Nat} (h : i < t.of.length) : (t.of[i]).depth < t.depth := by
  have := depth_le_depths (l := t.of) (i := i) h
  rw [depth_eq t]; omega
theorem sizes_take_succ (l : List T) (k : Nat) (h : k < l.length) : sizes (l.take (k + 1)) = sizes (l.take k) + (l[k]).size := by
  rw [List.take_succ_eq_append_getElem h, sizes_append]; simp [sizes]
theorem sizes_take_le (l : List T) (k : Nat) : sizes (l.take k) ≤ sizes l := by
  have := sizes_append (l.take k) (l.drop k)
  rw [List.take_append_drop] at this
  omega
end T

mutual
/-- The six cells of a type. -/
def TypeIn (w : World) (B : Nat) : T → Value → Value → Value → Value → Value → Value → Prop
  | .mk kind lo hi names fields of, v0, v1, v2, v3, v4, v5 =>
    v0 = .int .i64 kind ∧ v1 = .int .i64 lo ∧ v2 = .int .i64 hi ∧ Strs w B v3 names ∧
      (∃ (A : Option Addr) (c : Nat), v4 = .slice A fields.length c ∧ fields.length ≤ c ∧ (0 < fields.length → ∃ b off, A = some ⟨b, off, none⟩ ∧ b < B ∧ FieldsIn w B b off 0 fields)) ∧
      (∃ (A : Option Addr) (c : Nat), v5 = .slice A of.length c ∧ of.length ≤ c ∧ (0 < of.length → ∃ b off, A = some ⟨b, off, none⟩ ∧ b < B ∧ TypesIn w B b off 0 of))
def FieldsIn (w : World) (B : Nat) (b off : Nat) : Nat → List F → Prop
  | _, [] => True
  | i, f :: r => FieldIn w B b (off + i * 8) f ∧ FieldsIn w B b off (i + 1) r
def FieldIn (w : World) (B : Nat) (b o : Nat) : F → Prop
  | .mk name opt type => w.cell? ⟨b, o, none⟩ = some (.string name) ∧ w.cell? ⟨b, o + 1, none⟩ = some (.bool opt) ∧
      ∃ v0 v1 v2 v3 v4 v5 : Value, w.cell? ⟨b, o + 2, none⟩ = some v0 ∧ w.cell? ⟨b, o + 2 + 1, none⟩ = some v1 ∧ w.cell? ⟨b, o + 2 + 2, none⟩ = some v2 ∧ w.cell? ⟨b, o + 2 + 3, none⟩ = some v3 ∧ w.cell? ⟨b, o + 2 + 4, none⟩ = some v4 ∧ w.cell? ⟨b, o + 2 + 5, none⟩ = some v5 ∧ TypeIn w B type v0 v1 v2 v3 v4 v5
def TypesIn (w : World) (B : Nat) (b off : Nat) : Nat → List T → Prop
  | _, [] => True
  | i, d :: r => (∃ v0 v1 v2 v3 v4 v5 : Value, w.cell? ⟨b, off + i * 6, none⟩ = some v0 ∧ w.cell? ⟨b, off + i * 6 + 1, none⟩ = some v1 ∧ w.cell? ⟨b, off + i * 6 + 2, none⟩ = some v2 ∧ w.cell? ⟨b, off + i * 6 + 3, none⟩ = some v3 ∧ w.cell? ⟨b, off + i * 6 + 4, none⟩ = some v4 ∧ w.cell? ⟨b, off + i * 6 + 5, none⟩ = some v5 ∧ TypeIn w B d v0 v1 v2 v3 v4 v5) ∧ TypesIn w B b off (i + 1) r
end
/-- A type that stands at an address. -/
def TypeAt (w : World) (B : Nat) (b o : Nat) (t : T) : Prop :=
  ∃ v0 v1 v2 v3 v4 v5 : Value, w.cell? ⟨b, o, none⟩ = some v0 ∧ w.cell? ⟨b, o + 1, none⟩ = some v1 ∧ w.cell? ⟨b, o + 2, none⟩ = some v2 ∧ w.cell? ⟨b, o + 3, none⟩ = some v3 ∧ w.cell? ⟨b, o + 4, none⟩ = some v4 ∧ w.cell? ⟨b, o + 5, none⟩ = some v5 ∧ TypeIn w B t v0 v1 v2 v3 v4 v5
theorem FieldsIn.at_ {w : World} {B b off : Nat} : ∀ {l : List F} {i : Nat}, FieldsIn w B b off i l → ∀ (k : Nat) (h : k < l.length),
    w.cell? ⟨b, off + (i + k) * 8, none⟩ = some (.string (l[k]).name) ∧ w.cell? ⟨b, off + (i + k) * 8 + 1, none⟩ = some (.bool (l[k]).opt) ∧ TypeAt w B b (off + (i + k) * 8 + 2) (l[k]).type
  | [], _, _, k, h => by simp at h
  | f :: r, i, hk, 0, _ => by
    obtain ⟨n, o, t⟩ := f
    simp only [FieldsIn, FieldIn] at hk
    obtain ⟨⟨h1, h2, h3⟩, _⟩ := hk
    exact ⟨h1, h2, h3⟩
  | f :: r, i, hk, k + 1, h => by
    simp only [FieldsIn] at hk
    have := FieldsIn.at_ hk.2 k (by simpa using h)
    rw [show i + 1 + k = i + (k + 1) from by omega] at this
    simpa using this
theorem TypesIn.at_ {w : World} {B b off : Nat} : ∀ {l : List T} {i : Nat}, TypesIn w B b off i l → ∀ (k : Nat) (h : k < l.length), TypeAt w B b (off + (i + k) * 6) l[k]
  | [], _, _, k, h => by simp at h
  | d :: r, i, hk, 0, _ => by simp only [TypesIn] at hk; simpa [TypeAt] using hk.1
  | d :: r, i, hk, k + 1, h => by
    simp only [TypesIn] at hk
    have := TypesIn.at_ hk.2 k (by simpa using h)
    rw [show i + 1 + k = i + (k + 1) from by omega] at this
    simpa using this
mutual
theorem TypeIn.keep {w w' : World} {B B' : Nat} (hB : B ≤ B') (h : ∀ p : Addr, p.block < B → w'.cell? p = w.cell? p) : ∀ {d : T} {v0 v1 v2 v3 v4 v5 : Value}, TypeIn w B d v0 v1 v2 v3 v4 v5 → TypeIn w' B' d v0 v1 v2 v3 v4 v5
  | .mk _ _ _ _ fields of, _, _, _, _, _, _, hd => by
    simp only [TypeIn] at hd ⊢
    obtain ⟨h0, h1, h2, h3, ⟨A', c', e', k1, k2⟩, ⟨A'', c'', e'', k3, k4⟩⟩ := hd
    refine ⟨h0, h1, h2, (h3.keep h).more hB, ⟨A', c', e', k1, fun hl => ?_⟩, ⟨A'', c'', e'', k3, fun hl => ?_⟩⟩
    · obtain ⟨b, off, ea, hb, hk⟩ := k2 hl
      exact ⟨b, off, ea, by omega, FieldsIn.keep hB h hb hk⟩
    · obtain ⟨b, off, ea, hb, hk⟩ := k4 hl
      exact ⟨b, off, ea, by omega, TypesIn.keep hB h hb hk⟩
theorem FieldsIn.keep {w w' : World} {B B' : Nat} (hB : B ≤ B') (h : ∀ p : Addr, p.block < B → w'.cell? p = w.cell? p) {b off : Nat} (hb : b < B) : ∀ {l : List F} {i : Nat}, FieldsIn w B b off i l → FieldsIn w' B' b off i l
  | [], _, _ => by simp [FieldsIn]
  | f :: r, i, hk => by
    simp only [FieldsIn] at hk ⊢
    exact ⟨FieldIn.keep hB h hb hk.1, FieldsIn.keep hB h hb hk.2⟩
theorem FieldIn.keep {w w' : World} {B B' : Nat} (hB : B ≤ B') (h : ∀ p : Addr, p.block < B → w'.cell? p = w.cell? p) {b : Nat} (hb : b < B) : ∀ {f : F} {o : Nat}, FieldIn w B b o f → FieldIn w' B' b o f
  | .mk _ _ _, o, hk => by
    simp only [FieldIn] at hk ⊢
    obtain ⟨a1, a2, v0, v1, v2, v3, v4, v5, c0, c1, c2, c3, c4, c5, hd⟩ := hk
    have hh : ∀ n, w'.cell? ⟨b, n, none⟩ = w.cell? ⟨b, n, none⟩ := fun n => h ⟨b, n, none⟩ hb
    exact ⟨(hh _).trans a1, (hh _).trans a2, v0, v1, v2, v3, v4, v5, (hh _).trans c0, (hh _).trans c1, (hh _).trans c2, (hh _).trans c3, (hh _).trans c4, (hh _).trans c5, TypeIn.keep hB h hd⟩
theorem TypesIn.keep {w w' : World} {B B' : Nat} (hB : B ≤ B') (h : ∀ p : Addr, p.block < B → w'.cell? p = w.cell? p) {b off : Nat} (hb : b < B) : ∀ {l : List T} {i : Nat}, TypesIn w B b off i l → TypesIn w' B' b off i l
  | [], _, _ => by simp [TypesIn]
  | d :: r, i, hk => by
    simp only [TypesIn] at hk ⊢
    obtain ⟨⟨v0, v1, v2, v3, v4, v5, c0, c1, c2, c3, c4, c5, hd⟩, hr⟩ := hk
    have hh : ∀ n, w'.cell? ⟨b, n, none⟩ = w.cell? ⟨b, n, none⟩ := fun n => h ⟨b, n, none⟩ hb
    exact ⟨⟨v0, v1, v2, v3, v4, v5, (hh _).trans c0, (hh _).trans c1, (hh _).trans c2, (hh _).trans c3, (hh _).trans c4, (hh _).trans c5, TypeIn.keep hB h hd⟩, TypesIn.keep hB h hb hr⟩
end
theorem TypeAt.keep {w w' : World} {B B' b o : Nat} {t : T} (hB : B ≤ B') (h : ∀ p : Addr, p.block < B → w'.cell? p = w.cell? p) (hb : b < B) (ht : TypeAt w B b o t) : TypeAt w' B' b o t := by
  obtain ⟨v0, v1, v2, v3, v4, v5, c0, c1, c2, c3, c4, c5, hd⟩ := ht
  have hh : ∀ n, w'.cell? ⟨b, n, none⟩ = w.cell? ⟨b, n, none⟩ := fun n => h ⟨b, n, none⟩ hb
  exact ⟨v0, v1, v2, v3, v4, v5, (hh _).trans c0, (hh _).trans c1, (hh _).trans c2, (hh _).trans c3, (hh _).trans c4, (hh _).trans c5, hd.keep hB h⟩
theorem TypeIn.below {w w' : World} {B : Nat} {d : T} {v0 v1 v2 v3 v4 v5 : Value} (h : TypeIn w B d v0 v1 v2 v3 v4 v5) (hb : Below B w w') : TypeIn w' B d v0 v1 v2 v3 v4 v5 := TypeIn.keep (Nat.le_refl _) (fun _ hp => hb.cell hp) h
theorem TypeIn.forms {w : World} {B : Nat} {d : T} {v0 v1 v2 v3 v4 v5 : Value} (h : TypeIn w B d v0 v1 v2 v3 v4 v5) :
    ∃ A3 c3 A4 c4 A5 c5, v0 = .int .i64 d.kind ∧ v1 = .int .i64 d.lo ∧ v2 = .int .i64 d.hi ∧ v3 = .slice A3 d.names.length c3 ∧ v4 = .slice A4 d.fields.length c4 ∧ v5 = .slice A5 d.of.length c5 := by
  obtain ⟨_, _, _, _, _, _⟩ := d
  simp only [TypeIn] at h
  obtain ⟨h0, h1, h2, ⟨A3, c3, h3, _⟩, ⟨A4, c4, h4, _⟩, ⟨A5, c5, h5, _⟩⟩ := h
  exact ⟨A3, c3, A4, c4, A5, c5, h0, h1, h2, h3, h4, h5⟩
theorem TypeIn.names_ {w : World} {B : Nat} {d : T} {v0 v1 v2 v3 v4 v5 : Value} (h : TypeIn w B d v0 v1 v2 v3 v4 v5) : Strs w B v3 d.names := by
  obtain ⟨_, _, _, _, _, _⟩ := d
  simp only [TypeIn] at h
  exact h.2.2.2.1
/-- A row of fields that can be read. -/
def FieldsV (w : World) (B : Nat) (v : Value) (l : List F) : Prop :=
  ∃ (A : Option Addr) (c : Nat), v = .slice A l.length c ∧ l.length ≤ c ∧ (0 < l.length → ∃ b off, A = some ⟨b, off, none⟩ ∧ b < B ∧ FieldsIn w B b off 0 l)
/-- .. of types. -/
def TypesV (w : World) (B : Nat) (v : Value) (l : List T) : Prop :=
  ∃ (A : Option Addr) (c : Nat), v = .slice A l.length c ∧ l.length ≤ c ∧ (0 < l.length → ∃ b off, A = some ⟨b, off, none⟩ ∧ b < B ∧ TypesIn w B b off 0 l)
theorem TypeIn.fields_ {w : World} {B : Nat} {d : T} {v0 v1 v2 v3 v4 v5 : Value} (h : TypeIn w B d v0 v1 v2 v3 v4 v5) : FieldsV w B v4 d.fields := by
  obtain ⟨_, _, _, _, _, _⟩ := d
  simp only [TypeIn] at h
  exact h.2.2.2.2.1
theorem TypeIn.of_ {w : World} {B : Nat} {d : T} {v0 v1 v2 v3 v4 v5 : Value} (h : TypeIn w B d v0 v1 v2 v3 v4 v5) : TypesV w B v5 d.of := by
  obtain ⟨_, _, _, _, _, _⟩ := d
  simp only [TypeIn] at h
  exact h.2.2.2.2.2
theorem TypeIn.mk_ {w : World} {B : Nat} {d : T} {v3 v4 v5 : Value} (h3 : Strs w B v3 d.names) (h4 : FieldsV w B v4 d.fields) (h5 : TypesV w B v5 d.of) : TypeIn w B d (.int .i64 d.kind) (.int .i64 d.lo) (.int .i64 d.hi) v3 v4 v5 := by
  obtain ⟨_, _, _, _, _, _⟩ := d
  simp only [TypeIn]
  exact ⟨rfl, rfl, rfl, h3, h4, h5⟩
theorem FieldsV.keep {w w' : World} {B B' : Nat} {l : List F} {v : Value} (hB : B ≤ B') (h : ∀ p : Addr, p.block < B → w'.cell? p = w.cell? p) (hv : FieldsV w B v l) : FieldsV w' B' v l := by
  obtain ⟨A, c, rfl, k1, k2⟩ := hv
  refine ⟨A, c, rfl, k1, fun hl => ?_⟩
  obtain ⟨b, off, ea, hb, hk⟩ := k2 hl
  exact ⟨b, off, ea, by omega, FieldsIn.keep hB h hb hk⟩
theorem TypesV.keep {w w' : World} {B B' : Nat} {l : List T} {v : Value} (hB : B ≤ B') (h : ∀ p : Addr, p.block < B → w'.cell? p = w.cell? p) (hv : TypesV w B v l) : TypesV w' B' v l := by
  obtain ⟨A, c, rfl, k1, k2⟩ := hv
  refine ⟨A, c, rfl, k1, fun hl => ?_⟩
  obtain ⟨b, off, ea, hb, hk⟩ := k2 hl
  exact ⟨b, off, ea, by omega, TypesIn.keep hB h hb hk⟩
/-- A type handed over as a value. -/
def TypeV (w : World) (B : Nat) (t : T) (v : Value) : Prop := ∃ v0 v1 v2 v3 v4 v5, v = .agg #[v0, v1, v2, v3, v4, v5] ∧ TypeIn w B t v0 v1 v2 v3 v4 v5
theorem TypeV.keep {w w' : World} {B B' : Nat} {t : T} {v : Value} (hB : B ≤ B') (h : ∀ p : Addr, p.block < B → w'.cell? p = w.cell? p) (hv : TypeV w B t v) : TypeV w' B' t v := by
  obtain ⟨v0, v1, v2, v3, v4, v5, rfl, hd⟩ := hv
  exact ⟨v0, v1, v2, v3, v4, v5, rfl, hd.keep hB h⟩
mutual
/-- No part is greater than can be gone over. -/
def T.Fit : T → Prop
  | .mk _ _ _ ns f l => ns.length ≤ 10000 ∧ f.length ≤ 10000 ∧ l.length ≤ 10000 ∧ (∀ k ∈ ns, k.size ≤ 10000) ∧ T.FitsF f ∧ T.Fits l
def T.FitsF : List F → Prop
  | [] => True
  | f :: r => T.FitF f ∧ T.FitsF r
def T.FitF : F → Prop
  | .mk n _ t => n.size ≤ 10000 ∧ t.Fit
def T.Fits : List T → Prop
  | [] => True
  | d :: r => d.Fit ∧ T.Fits r
end
theorem T.Fits.at_ : ∀ {l : List T}, T.Fits l → ∀ {i : Nat} (hi : i < l.length), (l[i]).Fit
  | [], _, i, hi => by simp at hi
  | d :: r, h, 0, hi => by simp only [T.Fits] at h; exact h.1
  | d :: r, h, i + 1, hi => by simp only [T.Fits] at h; exact T.Fits.at_ h.2 (by simpa using hi)
theorem T.FitF.name {f : F} (h : T.FitF f) : f.name.size ≤ 10000 := by obtain ⟨_, _, _⟩ := f; simp only [T.FitF] at h; exact h.1
theorem T.FitF.type {f : F} (h : T.FitF f) : f.type.Fit := by obtain ⟨_, _, _⟩ := f; simp only [T.FitF] at h; exact h.2
theorem T.FitsF.at_ : ∀ {l : List F}, T.FitsF l → ∀ {i : Nat} (hi : i < l.length), T.FitF l[i]
  | [], _, i, hi => by simp at hi
  | d :: r, h, 0, hi => by simp only [T.FitsF] at h; exact h.1
  | d :: r, h, i + 1, hi => by simp only [T.FitsF] at h; exact T.FitsF.at_ h.2 (by simpa using hi)
theorem T.Fit.parts {t : T} (h : t.Fit) : t.names.length ≤ 10000 ∧ t.fields.length ≤ 10000 ∧ t.of.length ≤ 10000 ∧ (∀ k ∈ t.names, k.size ≤ 10000) ∧ T.FitsF t.fields ∧ T.Fits t.of := by
  obtain ⟨_, _, _, _, _, _⟩ := t; simp only [T.Fit] at h; exact h
end Go.Proofs.YteecdmceleanjaaGreatDoor
namespace Go.Proofs.YteecdmceleanjaaGreatDoor
open Go.RowKit

def smallB (c : UInt8) : Bool := decide (97 ≤ c.toNat) && decide (c.toNat ≤ 122)
def digitB (c : UInt8) : Bool := decide (48 ≤ c.toNat) && decide (c.toNat ≤ 57)
/-- May this byte stand at that place of a name? -/
def okAt (i : Nat) (c : UInt8) : Bool := smallB c || (decide (0 < i) && (digitB c || decide (c.toNat = 95)))
def nameB (s : ByteArray) : Bool := decide (1 ≤ s.size) && decide (s.size ≤ 16) && decide (∀ (i : Nat) (h : i < s.size), okAt i s[i] = true)

theorem nameB_true {s : ByteArray} (h1 : 1 ≤ s.size) (h2 : s.size ≤ 16) (h3 : ∀ (i : Nat) (h : i < s.size), okAt i s[i] = true) : nameB s = true := by
  simp only [nameB, Bool.and_eq_true, decide_eq_true_eq]; exact ⟨⟨h1, h2⟩, h3⟩
theorem nameB_short {s : ByteArray} (h1 : s.size = 0) : nameB s = false := by
  simp only [nameB, Bool.and_eq_false_imp, h1]; simp
theorem nameB_long {s : ByteArray} (h1 : 16 < s.size) : nameB s = false := by
  simp only [nameB]; rw [show decide (s.size ≤ 16) = false from by simp; omega]; simp
theorem nameB_bad {s : ByteArray} (i : Nat) (h : i < s.size) (h3 : okAt i s[i] = false) : nameB s = false := by
  simp only [nameB]
  rw [show decide (∀ (i : Nat) (h : i < s.size), okAt i s[i] = true) = false from by
    rw [decide_eq_false_iff_not]; intro hh; rw [hh i h] at h3; cases h3]
  simp

theorem ret_bool {a b : Bool} (h : a = b) : Ending.returned (.bool a) = .returned (.bool b) := by rw [h]
theorem ret_int {k : IntKind} {a b : Int} (h : a = b) : Ending.returned (.int k a) = .returned (.int k b) := by rw [h]
set_option maxHeartbeats 400000 in
theorem small_any (c : UInt8) (w : World) : Calls Tryz.prog 139 #[.int .u8 (c.toNat : Int)] w fun e w' => e = .returned (.bool (smallB c)) ∧ w = w' := by
  go_enter Tryz.func139, Tryz.ntmps139
  go_wp2
  all_goals (go_ret; refine ⟨ret_bool ?_, rfl⟩; rw [Bool.eq_iff_iff]; simp [smallB]; omega)

set_option maxHeartbeats 400000 in
theorem digit_any (c : UInt8) (w : World) : Calls Tryz.prog 140 #[.int .u8 (c.toNat : Int)] w fun e w' => e = .returned (.bool (digitB c)) ∧ w = w' := by
  go_enter Tryz.func140, Tryz.ntmps140
  go_wp2
  all_goals (go_ret; refine ⟨ret_bool ?_, rfl⟩; rw [Bool.eq_iff_iff]; simp [digitB]; omega)

theorem toList_empty {s : ByteArray} (h : s.size = 0) : s.toList.isEmpty = true := by
  rw [List.isEmpty_iff]
  exact List.eq_nil_of_length_eq_zero (by rw [ByteArray.toList_eq]; exact h)
theorem toList_some {s : ByteArray} (h : 0 < s.size) : s.toList.isEmpty = false := by
  cases hh : s.toList.isEmpty with
  | false => rfl
  | true =>
    rw [List.isEmpty_iff, ByteArray.toList_eq] at hh
    have : s.data.toList.length = s.size := rfl
    rw [hh] at this; simp at this; omega
set_option maxHeartbeats 800000 in
theorem name_any (s : ByteArray) (w : World) : Calls Tryz.prog 115 #[.string s] w fun e w' => e = .returned (.bool (nameB s)) ∧ w = w' := by
  rcases Nat.lt_or_ge 16 s.size with hl | hl
  · have E := Lib.hid (nameB_long hl)
    have h0 := toList_some (s := s) (by omega)
    go_enter Tryz.func115, Tryz.ntmps115
    go_wp2_with fail
    go_ret
    exact ⟨ret_bool E.out.symm, rfl⟩
  rcases Nat.eq_zero_or_pos s.size with h0 | h0
  · have E := Lib.hid (nameB_short h0)
    have h0' : s.toList.isEmpty = true := toList_empty h0
    go_enter Tryz.func115, Tryz.ntmps115
    go_wp2_with fail
    all_goals (go_ret; exact ⟨ret_bool E.out.symm, rfl⟩)
  have h0' := toList_some h0
  by_cases hs0 : smallB s[0] = true
  · go_enter Tryz.func115, Tryz.ntmps115
    go_wp2_with fail
    refine (small_any s[0] _).mono ?_
    rintro e w' ⟨rfl, rfl⟩
    go_wp2_with fail
    go_loop [3] (fun i => ∃ k : Nat, 1 ≤ k ∧ k ≤ s.size ∧ i = .int .i64 k ∧ ∀ (j : Nat) (h : j < s.size), j < k → okAt j s[j] = true) (fun i => s.size - (intOf i).toNat)
    case atStart => exact ⟨1, Nat.le_refl _, h0, rfl, fun j h hj => by obtain rfl : j = 0 := by omega
                                                                       simp [okAt, hs0]⟩
    case round =>
      obtain ⟨k, hk1, hk2, rfl, hall⟩ := hrel
      have HA := Lib.hid hall; clear hall
      by_cases hlt : k < s.size
      · cases hsm : smallB s[k] with
        | true =>
          have OK : Hid (okAt k s[k] = true) := by show okAt k s[k] = true; simp [okAt, hsm]
          go_wp2_with fail
          refine (small_any s[k] _).mono ?_
          rintro e w' ⟨rfl, rfl⟩
          go_wp2_with fail
          go_round
          case rel => exact ⟨k + 1, by omega, by omega, by go_num, fun j h hj => by
            rcases Nat.lt_or_ge j k with hjk | hjk
            · exact HA.out j h hjk
            · obtain rfl : j = k := by omega
              exact OK.out⟩
          case measure => simp [intOf]; omega
        | false =>
          cases hdg : digitB s[k] with
          | true =>
            have OK : Hid (okAt k s[k] = true) := by show okAt k s[k] = true; simp [okAt, hdg]; omega
            go_wp2_with fail
            refine (small_any s[k] _).mono ?_
            rintro e w' ⟨rfl, rfl⟩
            go_wp2_with fail
            refine (digit_any s[k] _).mono ?_
            rintro e w' ⟨rfl, rfl⟩
            go_wp2_with fail
            go_round
            case rel => exact ⟨k + 1, by omega, by omega, by go_num, fun j h hj => by
              rcases Nat.lt_or_ge j k with hjk | hjk
              · exact HA.out j h hjk
              · obtain rfl : j = k := by omega
                exact OK.out⟩
            case measure => simp [intOf]; omega
          | false =>
            by_cases hu : s[k].toNat = 95
            · have OK : Hid (okAt k s[k] = true) := by show okAt k s[k] = true; simp [okAt, hu]; omega
              have hu' : (!((s[k].toNat : Int) == 95)) = false := by simp [hu]
              have hu2 : ((s[k].toNat : Int) != 95) = false := by simp [hu]
              clear hu
              go_wp2_with fail
              refine (small_any s[k] _).mono ?_
              rintro e w' ⟨rfl, rfl⟩
              go_wp2_with fail
              refine (digit_any s[k] _).mono ?_
              rintro e w' ⟨rfl, rfl⟩
              go_wp2_with fail
              go_round
              case rel => exact ⟨k + 1, by omega, by omega, by go_num, fun j h hj => by
                rcases Nat.lt_or_ge j k with hjk | hjk
                · exact HA.out j h hjk
                · obtain rfl : j = k := by omega
                  exact OK.out⟩
              case measure => simp [intOf]; omega
            · have E := Lib.hid (nameB_bad (s := s) k hlt (by simp [okAt, hsm, hdg, hu]))
              have hu2 : ((s[k].toNat : Int) != 95) = true := by simp; omega
              clear hu
              go_wp2_with fail
              refine (small_any s[k] _).mono ?_
              rintro e w' ⟨rfl, rfl⟩
              go_wp2_with fail
              refine (digit_any s[k] _).mono ?_
              rintro e w' ⟨rfl, rfl⟩
              go_wp2_with fail
              go_ret
              exact ⟨ret_bool E.out.symm, rfl⟩
      · have E := Lib.hid (nameB_true (s := s) (by omega) hl (fun j h => HA.out j h (by omega)))
        go_wp2_with fail
        go_ret
        exact ⟨ret_bool E.out.symm, rfl⟩
  · have E := Lib.hid (nameB_bad (s := s) 0 h0 (by simpa [okAt] using hs0))
    have hs0' : smallB s[0] = false := by simpa using hs0
    clear hs0
    go_enter Tryz.func115, Tryz.ntmps115
    go_wp2_with fail
    refine (small_any s[0] _).mono ?_
    rintro e w' ⟨rfl, rfl⟩
    go_wp2_with fail
    go_ret
    exact ⟨ret_bool E.out.symm, rfl⟩
end Go.Proofs.YteecdmceleanjaaGreatDoor
namespace Go.Proofs.YteecdmceleanjaaGreatDoor
open Go.RowKit
theorem ret_cell5 {P : Program} {fn : Func} {R : Ending → World → Prop} {a : Act} {w : World} {b : Nat} {t : Tmp} {v0 v1 v2 v3 v4 : Value} {T : TypeId} (hres : fn.results = #[.cell t T]) (hslot : a.tmps.getD t undef = .pointer (some ⟨b, 0, none⟩))
    (hload : (loadVar T ⟨b, 0, none⟩).run P w = .ok (.agg #[v0, v1, v2, v3, v4]) w) (hd : a.defers = []) (hR : R (.returned (.agg #[v0, v1, v2, v3, v4])) w) : bodyPost P fn R .ret a w :=
  bodyPost_ret (v := .agg #[v0, v1, v2, v3, v4]) (by rw [Array.getD_eq_getD_getElem?] at hslot; simp [results, hres, hslot, asAddr, hload]) hd hR
/-- A document's variable: a block of five cells. -/
def Box5 (w : World) (b : Nat) (v0 v1 v2 v3 v4 : Value) : Prop := w.heap[b]? = some (.cells #[v0, v1, v2, v3, v4] 29 (0, 0))
section
variable {w w' : World} {b : Nat} {v0 v1 v2 v3 v4 : Value}
theorem Box5.lt (h : Box5 w b v0 v1 v2 v3 v4) : b < w.heap.size := by
  rcases Nat.lt_or_ge b w.heap.size with hlt | hge
  · exact hlt
  · unfold Box5 at h; rw [Array.getElem?_eq_none hge] at h; cases h
theorem Box5.cells (h : Box5 w b v0 v1 v2 v3 v4) : w.cell? ⟨b, 0, none⟩ = some v0 ∧ w.cell? ⟨b, 1, none⟩ = some v1 ∧ w.cell? ⟨b, 2, none⟩ = some v2 ∧ w.cell? ⟨b, 3, none⟩ = some v3 ∧ w.cell? ⟨b, 4, none⟩ = some v4 :=
  ⟨cell_of_row w b 0 _ _ _ h, cell_of_row w b 1 _ _ _ h, cell_of_row w b 2 _ _ _ h, cell_of_row w b 3 _ _ _ h, cell_of_row w b 4 _ _ _ h⟩
theorem Box5.frozen (h : Box5 w b v0 v1 v2 v3 v4) (i : Nat) : w.frozen? ⟨b, i, none⟩ = false := by
  unfold Box5 at h
  simp [World.frozen?, h]
theorem Box5.load (h : Box5 w b v0 v1 v2 v3 v4) : (loadVar 29 ⟨b, 0, none⟩).run Tryz.prog w = .ok (.agg #[v0, v1, v2, v3, v4]) w := by
  obtain ⟨z0, z1, z2, z3, z4⟩ := h.cells
  simp [go_sem, z0, z1, z2, z3, z4]
theorem Box5.new (w : World) (v0 v1 v2 v3 v4 : Value) : Box5 (w.alloc (.cells #[v0, v1, v2, v3, v4] 29)) w.heap.size v0 v1 v2 v3 v4 := heap_alloc_new w _
theorem Box5.same (h : Box5 w b v0 v1 v2 v3 v4) (hs : w'.heap[b]? = w.heap[b]?) : Box5 w' b v0 v1 v2 v3 v4 := hs.trans h
theorem Box5.alloc (h : Box5 w b v0 v1 v2 v3 v4) (o : Obj) : Box5 (w.alloc o) b v0 v1 v2 v3 v4 := (Below.heap_alloc w o b h.lt).trans h
theorem Box5.far (h : Box5 w b v0 v1 v2 v3 v4) {p : Addr} (hp : b ≠ p.block) (u : Value) : Box5 (w.setCell p u) b v0 v1 v2 v3 v4 := (Below.heap_setCell w p u b hp).trans h
theorem Box5.set_ (h : Box5 w b v0 v1 v2 v3 v4) (i : Nat) (u : Value) : (w.setCell ⟨b, i, none⟩ u).heap[b]? = some (.cells (#[v0, v1, v2, v3, v4].setIfInBounds i u) 29 (0, 0)) := by
  unfold Box5 at h
  simp [World.setCell, Array.getElem?_modify, h]
theorem Box5.set0 (h : Box5 w b v0 v1 v2 v3 v4) (u : Value) : Box5 (w.setCell ⟨b, 0, none⟩ u) b u v1 v2 v3 v4 := h.set_ 0 u
theorem Box5.set1 (h : Box5 w b v0 v1 v2 v3 v4) (u : Value) : Box5 (w.setCell ⟨b, 1, none⟩ u) b v0 u v2 v3 v4 := h.set_ 1 u
theorem Box5.set2 (h : Box5 w b v0 v1 v2 v3 v4) (u : Value) : Box5 (w.setCell ⟨b, 2, none⟩ u) b v0 v1 u v3 v4 := h.set_ 2 u
theorem Box5.new' {w : World} {b : Nat} (hb : w.heap.size = b) (v0 v1 v2 v3 v4 : Value) : Box5 (w.alloc (.cells #[v0, v1, v2, v3, v4] 29)) b v0 v1 v2 v3 v4 := hb ▸ heap_alloc_new w _
theorem Box5.set3 (h : Box5 w b v0 v1 v2 v3 v4) (u : Value) : Box5 (w.setCell ⟨b, 3, none⟩ u) b v0 v1 v2 u v4 := h.set_ 3 u
theorem Box5.set4 (h : Box5 w b v0 v1 v2 v3 v4) (u : Value) : Box5 (w.setCell ⟨b, 4, none⟩ u) b v0 v1 v2 v3 u := h.set_ 4 u
end
end Go.Proofs.YteecdmceleanjaaGreatDoor
namespace Go.Proofs.YteecdmceleanjaaGreatDoor
open Go.RowKit

theorem scmp_lt {x y : ByteArray} (h : scmp x y = -1) : Op.bytesLess x.toList y.toList = true := by
  rw [less_compare, ByteArray.toList_eq, ByteArray.toList_eq]; simpa [scmp] using h
theorem scmp_nlt {x y : ByteArray} (h : scmp x y ≠ -1) : Op.bytesLess x.toList y.toList = false := by
  rw [less_compare, ByteArray.toList_eq, ByteArray.toList_eq]; simpa [scmp] using h
theorem scmp_eq {x y : ByteArray} (h : scmp x y = 0) : (x.toList == y.toList) = true := by
  rw [ByteArray.toList_eq, ByteArray.toList_eq, beq_iff_eq]; exact (eq_compare _ _).1 h
theorem scmp_ne {x y : ByteArray} (h : scmp x y ≠ 0) : (x.toList == y.toList) = false := by
  rw [ByteArray.toList_eq, ByteArray.toList_eq, beq_eq_false_iff_ne]; exact fun hh => h ((eq_compare _ _).2 hh)
theorem cmps_end {xs ys : List D} {k : Nat} (h1 : xs.length ≤ k) (h2 : ys.length ≤ k) : D.cmps (xs.drop k) (ys.drop k) = 0 := by
  rw [List.drop_eq_nil_of_le h2, List.drop_eq_nil_of_le h1]; simp [D.cmps]
theorem cmps_same {xs ys : List D} {k : Nat} (h1 : k < xs.length) (h2 : k < ys.length) (h : D.cmp xs[k] ys[k] = 0) : D.cmps (xs.drop k) (ys.drop k) = D.cmps (xs.drop (k + 1)) (ys.drop (k + 1)) := by
  rw [List.drop_eq_getElem_cons h1, List.drop_eq_getElem_cons h2]; simp [D.cmps, orI, h]
theorem cmps_apart {xs ys : List D} {k : Nat} (h1 : k < xs.length) (h2 : k < ys.length) (h : D.cmp xs[k] ys[k] ≠ 0) : D.cmps (xs.drop k) (ys.drop k) = D.cmp xs[k] ys[k] := by
  rw [List.drop_eq_getElem_cons h1, List.drop_eq_getElem_cons h2]; simp [D.cmps, orI, h]
theorem D.cmp_eq (d d' : D) : D.cmp d d' = orI (D.root d d') (D.cmps d.kids d'.kids) := by
  obtain ⟨_, _, _, _, _⟩ := d; obtain ⟨_, _, _, _, _⟩ := d'; simp only [D.cmp, D.kids]
theorem kcmp_end {xs ys : List ByteArray} {k : Nat} (h1 : xs.length ≤ k) (h2 : ys.length ≤ k) : kcmp (xs.drop k) (ys.drop k) = 0 := by
  rw [List.drop_eq_nil_of_le h2, List.drop_eq_nil_of_le h1]; rfl
theorem kcmp_same {xs ys : List ByteArray} {k : Nat} (h1 : k < xs.length) (h2 : k < ys.length) (h : scmp xs[k] ys[k] = 0) : kcmp (xs.drop k) (ys.drop k) = kcmp (xs.drop (k + 1)) (ys.drop (k + 1)) := by
  rw [List.drop_eq_getElem_cons h1, List.drop_eq_getElem_cons h2]; simp [kcmp, h]
theorem kcmp_apart {xs ys : List ByteArray} {k : Nat} (h1 : k < xs.length) (h2 : k < ys.length) (h : scmp xs[k] ys[k] ≠ 0) : kcmp (xs.drop k) (ys.drop k) = scmp xs[k] ys[k] := by
  rw [List.drop_eq_getElem_cons h1, List.drop_eq_getElem_cons h2]; simp [kcmp, h]
theorem D.depth_eq (d : D) : d.depth = D.depths d.kids + 1 := by obtain ⟨_, _, _, _, _⟩ := d; simp [D.depth, D.kids]
end Go.Proofs.YteecdmceleanjaaGreatDoor
namespace Go.Proofs.YteecdmceleanjaaGreatDoor
open Go.RowKit

/-- A document's five cells as one value. -/
def DocV (w : World) (B : Nat) (d : D) (v : Value) : Prop := ∃ v0 v1 v2 v3 v4, v = .agg #[v0, v1, v2, v3, v4] ∧ DocIn w B d v0 v1 v2 v3 v4
theorem DocV.keep {w w' : World} {B B' : Nat} (hB : B ≤ B') (h : ∀ p : Addr, p.block < B → w'.cell? p = w.cell? p) {d : D} {v : Value} (hd : DocV w B d v) : DocV w' B' d v := by
  obtain ⟨v0, v1, v2, v3, v4, rfl, hd⟩ := hd
  exact ⟨v0, v1, v2, v3, v4, rfl, hd.keep hB h⟩
theorem DocV.below {w w' : World} {B : Nat} {d : D} {v : Value} (h : DocV w B d v) (hb : Below B w w') : DocV w' B d v := DocV.keep (Nat.le_refl _) (fun _ hp => hb.cell hp) h
def D.same (d d' : D) : Bool := decide (D.cmp d d' = 0)
end Go.Proofs.YteecdmceleanjaaGreatDoor
namespace Go.Proofs.YteecdmceleanjaaGreatDoor
open Go.RowKit

def blk (v : Value) : List Nat := v.ownBlock.toList
mutual
/-- The five cells of a document of the call's own; F: its blocks. -/
def OwnIn (w : World) (base : Nat) : D → Value → Value → Value → Value → Value → List Nat → Prop
  | .mk kind num str keys kids, v0, v1, v2, v3, v4, F =>
    v0 = .int .i64 kind ∧ v1 = .int .i64 num ∧ v2 = .string str ∧ w.ownsRow base 9 1 v3 keys.length (keys.map Value.string) ∧
      ∃ (cs : List Value) (Fs : List Nat), w.ownsRow base 29 5 v4 kids.length cs ∧ OwnKids w base kids cs Fs ∧ F = blk v3 ++ (blk v4 ++ Fs)
def OwnKids (w : World) (base : Nat) : List D → List Value → List Nat → Prop
  | [], cs, F => cs = [] ∧ F = []
  | d :: r, cs, F => ∃ (v0 v1 v2 v3 v4 : Value) (cs' : List Value) (F1 F2 : List Nat), cs = v0 :: v1 :: v2 :: v3 :: v4 :: cs' ∧ OwnIn w base d v0 v1 v2 v3 v4 F1 ∧ OwnKids w base r cs' F2 ∧ F = F1 ++ F2
end

theorem blk_mem {v : Value} {k : Nat} : k ∈ blk v ↔ v.ownBlock = some k := by unfold blk; cases h : v.ownBlock <;> simp [eq_comm]
theorem ownsRow_same {w w' : World} {base : Nat} {e : TypeId} {size n : Nat} {v : Value} {xs : List Value} (h : w.ownsRow base e size v n xs) (hs : ∀ k, k ∈ blk v → w'.heap[k]? = w.heap[k]?) : w'.ownsRow base e size v n xs := by
  obtain ⟨h1, h2⟩ := h
  refine ⟨h1, ?_⟩
  rcases h2 with h2 | ⟨g, cap, cur, hv, hg, hh, r⟩
  · exact .inl h2
  · exact .inr ⟨g, cap, cur, hv, hg, by rw [hs g (by rw [blk_mem, hv]; rfl)]; exact hh, r⟩
theorem ownsRow_base {w : World} {base base' : Nat} {e : TypeId} {size n : Nat} {v : Value} {xs : List Value} (h : w.ownsRow base e size v n xs) (hs : base' ≤ base) : w.ownsRow base' e size v n xs := by
  obtain ⟨h1, h2⟩ := h
  refine ⟨h1, ?_⟩
  rcases h2 with h2 | ⟨g, cap, cur, hv, hg, hh, r⟩
  · exact .inl h2
  · exact .inr ⟨g, cap, cur, hv, by omega, hh, r⟩
mutual
theorem OwnIn.same {w w' : World} {base base' : Nat} (hb : base' ≤ base) : ∀ {d : D} {v0 v1 v2 v3 v4 : Value} {F : List Nat}, OwnIn w base d v0 v1 v2 v3 v4 F → (∀ k ∈ F, w'.heap[k]? = w.heap[k]?) → OwnIn w' base' d v0 v1 v2 v3 v4 F
  | .mk _ _ _ _ _, _, _, _, _, _, _, h, hs => by
    simp only [OwnIn] at h ⊢
    obtain ⟨h0, h1, h2, h3, cs, Fs, h4, h5, rfl⟩ := h
    exact ⟨h0, h1, h2, ownsRow_base (ownsRow_same h3 fun k hk => hs k (by simp [hk])) hb, cs, Fs, ownsRow_base (ownsRow_same h4 fun k hk => hs k (by simp [hk])) hb, OwnKids.same hb h5 fun k hk => hs k (by simp [hk]), rfl⟩
theorem OwnKids.same {w w' : World} {base base' : Nat} (hb : base' ≤ base) : ∀ {l : List D} {cs : List Value} {F : List Nat}, OwnKids w base l cs F → (∀ k ∈ F, w'.heap[k]? = w.heap[k]?) → OwnKids w' base' l cs F
  | [], _, _, h, _ => by simpa [OwnKids] using h
  | d :: r, _, _, h, hs => by
    simp only [OwnKids] at h ⊢
    obtain ⟨v0, v1, v2, v3, v4, cs', F1, F2, h1, h2, h3, rfl⟩ := h
    exact ⟨v0, v1, v2, v3, v4, cs', F1, F2, h1, OwnIn.same hb h2 fun k hk => hs k (by simp [hk]), OwnKids.same hb h3 fun k hk => hs k (by simp [hk]), rfl⟩
end
mutual
theorem OwnIn.lt {w : World} {base : Nat} : ∀ {d : D} {v0 v1 v2 v3 v4 : Value} {F : List Nat}, OwnIn w base d v0 v1 v2 v3 v4 F → ∀ k ∈ F, base ≤ k ∧ k < w.heap.size
  | .mk _ _ _ _ _, _, _, _, _, _, _, h, k, hk => by
    simp only [OwnIn] at h
    obtain ⟨h0, h1, h2, h3, cs, Fs, h4, h5, rfl⟩ := h
    simp only [List.mem_append, blk_mem] at hk
    rcases hk with hk | hk | hk
    · exact h3.lt k hk
    · exact h4.lt k hk
    · exact OwnKids.lt h5 k hk
theorem OwnKids.lt {w : World} {base : Nat} : ∀ {l : List D} {cs : List Value} {F : List Nat}, OwnKids w base l cs F → ∀ k ∈ F, base ≤ k ∧ k < w.heap.size
  | [], _, _, h, k, hk => by
    simp only [OwnKids] at h
    rw [h.2] at hk; simp at hk
  | d :: r, _, _, h, k, hk => by
    simp only [OwnKids] at h
    obtain ⟨v0, v1, v2, v3, v4, cs', F1, F2, h1, h2, h3, rfl⟩ := h
    rcases List.mem_append.1 hk with hk | hk
    · exact OwnIn.lt h2 k hk
    · exact OwnKids.lt h3 k hk
end
theorem OwnIn.below {w w' : World} {base B : Nat} {d : D} {v0 v1 v2 v3 v4 : Value} {F : List Nat} (h : OwnIn w base d v0 v1 v2 v3 v4 F) (hb : Below B w w') (hB : w.heap.size ≤ B) : OwnIn w' base d v0 v1 v2 v3 v4 F :=
  h.same (Nat.le_refl _) fun k hk => hb.block k (by have := (h.lt k hk).2; omega)
theorem OwnKids.below {w w' : World} {base B : Nat} {l : List D} {cs : List Value} {F : List Nat} (h : OwnKids w base l cs F) (hb : Below B w w') (hB : w.heap.size ≤ B) : OwnKids w' base l cs F :=
  h.same (Nat.le_refl _) fun k hk => hb.block k (by have := (h.lt k hk).2; omega)

theorem OwnIn.make {w : World} {base : Nat} {d : D} {v3 v4 : Value} {cs : List Value} {Fs : List Nat} (h3 : w.ownsRow base 9 1 v3 d.keys.length (d.keys.map Value.string)) (h4 : w.ownsRow base 29 5 v4 d.kids.length cs) (h5 : OwnKids w base d.kids cs Fs) :
    OwnIn w base d (.int .i64 d.kind) (.int .i64 d.num) (.string d.str) v3 v4 (blk v3 ++ (blk v4 ++ Fs)) := by
  obtain ⟨_, _, _, _, _⟩ := d
  simp only [OwnIn]
  exact ⟨rfl, rfl, rfl, h3, cs, Fs, h4, h5, rfl⟩
/-- Kids, with one more at the end. -/
theorem OwnKids.push {w : World} {base : Nat} {x : D} {v0 v1 v2 v3 v4 : Value} {G : List Nat} (hx : OwnIn w base x v0 v1 v2 v3 v4 G) : ∀ {l : List D} {cs : List Value} {F : List Nat}, OwnKids w base l cs F → OwnKids w base (l ++ [x]) (cs ++ [v0, v1, v2, v3, v4]) (F ++ G)
  | [], _, _, h => by
    simp only [OwnKids] at h
    obtain ⟨rfl, rfl⟩ := h
    simp only [List.nil_append, OwnKids]
    exact ⟨v0, v1, v2, v3, v4, [], G, [], rfl, hx, ⟨rfl, rfl⟩, by simp⟩
  | d :: r, _, _, h => by
    simp only [OwnKids] at h
    obtain ⟨u0, u1, u2, u3, u4, cs', F1, F2, rfl, h2, h3, rfl⟩ := h
    simp only [List.cons_append, OwnKids]
    exact ⟨u0, u1, u2, u3, u4, _, F1, F2 ++ G, rfl, h2, OwnKids.push hx h3, by simp⟩

/-- A kid among kids: what is ahead of it, and what is behind. -/
theorem OwnKids.split {w : World} {base : Nat} : ∀ {l : List D} {cs : List Value} {F : List Nat}, OwnKids w base l cs F → ∀ (i : Nat) (h : i < l.length),
    ∃ (v0 v1 v2 v3 v4 : Value) (c1 c2 : List Value) (F1 G F2 : List Nat), cs = c1 ++ (v0 :: v1 :: v2 :: v3 :: v4 :: c2) ∧ c1.length = i * 5 ∧ F = F1 ++ (G ++ F2) ∧ OwnKids w base (l.take i) c1 F1 ∧ OwnIn w base l[i] v0 v1 v2 v3 v4 G ∧ OwnKids w base (l.drop (i + 1)) c2 F2
  | [], _, _, _, i, h => by simp at h
  | d :: r, _, _, hk, 0, _ => by
    simp only [OwnKids] at hk
    obtain ⟨v0, v1, v2, v3, v4, cs', F1, F2, rfl, h2, h3, rfl⟩ := hk
    exact ⟨v0, v1, v2, v3, v4, [], cs', [], F1, F2, rfl, rfl, rfl, by simp [OwnKids], by simpa using h2, by simpa using h3⟩
  | d :: r, _, _, hk, i + 1, h => by
    simp only [OwnKids] at hk
    obtain ⟨u0, u1, u2, u3, u4, cs', F1, F2, rfl, h2, h3, rfl⟩ := hk
    obtain ⟨v0, v1, v2, v3, v4, c1, c2, E1, G, E2, rfl, e1, rfl, k1, k2, k3⟩ := OwnKids.split h3 i (by simpa using h)
    refine ⟨v0, v1, v2, v3, v4, u0 :: u1 :: u2 :: u3 :: u4 :: c1, c2, F1 ++ E1, G, E2, by simp, by simp [e1]; omega, by simp, ?_, by simpa using k2, by simpa using k3⟩
    simp only [List.take_succ_cons, OwnKids]
    exact ⟨u0, u1, u2, u3, u4, c1, F1, E1, rfl, h2, k1, rfl⟩
/-- .. and put together again. -/
theorem OwnKids.join {w : World} {base : Nat} {x : D} {v0 v1 v2 v3 v4 : Value} {G : List Nat} (hx : OwnIn w base x v0 v1 v2 v3 v4 G) {m : List D} {c2 : List Value} {F2 : List Nat} (hm : OwnKids w base m c2 F2) :
    ∀ {l : List D} {c1 : List Value} {F1 : List Nat}, OwnKids w base l c1 F1 → OwnKids w base (l ++ x :: m) (c1 ++ (v0 :: v1 :: v2 :: v3 :: v4 :: c2)) (F1 ++ (G ++ F2))
  | [], _, _, h => by
    simp only [OwnKids] at h
    obtain ⟨rfl, rfl⟩ := h
    simp only [List.nil_append, OwnKids]
    exact ⟨v0, v1, v2, v3, v4, c2, G, F2, rfl, hx, hm, rfl⟩
  | d :: r, _, _, h => by
    simp only [OwnKids] at h
    obtain ⟨u0, u1, u2, u3, u4, cs', E1, E2, rfl, h2, h3, rfl⟩ := h
    simp only [List.cons_append, OwnKids]
    exact ⟨u0, u1, u2, u3, u4, _, E1, E2 ++ (G ++ F2), rfl, h2, OwnKids.join hx hm h3, by simp⟩
theorem OwnKids.append {w : World} {base : Nat} {m : List D} {c2 : List Value} {F2 : List Nat} (hm : OwnKids w base m c2 F2) :
    ∀ {l : List D} {c1 : List Value} {F1 : List Nat}, OwnKids w base l c1 F1 → OwnKids w base (l ++ m) (c1 ++ c2) (F1 ++ F2)
  | [], _, _, h => by
    simp only [OwnKids] at h
    obtain ⟨rfl, rfl⟩ := h
    simpa using hm
  | d :: r, _, _, h => by
    simp only [OwnKids] at h
    obtain ⟨u0, u1, u2, u3, u4, cs', E1, E2, rfl, h2, h3, rfl⟩ := h
    simp only [List.cons_append, OwnKids]
    exact ⟨u0, u1, u2, u3, u4, _, E1, E2 ++ F2, rfl, h2, OwnKids.append hm h3, by simp⟩

theorem Strs_of_own {w : World} {base : Nat} {v : Value} {xs : List ByteArray} (h : w.ownsRow base 9 1 v xs.length (xs.map Value.string)) : Strs w w.heap.size v xs := by
  rcases Nat.eq_zero_or_pos xs.length with h0 | h0
  · rcases h.2 with ⟨rfl, _⟩ | ⟨g, cap, cur, rfl, _, hh, hc, _⟩
    · exact ⟨none, 0, by rw [h0], by omega, fun h => by omega⟩
    · exact ⟨some ⟨g, 0, none⟩, cap, rfl, hc, fun h => by omega⟩
  · obtain ⟨g, cap, rfl, hg, hlt⟩ := h.form h0
    have hc : xs.length ≤ cap := by
      rcases h.2 with ⟨e, _⟩ | ⟨g', cap', cur, e, _, _, hc, _⟩
      · cases e
      · injection e with _ _ e3; omega
    refine ⟨some ⟨g, 0, none⟩, cap, rfl, hc, fun _ => ⟨g, 0, rfl, hlt, fun i hi => ?_⟩⟩
    rw [Nat.zero_add, h.cellAt i (by omega)]
    simp [hi]
mutual
theorem OwnIn.doc {w : World} {base : Nat} : ∀ {d : D} {v0 v1 v2 v3 v4 : Value} {F : List Nat}, OwnIn w base d v0 v1 v2 v3 v4 F → DocIn w w.heap.size d v0 v1 v2 v3 v4
  | .mk _ _ _ keys kids, v0, v1, v2, v3, v4, F, h => by
    simp only [OwnIn] at h
    simp only [DocIn]
    obtain ⟨h0, h1, h2, h3, cs, Fs, h4, h5, rfl⟩ := h
    refine ⟨h0, h1, h2, Strs_of_own h3, ?_⟩
    rcases Nat.eq_zero_or_pos kids.length with hz | hz
    · rcases h4.2 with ⟨rfl, _⟩ | ⟨g, cap, cur, rfl, _, hh, hc, _⟩
      · exact ⟨none, 0, by rw [hz], by omega, fun h => by omega⟩
      · exact ⟨some ⟨g, 0, none⟩, cap, rfl, hc, fun h => by omega⟩
    · obtain ⟨g, cap, rfl, hg, hlt⟩ := h4.form hz
      have hc : kids.length ≤ cap := by
        rcases h4.2 with ⟨e, _⟩ | ⟨g', cap', cur, e, _, _, hc, _⟩
        · cases e
        · injection e with _ _ e3; omega
      refine ⟨some ⟨g, 0, none⟩, cap, rfl, hc, fun _ => ⟨g, 0, rfl, hlt, ?_⟩⟩
      exact OwnKids.kids h5 (i := 0) fun j hj => by
        rw [Nat.zero_mul, Nat.add_zero, Nat.zero_add, h4.cellAt j (by have := h4.1; omega)]
theorem OwnKids.kids {w : World} {base : Nat} {g off : Nat} : ∀ {l : List D} {cs : List Value} {F : List Nat}, OwnKids w base l cs F → ∀ {i : Nat}, (∀ j, j < cs.length → w.cell? ⟨g, off + i * 5 + j, none⟩ = cs[j]?) → KidsIn w w.heap.size g off i l
  | [], _, _, _, _, _ => by simp [KidsIn]
  | d :: r, _, _, h, i, hc => by
    simp only [OwnKids] at h
    obtain ⟨v0, v1, v2, v3, v4, cs', F1, F2, rfl, h2, h3, rfl⟩ := h
    simp only [KidsIn]
    refine ⟨⟨v0, v1, v2, v3, v4, hc 0 (by simp), hc 1 (by simp), hc 2 (by simp), hc 3 (by simp), hc 4 (by simp), OwnIn.doc h2⟩, OwnKids.kids h3 fun j hj => ?_⟩
    have := hc (j + 5) (by simp; omega)
    rw [show off + (i + 1) * 5 + j = off + i * 5 + (j + 5) from by omega, this]
    simp
end

end Go.Proofs.YteecdmceleanjaaGreatDoor
namespace Go.Proofs.YteecdmceleanjaaGreatDoor
open Go.RowKit

theorem infoS : (Tryz.prog.info? 9).map (fun i => (i.zero, i.size, i.bytes)) = some (some (.string ByteArray.empty), 1, 16) := by kernel_rfl
theorem infoD : (Tryz.prog.info? 29).map (fun i => (i.zero, i.size, i.bytes)) = some (some (.agg #[.int .i64 0, .int .i64 0, .string ByteArray.empty, .slice none 0 0, .slice none 0 0]), 5, 80) := by kernel_rfl

theorem strs_one (xs : List ByteArray) : ∀ u ∈ xs.map Value.string, u.oneCell' = true := by
  intro u hu
  obtain ⟨x, _, rfl⟩ := List.mem_map.1 hu
  rfl
theorem ownsRow_slice {w : World} {base : Nat} {e : TypeId} {size n : Nat} {v : Value} {xs : List Value} (h : w.ownsRow base e size v n xs) : ∃ A c, v = .slice A n c := by
  rcases h.2 with ⟨rfl, rfl⟩ | ⟨g, cap, cur, rfl, _⟩
  · exact ⟨none, 0, rfl⟩
  · exact ⟨_, _, rfl⟩
/-- 'append(v, nil...)', v the call's own: v. -/
theorem run_append_nils {P : Program} (w : World) (t ty e : TypeId) (i : TypeInfo) (base size c : Nat) (ht : P.underlying t = some (.slice e)) (hi : P.info? e = some i) (v : Value) (n : Nat) (xs : List Value) (hown : w.ownsRow base e size v n xs) :
    (Builtin.append_ #[t, t] ty #[v, .slice none 0 c]).run P w = .ok v w := by
  rcases hown.2 with ⟨rfl, rfl⟩ | ⟨g, cap, cur, rfl, _, _, hnc, _⟩
  · simp [Builtin.append_, run_underlying ht, sizeOf, typeInfo, hi, Builtin.lenOf, Builtin.firstCells]
  · simp [Builtin.append_, run_underlying ht, sizeOf, typeInfo, hi, Builtin.lenOf, Builtin.firstCells, hnc, storeCells]
theorem wpList_append_nilsrc {P : Program} {w : World} {ops : Array Oper} {rest : List Oper} {o : Oper} {a : Act} {Q : Exit → Act → World → Prop} (hgd : o.guard = none) (s x : Operand) (t e : TypeId) (i : TypeInfo) (base size c : Nat)
    (ho : o.op = .call { callee := .builtin .append, args := #[s, x], argTypes := #[t, t] }) (ht : P.underlying t = some (.slice e)) (hi : P.info? e = some i) (v : Value) (n : Nat) (xs : List Value) (hs : a.eval s = v) (hown : w.ownsRow base e size v n xs) (hx : a.eval x = .slice none 0 c)
    (h : wpList P ops Q rest (a.put o.dst v) w) : wpList P ops Q (o :: rest) a w := by
  refine wpList_plain hgd fun K hK => ?_
  have hrun := run_append_nils (P := P) w t o.type e i base size c ht hi v n xs hown
  unfold Oper.wp execOp
  simp only [ho, resolve, invoke, builtin, Sem.run_bind, Sem.run_pure, Result.andThen_ok, List.map_toArray, List.map_cons, List.map_nil, hs, hx, hrun]
  exact hK _ _ h
/-- 'append(v, xs...)' of strings that can be read, v the call's own. -/
theorem wpList_append_strs {w : World} {ops : Array Oper} {rest : List Oper} {o : Oper} {a : Act} {Q : Exit → Act → World → Prop} (hgd : o.guard = none) (s x : Operand)
    (ho : o.op = .call { callee := .builtin .append, args := #[s, x], argTypes := #[22, 22] })
    (base B n : Nat) (v u : Value) (olds : List Value) (xs : List ByteArray) (hs : a.eval s = v) (hx : a.eval x = u) (hown : w.ownsRow base 9 1 v n olds) (hu : Strs w B u xs) (hn : n + xs.length ≤ 100000) (hbase : base ≤ w.heap.size)
    (h : ∀ v' w', w'.ownsRow base 9 1 v' (n + xs.length) (olds ++ xs.map Value.string) → w.grownBy w' v.ownBlock → (v'.ownBlock = v.ownBlock ∨ v'.ownBlock = some w.heap.size) → wpList Tryz.prog ops Q rest (a.put o.dst v') w') :
    wpList Tryz.prog ops Q (o :: rest) a w := by
  obtain ⟨i0, hi, hz0, hz1, hz2⟩ := info_parts infoS
  obtain ⟨A, c, rfl, hc1, hc2⟩ := hu
  cases A with
  | none =>
    have h0 : xs.length = 0 := by
      rcases Nat.eq_zero_or_pos xs.length with h0 | h0
      · exact h0
      · obtain ⟨b, off, e, _⟩ := hc2 h0; cases e
    obtain rfl : xs = [] := List.eq_nil_of_length_eq_zero h0
    exact wpList_append_nilsrc hgd s x 22 9 i0 base 1 c ho Tryz.underlying22 hi v n olds hs hown hx (h v w (by simpa using hown) (World.grownBy.refl w _) (.inl rfl))
  | some ad =>
    refine wpList_append_own_at _ hgd s x 22 ho base 9 i0 (.string ByteArray.empty) 1 16 Tryz.underlying22 hi hz0 hz1 hz2 (by rfl) (by omega) v n olds hs hown ad xs.length c (xs.map Value.string) hx (by simp) ?_ (strs_one _) (by unfold maxLen; omega) (by omega) hbase fun v' w' h1 h2 _ h4 => h v' w' h1 h2 h4
    intro j u hj
    rw [List.getElem?_map] at hj
    cases hxj : xs[j]? with
    | none => rw [hxj] at hj; cases hj
    | some y =>
      rw [hxj] at hj
      obtain ⟨hlt, rfl⟩ := List.getElem?_eq_some_iff.1 hxj
      obtain ⟨b, off, e, _, hc⟩ := hc2 (by omega)
      obtain rfl := Option.some.inj e
      have : (⟨b, off, none⟩ : Addr).add j = ⟨b, off + j, none⟩ := by unfold Addr.add; split <;> simp_all
      rw [this, hc j hlt]
      exact hj

theorem below_drewN (w : World) (n : Nat) : Below w.heap.size w (w.drewN n) := ⟨rfl, rfl, rfl, Nat.le_refl _, fun _ _ => rfl⟩
def Hold (p : Prop) : Prop := p
theorem hold {p : Prop} (h : Hold p) : p := h
/-- What a call that makes a document tells. -/
def MadeDoc (W0 : Nat) (w : World) (d : D) (e : Ending) (w' : World) : Prop :=
  ∃ (v0 v1 v2 v3 v4 : Value) (F : List Nat), e = .returned (.agg #[v0, v1, v2, v3, v4]) ∧ OwnIn w' W0 d v0 v1 v2 v3 v4 F ∧ F.Nodup ∧ Below W0 w w'
/-- .. a row of documents. -/
def MadeRow (W0 : Nat) (w : World) (l : List D) (e : Ending) (w' : World) : Prop :=
  ∃ (v : Value) (cs : List Value) (F : List Nat), e = .returned v ∧ w'.ownsRow W0 29 5 v l.length cs ∧ OwnKids w' W0 l cs F ∧ (blk v ++ F).Nodup ∧ Below W0 w w'

/-- A slice of documents that can be read. -/
def KidsV (w : World) (B : Nat) (l : List D) (v : Value) : Prop :=
  ∃ (A : Option Addr) (c : Nat), v = .slice A l.length c ∧ l.length ≤ c ∧ (0 < l.length → ∃ b off, A = some ⟨b, off, none⟩ ∧ b < B ∧ KidsIn w B b off 0 l)

theorem oneCell_agg {u0 u1 u2 u3 u4 : Value} {w : World} {B : Nat} {d : D} (h : DocIn w B d u0 u1 u2 u3 u4) : ∀ u ∈ [u0, u1, u2, u3, u4], u.oneCell' = true := by
  obtain ⟨A3, c3, A4, c4, rfl, rfl, rfl, rfl, rfl⟩ := h.forms
  intro u hu
  simp only [List.mem_cons, List.not_mem_nil, or_false] at hu
  rcases hu with rfl | rfl | rfl | rfl | rfl <;> rfl

theorem blk_nodup (v : Value) : (blk v).Nodup := by unfold blk; cases v.ownBlock <;> simp
theorem push_rel {W0 k n cap g : Nat} {w wr w2 w3 : World} {u y0 y1 y2 y3 y4 : Value} {l : List D} (hlt : k < l.length) {cs : List Value} {F G : List Nat} (HND : (blk u ++ F).Nodup) (HO : wr.ownsRow W0 29 5 u k cs)
    (HOK : OwnKids wr W0 (l.take k) cs F) (hb : Below W0 w wr) (hW : W0 ≤ wr.heap.size) (hb3 : Below wr.heap.size wr w2) (HG : OwnIn w2 (wr.heap.size + 1) l[k] y0 y1 y2 y3 y4 G) (HGN : G.Nodup) (o : Obj)
    (hgrow : (w2.alloc o).grownBy w3 u.ownBlock) (hat : u.ownBlock = some g ∨ g = w2.heap.size + 1) :
    OwnKids w3 W0 (l.take (k + 1)) (cs ++ [y0, y1, y2, y3, y4]) (F ++ G) ∧ (blk (.slice (some ⟨g, 0, none⟩) n cap) ++ (F ++ G)).Nodup ∧ Below W0 w w3 := by
  have hs := hb3.size
  have hu : ∀ j, u.ownBlock = some j → W0 ≤ j ∧ j < wr.heap.size := HO.lt
  have hF := HOK.lt
  have hG := HG.lt
  rw [List.nodup_append] at HND
  obtain ⟨_, hFn, hdis⟩ := HND
  have huF : ∀ j ∈ F, u.ownBlock ≠ some j := fun j hj h => hdis j (blk_mem.2 h) j hj rfl
  have keep : ∀ j, j < w2.heap.size → u.ownBlock ≠ some j → w3.heap[j]? = w2.heap[j]? := fun j hj hne =>
    (hgrow.block j (by simp; omega) (fun e => hne e.symm)).trans (Below.heap_alloc w2 o j hj)
  refine ⟨?_, ?_, ?_⟩
  · rw [List.take_succ_eq_append_getElem hlt]
    exact OwnKids.push (HG.same (by omega) fun j hj => keep j (hG j hj).2 fun h => by have := (hu j h).2; have := (hG j hj).1; omega)
      (HOK.same (Nat.le_refl _) fun j hj => (keep j (by have := (hF j hj).2; omega) (huF j hj)).trans (hb3.block j (hF j hj).2))
  · have hb : blk (.slice (some ⟨g, 0, none⟩) n cap) = [g] := rfl
    rw [hb, List.nodup_append]
    refine ⟨by simp, ?_, fun a ha b hbm hab => ?_⟩
    · rw [List.nodup_append]
      exact ⟨hFn, HGN, fun a ha b hb hab => by subst hab; have := (hF a ha).2; have := (hG a hb).1; omega⟩
    · simp only [List.mem_singleton] at ha
      subst ha; subst hab
      rcases List.mem_append.1 hbm with hm | hm
      · rcases hat with h | h
        · exact huF a hm h
        · have := (hF a hm).2; omega
      · rcases hat with h | h
        · have := (hu a h).2; have := (hG a hm).1; omega
        · have := (hG a hm).2; omega
  · refine hb.trans ?_
    refine (hb3.mono hW).trans ?_
    refine ((Below.refl W0 w2).alloc (by omega) o).trans ⟨hgrow.os, hgrow.tape, hgrow.output, hgrow.size, fun j hj => hgrow.block j (by simp; omega) fun e => by have := (hu j e.symm).1; omega⟩

set_option maxHeartbeats 4000000 in
set_option maxRecDepth 100000 in
theorem copies_of (m : Nat) (ih : ∀ (d : D) (v0 v1 v2 v3 v4 : Value) (w : World) (B : Nat), d.depth ≤ m → d.Fit → B ≤ w.heap.size → DocIn w B d v0 v1 v2 v3 v4 →
      Calls Tryz.prog 50 #[.agg #[v0, v1, v2, v3, v4]] w (MadeDoc w.heap.size w d))
    (l : List D) (v : Value) (w : World) (B : Nat) (hm : D.depths l ≤ m) (hlen : l.length ≤ 10000) (hf : D.Fits l) (hB : B ≤ w.heap.size) (hv : KidsV w B l v) :
    Calls Tryz.prog 82 #[v] w (MadeRow w.heap.size w l) := by
  obtain ⟨A, c, rfl, hlc, hkids⟩ := hv
  have HK := Lib.hid hkids
  have HF := Lib.hid hf
  have IH := Lib.hid ih
  clear hkids hf ih
  obtain ⟨i0, hi, hz0, hz1, hz2⟩ := info_parts infoD
  have HI := Lib.hid hi; have HZ0 := Lib.hid hz0; have HZ1 := Lib.hid hz1; have HZ2 := Lib.hid hz2
  clear hi hz0 hz1 hz2
  go_enter Tryz.func82, Tryz.ntmps82
  go_wp2_with fail
  go_loopw [3, 8] (fun v i wr => ∃ (k : Nat) (cs : List Value) (F : List Nat), k ≤ l.length ∧ i = .int .i64 k ∧ wr.ownsRow w.heap.size 29 5 v k cs ∧ OwnKids wr w.heap.size (l.take k) cs F ∧ (blk v ++ F).Nodup ∧ Below w.heap.size w wr) (fun _ i _ => l.length - (intOf i).toNat)
  case atStart => exact ⟨0, [], [], Nat.zero_le _, rfl, World.ownsRow_nil _ _ _ _, by simp [OwnKids], by simp [blk, Value.ownBlock], Below.refl _ _⟩
  case round =>
    obtain ⟨k, cs, F, hk, rfl, hown, hokids, hnd, hb⟩ := hrel
    have HO := Lib.hid hown; have HOK := Lib.hid hokids; have HND := Lib.hid hnd
    clear hown hokids hnd
    have hz := hb.size
    by_cases hlt : k < l.length
    · obtain ⟨b, off, rfl, hab, hki⟩ := HK.out (by omega)
      have hcells := KidsIn.at_ hki k hlt
      rw [Nat.zero_add] at hcells
      obtain ⟨u0, u1, u2, u3, u4, g0, g1, g2, g3, g4, hdk⟩ := hcells
      have bc : ∀ n, wr.cell? ⟨b, n, none⟩ = w.cell? ⟨b, n, none⟩ := fun n => hb.cell (p := ⟨b, n, none⟩) (by show b < _; omega)
      rw [← bc] at g0 g1 g2 g3 g4
      clear bc hki
      obtain ⟨A5, c5, A6, c6, rfl, rfl, rfl, rfl, rfl⟩ := hdk.forms
      have HD := Lib.hid hdk; clear hdk
      go_wp2_with fail
      refine (IH.out l[k] _ _ _ _ _ _ B (by have := D.depth_le_depths l l[k] (List.getElem_mem hlt); omega) (HF.out.at_ hlt) (by simp; omega) (HD.out.keep (Nat.le_refl _) fun p hp => (World.cell?_alloc_lt wr _ p (by omega)).trans (hb.cell (by omega)))).mono ?_
      rintro e w2 ⟨y0, y1, y2, y3, y4, G, rfl, hG, hGn, hb2⟩
      simp only [World.size_alloc] at hG hb2
      obtain ⟨A7, c7, A8, c8, rfl, rfl, rfl, rfl, rfl⟩ := hG.doc.forms
      have HG := Lib.hid hG; have HGN := Lib.hid hGn
      clear hG hGn
      have hz2 := hb2.size
      simp only [World.size_alloc] at hz2
      have hb3 : Below wr.heap.size wr w2 := ((Below.refl _ _).alloc (Nat.le_refl _) _).trans (hb2.mono (by omega))
      have hO2 : Hid (w2.ownsRow w.heap.size 29 5 u3 k cs) := ownsRow_same HO.out fun j hj => hb3.block j (HO.out.lt j (blk_mem.1 hj)).2
      have hOK2 : Hid (OwnKids w2 w.heap.size (l.take k) cs F) := HOK.out.below hb3 (Nat.le_refl _)
      go_wp2_with (at_builtin; refine wpList_append_lies _ rfl _ _ 27 rfl w.heap.size 29 i0 (.agg #[.int .i64 0, .int .i64 0, .string ByteArray.empty, .slice none 0 0, .slice none 0 0]) 5 80 Tryz.underlying27 HI.out HZ0.out HZ1.out HZ2.out (by rfl) (by omega) _ k cs rfl (hO2.out.alloc _) ⟨w2.heap.size, 0, none⟩ 1 _ [.int .i64 (l[k]).kind, .int .i64 (l[k]).num, .string (l[k]).str, .slice A7 (l[k]).keys.length c7, .slice A8 (l[k]).kids.length c8] rfl rfl (World.news_of_block (heap_alloc_new w2 _)) (oneCell_agg HG.out.doc) (by omega) (by unfold maxLen; omega) (by omega) (by simp; omega) (w2.heap.size + 1) (by simp) ?_; intro g cap w3 hown3 hgrow3 hat3 hlt3)
      go_roundw
      case rel =>
        obtain ⟨r1, r2, r3⟩ := push_rel (n := k + 1) (cap := cap) hlt HND.out HO.out HOK.out hb (by omega) hb3 HG.out HGN.out _ hgrow3 hat3
        exact ⟨k + 1, _, _, by omega, by go_num, hown3, r1, r2, r3⟩
      case measure => simp [intOf]; omega
    · have htk : l.take k = l := List.take_of_length_le (by omega)
      have hkl : k = l.length := by omega
      have HR : Hid (wr.ownsRow w.heap.size 29 5 u3 l.length cs ∧ OwnKids wr w.heap.size l cs F) := ⟨by rw [← hkl]; exact HO.out, by have := HOK.out; rw [htk] at this; exact this⟩
      clear htk hkl
      go_wp2_with fail
      go_ret
      exact ⟨_, cs, F, rfl, HR.out.1, HR.out.2, HND.out, hb⟩

theorem kids_v {w : World} {B : Nat} {d : D} {v0 v1 v2 v3 v4 : Value} (h : DocIn w B d v0 v1 v2 v3 v4) : KidsV w B d.kids v4 := by
  obtain ⟨_, _, _, _, l⟩ := d
  simp only [DocIn] at h
  obtain ⟨_, _, _, _, A', c', rfl, k1, k2⟩ := h
  exact ⟨A', c', rfl, k1, k2⟩
theorem KidsV.keep {w w' : World} {B B' : Nat} {l : List D} {v : Value} (hB : B ≤ B') (h : ∀ p : Addr, p.block < B → w'.cell? p = w.cell? p) (hv : KidsV w B l v) : KidsV w' B' l v := by
  obtain ⟨A, c, rfl, k1, k2⟩ := hv
  refine ⟨A, c, rfl, k1, fun hl => ?_⟩
  obtain ⟨b, off, ea, hb, hk⟩ := k2 hl
  exact ⟨b, off, ea, by omega, KidsIn.keep hB h hb hk⟩
theorem D.Fit.kids_ {d : D} (h : d.Fit) : D.Fits d.kids := by obtain ⟨_, _, _, _, _⟩ := d; simp only [D.Fit] at h; exact h.2.2.2.2

set_option maxHeartbeats 4000000 in
set_option maxRecDepth 100000 in
theorem copy_any (m : Nat) : ∀ (d : D) (v0 v1 v2 v3 v4 : Value) (w : World) (B : Nat), d.depth ≤ m → d.Fit → B ≤ w.heap.size → DocIn w B d v0 v1 v2 v3 v4 →
    Calls Tryz.prog 50 #[.agg #[v0, v1, v2, v3, v4]] w (MadeDoc w.heap.size w d) := by
  induction m with
  | zero => intro d; obtain ⟨_, _, _, _, _⟩ := d; intro _ _ _ _ _ _ _ h; simp [D.depth] at h
  | succ m ih =>
    intro d v0 v1 v2 v3 v4 w B hm hf hB hd
    have hcop := copies_of m ih
    have HC := Lib.hid hcop; clear hcop ih
    have hkl := hf.keys; have hdl := hf.kids
    have HF := Lib.hid hf; clear hf
    have HKV := Lib.hid (kids_v hd)
    have HK3 := Lib.hid hd.keys_
    have hde := D.depth_eq d
    have hdm : D.depths d.kids ≤ m := by omega
    clear hde
    obtain ⟨A3, c3, A4, c4, rfl, rfl, rfl, rfl, rfl⟩ := hd.forms
    clear hd
    obtain ⟨i0, hi, hz0, hz1, hz2⟩ := info_parts infoS
    have HI := Lib.hid hi; have HZ0 := Lib.hid hz0; have HZ1 := Lib.hid hz1; have HZ2 := Lib.hid hz2
    clear hi hz0 hz1 hz2
    go_enter Tryz.func50, Tryz.ntmps50
    go_wp2_with (at_builtin; refine hold ?_)
    unfold Hold
    refine wpList_append_strs rfl _ _ rfl (w.heap.size + 2) B 0 (.slice none 0 0) _ [] d.keys rfl rfl (World.ownsRow_nil _ _ _ _) (HK3.out.keep fun p hp => (World.cell?_alloc_lt (w.alloc _) _ p (by simp; omega)).trans (World.cell?_alloc_lt w _ p (by omega))) (by omega) (by simp) ?_
    intro v' w1 hown1 hgrow1 _
    have hb1 : Below (w.heap.size + 2) ((w.alloc _).alloc _) w1 := ⟨hgrow1.os, hgrow1.tape, hgrow1.output, hgrow1.size, fun j hj => hgrow1.block j (by simp; omega) (by simp [Value.ownBlock])⟩
    have hz1 := hb1.size
    simp only [World.size_alloc] at hz1
    have hx1 : Box5 w1 w.heap.size (.int .i64 d.kind) (.int .i64 d.num) (.string d.str) (.slice A3 d.keys.length c3) (.slice A4 d.kids.length c4) := ((Box5.new w _ _ _ _ _).alloc _).same (hb1.block _ (by omega))
    have hr1 : Box5 w1 (w.heap.size + 1) (.int .i64 0) (.int .i64 0) (.string ⟨#[]⟩) (.slice none 0 0) (.slice none 0 0) := (Box5.new' (World.size_alloc _ _) _ _ _ _ _).same (hb1.block _ (by omega))
    rw [Nat.zero_add, List.nil_append] at hown1
    obtain ⟨A', c', rfl⟩ := ownsRow_slice hown1
    have HB1 := Lib.hid hb1
    have HO1 := Lib.hid hown1
    have HX1 := Lib.hid hx1; have HR1 := Lib.hid hr1
    obtain ⟨q0, q1, q2, q3, q4⟩ := hx1.cells
    have q5 := hx1.frozen
    clear hown1 hgrow1 hb1 hx1 hr1
    go_wp2_with fail
    have keep : ∀ p : Addr, p.block < B → (w1.setCell ⟨w.heap.size, 3, none⟩ (.slice A' d.keys.length c')).cell? p = w.cell? p := fun p hp =>
      (World.cell?_setCell_other _ _ _ _ (by rintro rfl; exact absurd hp (by show ¬ w.heap.size < B; omega))).trans ((HB1.out.cell (by omega)).trans ((World.cell?_alloc_lt (w.alloc _) _ p (by simp; omega)).trans (World.cell?_alloc_lt w _ p (by omega))))
    refine (HC.out d.kids _ _ B hdm hdl HF.out.kids_ (by simp [World.setCell]; omega) (HKV.out.keep (Nat.le_refl _) keep)).mono ?_
    rintro e w2 ⟨v4', cs, F, rfl, hown2, hkids2, hnd2, hb2⟩
    have hsc : (w1.setCell ⟨w.heap.size, 3, none⟩ (.slice A' d.keys.length c')).heap.size = w1.heap.size := by simp [World.setCell]
    rw [hsc] at hown2 hkids2 hb2
    obtain ⟨A'', c'', rfl⟩ := ownsRow_slice hown2
    have hz2 := hb2.size
    rw [hsc] at hz2
    have hx2 := (HX1.out.set3 (.slice A' d.keys.length c')).same (hb2.block _ (by omega))
    have hr2 := (HR1.out.far (p := ⟨w.heap.size, 3, none⟩) (by show w.heap.size + 1 ≠ w.heap.size; omega) (.slice A' d.keys.length c')).same (hb2.block _ (by omega))
    have hX3 := hx2.set4 (.slice A'' d.kids.length c'')
    have hR3 := hr2.far (p := ⟨w.heap.size, 4, none⟩) (by show w.heap.size + 1 ≠ w.heap.size; omega) (.slice A'' d.kids.length c'')
    have HO2 := Lib.hid hown2; have HK2 := Lib.hid hkids2; have HN2 := Lib.hid hnd2; have HB2 := Lib.hid hb2
    have HX3 := Lib.hid hX3; have HR3 := Lib.hid hR3
    obtain ⟨s0, s1, s2, s3, s4⟩ := hx2.cells
    have s5 := hx2.frozen
    obtain ⟨r0, r1, r2, r3, r4⟩ := hr2.cells
    have r5 := hr2.frozen
    clear hown2 hkids2 hnd2 hb2 hX3 hR3 hx2 hr2 q0 q1 q2 q3 q4 q5 keep
    go_wp2_with fail
    have hfin := ((((HR3.out.set0 (.int .i64 d.kind)).set1 (.int .i64 d.num)).set2 (.string d.str)).set3 (.slice A' d.keys.length c')).set4 (.slice A'' d.kids.length c'')
    clear r0 r1 r2 r3 r4 r5 s0 s1 s2 s3 s4 s5
    refine ret_cell5 rfl rfl hfin.load rfl ?_
    have hb1 := HB1.out
    have hsame : ∀ k, w.heap.size + 2 ≤ k → ((((((w2.setCell ⟨w.heap.size, 4, none⟩ (.slice A'' d.kids.length c'')).setCell ⟨w.heap.size + 1, 0, none⟩ (.int .i64 d.kind)).setCell ⟨w.heap.size + 1, 1, none⟩ (.int .i64 d.num)).setCell ⟨w.heap.size + 1, 2, none⟩ (.string d.str)).setCell ⟨w.heap.size + 1, 3, none⟩ (.slice A' d.keys.length c')).setCell
        ⟨w.heap.size + 1, 4, none⟩ (.slice A'' d.kids.length c'')).heap[k]? = w2.heap[k]? := fun k hk => by
      rw [Below.heap_setCell _ _ _ k (by show k ≠ w.heap.size + 1; omega), Below.heap_setCell _ _ _ k (by show k ≠ w.heap.size + 1; omega), Below.heap_setCell _ _ _ k (by show k ≠ w.heap.size + 1; omega), Below.heap_setCell _ _ _ k (by show k ≠ w.heap.size + 1; omega),
        Below.heap_setCell _ _ _ k (by show k ≠ w.heap.size + 1; omega), Below.heap_setCell _ _ _ k (by show k ≠ w.heap.size; omega)]
    have hsame1 : ∀ k, w.heap.size + 2 ≤ k → k < w1.heap.size → w2.heap[k]? = w1.heap[k]? := fun k hk hk2 =>
      (HB2.out.block k hk2).trans (Below.heap_setCell _ _ _ k (by show k ≠ w.heap.size; omega))
    have l1 := HO1.out.lt
    have l2 := HO2.out.lt
    have l3 := HK2.out.lt
    refine ⟨_, _, _, _, _, _, rfl, OwnIn.make (ownsRow_base (ownsRow_same HO1.out fun k hk => (hsame k (by have := l1 k (blk_mem.1 hk); omega)).trans (hsame1 k (by have := l1 k (blk_mem.1 hk); omega) (by have := l1 k (blk_mem.1 hk); omega))) (by omega))
      (ownsRow_base (ownsRow_same HO2.out fun k hk => hsame k (by have := l2 k (blk_mem.1 hk); omega)) (by omega)) (HK2.out.same (by omega) fun k hk => hsame k (by have := l3 k hk; omega)), ?_, ?_⟩
    · rw [List.nodup_append]
      refine ⟨blk_nodup _, HN2.out, fun a ha b hb hab => ?_⟩
      subst hab
      have h1 := l1 a (blk_mem.1 ha)
      rcases List.mem_append.1 hb with hb | hb
      · have := l2 a (blk_mem.1 hb); omega
      · have := l3 a hb; omega
    · refine (((((((((Below.refl w.heap.size w).alloc (Nat.le_refl _) _).alloc (by simp) _).trans (hb1.mono (by omega))).setCell (by show w.heap.size ≤ w.heap.size; omega) _).trans (HB2.out.mono (by omega))).setCell (by show w.heap.size ≤ w.heap.size; omega) _).setCell (by show w.heap.size ≤ w.heap.size + 1; omega) _).setCell (by show w.heap.size ≤ w.heap.size + 1; omega) _).setCell (by show w.heap.size ≤ w.heap.size + 1; omega) _ |>.setCell (by show w.heap.size ≤ w.heap.size + 1; omega) _ |>.setCell (by show w.heap.size ≤ w.heap.size + 1; omega) _

/-- Copy, at whatever document. -/
theorem copy_v {d : D} {v : Value} {w : World} {B : Nat} (hf : d.Fit) (hB : B ≤ w.heap.size) (hd : DocV w B d v) : Calls Tryz.prog 50 #[v] w (MadeDoc w.heap.size w d) := by
  obtain ⟨v0, v1, v2, v3, v4, rfl, hd⟩ := hd
  exact copy_any d.depth d v0 v1 v2 v3 v4 w B (Nat.le_refl _) hf hB hd
end Go.Proofs.YteecdmceleanjaaGreatDoor
namespace Go.Proofs.YteecdmceleanjaaGreatDoor
open Go.RowKit

structure Turned (w w' : World) (G : List Nat) (b : Nat) : Prop where
  os : w'.os = w.os
  tape : w'.tape = w.tape
  output : w'.output = w.output
  size : w.heap.size ≤ w'.heap.size
  block : ∀ k, k < w.heap.size → k ∉ G → k ≠ b → w'.heap[k]? = w.heap[k]?
theorem Turned.below {w w' : World} {G : List Nat} {b B : Nat} (h : Turned w w' G b) (hG : ∀ k ∈ G, B ≤ k) (hb : B ≤ b) (hB : B ≤ w.heap.size) : Below B w w' :=
  ⟨h.os, h.tape, h.output, h.size, fun k hk => h.block k (by omega) (fun hm => by have := hG k hm; omega) (by omega)⟩
theorem Turned.of_below {w w' : World} (h : Below w.heap.size w w') (G : List Nat) (b : Nat) : Turned w w' G b := ⟨h.os, h.tape, h.output, h.size, fun k hk _ _ => h.block k hk⟩
theorem Turned.trans {a w w' : World} {G : List Nat} {b : Nat} (h : Turned a w G b) (k : Turned w w' G b) : Turned a w' G b :=
  ⟨k.os.trans h.os, k.tape.trans h.tape, k.output.trans h.output, Nat.le_trans h.size k.size, fun j hj hg hb => (k.block j (Nat.lt_of_lt_of_le hj h.size) hg hb).trans (h.block j hj hg hb)⟩
theorem Turned.setCell {a w : World} {G : List Nat} {b : Nat} (h : Turned a w G b) {p : Addr} (hp : p.block ∈ G ∨ p.block = b ∨ a.heap.size ≤ p.block) (u : Value) : Turned a (w.setCell p u) G b :=
  ⟨h.os, h.tape, h.output, by simpa [World.setCell] using h.size, fun j hj hg hb => (Below.heap_setCell w p u j (by
    rintro rfl
    rcases hp with hp | hp | hp
    · exact hg hp
    · exact hb hp
    · omega)).trans (h.block j hj hg hb)⟩
theorem Turned.drew {a w : World} {G : List Nat} {b : Nat} (h : Turned a w G b) : Turned a w.drew G b := ⟨h.os, h.tape, h.output, h.size, h.block⟩
theorem Turned.alloc {a w : World} {G : List Nat} {b : Nat} (h : Turned a w G b) (o : Obj) : Turned a (w.alloc o) G b :=
  ⟨h.os, h.tape, h.output, Nat.le_trans h.size (by simp), fun j hj hg hb => (Below.heap_alloc w o j (Nat.lt_of_lt_of_le hj h.size)).trans (h.block j hj hg hb)⟩
theorem Turned.grown {a w w' : World} {G : List Nat} {b : Nat} (h : Turned a w G b) {row : Option Nat} (hg : w.grownBy w' row) (hr : ∀ j, row = some j → j ∈ G ∨ j = b ∨ a.heap.size ≤ j) : Turned a w' G b :=
  ⟨hg.os.trans h.os, hg.tape.trans h.tape, hg.output.trans h.output, Nat.le_trans h.size hg.size, fun j hj hgj hb => (hg.block j (Nat.lt_of_lt_of_le hj h.size) (fun e => by
    rcases hr j e.symm with h1 | h1 | h1
    · exact hgj h1
    · exact hb h1
    · omega)).trans (h.block j hj hgj hb)⟩
theorem frozen_alloc_drew {w : World} {b : Nat} (hb : b < w.heap.size) (ob : Obj) (o : Nat) : ((w.alloc ob).drew).frozen? ⟨b, o, none⟩ = w.frozen? ⟨b, o, none⟩ := World.frozen?_of_block (a := ⟨b, o, none⟩) (Below.heap_alloc w ob b hb)
theorem cell_alloc_drew {w : World} {b : Nat} (hb : b < w.heap.size) (ob : Obj) (o : Nat) : ((w.alloc ob).drew).cell? ⟨b, o, none⟩ = w.cell? ⟨b, o, none⟩ := World.cell?_of_block (a := ⟨b, o, none⟩) (Below.heap_alloc w ob b hb)
end Go.Proofs.YteecdmceleanjaaGreatDoor
namespace Go.Proofs.YteecdmceleanjaaGreatDoor
open Go.RowKit

/-- The variable box holds a record of these keys and these kids, in blocks of their own, made since w3. -/
structure DocSt (w3 w : World) (box : Nat) (kd nm : Int) (st : ByteArray) (xs : List ByteArray) (ls : List D) (v3 v4 : Value) (cs : List Value) (F : List Nat) : Prop where
  bx : Box5 w box (.int .i64 kd) (.int .i64 nm) (.string st) v3 v4
  o3 : w.ownsRow w3.heap.size 9 1 v3 xs.length (xs.map Value.string)
  o4 : w.ownsRow w3.heap.size 29 5 v4 ls.length cs
  ok : OwnKids w w3.heap.size ls cs F
  nd : (blk v3 ++ (blk v4 ++ F)).Nodup
  t : Turned w3 w [] box
theorem DocSt.drewN {w3 w : World} {box : Nat} {kd nm : Int} {st : ByteArray} {xs : List ByteArray} {ls : List D} {v3 v4 : Value} {cs : List Value} {F : List Nat} (h : DocSt w3 w box kd nm st xs ls v3 v4 cs F) (n : Nat) : DocSt w3 (w.drewN n) box kd nm st xs ls v3 v4 cs F :=
  ⟨h.bx, h.o3, h.o4, h.ok.same (Nat.le_refl _) fun _ _ => rfl, h.nd, ⟨h.t.os, h.t.tape, h.t.output, h.t.size, h.t.block⟩⟩
theorem DocSt.key {w3 w4 w5 : World} {box : Nat} {kd nm : Int} {st : ByteArray} {xs : List ByteArray} {ls : List D} {v3 v4 : Value} {cs : List Value} {F : List Nat} (h : DocSt w3 w4 box kd nm st xs ls v3 v4 cs F) (hbox : box < w3.heap.size) {g cap : Nat} {S : ByteArray}
    (hown : w5.ownsRow w3.heap.size 9 1 (.slice (some ⟨g, 0, none⟩) (xs.length + 1) cap) (xs.length + 1) (xs.map Value.string ++ [.string S])) (ob : Obj) (hgrow : (w4.alloc ob).drew.grownBy w5 v3.ownBlock) (hat : v3.ownBlock = some g ∨ g = w4.heap.size + 1) :
    DocSt w3 (w5.setCell ⟨box, 3, none⟩ (.slice (some ⟨g, 0, none⟩) (xs.length + 1) cap)) box kd nm st (xs ++ [S]) ls (.slice (some ⟨g, 0, none⟩) (xs.length + 1) cap) v4 cs F := by
  have hz := h.t.size
  have l3 := h.o3.lt
  have l4 := h.o4.lt
  have lk := h.ok.lt
  have hgb : g ≠ box := by
    rcases hat with e | e
    · have := (l3 g e).1; omega
    · omega
  have keep : ∀ k, k < w4.heap.size → v3.ownBlock ≠ some k → w5.heap[k]? = w4.heap[k]? := fun k hk hne =>
    (hgrow.block k (by show k < (w4.alloc ob).heap.size; rw [World.size_alloc]; omega) (fun e => hne e.symm)).trans (Below.heap_alloc w4 ob k hk)
  have far : ∀ k, k ≠ box → (w5.setCell ⟨box, 3, none⟩ (.slice (some ⟨g, 0, none⟩) (xs.length + 1) cap)).heap[k]? = w5.heap[k]? := fun k hk => Below.heap_setCell _ _ _ k hk
  have hnd := h.nd
  simp only [List.nodup_append, List.mem_append, ne_eq] at hnd
  obtain ⟨_, ⟨n4, nF, n4F⟩, n3d⟩ := hnd
  have hb3 : v3.ownBlock ≠ some box := fun e => by have := (l3 box e).1; omega
  refine ⟨?_, ?_, ?_, ?_, ?_, ?_⟩
  · exact (h.bx.same (keep box (by omega) hb3)).set3 _
  · rw [List.length_append, List.map_append]
    exact ownsRow_same hown fun k hk => far k (by
      have : k = g := by simpa [blk, Value.ownBlock] using hk
      omega)
  · exact ownsRow_same h.o4 fun k hk => (far k (by have := (l4 k (blk_mem.1 hk)).1; omega)).trans (keep k (l4 k (blk_mem.1 hk)).2 fun e => n3d k (blk_mem.2 e) k (.inl hk) rfl)
  · exact h.ok.same (Nat.le_refl _) fun k hk => (far k (by have := (lk k hk).1; omega)).trans (keep k (lk k hk).2 fun e => n3d k (blk_mem.2 e) k (.inr hk) rfl)
  · have hb : blk (.slice (some ⟨g, 0, none⟩) (xs.length + 1) cap) = [g] := rfl
    rw [hb, List.nodup_append, List.nodup_append]
    refine ⟨by simp, ⟨n4, nF, n4F⟩, fun a ha b hb hab => ?_⟩
    simp only [List.mem_singleton] at ha
    subst ha; subst hab
    rcases hat with e | e
    · exact n3d a (blk_mem.2 e) a (List.mem_append.1 hb) rfl
    · rcases List.mem_append.1 hb with hb | hb
      · have := (l4 a (blk_mem.1 hb)).2; omega
      · have := (lk a hb).2; omega
  · refine ⟨hgrow.os.trans h.t.os, hgrow.tape.trans h.t.tape, hgrow.output.trans h.t.output, ?_, fun k hk hk1 hk2 => ?_⟩
    · have h1 : (w4.alloc ob).heap.size ≤ w5.heap.size := hgrow.size
      rw [World.size_alloc] at h1
      simp [World.setCell]; omega
    · exact (far k hk2).trans ((keep k (by omega) fun e => by have := (l3 k e).1; omega).trans (h.t.block k hk hk1 hk2))
theorem DocSt.kid {w3 w6 w7 w8 : World} {box : Nat} {kd nm : Int} {st : ByteArray} {xs : List ByteArray} {ls : List D} {v3 v4 : Value} {cs : List Value} {F G : List Nat} (h : DocSt w3 w6 box kd nm st xs ls v3 v4 cs F) (hbox : box < w3.heap.size) {x : D} {y0 y1 y2 y3 y4 : Value} (hb7 : Below w6.heap.size w6 w7)
    (hG : OwnIn w7 w6.heap.size x y0 y1 y2 y3 y4 G) (hGN : G.Nodup) {g cap : Nat}
    (hown : w8.ownsRow w3.heap.size 29 5 (.slice (some ⟨g, 0, none⟩) (ls.length + 1) cap) (ls.length + 1) (cs ++ [y0, y1, y2, y3, y4])) (ob : Obj) (hgrow : (w7.alloc ob).grownBy w8 v4.ownBlock) (hat : v4.ownBlock = some g ∨ g = w7.heap.size + 1) :
    DocSt w3 (w8.setCell ⟨box, 4, none⟩ (.slice (some ⟨g, 0, none⟩) (ls.length + 1) cap)) box kd nm st xs (ls ++ [x]) v3 (.slice (some ⟨g, 0, none⟩) (ls.length + 1) cap) (cs ++ [y0, y1, y2, y3, y4]) (F ++ G) := by
  have hz := h.t.size
  have hz7 := hb7.size
  have l3 := h.o3.lt
  have l4 := h.o4.lt
  have lk := h.ok.lt
  have lG := hG.lt
  have hgb : g ≠ box := by
    rcases hat with e | e
    · have := (l4 g e).1; omega
    · omega
  have keep7 : ∀ k, k < w7.heap.size → v4.ownBlock ≠ some k → w8.heap[k]? = w7.heap[k]? := fun k hk hne =>
    (hgrow.block k (by rw [World.size_alloc]; omega) (fun e => hne e.symm)).trans (Below.heap_alloc w7 ob k hk)
  have keep : ∀ k, k < w6.heap.size → v4.ownBlock ≠ some k → w8.heap[k]? = w6.heap[k]? := fun k hk hne => (keep7 k (by omega) hne).trans (hb7.block k hk)
  have far : ∀ k, k ≠ box → (w8.setCell ⟨box, 4, none⟩ (.slice (some ⟨g, 0, none⟩) (ls.length + 1) cap)).heap[k]? = w8.heap[k]? := fun k hk => Below.heap_setCell _ _ _ k hk
  have hnd := h.nd
  simp only [List.nodup_append, List.mem_append, ne_eq] at hnd
  obtain ⟨n3, ⟨n4, nF, n4F⟩, n3d⟩ := hnd
  have hb4 : v4.ownBlock ≠ some box := fun e => by have := (l4 box e).1; omega
  refine ⟨?_, ?_, ?_, ?_, ?_, ?_⟩
  · exact (h.bx.same (keep box (by omega) hb4)).set4 _
  · exact ownsRow_same h.o3 fun k hk => (far k (by have := (l3 k (blk_mem.1 hk)).1; omega)).trans (keep k (l3 k (blk_mem.1 hk)).2 fun e => n3d k hk k (.inl (blk_mem.2 e)) rfl)
  · rw [List.length_append]
    exact ownsRow_same hown fun k hk => far k (by
      have : k = g := by simpa [blk, Value.ownBlock] using hk
      omega)
  · exact OwnKids.push (hG.same (by omega) fun k hk => (far k (by have := (lG k hk).1; omega)).trans (keep7 k (lG k hk).2 fun e => by have := (l4 k e).2; have := (lG k hk).1; omega))
      (h.ok.same (Nat.le_refl _) fun k hk => (far k (by have := (lk k hk).1; omega)).trans (keep k (lk k hk).2 fun e => n4F k (blk_mem.2 e) k hk rfl))
  · have hb : blk (.slice (some ⟨g, 0, none⟩) (ls.length + 1) cap) = [g] := rfl
    rw [hb, List.nodup_append, List.nodup_append, List.nodup_append]
    refine ⟨n3, ⟨by simp, ⟨nF, hGN, fun a ha b hb hab => by subst hab; have := (lk a ha).2; have := (lG a hb).1; omega⟩, fun a ha b hb hab => ?_⟩, fun a ha b hb hab => ?_⟩
    · simp only [List.mem_singleton] at ha
      subst ha; subst hab
      rcases List.mem_append.1 hb with hb | hb
      · rcases hat with e | e
        · exact n4F a (blk_mem.2 e) a hb rfl
        · have := (lk a hb).2; omega
      · rcases hat with e | e
        · have := (l4 a e).2; have := (lG a hb).1; omega
        · have := (lG a hb).2; omega
    · subst hab
      rcases List.mem_append.1 hb with hb | hb
      · simp only [List.mem_singleton] at hb
        subst hb
        rcases hat with e | e
        · exact n3d a ha a (.inl (blk_mem.2 e)) rfl
        · have := (l3 a (blk_mem.1 ha)).2; omega
      · rcases List.mem_append.1 hb with hb | hb
        · exact n3d a ha a (.inr hb) rfl
        · have := (l3 a (blk_mem.1 ha)).2; have := (lG a hb).1; omega
  · refine ⟨hgrow.os.trans (hb7.os.trans h.t.os), hgrow.tape.trans (hb7.tape.trans h.t.tape), hgrow.output.trans (hb7.output.trans h.t.output), ?_, fun k hk hk1 hk2 => ?_⟩
    · have h1 : (w7.alloc ob).heap.size ≤ w8.heap.size := hgrow.size
      rw [World.size_alloc] at h1
      simp [World.setCell]; omega
    · exact (far k hk2).trans ((keep k (by omega) fun e => by have := (l4 k e).1; omega).trans (h.t.block k hk hk1 hk2))
/-- .. behind what turns nothing of it. -/
theorem DocSt.past {w3 w w' : World} {box : Nat} {kd nm : Int} {st : ByteArray} {xs : List ByteArray} {ls : List D} {v3 v4 : Value} {cs : List Value} {F : List Nat} (h : DocSt w3 w box kd nm st xs ls v3 v4 cs F) (hb : Below w.heap.size w w') : DocSt w3 w' box kd nm st xs ls v3 v4 cs F :=
  ⟨h.bx.same (hb.block _ h.bx.lt), ownsRow_same h.o3 fun k hk => hb.block k (h.o3.lt k (blk_mem.1 hk)).2, ownsRow_same h.o4 fun k hk => hb.block k (h.o4.lt k (blk_mem.1 hk)).2, h.ok.same (Nat.le_refl _) fun k hk => hb.block k (h.ok.lt k hk).2, h.nd, h.t.trans (Turned.of_below hb _ _)⟩
theorem DocSt.alloc {w3 w : World} {box : Nat} {kd nm : Int} {st : ByteArray} {xs : List ByteArray} {ls : List D} {v3 v4 : Value} {cs : List Value} {F : List Nat} (h : DocSt w3 w box kd nm st xs ls v3 v4 cs F) (o : Obj) : DocSt w3 (w.alloc o) box kd nm st xs ls v3 v4 cs F :=
  h.past ((Below.refl _ _).alloc (Nat.le_refl _) _)
/-- .. by a statement whose order is known. -/
theorem DocSt.key0 {w3 w4 w5 : World} {box : Nat} {kd nm : Int} {st : ByteArray} {xs : List ByteArray} {ls : List D} {v3 v4 : Value} {cs : List Value} {F : List Nat} (h : DocSt w3 w4 box kd nm st xs ls v3 v4 cs F) (hbox : box < w3.heap.size) {g cap : Nat} {S : ByteArray}
    (hown : w5.ownsRow w3.heap.size 9 1 (.slice (some ⟨g, 0, none⟩) (xs.length + 1) cap) (xs.length + 1) (xs.map Value.string ++ [.string S])) (ob : Obj) (hgrow : (w4.alloc ob).grownBy w5 v3.ownBlock) (hat : v3.ownBlock = some g ∨ g = w4.heap.size + 1) :
    DocSt w3 (w5.setCell ⟨box, 3, none⟩ (.slice (some ⟨g, 0, none⟩) (xs.length + 1) cap)) box kd nm st (xs ++ [S]) ls (.slice (some ⟨g, 0, none⟩) (xs.length + 1) cap) v4 cs F :=
  h.key hbox hown ob ⟨hgrow.os, hgrow.tape, hgrow.output, hgrow.size, hgrow.block⟩ hat
theorem frozen_alloc_lt {w : World} {b : Nat} (hb : b < w.heap.size) (ob : Obj) (o : Nat) : (w.alloc ob).frozen? ⟨b, o, none⟩ = w.frozen? ⟨b, o, none⟩ := World.frozen?_of_block (a := ⟨b, o, none⟩) (Below.heap_alloc w ob b hb)
theorem cell_alloc_lt' {w : World} {b : Nat} (hb : b < w.heap.size) (ob : Obj) (o : Nat) : (w.alloc ob).cell? ⟨b, o, none⟩ = w.cell? ⟨b, o, none⟩ := World.cell?_of_block (a := ⟨b, o, none⟩) (Below.heap_alloc w ob b hb)
/-- The document is done, and stands in the result's variable. -/
theorem doc_out {w w3 wr : World} {box r : Nat} {kd nm : Int} {st : ByteArray} {xs : List ByteArray} {ls : List D} {A6 A7 : Option Addr} {c6 c7 : Nat} {cs : List Value} {F : List Nat} {d : D} (h : DocSt w3 wr box kd nm st xs ls (.slice A6 xs.length c6) (.slice A7 ls.length c7) cs F) (hd : d = .mk kd nm st xs ls)
    (hr : w.heap.size ≤ r) (hr3 : r < w3.heap.size) (hbx : w.heap.size ≤ box) (hb : Below w.heap.size w w3) :
    MadeDoc w.heap.size w d (.returned (.agg #[.int .i64 kd, .int .i64 nm, .string st, .slice A6 xs.length c6, .slice A7 ls.length c7])) (((((wr.setCell ⟨r, 0, none⟩ (.int .i64 kd)).setCell ⟨r, 1, none⟩ (.int .i64 nm)).setCell ⟨r, 2, none⟩ (.string st)).setCell ⟨r, 3, none⟩ (.slice A6 xs.length c6)).setCell ⟨r, 4, none⟩ (.slice A7 ls.length c7)) := by
  subst hd
  have hz := hb.size
  have hsame : ∀ k, w3.heap.size ≤ k → (((((wr.setCell ⟨r, 0, none⟩ (.int .i64 kd)).setCell ⟨r, 1, none⟩ (.int .i64 nm)).setCell ⟨r, 2, none⟩ (.string st)).setCell ⟨r, 3, none⟩ (.slice A6 xs.length c6)).setCell ⟨r, 4, none⟩ (.slice A7 ls.length c7)).heap[k]? = wr.heap[k]? := fun k hk => by
    rw [Below.heap_setCell _ _ _ k (by show k ≠ r; omega), Below.heap_setCell _ _ _ k (by show k ≠ r; omega), Below.heap_setCell _ _ _ k (by show k ≠ r; omega), Below.heap_setCell _ _ _ k (by show k ≠ r; omega), Below.heap_setCell _ _ _ k (by show k ≠ r; omega)]
  have l1 := h.o3.lt
  have l2 := h.o4.lt
  have l3 := h.ok.lt
  refine ⟨_, _, _, _, _, _, rfl, OwnIn.make (d := .mk kd nm st xs ls)
    (by exact ownsRow_base (ownsRow_same h.o3 fun k hk => hsame k (l1 k (blk_mem.1 hk)).1) (by omega))
    (by exact ownsRow_base (ownsRow_same h.o4 fun k hk => hsame k (l2 k (blk_mem.1 hk)).1) (by omega))
    (h.ok.same (by omega) fun k hk => hsame k (l3 k hk).1), h.nd, ?_⟩
  have hb2 : Below w.heap.size w wr := hb.trans (h.t.below (B := w.heap.size) (by simp) (by omega) (by omega))
  exact ((((hb2.setCell (by exact hr) _).setCell (by exact hr) _).setCell (by exact hr) _).setCell (by exact hr) _).setCell (by exact hr) _
theorem heap_alloc_new' {w : World} {b : Nat} (hb : w.heap.size = b) (o : Obj) : (w.alloc o).heap[b]? = some o := hb ▸ heap_alloc_new w o
end Go.Proofs.YteecdmceleanjaaGreatDoor
namespace Go.Proofs.YteecdmceleanjaaGreatDoor
open Go.RowKit

theorem ret_cell5_2 {P : Program} {fn : Func} {R : Ending → World → Prop} {a : Act} {w : World} {b : Nat} {t t' : Tmp} {v0 v1 v2 v3 v4 u : Value} {T : TypeId} (hres : fn.results = #[.cell t T, .tmp t']) (hslot : a.tmps.getD t undef = .pointer (some ⟨b, 0, none⟩)) (hslot' : a.tmps.getD t' undef = u)
    (hload : (loadVar T ⟨b, 0, none⟩).run P w = .ok (.agg #[v0, v1, v2, v3, v4]) w) (hd : a.defers = []) (hR : R (.returned (.tuple #[.agg #[v0, v1, v2, v3, v4], u])) w) : bodyPost P fn R .ret a w :=
  bodyPost_ret (v := .tuple #[.agg #[v0, v1, v2, v3, v4], u]) (by rw [Array.getD_eq_getD_getElem?] at hslot hslot'; simp [results, hres, hslot, hslot', asAddr, hload]) hd hR

/-- What a call tells that makes a document, and something beside it. -/
def MadeDoc2 (W0 : Nat) (w : World) (d : D) (u : Value) (e : Ending) (w' : World) : Prop :=
  ∃ (v0 v1 v2 v3 v4 : Value) (F : List Nat), e = .returned (.tuple #[.agg #[v0, v1, v2, v3, v4], u]) ∧ OwnIn w' W0 d v0 v1 v2 v3 v4 F ∧ F.Nodup ∧ Below W0 w w'
def D.zero : D := .mk 0 0 ⟨#[]⟩ [] []
theorem OwnIn.zero (w : World) (base : Nat) : OwnIn w base D.zero (.int .i64 0) (.int .i64 0) (.string ⟨#[]⟩) (.slice none 0 0) (.slice none 0 0) [] := by
  simp only [D.zero, OwnIn]
  exact ⟨trivial, trivial, trivial, World.ownsRow_nil _ _ _ _, [], [], World.ownsRow_nil _ _ _ _, by simp [OwnKids], rfl⟩
end Go.Proofs.YteecdmceleanjaaGreatDoor
