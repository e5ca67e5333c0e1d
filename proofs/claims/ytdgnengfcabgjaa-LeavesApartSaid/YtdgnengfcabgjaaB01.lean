/-
  Documents as pure trees, and how they lie in memory: plain lemmas, no program.
  The order of documents, as pure functions.
  A document's variable.
  Rows of strings that lie in given blocks.
  What a call has turned: memory of its own, and a box.
  
  From the row's reading of a document to 'DocIn', and of a list of strings to 'Strs'.
-/
import Derived.WalkKit
import Derived.Deep.Draws
import Derived.LoopTactic
import Derived.Lib.Bytealg
import Derived.Test.YtdgnengfcabgjaaProg
import Derived.Deep.AppendLies
import Derived.Maps.AppendAt
import Derived.Lib.Hide
import Derived.Deep.Slices
namespace Go.Proofs.Ytdgnengfcabgjaa
open Go.RowKit

theorem block_of_add (a : Addr) (n : Nat) : (a.add n).block = a.block := by unfold Addr.add; split <;> rfl
theorem add_of_add (a : Addr) (i j : Nat) : (a.add i).add j = a.add (i + j) := by
  unfold Addr.add
  by_cases hi : i = 0 <;> by_cases hj : j = 0 <;> simp [hi, hj, Nat.add_assoc]

/-- A document, as pure data. -/
inductive D where
  | mk (kind num : Int) (str : ByteArray) (keys : List ByteArray) (kids : List D)

namespace D
def kind : D → Int | .mk k _ _ _ _ => k
def num : D → Int | .mk _ n _ _ _ => n
def str : D → ByteArray | .mk _ _ s _ _ => s
def keys : D → List ByteArray | .mk _ _ _ k _ => k
def kids : D → List D | .mk _ _ _ _ l => l
mutual
def size : D → Nat
  | .mk _ _ _ _ l => sizes l + 1
def sizes : List D → Nat
  | [] => 0
  | d :: r => size d + sizes r
end
mutual
def depth : D → Nat
  | .mk _ _ _ _ l => depths l + 1
def depths : List D → Nat
  | [] => 0
  | d :: r => max (depth d) (depths r)
end
theorem depth_kid {d : D} {i : Nat} (h : i < d.kids.length) : (d.kids[i]).depth < d.depth := by
  obtain ⟨k, n, s, ks, l⟩ := d
  simp only [kids] at h ⊢
  simp only [depth]
  have : ∀ (l : List D) (i : Nat) (h : i < l.length), (l[i]).depth ≤ depths l := by
    intro l
    induction l with
    | nil => intro i h; simp at h
    | cons d r ih =>
      intro i h
      cases i with
      | zero => simp only [List.getElem_cons_zero, depths]; omega
      | succ j => simp only [List.getElem_cons_succ, depths]; have := ih j (by simpa using h); omega
  have := this l i h
  omega
end D

/-- A slice of strings: nil let in. -/
def Strs (w : World) (B : Nat) (v : Value) (xs : List ByteArray) : Prop :=
  ∃ (A : Option Addr) (c : Nat), v = .slice A xs.length c ∧ xs.length ≤ c ∧
    (0 < xs.length → ∃ b off, A = some ⟨b, off, none⟩ ∧ b < B ∧ ∀ (i : Nat) (h : i < xs.length), w.cell? ⟨b, off + i, none⟩ = some (.string xs[i]))

mutual
/-- The five cells of a document. -/
def DocIn (w : World) (B : Nat) : D → Value → Value → Value → Value → Value → Prop
  | .mk kind num str keys kids, v0, v1, v2, v3, v4 =>
    v0 = .int .i64 kind ∧ v1 = .int .i64 num ∧ v2 = .string str ∧ Strs w B v3 keys ∧
      ∃ (A : Option Addr) (c : Nat), v4 = .slice A kids.length c ∧ kids.length ≤ c ∧ (0 < kids.length → ∃ b off, A = some ⟨b, off, none⟩ ∧ b < B ∧ KidsIn w B b off 0 kids)
def KidsIn (w : World) (B : Nat) (b off : Nat) : Nat → List D → Prop
  | _, [] => True
  | i, d :: r => (∃ v0 v1 v2 v3 v4 : Value, w.cell? ⟨b, off + i * 5, none⟩ = some v0 ∧ w.cell? ⟨b, off + i * 5 + 1, none⟩ = some v1 ∧ w.cell? ⟨b, off + i * 5 + 2, none⟩ = some v2 ∧ w.cell? ⟨b, off + i * 5 + 3, none⟩ = some v3 ∧ w.cell? ⟨b, off + i * 5 + 4, none⟩ = some v4 ∧ DocIn w B d v0 v1 v2 v3 v4) ∧ KidsIn w B b off (i + 1) r
end
theorem KidsIn.at_ {w : World} {B b off : Nat} : ∀ {l : List D} {i : Nat}, KidsIn w B b off i l → ∀ (k : Nat) (h : k < l.length),
    ∃ v0 v1 v2 v3 v4 : Value, w.cell? ⟨b, off + (i + k) * 5, none⟩ = some v0 ∧ w.cell? ⟨b, off + (i + k) * 5 + 1, none⟩ = some v1 ∧ w.cell? ⟨b, off + (i + k) * 5 + 2, none⟩ = some v2 ∧ w.cell? ⟨b, off + (i + k) * 5 + 3, none⟩ = some v3 ∧ w.cell? ⟨b, off + (i + k) * 5 + 4, none⟩ = some v4 ∧ DocIn w B (l[k]) v0 v1 v2 v3 v4
  | [], _, _, k, h => by simp at h
  | d :: r, i, hk, 0, _ => by simp only [KidsIn] at hk; simpa using hk.1
  | d :: r, i, hk, k + 1, h => by
    simp only [KidsIn] at hk
    have := KidsIn.at_ hk.2 k (by simpa using h)
    rw [show i + 1 + k = i + (k + 1) from by omega] at this
    simpa using this

theorem Strs.keep {w w' : World} {B : Nat} (h : ∀ p : Addr, p.block < B → w'.cell? p = w.cell? p) {v : Value} {xs : List ByteArray} (hs : Strs w B v xs) : Strs w' B v xs := by
  obtain ⟨A, c, e, l, h1⟩ := hs
  refine ⟨A, c, e, l, fun hl => ?_⟩
  obtain ⟨b, off, e', hb, hc⟩ := h1 hl
  exact ⟨b, off, e', hb, fun i hi => (h ⟨b, off + i, none⟩ hb).trans (hc i hi)⟩
theorem Strs.more {w : World} {B B' : Nat} (hB : B ≤ B') {v : Value} {xs : List ByteArray} (hs : Strs w B v xs) : Strs w B' v xs := by
  obtain ⟨A, c, e, l, h1⟩ := hs
  refine ⟨A, c, e, l, fun hl => ?_⟩
  obtain ⟨b, off, e', hb, hc⟩ := h1 hl
  exact ⟨b, off, e', by omega, hc⟩
mutual
theorem DocIn.keep {w w' : World} {B B' : Nat} (hB : B ≤ B') (h : ∀ p : Addr, p.block < B → w'.cell? p = w.cell? p) : ∀ {d : D} {v0 v1 v2 v3 v4 : Value}, DocIn w B d v0 v1 v2 v3 v4 → DocIn w' B' d v0 v1 v2 v3 v4
  | .mk _ _ _ _ kids, _, _, _, _, _, hd => by
    simp only [DocIn] at hd ⊢
    obtain ⟨h0, h1, h2, h3, A', c', e', k1, k2⟩ := hd
    refine ⟨h0, h1, h2, (h3.keep h).more hB, A', c', e', k1, fun hl => ?_⟩
    obtain ⟨b, off, ea, hb, hk⟩ := k2 hl
    exact ⟨b, off, ea, by omega, KidsIn.keep hB h hb hk⟩
theorem KidsIn.keep {w w' : World} {B B' : Nat} (hB : B ≤ B') (h : ∀ p : Addr, p.block < B → w'.cell? p = w.cell? p) {b off : Nat} (hb : b < B) : ∀ {l : List D} {i : Nat}, KidsIn w B b off i l → KidsIn w' B' b off i l
  | [], _, _ => by simp [KidsIn]
  | d :: r, i, hk => by
    simp only [KidsIn] at hk ⊢
    obtain ⟨⟨v0, v1, v2, v3, v4, c0, c1, c2, c3, c4, hd⟩, hr⟩ := hk
    have hh : ∀ n, w'.cell? ⟨b, n, none⟩ = w.cell? ⟨b, n, none⟩ := fun n => h ⟨b, n, none⟩ hb
    exact ⟨⟨v0, v1, v2, v3, v4, (hh _).trans c0, (hh _).trans c1, (hh _).trans c2, (hh _).trans c3, (hh _).trans c4, DocIn.keep hB h hd⟩, KidsIn.keep hB h hb hr⟩
end
theorem DocIn.below {w w' : World} {B : Nat} {d : D} {v0 v1 v2 v3 v4 : Value} (h : DocIn w B d v0 v1 v2 v3 v4) (hb : Below B w w') : DocIn w' B d v0 v1 v2 v3 v4 := DocIn.keep (Nat.le_refl _) (fun _ hp => hb.cell hp) h

theorem DocIn.forms {w : World} {B : Nat} {d : D} {v0 v1 v2 v3 v4 : Value} (h : DocIn w B d v0 v1 v2 v3 v4) :
    ∃ A3 c3 A4 c4, v0 = .int .i64 d.kind ∧ v1 = .int .i64 d.num ∧ v2 = .string d.str ∧ v3 = .slice A3 d.keys.length c3 ∧ v4 = .slice A4 d.kids.length c4 := by
  obtain ⟨_, _, _, _, _⟩ := d
  simp only [DocIn] at h
  obtain ⟨h0, h1, h2, ⟨A3, c3, h3, _⟩, A4, c4, h4, _⟩ := h
  exact ⟨A3, c3, A4, c4, h0, h1, h2, h3, h4⟩

theorem D.size_pos (d : D) : 0 < d.size := by obtain ⟨_, _, _, _, _⟩ := d; simp [D.size]
theorem D.len_le_sizes : ∀ l : List D, l.length ≤ D.sizes l
  | [] => by simp [D.sizes]
  | d :: r => by have := D.len_le_sizes r; have := D.size_pos d; simp only [D.sizes, List.length_cons]; omega
theorem D.sizes_append : ∀ a b : List D, D.sizes (a ++ b) = D.sizes a + D.sizes b
  | [], b => by simp [D.sizes]
  | d :: r, b => by simp only [List.cons_append, D.sizes, D.sizes_append r b]; omega
theorem D.sizes_take_succ (l : List D) (k : Nat) (h : k < l.length) : D.sizes (l.take (k + 1)) = D.sizes (l.take k) + (l[k]).size := by
  rw [List.take_succ_eq_append_getElem h, D.sizes_append]; simp [D.sizes]
theorem D.sizes_take_le (l : List D) (k : Nat) : D.sizes (l.take k) ≤ D.sizes l := by
  have := D.sizes_append (l.take k) (l.drop k)
  rw [List.take_append_drop] at this
  omega
mutual
/-- No part is greater than can be gone over. -/
def D.Fit : D → Prop
  | .mk _ _ s ks l => s.size ≤ 10000 ∧ ks.length ≤ 10000 ∧ l.length ≤ 10000 ∧ (∀ k ∈ ks, k.size ≤ 9223372036854775807) ∧ D.Fits l
def D.Fits : List D → Prop
  | [] => True
  | d :: r => d.Fit ∧ D.Fits r
end
theorem D.Fit.keys {d : D} (h : d.Fit) : d.keys.length ≤ 10000 := by obtain ⟨_, _, _, _, _⟩ := d; simp only [D.Fit] at h; exact h.2.1
theorem D.Fit.kids {d : D} (h : d.Fit) : d.kids.length ≤ 10000 := by obtain ⟨_, _, _, _, _⟩ := d; simp only [D.Fit] at h; exact h.2.2.1
theorem D.Fit.str {d : D} (h : d.Fit) : d.str.size ≤ 10000 := by obtain ⟨_, _, _, _, _⟩ := d; simp only [D.Fit] at h; exact h.1
theorem D.Fit.key {d : D} (h : d.Fit) {i : Nat} (hi : i < d.keys.length) : (d.keys[i]).size ≤ 9223372036854775807 := by obtain ⟨_, _, _, _, _⟩ := d; simp only [D.Fit] at h; exact h.2.2.2.1 _ (List.getElem_mem hi)
theorem D.Fits.at_ : ∀ {l : List D}, D.Fits l → ∀ {i : Nat} (hi : i < l.length), (l[i]).Fit
  | [], _, i, hi => by simp at hi
  | d :: r, h, 0, _ => by simp only [D.Fits] at h; exact h.1
  | d :: r, h, i + 1, hi => by simp only [D.Fits] at h; exact D.Fits.at_ h.2 (by simpa using hi)
theorem D.Fit.kid {d : D} (h : d.Fit) {i : Nat} (hi : i < d.kids.length) : (d.kids[i]).Fit := by obtain ⟨_, _, _, _, _⟩ := d; simp only [D.Fit] at h; exact h.2.2.2.2.at_ hi
/-- The kids, as the fifth cell leads to them. -/
theorem DocIn.kids_ {w : World} {B : Nat} {d : D} {v0 v1 v2 v3 : Value} {A : Option Addr} {n c : Nat} (h : DocIn w B d v0 v1 v2 v3 (.slice A n c)) :
    n = d.kids.length ∧ d.kids.length ≤ c ∧ (0 < d.kids.length → ∃ b off, A = some ⟨b, off, none⟩ ∧ b < B ∧ KidsIn w B b off 0 d.kids) := by
  obtain ⟨_, _, _, _, l⟩ := d
  simp only [DocIn] at h
  obtain ⟨_, _, _, _, A', c', e, k1, k2⟩ := h
  injection e with e1 e2 e3
  subst e1; subst e2; subst e3
  exact ⟨rfl, k1, k2⟩
theorem DocIn.keys_ {w : World} {B : Nat} {d : D} {v0 v1 v2 v3 v4 : Value} (h : DocIn w B d v0 v1 v2 v3 v4) : Strs w B v3 d.keys := by
  obtain ⟨_, _, _, _, l⟩ := d
  simp only [DocIn] at h
  exact h.2.2.2.1
/-- Below B nothing has turned, and what lies there reads as it did. -/
theorem below_add {W w1 : World} (hb : Below W.heap.size W w1) : (∀ b o, b < W.heap.size → w1.cell? ⟨b, o, none⟩ = W.cell? ⟨b, o, none⟩) ∧ (∀ b o, b < W.heap.size → w1.frozen? ⟨b, o, none⟩ = W.frozen? ⟨b, o, none⟩) :=
  ⟨fun b o h => hb.cell (p := ⟨b, o, none⟩) h, fun b o h => hb.frozen (p := ⟨b, o, none⟩) h⟩
end Go.Proofs.Ytdgnengfcabgjaa
namespace Go.Proofs.Ytdgnengfcabgjaa
open Go.RowKit

def icmp (a b : Int) : Int := if a < b then -1 else if b < a then 1 else 0
def scmp (a b : ByteArray) : Int := Lib.compareBytes a.data.toList b.data.toList
def kcmp : List ByteArray → List ByteArray → Int
  | [], [] => 0
  | [], _ :: _ => -1
  | _ :: _, [] => 1
  | a :: x, b :: y => if scmp a b = 0 then kcmp x y else scmp a b
def orI (a b : Int) : Int := if a = 0 then b else a

theorem compareBytes_cases (a b : List UInt8) : Lib.compareBytes a b = -1 ∨ Lib.compareBytes a b = 0 ∨ Lib.compareBytes a b = 1 := by
  induction a generalizing b with
  | nil => cases b <;> simp [Lib.compareBytes]
  | cons x a ih =>
    cases b with
    | nil => simp [Lib.compareBytes]
    | cons y b =>
      simp only [Lib.compareBytes]
      split
      · simp
      · split
        · simp
        · exact ih b
theorem less_compare (a b : List UInt8) : Op.bytesLess a b = decide (Lib.compareBytes a b = -1) := by
  induction a generalizing b with
  | nil => cases b <;> simp [Lib.compareBytes, Op.bytesLess]
  | cons x a ih =>
    cases b with
    | nil => simp [Lib.compareBytes, Op.bytesLess]
    | cons y b =>
      simp only [Lib.compareBytes, Op.bytesLess]
      by_cases h : x < y
      · simp [h]
      · by_cases h2 : y < x
        · have : ¬ x = y := by rintro rfl; exact h h2
          simp [h, h2, this]
        · have : x = y := by
            rw [UInt8.lt_iff_toNat_lt] at h h2
            exact UInt8.toNat_inj.1 (by omega)
          subst this
          simp [h, ih b]
theorem eq_compare (a b : List UInt8) : Lib.compareBytes a b = 0 ↔ a = b := by
  induction a generalizing b with
  | nil => cases b <;> simp [Lib.compareBytes]
  | cons x a ih =>
    cases b with
    | nil => simp [Lib.compareBytes]
    | cons y b =>
      simp only [Lib.compareBytes]
      by_cases h : x < y
      · have : ¬ x = y := by rintro rfl; rw [UInt8.lt_iff_toNat_lt] at h; omega
        simp [h, this]
      · by_cases h2 : y < x
        · have : ¬ x = y := by rintro rfl; exact h h2
          simp [h, h2, this]
        · have : x = y := by
            rw [UInt8.lt_iff_toNat_lt] at h h2
            exact UInt8.toNat_inj.1 (by omega)
          subst this
          simp [h, ih b]
theorem compare_flip (a b : List UInt8) : Lib.compareBytes b a = - Lib.compareBytes a b := by
  induction a generalizing b with
  | nil => cases b <;> simp [Lib.compareBytes]
  | cons x a ih =>
    cases b with
    | nil => simp [Lib.compareBytes]
    | cons y b =>
      simp only [Lib.compareBytes]
      by_cases h : x < y
      · have : ¬ y < x := by rw [UInt8.lt_iff_toNat_lt] at *; omega
        simp [h, this]
      · by_cases h2 : y < x
        · simp [h, h2]
        · simp [h, h2, ih b]
theorem less_trans : ∀ (a b c : List UInt8), Op.bytesLess a b = true → Op.bytesLess b c = true → Op.bytesLess a c = true
  | _, [], _, h, _ => by simp [Op.bytesLess] at h
  | _, _ :: _, [], _, h => by simp [Op.bytesLess] at h
  | [], _ :: _, _ :: _, _, _ => by simp [Op.bytesLess]
  | x :: a, y :: b, z :: c, h, h' => by
    simp only [Op.bytesLess, Bool.or_eq_true, decide_eq_true_eq, Bool.and_eq_true, beq_iff_eq, UInt8.lt_iff_toNat_lt] at h h' ⊢
    rcases h with h | ⟨rfl, h⟩
    · rcases h' with h' | ⟨rfl, _⟩
      · exact .inl (by omega)
      · exact .inl h
    · rcases h' with h' | ⟨rfl, h'⟩
      · exact .inl h'
      · exact .inr ⟨rfl, less_trans a b c h h'⟩

/-- An order, told as -1, 0, 1. -/
structure Ordered {α : Type} (c : α → α → Int) (P : α → Prop) : Prop where
  cases : ∀ a b, P a → P b → c a b = -1 ∨ c a b = 0 ∨ c a b = 1
  flip : ∀ a b, P a → P b → c b a = - c a b
  eq : ∀ a b, P a → P b → (c a b = 0 ↔ a = b)
  trans : ∀ a b d, P a → P b → P d → c a b = -1 → c b d = -1 → c a d = -1

theorem icmp_ordered : Ordered icmp (fun _ => True) where
  cases a b _ _ := by unfold icmp; split <;> (try split) <;> simp
  flip a b _ _ := by unfold icmp; split <;> split <;> (try split) <;> omega
  eq a b _ _ := by
    unfold icmp
    by_cases h1 : a < b
    · simp [h1]; omega
    · by_cases h2 : b < a
      · simp [h1, h2]; omega
      · simp [h1, h2]; omega
  trans a b d _ _ _ h h' := by
    unfold icmp at *
    by_cases h1 : a < b
    · by_cases h2 : b < d
      · rw [if_pos (by omega)]
      · rw [if_neg h2] at h'; split at h' <;> simp at h'
    · rw [if_neg h1] at h; split at h <;> simp at h

theorem data_inj {a b : ByteArray} (h : a.data.toList = b.data.toList) : a = b := by
  obtain ⟨⟨l⟩⟩ := a; obtain ⟨⟨m⟩⟩ := b; simpa using h
theorem scmp_ordered : Ordered scmp (fun _ => True) where
  cases a b _ _ := compareBytes_cases _ _
  flip a b _ _ := compare_flip _ _
  eq a b _ _ := by unfold scmp; rw [eq_compare]; exact ⟨data_inj, fun h => by rw [h]⟩
  trans a b d _ _ _ h h' := by
    unfold scmp at *
    have := less_trans _ _ _ (by rw [less_compare]; simpa using h) (by rw [less_compare]; simpa using h')
    rw [less_compare] at this
    simpa using this

theorem Ordered.refl {α : Type} {c : α → α → Int} {P : α → Prop} (o : Ordered c P) (a : α) (h : P a) : c a a = 0 := (o.eq a a h h).2 rfl
theorem Ordered.mono {α : Type} {c : α → α → Int} {P Q : α → Prop} (o : Ordered c P) (h : ∀ a, Q a → P a) : Ordered c Q :=
  ⟨fun a b ha hb => o.cases a b (h a ha) (h b hb), fun a b ha hb => o.flip a b (h a ha) (h b hb), fun a b ha hb => o.eq a b (h a ha) (h b hb), fun a b d ha hb hd => o.trans a b d (h a ha) (h b hb) (h d hd)⟩
theorem Ordered.comap {α β : Type} {c : β → β → Int} {P : β → Prop} (o : Ordered c P) (f : α → β) (hf : ∀ a b, f a = f b → a = b) : Ordered (fun a b => c (f a) (f b)) (fun a => P (f a)) :=
  ⟨fun a b ha hb => o.cases _ _ ha hb, fun a b ha hb => o.flip _ _ ha hb, fun a b ha hb => by rw [o.eq _ _ ha hb]; exact ⟨hf a b, fun h => by rw [h]⟩, fun a b d ha hb hd => o.trans _ _ _ ha hb hd⟩
theorem Ordered.prod {α β : Type} {c : α → α → Int} {e : β → β → Int} {P : α → Prop} {Q : β → Prop} (o : Ordered c P) (r : Ordered e Q) :
    Ordered (fun x y : α × β => orI (c x.1 y.1) (e x.2 y.2)) (fun x => P x.1 ∧ Q x.2) where
  cases a b ha hb := by
    unfold orI; rcases o.cases _ _ ha.1 hb.1 with h | h | h
    · simp [h]
    · simp [h, r.cases _ _ ha.2 hb.2]
    · simp [h]
  flip a b ha hb := by
    unfold orI; rw [o.flip _ _ ha.1 hb.1]
    by_cases h : c a.1 b.1 = 0
    · simp [h, r.flip _ _ ha.2 hb.2]
    · have : ¬ - c a.1 b.1 = 0 := by omega
      simp [h, this]
  eq a b ha hb := by
    unfold orI
    by_cases h : c a.1 b.1 = 0
    · simp only [h, if_true]
      rw [o.eq _ _ ha.1 hb.1] at h
      rw [r.eq _ _ ha.2 hb.2, Prod.ext_iff]; simp [h]
    · rw [if_neg h]
      constructor
      · intro hh; exact absurd hh h
      · rintro rfl; exact absurd (o.refl _ ha.1) h
  trans a b d ha hb hd h h' := by
    unfold orI at *
    by_cases h1 : c a.1 b.1 = 0
    · rw [if_pos h1] at h
      rw [o.eq _ _ ha.1 hb.1] at h1
      rw [h1]
      by_cases h2 : c b.1 d.1 = 0
      · rw [if_pos h2] at h' ⊢; exact r.trans _ _ _ ha.2 hb.2 hd.2 h h'
      · rw [if_neg h2] at h' ⊢; exact h'
    · rw [if_neg h1] at h
      by_cases h2 : c b.1 d.1 = 0
      · rw [o.eq _ _ hb.1 hd.1] at h2
        rw [← h2, if_neg h1]; exact h
      · rw [if_neg h2] at h'
        have := o.trans _ _ _ ha.1 hb.1 hd.1 h h'
        rw [this]; simp
/-- Rows, one by one; a beginning is less. -/
def lcmp {α : Type} (c : α → α → Int) : List α → List α → Int
  | [], [] => 0
  | [], _ :: _ => -1
  | _ :: _, [] => 1
  | a :: x, b :: y => orI (c a b) (lcmp c x y)
theorem lcmp_ordered {α : Type} {c : α → α → Int} {P : α → Prop} (o : Ordered c P) : Ordered (lcmp c) (fun l => ∀ x ∈ l, P x) where
  cases a := by
    induction a with
    | nil => intro b _ _; cases b <;> simp [lcmp]
    | cons x a ih =>
      intro b ha hb
      cases b with
      | nil => simp [lcmp]
      | cons y b =>
        simp only [lcmp, orI]
        have h1 := o.cases x y (ha x (by simp)) (hb y (by simp))
        have h2 := ih b (fun z hz => ha z (by simp [hz])) (fun z hz => hb z (by simp [hz]))
        split <;> assumption
  flip a := by
    induction a with
    | nil => intro b _ _; cases b <;> simp [lcmp]
    | cons x a ih =>
      intro b ha hb
      cases b with
      | nil => simp [lcmp]
      | cons y b =>
        simp only [lcmp, orI]
        rw [o.flip x y (ha x (by simp)) (hb y (by simp)), ih b (fun z hz => ha z (by simp [hz])) (fun z hz => hb z (by simp [hz]))]
        by_cases h : c x y = 0
        · simp [h]
        · have : ¬ - c x y = 0 := by omega
          simp [h, this]
  eq a := by
    induction a with
    | nil => intro b _ _; cases b <;> simp [lcmp]
    | cons x a ih =>
      intro b ha hb
      cases b with
      | nil => simp [lcmp]
      | cons y b =>
        simp only [lcmp, orI]
        have h1 := o.eq x y (ha x (by simp)) (hb y (by simp))
        have h2 := ih b (fun z hz => ha z (by simp [hz])) (fun z hz => hb z (by simp [hz]))
        by_cases h : c x y = 0
        · rw [if_pos h, h2]; simp [h1.1 h]
        · rw [if_neg h]
          constructor
          · intro hh; exact absurd hh h
          · intro hh; injection hh with e1 e2; exact absurd (h1.2 e1) h
  trans a := by
    induction a with
    | nil => intro b d _ _ _ h h'; cases b <;> cases d <;> simp [lcmp] at *
    | cons x a ih =>
      intro b d ha hb hd h h'
      cases b with
      | nil => simp [lcmp] at h
      | cons y b =>
        cases d with
        | nil => simp [lcmp] at h'
        | cons z d =>
          have hx := ha x (by simp)
          have hy := hb y (by simp)
          have hz := hd z (by simp)
          have i := ih b d (fun t ht => ha t (by simp [ht])) (fun t ht => hb t (by simp [ht])) (fun t ht => hd t (by simp [ht]))
          simp only [lcmp, orI] at h h' ⊢
          by_cases h1 : c x y = 0
          · rw [if_pos h1] at h
            rw [o.eq _ _ hx hy] at h1
            subst h1
            by_cases h2 : c x z = 0
            · rw [if_pos h2] at h' ⊢; exact i h h'
            · rw [if_neg h2] at h' ⊢; exact h'
          · rw [if_neg h1] at h
            by_cases h2 : c y z = 0
            · rw [o.eq _ _ hy hz] at h2
              subst h2
              rw [if_neg h1]; exact h
            · rw [if_neg h2] at h'
              have := o.trans _ _ _ hx hy hz h h'
              rw [this]; simp

theorem kcmp_eq : ∀ a b, kcmp a b = lcmp scmp a b
  | [], [] => rfl
  | [], _ :: _ => rfl
  | _ :: _, [] => rfl
  | a :: x, b :: y => by simp only [kcmp, lcmp, orI, kcmp_eq x y]

namespace D
/-- All but the kids. -/
def root (a b : D) : Int := orI (icmp a.kind b.kind) (orI (icmp a.num b.num) (orI (scmp a.str b.str) (orI (icmp a.keys.length b.keys.length) (orI (kcmp a.keys b.keys) (icmp a.kids.length b.kids.length)))))
mutual
def cmp : D → D → Int
  | .mk k n s ks l, .mk k' n' s' ks' l' => orI (root (.mk k n s ks l) (.mk k' n' s' ks' l')) (cmps l l')
def cmps : List D → List D → Int
  | [], [] => 0
  | [], _ :: _ => -1
  | _ :: _, [] => 1
  | a :: x, b :: y => orI (cmp a b) (cmps x y)
end
theorem cmps_eq : ∀ a b, cmps a b = lcmp cmp a b
  | [], [] => by simp [cmps, lcmp]
  | [], _ :: _ => by simp [cmps, lcmp]
  | _ :: _, [] => by simp [cmps, lcmp]
  | a :: x, b :: y => by simp only [cmps, lcmp, cmps_eq x y]
theorem orI_assoc (a b c : Int) : orI (orI a b) c = orI a (orI b c) := by
  unfold orI; by_cases h : a = 0
  · simp [h]
  · simp [h]
/-- All of a document, as a row of things that are ordered. -/
def key (d : D) : Int × Int × ByteArray × Int × List ByteArray × Int × List D := (d.kind, d.num, d.str, d.keys.length, d.keys, d.kids.length, d.kids)
theorem key_inj (a b : D) (h : key a = key b) : a = b := by
  obtain ⟨_, _, _, _, _⟩ := a; obtain ⟨_, _, _, _, _⟩ := b
  simp [key, kind, num, str, keys, kids] at h
  simp [h]
theorem cmp_key (a b : D) : cmp a b = orI (icmp (key a).1 (key b).1) (orI (icmp (key a).2.1 (key b).2.1) (orI (scmp (key a).2.2.1 (key b).2.2.1) (orI (icmp (key a).2.2.2.1 (key b).2.2.2.1) (orI (lcmp scmp (key a).2.2.2.2.1 (key b).2.2.2.2.1)
    (orI (icmp (key a).2.2.2.2.2.1 (key b).2.2.2.2.2.1) (lcmp cmp (key a).2.2.2.2.2.2 (key b).2.2.2.2.2.2)))))) := by
  obtain ⟨_, _, _, _, _⟩ := a; obtain ⟨_, _, _, _, _⟩ := b
  simp only [cmp, root, key, kind, num, str, keys, kids, kcmp_eq, cmps_eq, orI_assoc]
theorem depth_le_depths : ∀ (l : List D) (d : D), d ∈ l → d.depth ≤ depths l
  | [], _, h => by simp at h
  | x :: r, d, h => by
    simp only [depths]
    rcases List.mem_cons.1 h with rfl | h
    · omega
    · have := depth_le_depths r d h; omega
theorem cmp_ordered_at (n : Nat) : Ordered cmp (fun d => d.depth ≤ n) := by
  induction n with
  | zero =>
    have no : ∀ d : D, ¬ d.depth ≤ 0 := fun d => by obtain ⟨_, _, _, _, _⟩ := d; simp [depth]
    exact ⟨fun a _ h => absurd h (no a), fun a _ h => absurd h (no a), fun a _ h => absurd h (no a), fun a _ _ h => absurd h (no a)⟩
  | succ n ih =>
    have h := (icmp_ordered.prod (icmp_ordered.prod (scmp_ordered.prod (icmp_ordered.prod ((lcmp_ordered scmp_ordered).prod (icmp_ordered.prod (lcmp_ordered ih))))))).comap key key_inj
    have e : cmp = fun a b => _ := funext fun a => funext fun b => cmp_key a b
    rw [e]
    refine h.mono fun d hd => ⟨trivial, trivial, trivial, trivial, fun _ _ => trivial, trivial, fun x hx => ?_⟩
    obtain ⟨_, _, _, _, l⟩ := d
    simp only [depth] at hd
    have := depth_le_depths l x hx
    show x.depth ≤ n
    omega
theorem cmp_ordered : Ordered cmp (fun _ => True) where
  cases a b _ _ := (cmp_ordered_at (max a.depth b.depth)).cases a b (by show _ ≤ _; omega) (by show _ ≤ _; omega)
  flip a b _ _ := (cmp_ordered_at (max a.depth b.depth)).flip a b (by show _ ≤ _; omega) (by show _ ≤ _; omega)
  eq a b _ _ := (cmp_ordered_at (max a.depth b.depth)).eq a b (by show _ ≤ _; omega) (by show _ ≤ _; omega)
  trans a b d _ _ _ := (cmp_ordered_at (max (max a.depth b.depth) d.depth)).trans a b d (by show _ ≤ _; omega) (by show _ ≤ _; omega) (by show _ ≤ _; omega)
end D
end Go.Proofs.Ytdgnengfcabgjaa
namespace Go.Proofs.Ytdgnengfcabgjaa
open Go.RowKit
theorem ret_cell5 {P : Program} {fn : Func} {R : Ending → World → Prop} {a : Act} {w : World} {b : Nat} {t : Tmp} {v0 v1 v2 v3 v4 : Value} {T : TypeId} (hres : fn.results = #[.cell t T]) (hslot : a.tmps.getD t undef = .pointer (some ⟨b, 0, none⟩))
    (hload : (loadVar T ⟨b, 0, none⟩).run P w = .ok (.agg #[v0, v1, v2, v3, v4]) w) (hd : a.defers = []) (hR : R (.returned (.agg #[v0, v1, v2, v3, v4])) w) : bodyPost P fn R .ret a w :=
  bodyPost_ret (v := .agg #[v0, v1, v2, v3, v4]) (by rw [Array.getD_eq_getD_getElem?] at hslot; simp [results, hres, hslot, asAddr, hload]) hd hR
/-- A document's variable: a block of five cells. -/
def Box5 (w : World) (b : Nat) (v0 v1 v2 v3 v4 : Value) : Prop := w.heap[b]? = some (.cells #[v0, v1, v2, v3, v4] 25 (0, 0))
section
variable {w w' : World} {b : Nat} {v0 v1 v2 v3 v4 : Value}
theorem Box5.lt (h : Box5 w b v0 v1 v2 v3 v4) : b < w.heap.size := by
  rcases Nat.lt_or_ge b w.heap.size with hlt | hge
  · exact hlt
  · unfold Box5 at h; rw [Array.getElem?_eq_none hge] at h; cases h
theorem Box5.cells (h : Box5 w b v0 v1 v2 v3 v4) : w.cell? ⟨b, 0, none⟩ = some v0 ∧ w.cell? ⟨b, 1, none⟩ = some v1 ∧ w.cell? ⟨b, 2, none⟩ = some v2 ∧ w.cell? ⟨b, 3, none⟩ = some v3 ∧ w.cell? ⟨b, 4, none⟩ = some v4 :=
  ⟨cell_of_row w b 0 _ _ _ h, cell_of_row w b 1 _ _ _ h, cell_of_row w b 2 _ _ _ h, cell_of_row w b 3 _ _ _ h, cell_of_row w b 4 _ _ _ h⟩
theorem Box5.frozen (h : Box5 w b v0 v1 v2 v3 v4) (i : Nat) : w.frozen? ⟨b, i, none⟩ = false := by
  unfold Box5 at h
  simp [World.frozen?, h]
theorem Box5.load (h : Box5 w b v0 v1 v2 v3 v4) : (loadVar 25 ⟨b, 0, none⟩).run Try.prog w = .ok (.agg #[v0, v1, v2, v3, v4]) w := by
  obtain ⟨z0, z1, z2, z3, z4⟩ := h.cells
  simp [go_sem, z0, z1, z2, z3, z4]
theorem Box5.new (w : World) (v0 v1 v2 v3 v4 : Value) : Box5 (w.alloc (.cells #[v0, v1, v2, v3, v4] 25)) w.heap.size v0 v1 v2 v3 v4 := heap_alloc_new w _
theorem Box5.same (h : Box5 w b v0 v1 v2 v3 v4) (hs : w'.heap[b]? = w.heap[b]?) : Box5 w' b v0 v1 v2 v3 v4 := hs.trans h
theorem Box5.alloc (h : Box5 w b v0 v1 v2 v3 v4) (o : Obj) : Box5 (w.alloc o) b v0 v1 v2 v3 v4 := (Below.heap_alloc w o b h.lt).trans h
theorem Box5.far (h : Box5 w b v0 v1 v2 v3 v4) {p : Addr} (hp : b ≠ p.block) (u : Value) : Box5 (w.setCell p u) b v0 v1 v2 v3 v4 := (Below.heap_setCell w p u b hp).trans h
theorem Box5.set_ (h : Box5 w b v0 v1 v2 v3 v4) (i : Nat) (u : Value) : (w.setCell ⟨b, i, none⟩ u).heap[b]? = some (.cells (#[v0, v1, v2, v3, v4].setIfInBounds i u) 25 (0, 0)) := by
  unfold Box5 at h
  simp [World.setCell, Array.getElem?_modify, h]
theorem Box5.set0 (h : Box5 w b v0 v1 v2 v3 v4) (u : Value) : Box5 (w.setCell ⟨b, 0, none⟩ u) b u v1 v2 v3 v4 := h.set_ 0 u
theorem Box5.set1 (h : Box5 w b v0 v1 v2 v3 v4) (u : Value) : Box5 (w.setCell ⟨b, 1, none⟩ u) b v0 u v2 v3 v4 := h.set_ 1 u
theorem Box5.set2 (h : Box5 w b v0 v1 v2 v3 v4) (u : Value) : Box5 (w.setCell ⟨b, 2, none⟩ u) b v0 v1 u v3 v4 := h.set_ 2 u
theorem Box5.new' {w : World} {b : Nat} (hb : w.heap.size = b) (v0 v1 v2 v3 v4 : Value) : Box5 (w.alloc (.cells #[v0, v1, v2, v3, v4] 25)) b v0 v1 v2 v3 v4 := hb ▸ heap_alloc_new w _
theorem Box5.set3 (h : Box5 w b v0 v1 v2 v3 v4) (u : Value) : Box5 (w.setCell ⟨b, 3, none⟩ u) b v0 v1 v2 u v4 := h.set_ 3 u
theorem Box5.set4 (h : Box5 w b v0 v1 v2 v3 v4) (u : Value) : Box5 (w.setCell ⟨b, 4, none⟩ u) b v0 v1 v2 v3 u := h.set_ 4 u
end
end Go.Proofs.Ytdgnengfcabgjaa
namespace Go.Proofs.Ytdgnengfcabgjaa
open Go.RowKit

/-- A slice of strings in blocks of the set: nil let in. -/
def StrsS (w : World) (S : Nat → Prop) (v : Value) (xs : List ByteArray) : Prop :=
  ∃ (A : Option Addr) (c : Nat), v = .slice A xs.length c ∧ xs.length ≤ c ∧
    (0 < xs.length → ∃ b off, A = some ⟨b, off, none⟩ ∧ S b ∧ ∀ (i : Nat) (h : i < xs.length), w.cell? ⟨b, off + i, none⟩ = some (.string xs[i]))
theorem StrsS.keep {w w' : World} {S S' : Nat → Prop} (hB : ∀ k, S k → S' k) (h : ∀ p : Addr, S p.block → w'.cell? p = w.cell? p) {v : Value} {xs : List ByteArray} (hs : StrsS w S v xs) : StrsS w' S' v xs := by
  obtain ⟨A, c, e, l, h1⟩ := hs
  refine ⟨A, c, e, l, fun hl => ?_⟩
  obtain ⟨b, off, e', hb, hc⟩ := h1 hl
  exact ⟨b, off, e', hB _ hb, fun i hi => (h ⟨b, off + i, none⟩ hb).trans (hc i hi)⟩
end Go.Proofs.Ytdgnengfcabgjaa
namespace Go.Proofs.Ytdgnengfcabgjaa
open Go.RowKit

structure Turned (w w' : World) (G : List Nat) (b : Nat) : Prop where
  os : w'.os = w.os
  tape : w'.tape = w.tape
  output : w'.output = w.output
  size : w.heap.size ≤ w'.heap.size
  block : ∀ k, k < w.heap.size → k ∉ G → k ≠ b → w'.heap[k]? = w.heap[k]?
theorem Turned.below {w w' : World} {G : List Nat} {b B : Nat} (h : Turned w w' G b) (hG : ∀ k ∈ G, B ≤ k) (hb : B ≤ b) (hB : B ≤ w.heap.size) : Below B w w' :=
  ⟨h.os, h.tape, h.output, h.size, fun k hk => h.block k (by omega) (fun hm => by have := hG k hm; omega) (by omega)⟩
theorem Turned.of_below {w w' : World} (h : Below w.heap.size w w') (G : List Nat) (b : Nat) : Turned w w' G b := ⟨h.os, h.tape, h.output, h.size, fun k hk _ _ => h.block k hk⟩
theorem Turned.trans {a w w' : World} {G : List Nat} {b : Nat} (h : Turned a w G b) (k : Turned w w' G b) : Turned a w' G b :=
  ⟨k.os.trans h.os, k.tape.trans h.tape, k.output.trans h.output, Nat.le_trans h.size k.size, fun j hj hg hb => (k.block j (Nat.lt_of_lt_of_le hj h.size) hg hb).trans (h.block j hj hg hb)⟩
theorem Turned.setCell {a w : World} {G : List Nat} {b : Nat} (h : Turned a w G b) {p : Addr} (hp : p.block ∈ G ∨ p.block = b ∨ a.heap.size ≤ p.block) (u : Value) : Turned a (w.setCell p u) G b :=
  ⟨h.os, h.tape, h.output, by simpa [World.setCell] using h.size, fun j hj hg hb => (Below.heap_setCell w p u j (by
    rintro rfl
    rcases hp with hp | hp | hp
    · exact hg hp
    · exact hb hp
    · omega)).trans (h.block j hj hg hb)⟩
theorem Turned.drew {a w : World} {G : List Nat} {b : Nat} (h : Turned a w G b) : Turned a w.drew G b := ⟨h.os, h.tape, h.output, h.size, h.block⟩
theorem Turned.alloc {a w : World} {G : List Nat} {b : Nat} (h : Turned a w G b) (o : Obj) : Turned a (w.alloc o) G b :=
  ⟨h.os, h.tape, h.output, Nat.le_trans h.size (by simp), fun j hj hg hb => (Below.heap_alloc w o j (Nat.lt_of_lt_of_le hj h.size)).trans (h.block j hj hg hb)⟩
theorem Turned.grown {a w w' : World} {G : List Nat} {b : Nat} (h : Turned a w G b) {row : Option Nat} (hg : w.grownBy w' row) (hr : ∀ j, row = some j → j ∈ G ∨ j = b ∨ a.heap.size ≤ j) : Turned a w' G b :=
  ⟨hg.os.trans h.os, hg.tape.trans h.tape, hg.output.trans h.output, Nat.le_trans h.size hg.size, fun j hj hgj hb => (hg.block j (Nat.lt_of_lt_of_le hj h.size) (fun e => by
    rcases hr j e.symm with h1 | h1 | h1
    · exact hgj h1
    · exact hb h1
    · omega)).trans (h.block j hj hgj hb)⟩
theorem frozen_alloc_drew {w : World} {b : Nat} (hb : b < w.heap.size) (ob : Obj) (o : Nat) : ((w.alloc ob).drew).frozen? ⟨b, o, none⟩ = w.frozen? ⟨b, o, none⟩ := World.frozen?_of_block (a := ⟨b, o, none⟩) (Below.heap_alloc w ob b hb)
theorem cell_alloc_drew {w : World} {b : Nat} (hb : b < w.heap.size) (ob : Obj) (o : Nat) : ((w.alloc ob).drew).cell? ⟨b, o, none⟩ = w.cell? ⟨b, o, none⟩ := World.cell?_of_block (a := ⟨b, o, none⟩) (Below.heap_alloc w ob b hb)
end Go.Proofs.Ytdgnengfcabgjaa
namespace Go.Proofs.Ytdgnengfcabgjaa
open Go.RowKit

set_option maxHeartbeats 400000 in
theorem size_any (m : Nat) : ∀ (d : D) (v0 v1 v2 v3 v4 : Value) (w : World) (B : Nat), d.depth ≤ m → d.size ≤ 10000 → B ≤ w.heap.size → DocIn w B d v0 v1 v2 v3 v4 →
    Calls Try.prog 10 #[.agg #[v0, v1, v2, v3, v4]] w fun e w' => e = .returned (.int .i64 d.size) ∧ Below w.heap.size w w' := by
  induction m with
  | zero => intro d; obtain ⟨_, _, _, _, _⟩ := d; intro _ _ _ _ _ _ _ h; simp [D.depth] at h
  | succ m ih =>
    intro d v0 v1 v2 v3 v4 w B hm hs hB hd
    obtain ⟨kind, num, str, keys, kids⟩ := d
    simp only [DocIn] at hd
    obtain ⟨rfl, rfl, rfl, ⟨A3, c3, rfl, hk1, hk2⟩, A4, c4, rfl, hl1, hl2⟩ := hd
    have H4 := Lib.hid hl2; clear hl2 hk2 hk1
    have IH := Lib.hid ih; clear ih
    have hlen : kids.length ≤ D.sizes kids := D.len_le_sizes kids
    simp only [D.size] at hs
    go_enter Try.func10, Try.ntmps10
    go_wp2_with fail
    go_loopw [3, 9] (fun t i wr => ∃ k : Nat, k ≤ kids.length ∧ i = .int .i64 k ∧ t = .int .i64 ((D.sizes (kids.take k) + 1 : Nat) : Int) ∧ Below w.heap.size w wr) (fun _ i _ => kids.length - (intOf i).toNat)
    case atStart => exact ⟨0, Nat.zero_le _, rfl, rfl, (Below.refl _ _).alloc (Nat.le_refl _) _⟩
    case round =>
      obtain ⟨k, hk, rfl, rfl, hb⟩ := hrel
      by_cases hlt : k < kids.length
      · obtain ⟨b, off, rfl, hab, hkids⟩ := H4.out (by omega)
        have hcells := KidsIn.at_ hkids k hlt
        rw [Nat.zero_add] at hcells
        obtain ⟨u0, u1, u2, u3, u4, g0, g1, g2, g3, g4, hdk⟩ := hcells
        have bc : ∀ n, wr.cell? ⟨b, n, none⟩ = w.cell? ⟨b, n, none⟩ := fun n => hb.cell (p := ⟨b, n, none⟩) (by show b < _; omega)
        rw [← bc] at g0 g1 g2 g3 g4
        clear bc hkids
        obtain ⟨A5, c5, A6, c6, rfl, rfl, rfl, rfl, rfl⟩ := hdk.forms
        have HK := Lib.hid hdk; clear hdk
        have hts := D.sizes_take_succ kids k hlt
        have htl : D.sizes (kids.take k) + kids[k].size ≤ D.sizes kids := by rw [← hts]; exact D.sizes_take_le kids (k + 1)
        have HT := Lib.hid hts; clear hts
        go_wp2_with fail
        refine (IH.out kids[k] _ _ _ _ _ _ B (by have := D.depth_kid (d := .mk kind num str keys kids) hlt; simp only [D.kids] at this; omega) (by omega) ?_ ?_).mono ?_
        · have := hb.size; simp; omega
        · exact DocIn.keep (Nat.le_refl _) (fun p hp => ((World.cell?_alloc_lt wr _ p (by have := hb.size; omega)).trans (hb.cell (by omega)))) HK.out
        rintro e w1 ⟨rfl, hb1⟩
        go_wp2_with fail
        go_roundw
        case rel => exact ⟨k + 1, by omega, by go_num, by rw [HT.out]; go_num, (hb.alloc (by have := hb.size; omega) _).trans (hb1.mono (by have := hb.size; simp; omega))⟩
        case measure => simp [intOf]; omega
      · go_wp2_with fail
        go_ret
        exact ⟨by rw [List.take_of_length_le (by omega)]; rfl, hb⟩
end Go.Proofs.Ytdgnengfcabgjaa
namespace Go.Proofs.Ytdgnengfcabgjaa
open Go.RowKit Go.Deep

theorem cDoc : Try.prog.cellsOf 25 = 5 := by kernel_rfl
theorem cInt : Try.prog.cellsOf 3 = 1 := by kernel_rfl
theorem cStr : Try.prog.cellsOf 9 = 1 := by kernel_rfl
theorem cStrs : Try.prog.cellsOf 22 = 1 := by kernel_rfl
theorem cDocs : Try.prog.cellsOf 23 = 1 := by kernel_rfl

theorem cell_spot {w : World} {a : Addr} {v : Value} (h : w.cell? a = some v) : a = ⟨a.block, a.off, none⟩ ∧ a.block < w.heap.size := by
  obtain ⟨b, o, s⟩ := a
  unfold World.cell? at h
  split at h
  · rename_i hb
    cases s with
    | none => exact ⟨rfl, (Array.getElem?_eq_some_iff.1 hb).1⟩
    | some _ => simp at h
  · cases h
theorem add_none (b o i : Nat) : (Addr.mk b o none).add i = ⟨b, o + i, none⟩ := by
  unfold Addr.add
  split
  · rename_i h; subst h; rfl
  · rfl
theorem pick_list {α : Type} {p : Nat → α → Prop} : ∀ (n : Nat), (∀ i, i < n → ∃ x, p i x) → ∃ l : List α, l.length = n ∧ ∀ (i : Nat) (h : i < l.length), p i l[i]
  | 0, _ => ⟨[], rfl, fun i h => by simp at h⟩
  | n + 1, h => by
    obtain ⟨l, hl, hp⟩ := pick_list n fun i hi => h i (by omega)
    obtain ⟨x, hx⟩ := h n (by omega)
    refine ⟨l ++ [x], by simp [hl], fun i hi => ?_⟩
    rcases Nat.lt_or_ge i l.length with h' | h'
    · rw [List.getElem_append_left h']; exact hp i h'
    · have e : i = l.length := by simp at hi; omega
      subst e
      simpa [hl] using hx
theorem KidsIn.of_at {w : World} {B b off : Nat} : ∀ {l : List D} {i : Nat}, (∀ (k : Nat) (h : k < l.length),
    ∃ v0 v1 v2 v3 v4 : Value, w.cell? ⟨b, off + (i + k) * 5, none⟩ = some v0 ∧ w.cell? ⟨b, off + (i + k) * 5 + 1, none⟩ = some v1 ∧ w.cell? ⟨b, off + (i + k) * 5 + 2, none⟩ = some v2 ∧ w.cell? ⟨b, off + (i + k) * 5 + 3, none⟩ = some v3 ∧ w.cell? ⟨b, off + (i + k) * 5 + 4, none⟩ = some v4 ∧ DocIn w B (l[k]) v0 v1 v2 v3 v4) → KidsIn w B b off i l
  | [], _, _ => by simp [KidsIn]
  | d :: r, i, h => by
    simp only [KidsIn]
    refine ⟨h 0 (by simp), KidsIn.of_at fun k hk => ?_⟩
    have := h (k + 1) (by simpa using hk)
    rw [show i + (k + 1) = i + 1 + k from by omega] at this
    simpa using this

section
variable {H : Type} {enc : TypeId × Value → H} {W : World} {base : Nat} {sp : Nat → Bool} {held : Bool}
theorem mapM_cells {a : Addr} {cs : List Value} {n : Nat} (h : W.cells? base a n = some cs) : cs.length = n ∧ ∀ i, i < n → W.cell? (a.add i) = cs[i]? := by
  unfold World.cells? at h
  split at h
  · have hl := mapM_some_length h
    refine ⟨by simpa using hl, fun i hi => ?_⟩
    have := mapM_some_get h i i (by simp [hi])
    exact this
  · cases h
theorem open_strs {fuel : Nat} {cs : List Value} {x : DataW H × List MemPlace} (h : DataW.trod enc Try.prog W base sp held fuel 22 cs = some x) :
    ∃ (v : Value) (xs : List ByteArray), cs = [v] ∧ Strs W W.heap.size v xs ∧ xs.length ≤ maxLen ∧ ∀ s ∈ xs, s.size ≤ maxLen := by
  rcases open_slice1 Try.underlying22 cStr h with ⟨rfl, _⟩ | ⟨a, len, cap, m, n, V, D, Pl, rfl, _, hl, hc, hm, _, hx⟩
  · exact ⟨_, [], rfl, ⟨none, 0, rfl, by simp, fun h => by simp at h⟩, by simp, by simp⟩
  · have hlm : len ≤ m := by rw [hm]; split <;> omega
    obtain ⟨xs, hxl, hxp⟩ := pick_list (p := fun i (s : ByteArray) => V i = .string s ∧ s.size ≤ maxLen) len fun i hi => by
      obtain ⟨s, e, _, hs⟩ := DataW.trod_string Try.underlying9 (hx i (by omega)).2
      exact ⟨s, by simpa using e, hs⟩
    refine ⟨_, xs, rfl, ⟨some a, cap, by rw [hxl], by omega, fun h0 => ?_⟩, by omega, fun s hs => ?_⟩
    · obtain ⟨h1, h2⟩ := cell_spot (hx 0 (by omega)).1
      rw [show a.add 0 = a from by simp [Addr.add]] at h1 h2
      refine ⟨a.block, a.off, by rw [← h1], h2, fun i hi => ?_⟩
      have h3 := (hx i (by omega)).1
      rw [h1, add_none] at h3
      rw [h3, (hxp i hi).1]
    · obtain ⟨i, hi, rfl⟩ := List.mem_iff_getElem.1 hs
      exact (hxp i hi).2
set_option maxRecDepth 100000 in
theorem open_docs (N : Nat) : ∀ (fuel : Nat), fuel ≤ N → ∀ (cs : List Value) (x : DataW H × List MemPlace), DataW.trod enc Try.prog W base sp held fuel 25 cs = some x →
    ∃ (d : D) (v0 v1 v2 v3 v4 : Value), cs = [v0, v1, v2, v3, v4] ∧ DocIn W W.heap.size d v0 v1 v2 v3 v4 := by
  induction N with
  | zero =>
    intro fuel hf cs x h
    obtain rfl : fuel = 0 := by omega
    simp [DataW.trod] at h
  | succ N ih =>
    intro fuel hf cs x h
    obtain ⟨xs, n, hn, _, hcl, hxl, hfd⟩ := DataW.trod_struct Try.underlying25 h
    rw [cDoc] at hcl
    match cs, hcl with
    | [v0, v1, v2, v3, v4], _ =>
      match xs, hxl with
      | [y0, y1, y2, y3, y4], _ =>
        have h0 : DataW.trod enc Try.prog W base sp held n 3 [v0] = some y0 := by simpa [cInt] using hfd 0 _ rfl
        have h1 : DataW.trod enc Try.prog W base sp held n 3 [v1] = some y1 := by simpa [cInt] using hfd 1 _ rfl
        have h2 : DataW.trod enc Try.prog W base sp held n 9 [v2] = some y2 := by simpa [cStr] using hfd 2 _ rfl
        have h3 : DataW.trod enc Try.prog W base sp held n 22 [v3] = some y3 := by simpa [cStrs] using hfd 3 _ rfl
        have h4 : DataW.trod enc Try.prog W base sp held n 23 [v4] = some y4 := by simpa [cDocs] using hfd 4 _ rfl
        obtain ⟨k, e0, _, _⟩ := DataW.trod_int Try.underlying3 h0
        obtain ⟨m, e1, _, _⟩ := DataW.trod_int Try.underlying3 h1
        obtain ⟨s, e2, _, _⟩ := DataW.trod_string Try.underlying9 h2
        obtain ⟨u3, ks, e3, hks, _, _⟩ := open_strs h3
        simp only [List.cons.injEq, and_true] at e0 e1 e2 e3
        subst e0; subst e1; subst e2; subst e3
        rcases DataW.trod_slice Try.underlying23 h4 with ⟨e4, _⟩ | ⟨a, len, cap, elems, rest, n', hn', e4, _, _, hl, _, hlen, hel, _, _⟩
        · simp only [List.cons.injEq, and_true] at e4
          subst e4
          refine ⟨.mk k m s ks [], _, _, _, _, _, rfl, ?_⟩
          simp only [DocIn]
          exact ⟨trivial, trivial, trivial, hks, none, 0, rfl, by simp, fun h => by simp at h⟩
        · simp only [List.cons.injEq, and_true] at e4
          subst e4
          rw [cDoc] at hel
          have hget : ∀ i, i < len → ∃ (d : D), ∃ v0 v1 v2 v3 v4 : Value, W.cell? ((a.add (i * 5)).add 0) = some v0 ∧ W.cell? ((a.add (i * 5)).add 1) = some v1 ∧ W.cell? ((a.add (i * 5)).add 2) = some v2 ∧ W.cell? ((a.add (i * 5)).add 3) = some v3 ∧ W.cell? ((a.add (i * 5)).add 4) = some v4 ∧ DocIn W W.heap.size d v0 v1 v2 v3 v4 := by
            intro i hi
            have h' := hel i hi
            rw [List.getElem?_eq_getElem (by omega)] at h'
            obtain ⟨cs', hc1, hc2⟩ := Option.bind_eq_some_iff.1 h'
            obtain ⟨d, w0, w1, w2, w3, w4, rfl, hd⟩ := ih n' (by omega) cs' _ hc2
            have hc := (mapM_cells hc1).2
            exact ⟨d, w0, w1, w2, w3, w4, hc 0 (by omega), hc 1 (by omega), hc 2 (by omega), hc 3 (by omega), hc 4 (by omega), hd⟩
          obtain ⟨l, hll, hlp⟩ := pick_list len hget
          refine ⟨.mk k m s ks l, _, _, _, _, _, rfl, ?_⟩
          simp only [DocIn]
          refine ⟨trivial, trivial, trivial, hks, some a, cap, by rw [hll], by omega, fun h0 => ?_⟩
          obtain ⟨_, _, _, _, _, hz, _⟩ := hlp 0 h0
          obtain ⟨q1, q2⟩ := cell_spot hz
          rw [show (a.add (0 * 5)).add 0 = a from by simp [Addr.add]] at q1 q2
          refine ⟨a.block, a.off, by rw [← q1], q2, KidsIn.of_at fun i hi => ?_⟩
          obtain ⟨w0, w1, w2, w3, w4, c0, c1, c2, c3, c4, hd⟩ := hlp i hi
          rw [q1, add_none, add_none] at c0 c1 c2 c3 c4
          rw [Nat.zero_add]
          exact ⟨w0, w1, w2, w3, w4, c0, c1, c2, c3, c4, hd⟩
theorem open_doc {v : Value} {d : DataW H} {p : List MemPlace} (h : DataW.Trod enc Try.prog W base sp held 25 v d p) (hv : ∃ cs, v = .agg cs) :
    ∃ (d : D) (v0 v1 v2 v3 v4 : Value), v = .agg #[v0, v1, v2, v3, v4] ∧ DocIn W W.heap.size d v0 v1 v2 v3 v4 := by
  obtain ⟨fuel, hx⟩ := h
  obtain ⟨cs, rfl⟩ := hv
  obtain ⟨d, v0, v1, v2, v3, v4, e, hd⟩ := open_docs fuel fuel (Nat.le_refl _) _ _ hx
  refine ⟨d, v0, v1, v2, v3, v4, ?_, hd⟩
  have : cs.toList = [v0, v1, v2, v3, v4] := e
  obtain ⟨l⟩ := cs
  simp only at this
  rw [this]
end
end Go.Proofs.Ytdgnengfcabgjaa
