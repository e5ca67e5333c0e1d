/-
  The order of documents, as pure functions.
-/
import Derived.Test.YtnjmknofojjlmaaDoorDocs
import Derived.Lib.Bytealg
namespace Go.Proofs.YtnjmknofojjlmaaDoor
open Go.RowKit

def icmp (a b : Int) : Int := if a < b then -1 else if b < a then 1 else 0
def scmp (a b : ByteArray) : Int := Lib.compareBytes a.data.toList b.data.toList
def kcmp : List ByteArray → List ByteArray → Int
  | [], [] => 0
  | [], _ :: _ => -1
  | _ :: _, [] => 1
  | a :: x, b :: y => if scmp a b = 0 then kcmp x y else scmp a b
def orI (a b : Int) : Int := if a = 0 then b else a

theorem compareBytes_cases (a b : List UInt8) : Lib.compareBytes a b = -1 ∨ Lib.compareBytes a b = 0 ∨ Lib.compareBytes a b = 1 := by
  induction a generalizing b with
  | nil => cases b <;> simp [Lib.compareBytes]
  | cons x a ih =>
    cases b with
    | nil => simp [Lib.compareBytes]
    | cons y b =>
      simp only [Lib.compareBytes]
      split
      · simp
      · split
        · simp
        · exact ih b
theorem less_compare (a b : List UInt8) : Op.bytesLess a b = decide (Lib.compareBytes a b = -1) := by
  induction a generalizing b with
  | nil => cases b <;> simp [Lib.compareBytes, Op.bytesLess]
  | cons x a ih =>
    cases b with
    | nil => simp [Lib.compareBytes, Op.bytesLess]
    | cons y b =>
      simp only [Lib.compareBytes, Op.bytesLess]
      by_cases h : x < y
      · simp [h]
      · by_cases h2 : y < x
        · have : ¬ x = y := by rintro rfl; exact h h2
          simp [h, h2, this]
        · have : x = y := by
            rw [UInt8.lt_iff_toNat_lt] at h h2
            exact UInt8.toNat_inj.1 (by omega)
          subst this
          simp [h, ih b]
theorem eq_compare (a b : List UInt8) : Lib.compareBytes a b = 0 ↔ a = b := by
  induction a generalizing b with
  | nil => cases b <;> simp [Lib.compareBytes]
  | cons x a ih =>
    cases b with
    | nil => simp [Lib.compareBytes]
    | cons y b =>
      simp only [Lib.compareBytes]
      by_cases h : x < y
      · have : ¬ x = y := by rintro rfl; rw [UInt8.lt_iff_toNat_lt] at h; omega
        simp [h, this]
      · by_cases h2 : y < x
        · have : ¬ x = y := by rintro rfl; exact h h2
          simp [h, h2, this]
        · have : x = y := by
            rw [UInt8.lt_iff_toNat_lt] at h h2
            exact UInt8.toNat_inj.1 (by omega)
          subst this
          simp [h, ih b]
theorem compare_flip (a b : List UInt8) : Lib.compareBytes b a = - Lib.compareBytes a b := by
  induction a generalizing b with
  | nil => cases b <;> simp [Lib.compareBytes]
  | cons x a ih =>
    cases b with
    | nil => simp [Lib.compareBytes]
    | cons y b =>
      simp only [Lib.compareBytes]
      by_cases h : x < y
      · have : ¬ y < x := by rw [UInt8.lt_iff_toNat_lt] at *; omega
        simp [h, this]
      · by_cases h2 : y < x
        · simp [h, h2]
        · simp [h, h2, ih b]
theorem less_trans : ∀ (a b c : List UInt8), Op.bytesLess a b = true → Op.bytesLess b c = true → Op.bytesLess a c = true
  | _, [], _, h, _ => by simp [Op.bytesLess] at h
  | _, _ :: _, [], _, h => by simp [Op.bytesLess] at h
  | [], _ :: _, _ :: _, _, _ => by simp [Op.bytesLess]
  | x :: a, y :: b, z :: c, h, h' => by
    simp only [Op.bytesLess, Bool.or_eq_true, decide_eq_true_eq, Bool.and_eq_true, beq_iff_eq, UInt8.lt_iff_toNat_lt] at h h' ⊢
    rcases h with h | ⟨rfl, h⟩
    · rcases h' with h' | ⟨rfl, _⟩
      · exact .inl (by omega)
      · exact .inl h
    · rcases h' with h' | ⟨rfl, h'⟩
      · exact .inl h'
      · exact .inr ⟨rfl, less_trans a b c h h'⟩

/-- An order, told as -1, 0, 1. -/
structure Ordered {α : Type} (c : α → α → Int) (P : α → Prop) : Prop where
  cases : ∀ a b, P a → P b → c a b = -1 ∨ c a b = 0 ∨ c a b = 1
  flip : ∀ a b, P a → P b → c b a = - c a b
  eq : ∀ a b, P a → P b → (c a b = 0 ↔ a = b)
  trans : ∀ a b d, P a → P b → P d → c a b = -1 → c b d = -1 → c a d = -1

theorem icmp_ordered : Ordered icmp (fun _ => True) where
  cases a b _ _ := by unfold icmp; split <;> (try split) <;> simp
  flip a b _ _ := by unfold icmp; split <;> split <;> (try split) <;> omega
  eq a b _ _ := by
    unfold icmp
    by_cases h1 : a < b
    · simp [h1]; omega
    · by_cases h2 : b < a
      · simp [h1, h2]; omega
      · simp [h1, h2]; omega
  trans a b d _ _ _ h h' := by
    unfold icmp at *
    by_cases h1 : a < b
    · by_cases h2 : b < d
      · rw [if_pos (by omega)]
      · rw [if_neg h2] at h'; split at h' <;> simp at h'
    · rw [if_neg h1] at h; split at h <;> simp at h

theorem data_inj {a b : ByteArray} (h : a.data.toList = b.data.toList) : a = b := by
  obtain ⟨⟨l⟩⟩ := a; obtain ⟨⟨m⟩⟩ := b; simpa using h
theorem scmp_ordered : Ordered scmp (fun _ => True) where
  cases a b _ _ := compareBytes_cases _ _
  flip a b _ _ := compare_flip _ _
  eq a b _ _ := by unfold scmp; rw [eq_compare]; exact ⟨data_inj, fun h => by rw [h]⟩
  trans a b d _ _ _ h h' := by
    unfold scmp at *
    have := less_trans _ _ _ (by rw [less_compare]; simpa using h) (by rw [less_compare]; simpa using h')
    rw [less_compare] at this
    simpa using this

theorem Ordered.refl {α : Type} {c : α → α → Int} {P : α → Prop} (o : Ordered c P) (a : α) (h : P a) : c a a = 0 := (o.eq a a h h).2 rfl
theorem Ordered.mono {α : Type} {c : α → α → Int} {P Q : α → Prop} (o : Ordered c P) (h : ∀ a, Q a → P a) : Ordered c Q :=
  ⟨fun a b ha hb => o.cases a b (h a ha) (h b hb), fun a b ha hb => o.flip a b (h a ha) (h b hb), fun a b ha hb => o.eq a b (h a ha) (h b hb), fun a b d ha hb hd => o.trans a b d (h a ha) (h b hb) (h d hd)⟩
theorem Ordered.comap {α β : Type} {c : β → β → Int} {P : β → Prop} (o : Ordered c P) (f : α → β) (hf : ∀ a b, f a = f b → a = b) : Ordered (fun a b => c (f a) (f b)) (fun a => P (f a)) :=
  ⟨fun a b ha hb => o.cases _ _ ha hb, fun a b ha hb => o.flip _ _ ha hb, fun a b ha hb => by rw [o.eq _ _ ha hb]; exact ⟨hf a b, fun h => by rw [h]⟩, fun a b d ha hb hd => o.trans _ _ _ ha hb hd⟩
theorem Ordered.prod {α β : Type} {c : α → α → Int} {e : β → β → Int} {P : α → Prop} {Q : β → Prop} (o : Ordered c P) (r : Ordered e Q) :
    Ordered (fun x y : α × β => orI (c x.1 y.1) (e x.2 y.2)) (fun x => P x.1 ∧ Q x.2) where
  cases a b ha hb := by
    unfold orI; rcases o.cases _ _ ha.1 hb.1 with h | h | h
    · simp [h]
    · simp [h, r.cases _ _ ha.2 hb.2]
    · simp [h]
  flip a b ha hb := by
    unfold orI; rw [o.flip _ _ ha.1 hb.1]
    by_cases h : c a.1 b.1 = 0
    · simp [h, r.flip _ _ ha.2 hb.2]
    · have : ¬ - c a.1 b.1 = 0 := by omega
      simp [h, this]
  eq a b ha hb := by
    unfold orI
    by_cases h : c a.1 b.1 = 0
    · simp only [h, if_true]
      rw [o.eq _ _ ha.1 hb.1] at h
      rw [r.eq _ _ ha.2 hb.2, Prod.ext_iff]; simp [h]
    · rw [if_neg h]
      constructor
      · intro hh; exact absurd hh h
      · rintro rfl; exact absurd (o.refl _ ha.1) h
  trans a b d ha hb hd h h' := by
    unfold orI at *
    by_cases h1 : c a.1 b.1 = 0
    · rw [if_pos h1] at h
      rw [o.eq _ _ ha.1 hb.1] at h1
      rw [h1]
      by_cases h2 : c b.1 d.1 = 0
      · rw [if_pos h2] at h' ⊢; exact r.trans _ _ _ ha.2 hb.2 hd.2 h h'
      · rw [if_neg h2] at h' ⊢; exact h'
    · rw [if_neg h1] at h
      by_cases h2 : c b.1 d.1 = 0
      · rw [o.eq _ _ hb.1 hd.1] at h2
        rw [← h2, if_neg h1]; exact h
      · rw [if_neg h2] at h'
        have := o.trans _ _ _ ha.1 hb.1 hd.1 h h'
        rw [this]; simp
/-- Rows, one by one; a beginning is less. -/
def lcmp {α : Type} (c : α → α → Int) : List α → List α → Int
  | [], [] => 0
  | [], _ :: _ => -1
  | _ :: _, [] => 1
  | a :: x, b :: y => orI (c a b) (lcmp c x y)
theorem lcmp_ordered {α : Type} {c : α → α → Int} {P : α → Prop} (o : Ordered c P) : Ordered (lcmp c) (fun l => ∀ x ∈ l, P x) where
  cases a := by
    induction a with
    | nil => intro b _ _; cases b <;> simp [lcmp]
    | cons x a ih =>
      intro b ha hb
      cases b with
      | nil => simp [lcmp]
      | cons y b =>
        simp only [lcmp, orI]
        have h1 := o.cases x y (ha x (by simp)) (hb y (by simp))
        have h2 := ih b (fun z hz => ha z (by simp [hz])) (fun z hz => hb z (by simp [hz]))
        split <;> assumption
  flip a := by
    induction a with
    | nil => intro b _ _; cases b <;> simp [lcmp]
    | cons x a ih =>
      intro b ha hb
      cases b with
      | nil => simp [lcmp]
      | cons y b =>
        simp only [lcmp, orI]
        rw [o.flip x y (ha x (by simp)) (hb y (by simp)), ih b (fun z hz => ha z (by simp [hz])) (fun z hz => hb z (by simp [hz]))]
        by_cases h : c x y = 0
        · simp [h]
        · have : ¬ - c x y = 0 := by omega
          simp [h, this]
  eq a := by
    induction a with
    | nil => intro b _ _; cases b <;> simp [lcmp]
    | cons x a ih =>
      intro b ha hb
      cases b with
      | nil => simp [lcmp]
      | cons y b =>
        simp only [lcmp, orI]
        have h1 := o.eq x y (ha x (by simp)) (hb y (by simp))
        have h2 := ih b (fun z hz => ha z (by simp [hz])) (fun z hz => hb z (by simp [hz]))
        by_cases h : c x y = 0
        · rw [if_pos h, h2]; simp [h1.1 h]
        · rw [if_neg h]
          constructor
          · intro hh; exact absurd hh h
          · intro hh; injection hh with e1 e2; exact absurd (h1.2 e1) h
  trans a := by
    induction a with
    | nil => intro b d _ _ _ h h'; cases b <;> cases d <;> simp [lcmp] at *
    | cons x a ih =>
      intro b d ha hb hd h h'
      cases b with
      | nil => simp [lcmp] at h
      | cons y b =>
        cases d with
        | nil => simp [lcmp] at h'
        | cons z d =>
          have hx := ha x (by simp)
          have hy := hb y (by simp)
          have hz := hd z (by simp)
          have i := ih b d (fun t ht => ha t (by simp [ht])) (fun t ht => hb t (by simp [ht])) (fun t ht => hd t (by simp [ht]))
          simp only [lcmp, orI] at h h' ⊢
          by_cases h1 : c x y = 0
          · rw [if_pos h1] at h
            rw [o.eq _ _ hx hy] at h1
            subst h1
            by_cases h2 : c x z = 0
            · rw [if_pos h2] at h' ⊢; exact i h h'
            · rw [if_neg h2] at h' ⊢; exact h'
          · rw [if_neg h1] at h
            by_cases h2 : c y z = 0
            · rw [o.eq _ _ hy hz] at h2
              subst h2
              rw [if_neg h1]; exact h
            · rw [if_neg h2] at h'
              have := o.trans _ _ _ hx hy hz h h'
              rw [this]; simp

theorem kcmp_eq : ∀ a b, kcmp a b = lcmp scmp a b
  | [], [] => rfl
  | [], _ :: _ => rfl
  | _ :: _, [] => rfl
  | a :: x, b :: y => by simp only [kcmp, lcmp, orI, kcmp_eq x y]

namespace D
/-- All but the kids. -/
def root (a b : D) : Int := orI (icmp a.kind b.kind) (orI (icmp a.num b.num) (orI (scmp a.str b.str) (orI (icmp a.keys.length b.keys.length) (orI (kcmp a.keys b.keys) (icmp a.kids.length b.kids.length)))))
mutual
def cmp : D → D → Int
  | .mk k n s ks l, .mk k' n' s' ks' l' => orI (root (.mk k n s ks l) (.mk k' n' s' ks' l')) (cmps l l')
def cmps : List D → List D → Int
  | [], [] => 0
  | [], _ :: _ => -1
  | _ :: _, [] => 1
  | a :: x, b :: y => orI (cmp a b) (cmps x y)
end
theorem cmps_eq : ∀ a b, cmps a b = lcmp cmp a b
  | [], [] => by simp [cmps, lcmp]
  | [], _ :: _ => by simp [cmps, lcmp]
  | _ :: _, [] => by simp [cmps, lcmp]
  | a :: x, b :: y => by simp only [cmps, lcmp, cmps_eq x y]
theorem orI_assoc (a b c : Int) : orI (orI a b) c = orI a (orI b c) := by
  unfold orI; by_cases h : a = 0
  · simp [h]
  · simp [h]
/-- All of a document, as a row of things that are ordered. -/
def key (d : D) : Int × Int × ByteArray × Int × List ByteArray × Int × List D := (d.kind, d.num, d.str, d.keys.length, d.keys, d.kids.length, d.kids)
theorem key_inj (a b : D) (h : key a = key b) : a = b := by
  obtain ⟨_, _, _, _, _⟩ := a; obtain ⟨_, _, _, _, _⟩ := b
  simp [key, kind, num, str, keys, kids] at h
  simp [h]
theorem cmp_key (a b : D) : cmp a b = orI (icmp (key a).1 (key b).1) (orI (icmp (key a).2.1 (key b).2.1) (orI (scmp (key a).2.2.1 (key b).2.2.1) (orI (icmp (key a).2.2.2.1 (key b).2.2.2.1) (orI (lcmp scmp (key a).2.2.2.2.1 (key b).2.2.2.2.1)
    (orI (icmp (key a).2.2.2.2.2.1 (key b).2.2.2.2.2.1) (lcmp cmp (key a).2.2.2.2.2.2 (key b).2.2.2.2.2.2)))))) := by
  obtain ⟨_, _, _, _, _⟩ := a; obtain ⟨_, _, _, _, _⟩ := b
  simp only [cmp, root, key, kind, num, str, keys, kids, kcmp_eq, cmps_eq, orI_assoc]
theorem depth_le_depths : ∀ (l : List D) (d : D), d ∈ l → d.depth ≤ depths l
  | [], _, h => by simp at h
  | x :: r, d, h => by
    simp only [depths]
    rcases List.mem_cons.1 h with rfl | h
    · omega
    · have := depth_le_depths r d h; omega
theorem cmp_ordered_at (n : Nat) : Ordered cmp (fun d => d.depth ≤ n) := by
  induction n with
  | zero =>
    have no : ∀ d : D, ¬ d.depth ≤ 0 := fun d => by obtain ⟨_, _, _, _, _⟩ := d; simp [depth]
    exact ⟨fun a _ h => absurd h (no a), fun a _ h => absurd h (no a), fun a _ h => absurd h (no a), fun a _ _ h => absurd h (no a)⟩
  | succ n ih =>
    have h := (icmp_ordered.prod (icmp_ordered.prod (scmp_ordered.prod (icmp_ordered.prod ((lcmp_ordered scmp_ordered).prod (icmp_ordered.prod (lcmp_ordered ih))))))).comap key key_inj
    have e : cmp = fun a b => _ := funext fun a => funext fun b => cmp_key a b
    rw [e]
    refine h.mono fun d hd => ⟨trivial, trivial, trivial, trivial, fun _ _ => trivial, trivial, fun x hx => ?_⟩
    obtain ⟨_, _, _, _, l⟩ := d
    simp only [depth] at hd
    have := depth_le_depths l x hx
    show x.depth ≤ n
    omega
theorem cmp_ordered : Ordered cmp (fun _ => True) where
  cases a b _ _ := (cmp_ordered_at (max a.depth b.depth)).cases a b (by show _ ≤ _; omega) (by show _ ≤ _; omega)
  flip a b _ _ := (cmp_ordered_at (max a.depth b.depth)).flip a b (by show _ ≤ _; omega) (by show _ ≤ _; omega)
  eq a b _ _ := (cmp_ordered_at (max a.depth b.depth)).eq a b (by show _ ≤ _; omega) (by show _ ≤ _; omega)
  trans a b d _ _ _ := (cmp_ordered_at (max (max a.depth b.depth) d.depth)).trans a b d (by show _ ≤ _; omega) (by show _ ≤ _; omega) (by show _ ≤ _; omega)
end D
end Go.Proofs.YtnjmknofojjlmaaDoor
