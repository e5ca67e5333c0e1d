/-
  Types that lie in given blocks: as TypeIn, over a set of blocks. And rows of cells that hold them.
-/
import Derived.Test.YtnjmknofojjlmaaDoorTRight
namespace Go.Proofs.YtnjmknofojjlmaaDoor
open Go.RowKit

/-- A slice of strings in blocks of the set: nil let in. -/
def StrsS (w : World) (S : Nat → Prop) (v : Value) (xs : List ByteArray) : Prop :=
  ∃ (A : Option Addr) (c : Nat), v = .slice A xs.length c ∧ xs.length ≤ c ∧
    (0 < xs.length → ∃ b off, A = some ⟨b, off, none⟩ ∧ S b ∧ ∀ (i : Nat) (h : i < xs.length), w.cell? ⟨b, off + i, none⟩ = some (.string xs[i]))
mutual
/-- The six cells of a type. -/
def TypeS (w : World) (S : Nat → Prop) : T → Value → Value → Value → Value → Value → Value → Prop
  | .mk kind lo hi names fields of, v0, v1, v2, v3, v4, v5 =>
    v0 = .int .i64 kind ∧ v1 = .int .i64 lo ∧ v2 = .int .i64 hi ∧ StrsS w S v3 names ∧
      (∃ (A : Option Addr) (c : Nat), v4 = .slice A fields.length c ∧ fields.length ≤ c ∧ (0 < fields.length → ∃ b off, A = some ⟨b, off, none⟩ ∧ S b ∧ FieldsS w S b off 0 fields)) ∧
      (∃ (A : Option Addr) (c : Nat), v5 = .slice A of.length c ∧ of.length ≤ c ∧ (0 < of.length → ∃ b off, A = some ⟨b, off, none⟩ ∧ S b ∧ TypesS w S b off 0 of))
def FieldsS (w : World) (S : Nat → Prop) (b off : Nat) : Nat → List F → Prop
  | _, [] => True
  | i, f :: r => FieldS w S b (off + i * 8) f ∧ FieldsS w S b off (i + 1) r
def FieldS (w : World) (S : Nat → Prop) (b o : Nat) : F → Prop
  | .mk name opt type => w.cell? ⟨b, o, none⟩ = some (.string name) ∧ w.cell? ⟨b, o + 1, none⟩ = some (.bool opt) ∧
      ∃ v0 v1 v2 v3 v4 v5 : Value, w.cell? ⟨b, o + 2, none⟩ = some v0 ∧ w.cell? ⟨b, o + 2 + 1, none⟩ = some v1 ∧ w.cell? ⟨b, o + 2 + 2, none⟩ = some v2 ∧ w.cell? ⟨b, o + 2 + 3, none⟩ = some v3 ∧ w.cell? ⟨b, o + 2 + 4, none⟩ = some v4 ∧ w.cell? ⟨b, o + 2 + 5, none⟩ = some v5 ∧ TypeS w S type v0 v1 v2 v3 v4 v5
def TypesS (w : World) (S : Nat → Prop) (b off : Nat) : Nat → List T → Prop
  | _, [] => True
  | i, d :: r => (∃ v0 v1 v2 v3 v4 v5 : Value, w.cell? ⟨b, off + i * 6, none⟩ = some v0 ∧ w.cell? ⟨b, off + i * 6 + 1, none⟩ = some v1 ∧ w.cell? ⟨b, off + i * 6 + 2, none⟩ = some v2 ∧ w.cell? ⟨b, off + i * 6 + 3, none⟩ = some v3 ∧ w.cell? ⟨b, off + i * 6 + 4, none⟩ = some v4 ∧ w.cell? ⟨b, off + i * 6 + 5, none⟩ = some v5 ∧ TypeS w S d v0 v1 v2 v3 v4 v5) ∧ TypesS w S b off (i + 1) r
end
theorem StrsS.keep {w w' : World} {S S' : Nat → Prop} (hB : ∀ k, S k → S' k) (h : ∀ p : Addr, S p.block → w'.cell? p = w.cell? p) {v : Value} {xs : List ByteArray} (hs : StrsS w S v xs) : StrsS w' S' v xs := by
  obtain ⟨A, c, e, l, h1⟩ := hs
  refine ⟨A, c, e, l, fun hl => ?_⟩
  obtain ⟨b, off, e', hb, hc⟩ := h1 hl
  exact ⟨b, off, e', hB _ hb, fun i hi => (h ⟨b, off + i, none⟩ hb).trans (hc i hi)⟩
mutual
theorem TypeS.keep {w w' : World} {S S' : Nat → Prop} (hB : ∀ k, S k → S' k) (h : ∀ p : Addr, S p.block → w'.cell? p = w.cell? p) : ∀ {d : T} {v0 v1 v2 v3 v4 v5 : Value}, TypeS w S d v0 v1 v2 v3 v4 v5 → TypeS w' S' d v0 v1 v2 v3 v4 v5
  | .mk _ _ _ _ fields of, _, _, _, _, _, _, hd => by
    simp only [TypeS] at hd ⊢
    obtain ⟨h0, h1, h2, h3, ⟨A', c', e', k1, k2⟩, ⟨A'', c'', e'', k3, k4⟩⟩ := hd
    refine ⟨h0, h1, h2, h3.keep hB h, ⟨A', c', e', k1, fun hl => ?_⟩, ⟨A'', c'', e'', k3, fun hl => ?_⟩⟩
    · obtain ⟨b, off, ea, hb, hk⟩ := k2 hl
      exact ⟨b, off, ea, hB _ hb, FieldsS.keep hB h hb hk⟩
    · obtain ⟨b, off, ea, hb, hk⟩ := k4 hl
      exact ⟨b, off, ea, hB _ hb, TypesS.keep hB h hb hk⟩
theorem FieldsS.keep {w w' : World} {S S' : Nat → Prop} (hB : ∀ k, S k → S' k) (h : ∀ p : Addr, S p.block → w'.cell? p = w.cell? p) {b off : Nat} (hb : S b) : ∀ {l : List F} {i : Nat}, FieldsS w S b off i l → FieldsS w' S' b off i l
  | [], _, _ => by simp [FieldsS]
  | f :: r, i, hk => by
    simp only [FieldsS] at hk ⊢
    exact ⟨FieldS.keep hB h hb hk.1, FieldsS.keep hB h hb hk.2⟩
theorem FieldS.keep {w w' : World} {S S' : Nat → Prop} (hB : ∀ k, S k → S' k) (h : ∀ p : Addr, S p.block → w'.cell? p = w.cell? p) {b : Nat} (hb : S b) : ∀ {f : F} {o : Nat}, FieldS w S b o f → FieldS w' S' b o f
  | .mk _ _ _, o, hk => by
    simp only [FieldS] at hk ⊢
    obtain ⟨a1, a2, v0, v1, v2, v3, v4, v5, c0, c1, c2, c3, c4, c5, hd⟩ := hk
    have hh : ∀ n, w'.cell? ⟨b, n, none⟩ = w.cell? ⟨b, n, none⟩ := fun n => h ⟨b, n, none⟩ hb
    exact ⟨(hh _).trans a1, (hh _).trans a2, v0, v1, v2, v3, v4, v5, (hh _).trans c0, (hh _).trans c1, (hh _).trans c2, (hh _).trans c3, (hh _).trans c4, (hh _).trans c5, TypeS.keep hB h hd⟩
theorem TypesS.keep {w w' : World} {S S' : Nat → Prop} (hB : ∀ k, S k → S' k) (h : ∀ p : Addr, S p.block → w'.cell? p = w.cell? p) {b off : Nat} (hb : S b) : ∀ {l : List T} {i : Nat}, TypesS w S b off i l → TypesS w' S' b off i l
  | [], _, _ => by simp [TypesS]
  | d :: r, i, hk => by
    simp only [TypesS] at hk ⊢
    obtain ⟨⟨v0, v1, v2, v3, v4, v5, c0, c1, c2, c3, c4, c5, hd⟩, hr⟩ := hk
    have hh : ∀ n, w'.cell? ⟨b, n, none⟩ = w.cell? ⟨b, n, none⟩ := fun n => h ⟨b, n, none⟩ hb
    exact ⟨⟨v0, v1, v2, v3, v4, v5, (hh _).trans c0, (hh _).trans c1, (hh _).trans c2, (hh _).trans c3, (hh _).trans c4, (hh _).trans c5, TypeS.keep hB h hd⟩, TypesS.keep hB h hb hr⟩
end
theorem TypeS.forms {w : World} {S : Nat → Prop} {d : T} {v0 v1 v2 v3 v4 v5 : Value} (h : TypeS w S d v0 v1 v2 v3 v4 v5) :
    ∃ A3 c3 A4 c4 A5 c5, v0 = .int .i64 d.kind ∧ v1 = .int .i64 d.lo ∧ v2 = .int .i64 d.hi ∧ v3 = .slice A3 d.names.length c3 ∧ v4 = .slice A4 d.fields.length c4 ∧ v5 = .slice A5 d.of.length c5 := by
  obtain ⟨_, _, _, _, _, _⟩ := d
  simp only [TypeS] at h
  obtain ⟨h0, h1, h2, ⟨A3, c3, h3, _⟩, ⟨A4, c4, h4, _⟩, ⟨A5, c5, h5, _⟩⟩ := h
  exact ⟨A3, c3, A4, c4, A5, c5, h0, h1, h2, h3, h4, h5⟩
theorem TypeS.names_ {w : World} {S : Nat → Prop} {d : T} {v0 v1 v2 v3 v4 v5 : Value} (h : TypeS w S d v0 v1 v2 v3 v4 v5) : StrsS w S v3 d.names := by
  obtain ⟨_, _, _, _, _, _⟩ := d
  simp only [TypeS] at h
  exact h.2.2.2.1
mutual
theorem TypeS.toIn {w : World} {S : Nat → Prop} {B : Nat} (hS : ∀ k, S k → k < B) : ∀ {t : T} {v0 v1 v2 v3 v4 v5 : Value}, TypeS w S t v0 v1 v2 v3 v4 v5 → TypeIn w B t v0 v1 v2 v3 v4 v5
  | .mk _ _ _ _ fields of, _, _, _, _, _, _, hd => by
    simp only [TypeS] at hd
    simp only [TypeIn]
    obtain ⟨h0, h1, h2, ⟨A, c, e, l, h3⟩, ⟨A', c', e', k1, k2⟩, ⟨A'', c'', e'', k3, k4⟩⟩ := hd
    refine ⟨h0, h1, h2, ⟨A, c, e, l, fun hl => ?_⟩, ⟨A', c', e', k1, fun hl => ?_⟩, ⟨A'', c'', e'', k3, fun hl => ?_⟩⟩
    · obtain ⟨b, off, ea, hb, hk⟩ := h3 hl
      exact ⟨b, off, ea, hS _ hb, hk⟩
    · obtain ⟨b, off, ea, hb, hk⟩ := k2 hl
      exact ⟨b, off, ea, hS _ hb, FieldsS.toIn hS hk⟩
    · obtain ⟨b, off, ea, hb, hk⟩ := k4 hl
      exact ⟨b, off, ea, hS _ hb, TypesS.toIn hS hk⟩
theorem FieldsS.toIn {w : World} {S : Nat → Prop} {B : Nat} (hS : ∀ k, S k → k < B) {b off : Nat} : ∀ {l : List F} {i : Nat}, FieldsS w S b off i l → FieldsIn w B b off i l
  | [], _, _ => by simp [FieldsIn]
  | f :: r, i, hk => by
    simp only [FieldsS] at hk
    simp only [FieldsIn]
    exact ⟨FieldS.toIn hS hk.1, FieldsS.toIn hS hk.2⟩
theorem FieldS.toIn {w : World} {S : Nat → Prop} {B : Nat} (hS : ∀ k, S k → k < B) {b : Nat} : ∀ {f : F} {o : Nat}, FieldS w S b o f → FieldIn w B b o f
  | .mk _ _ _, o, hk => by
    simp only [FieldS] at hk
    simp only [FieldIn]
    obtain ⟨a1, a2, v0, v1, v2, v3, v4, v5, c0, c1, c2, c3, c4, c5, hd⟩ := hk
    exact ⟨a1, a2, v0, v1, v2, v3, v4, v5, c0, c1, c2, c3, c4, c5, TypeS.toIn hS hd⟩
theorem TypesS.toIn {w : World} {S : Nat → Prop} {B : Nat} (hS : ∀ k, S k → k < B) {b off : Nat} : ∀ {l : List T} {i : Nat}, TypesS w S b off i l → TypesIn w B b off i l
  | [], _, _ => by simp [TypesIn]
  | d :: r, i, hk => by
    simp only [TypesS] at hk
    simp only [TypesIn]
    obtain ⟨⟨v0, v1, v2, v3, v4, v5, c0, c1, c2, c3, c4, c5, hd⟩, hr⟩ := hk
    exact ⟨⟨v0, v1, v2, v3, v4, v5, c0, c1, c2, c3, c4, c5, TypeS.toIn hS hd⟩, TypesS.toIn hS hr⟩
end
mutual
theorem TypeIn.toS {w : World} {B : Nat} : ∀ {t : T} {v0 v1 v2 v3 v4 v5 : Value}, TypeIn w B t v0 v1 v2 v3 v4 v5 → TypeS w (fun k => k < B) t v0 v1 v2 v3 v4 v5
  | .mk _ _ _ _ fields of, _, _, _, _, _, _, hd => by
    simp only [TypeIn] at hd
    simp only [TypeS]
    obtain ⟨h0, h1, h2, ⟨A, c, e, l, h3⟩, ⟨A', c', e', k1, k2⟩, ⟨A'', c'', e'', k3, k4⟩⟩ := hd
    refine ⟨h0, h1, h2, ⟨A, c, e, l, h3⟩, ⟨A', c', e', k1, fun hl => ?_⟩, ⟨A'', c'', e'', k3, fun hl => ?_⟩⟩
    · obtain ⟨b, off, ea, hb, hk⟩ := k2 hl
      exact ⟨b, off, ea, hb, FieldsIn.toS hk⟩
    · obtain ⟨b, off, ea, hb, hk⟩ := k4 hl
      exact ⟨b, off, ea, hb, TypesIn.toS hk⟩
theorem FieldsIn.toS {w : World} {B : Nat} {b off : Nat} : ∀ {l : List F} {i : Nat}, FieldsIn w B b off i l → FieldsS w (fun k => k < B) b off i l
  | [], _, _ => by simp [FieldsS]
  | f :: r, i, hk => by
    simp only [FieldsIn] at hk
    simp only [FieldsS]
    exact ⟨FieldIn.toS hk.1, FieldsIn.toS hk.2⟩
theorem FieldIn.toS {w : World} {B : Nat} {b : Nat} : ∀ {f : F} {o : Nat}, FieldIn w B b o f → FieldS w (fun k => k < B) b o f
  | .mk _ _ _, o, hk => by
    simp only [FieldIn] at hk
    simp only [FieldS]
    obtain ⟨a1, a2, v0, v1, v2, v3, v4, v5, c0, c1, c2, c3, c4, c5, hd⟩ := hk
    exact ⟨a1, a2, v0, v1, v2, v3, v4, v5, c0, c1, c2, c3, c4, c5, TypeIn.toS hd⟩
theorem TypesIn.toS {w : World} {B : Nat} {b off : Nat} : ∀ {l : List T} {i : Nat}, TypesIn w B b off i l → TypesS w (fun k => k < B) b off i l
  | [], _, _ => by simp [TypesS]
  | d :: r, i, hk => by
    simp only [TypesIn] at hk
    simp only [TypesS]
    obtain ⟨⟨v0, v1, v2, v3, v4, v5, c0, c1, c2, c3, c4, c5, hd⟩, hr⟩ := hk
    exact ⟨⟨v0, v1, v2, v3, v4, v5, c0, c1, c2, c3, c4, c5, TypeIn.toS hd⟩, TypesIn.toS hr⟩
end
/-- The cells of a row of fields. -/
def RawFs (w : World) (S : Nat → Prop) : List F → List Value → Prop
  | [], cs => cs = []
  | f :: r, cs => ∃ (v0 v1 v2 v3 v4 v5 : Value) (c : List Value), cs = .string f.name :: .bool f.opt :: v0 :: v1 :: v2 :: v3 :: v4 :: v5 :: c ∧ TypeS w S f.type v0 v1 v2 v3 v4 v5 ∧ RawFs w S r c
/-- .. of types. -/
def RawTs (w : World) (S : Nat → Prop) : List T → List Value → Prop
  | [], cs => cs = []
  | t :: r, cs => ∃ (v0 v1 v2 v3 v4 v5 : Value) (c : List Value), cs = v0 :: v1 :: v2 :: v3 :: v4 :: v5 :: c ∧ TypeS w S t v0 v1 v2 v3 v4 v5 ∧ RawTs w S r c
theorem RawFs.keep {w w' : World} {S S' : Nat → Prop} (hB : ∀ k, S k → S' k) (h : ∀ p : Addr, S p.block → w'.cell? p = w.cell? p) : ∀ {l : List F} {cs : List Value}, RawFs w S l cs → RawFs w' S' l cs
  | [], _, hr => hr
  | f :: r, _, hr => by
    simp only [RawFs] at hr ⊢
    obtain ⟨v0, v1, v2, v3, v4, v5, c, rfl, h1, h2⟩ := hr
    exact ⟨v0, v1, v2, v3, v4, v5, c, rfl, h1.keep hB h, RawFs.keep hB h h2⟩
theorem RawTs.keep {w w' : World} {S S' : Nat → Prop} (hB : ∀ k, S k → S' k) (h : ∀ p : Addr, S p.block → w'.cell? p = w.cell? p) : ∀ {l : List T} {cs : List Value}, RawTs w S l cs → RawTs w' S' l cs
  | [], _, hr => hr
  | f :: r, _, hr => by
    simp only [RawTs] at hr ⊢
    obtain ⟨v0, v1, v2, v3, v4, v5, c, rfl, h1, h2⟩ := hr
    exact ⟨v0, v1, v2, v3, v4, v5, c, rfl, h1.keep hB h, RawTs.keep hB h h2⟩
theorem RawFs.len {w : World} {S : Nat → Prop} : ∀ {l : List F} {cs : List Value}, RawFs w S l cs → cs.length = l.length * 8
  | [], _, hr => by simp only [RawFs] at hr; simp [hr]
  | f :: r, _, hr => by
    simp only [RawFs] at hr
    obtain ⟨v0, v1, v2, v3, v4, v5, c, rfl, h1, h2⟩ := hr
    have := RawFs.len h2
    simp; omega
theorem RawTs.len {w : World} {S : Nat → Prop} : ∀ {l : List T} {cs : List Value}, RawTs w S l cs → cs.length = l.length * 6
  | [], _, hr => by simp only [RawTs] at hr; simp [hr]
  | f :: r, _, hr => by
    simp only [RawTs] at hr
    obtain ⟨v0, v1, v2, v3, v4, v5, c, rfl, h1, h2⟩ := hr
    have := RawTs.len h2
    simp; omega
theorem oneCell6 {w : World} {S : Nat → Prop} {t : T} {v0 v1 v2 v3 v4 v5 : Value} (h : TypeS w S t v0 v1 v2 v3 v4 v5) : ∀ u ∈ [v0, v1, v2, v3, v4, v5], u.oneCell' = true := by
  obtain ⟨A3, c3, A4, c4, A5, c5, rfl, rfl, rfl, rfl, rfl, rfl⟩ := h.forms
  intro u hu
  simp only [List.mem_cons, List.not_mem_nil, or_false] at hu
  rcases hu with rfl | rfl | rfl | rfl | rfl | rfl <;> rfl
theorem RawFs.one {w : World} {S : Nat → Prop} : ∀ {l : List F} {cs : List Value}, RawFs w S l cs → ∀ u ∈ cs, u.oneCell' = true
  | [], _, hr => by simp only [RawFs] at hr; simp [hr]
  | f :: r, _, hr => by
    simp only [RawFs] at hr
    obtain ⟨v0, v1, v2, v3, v4, v5, c, rfl, h1, h2⟩ := hr
    have h6 := oneCell6 h1
    intro u hu
    simp only [List.mem_cons] at hu h6
    rcases hu with rfl | rfl | rfl | rfl | rfl | rfl | rfl | rfl | hu
    · rfl
    · rfl
    · exact h6 _ (by simp)
    · exact h6 _ (by simp)
    · exact h6 _ (by simp)
    · exact h6 _ (by simp)
    · exact h6 _ (by simp)
    · exact h6 _ (by simp)
    · exact RawFs.one h2 u hu
theorem RawTs.one {w : World} {S : Nat → Prop} : ∀ {l : List T} {cs : List Value}, RawTs w S l cs → ∀ u ∈ cs, u.oneCell' = true
  | [], _, hr => by simp only [RawTs] at hr; simp [hr]
  | f :: r, _, hr => by
    simp only [RawTs] at hr
    obtain ⟨v0, v1, v2, v3, v4, v5, c, rfl, h1, h2⟩ := hr
    have h6 := oneCell6 h1
    intro u hu
    simp only [List.mem_cons] at hu h6
    rcases hu with rfl | rfl | rfl | rfl | rfl | rfl | hu
    · exact h6 _ (by simp)
    · exact h6 _ (by simp)
    · exact h6 _ (by simp)
    · exact h6 _ (by simp)
    · exact h6 _ (by simp)
    · exact h6 _ (by simp)
    · exact RawTs.one h2 u hu
/-- What lies there, as a list of cells. -/
theorem RawFs.of_ {w : World} {S : Nat → Prop} {b off : Nat} : ∀ {l : List F} {i : Nat}, FieldsS w S b off i l → ∃ cs, RawFs w S l cs ∧ ∀ j u, cs[j]? = some u → w.cell? ⟨b, off + i * 8 + j, none⟩ = some u
  | [], _, _ => ⟨[], rfl, by simp⟩
  | .mk n o t :: r, i, hk => by
    simp only [FieldsS, FieldS] at hk
    obtain ⟨⟨a1, a2, v0, v1, v2, v3, v4, v5, c0, c1, c2, c3, c4, c5, hd⟩, hr⟩ := hk
    obtain ⟨cs, h1, h2⟩ := RawFs.of_ hr
    refine ⟨.string n :: .bool o :: v0 :: v1 :: v2 :: v3 :: v4 :: v5 :: cs, ⟨v0, v1, v2, v3, v4, v5, cs, rfl, hd, h1⟩, ?_⟩
    intro j u hj
    match j, hj with
    | 0, hj => simp at hj; subst hj; exact a1
    | 1, hj => simp at hj; subst hj; exact a2
    | 2, hj => simp at hj; subst hj; exact c0
    | 3, hj => simp at hj; subst hj; exact c1
    | 4, hj => simp at hj; subst hj; exact c2
    | 5, hj => simp at hj; subst hj; exact c3
    | 6, hj => simp at hj; subst hj; exact c4
    | 7, hj => simp at hj; subst hj; exact c5
    | j + 8, hj =>
      have := h2 j u (by simpa using hj)
      rw [show off + i * 8 + (j + 8) = off + (i + 1) * 8 + j from by omega]
      exact this
theorem RawTs.of_ {w : World} {S : Nat → Prop} {b off : Nat} : ∀ {l : List T} {i : Nat}, TypesS w S b off i l → ∃ cs, RawTs w S l cs ∧ ∀ j u, cs[j]? = some u → w.cell? ⟨b, off + i * 6 + j, none⟩ = some u
  | [], _, _ => ⟨[], rfl, by simp⟩
  | t :: r, i, hk => by
    simp only [TypesS] at hk
    obtain ⟨⟨v0, v1, v2, v3, v4, v5, c0, c1, c2, c3, c4, c5, hd⟩, hr⟩ := hk
    obtain ⟨cs, h1, h2⟩ := RawTs.of_ hr
    refine ⟨v0 :: v1 :: v2 :: v3 :: v4 :: v5 :: cs, ⟨v0, v1, v2, v3, v4, v5, cs, rfl, hd, h1⟩, ?_⟩
    intro j u hj
    match j, hj with
    | 0, hj => simp at hj; subst hj; exact c0
    | 1, hj => simp at hj; subst hj; exact c1
    | 2, hj => simp at hj; subst hj; exact c2
    | 3, hj => simp at hj; subst hj; exact c3
    | 4, hj => simp at hj; subst hj; exact c4
    | 5, hj => simp at hj; subst hj; exact c5
    | j + 6, hj =>
      have := h2 j u (by simpa using hj)
      rw [show off + i * 6 + (j + 6) = off + (i + 1) * 6 + j from by omega]
      exact this
/-- .. and back. -/
theorem RawFs.fields {w : World} {S : Nat → Prop} {b off : Nat} : ∀ {l : List F} {cs : List Value} {i : Nat}, RawFs w S l cs → (∀ j, j < cs.length → w.cell? ⟨b, off + i * 8 + j, none⟩ = cs[j]?) → FieldsS w S b off i l
  | [], _, _, _, _ => by simp [FieldsS]
  | .mk n o t :: r, _, i, hr, hc => by
    simp only [RawFs] at hr
    obtain ⟨v0, v1, v2, v3, v4, v5, c, rfl, h1, h2⟩ := hr
    simp only [FieldsS, FieldS]
    refine ⟨⟨hc 0 (by simp), hc 1 (by simp), v0, v1, v2, v3, v4, v5, hc 2 (by simp), hc 3 (by simp), hc 4 (by simp), hc 5 (by simp), hc 6 (by simp), hc 7 (by simp), h1⟩, RawFs.fields h2 fun j hj => ?_⟩
    have := hc (j + 8) (by simp; omega)
    rw [show off + (i + 1) * 8 + j = off + i * 8 + (j + 8) from by omega, this]
    simp
theorem RawTs.types {w : World} {S : Nat → Prop} {b off : Nat} : ∀ {l : List T} {cs : List Value} {i : Nat}, RawTs w S l cs → (∀ j, j < cs.length → w.cell? ⟨b, off + i * 6 + j, none⟩ = cs[j]?) → TypesS w S b off i l
  | [], _, _, _, _ => by simp [TypesS]
  | t :: r, _, i, hr, hc => by
    simp only [RawTs] at hr
    obtain ⟨v0, v1, v2, v3, v4, v5, c, rfl, h1, h2⟩ := hr
    simp only [TypesS]
    refine ⟨⟨v0, v1, v2, v3, v4, v5, hc 0 (by simp), hc 1 (by simp), hc 2 (by simp), hc 3 (by simp), hc 4 (by simp), hc 5 (by simp), h1⟩, RawTs.types h2 fun j hj => ?_⟩
    have := hc (j + 6) (by simp; omega)
    rw [show off + (i + 1) * 6 + j = off + i * 6 + (j + 6) from by omega, this]
    simp
theorem RawFs.append {w : World} {S : Nat → Prop} : ∀ {a b : List F} {c d : List Value}, RawFs w S a c → RawFs w S b d → RawFs w S (a ++ b) (c ++ d)
  | [], _, _, _, h1, h2 => by simp only [RawFs] at h1; subst h1; simpa using h2
  | f :: r, _, _, _, h1, h2 => by
    simp only [RawFs] at h1
    obtain ⟨v0, v1, v2, v3, v4, v5, c, rfl, h3, h4⟩ := h1
    simp only [List.cons_append, RawFs]
    exact ⟨v0, v1, v2, v3, v4, v5, _, rfl, h3, RawFs.append h4 h2⟩
theorem RawTs.append {w : World} {S : Nat → Prop} : ∀ {a b : List T} {c d : List Value}, RawTs w S a c → RawTs w S b d → RawTs w S (a ++ b) (c ++ d)
  | [], _, _, _, h1, h2 => by simp only [RawTs] at h1; subst h1; simpa using h2
  | f :: r, _, _, _, h1, h2 => by
    simp only [RawTs] at h1
    obtain ⟨v0, v1, v2, v3, v4, v5, c, rfl, h3, h4⟩ := h1
    simp only [List.cons_append, RawTs]
    exact ⟨v0, v1, v2, v3, v4, v5, _, rfl, h3, RawTs.append h4 h2⟩
end Go.Proofs.YtnjmknofojjlmaaDoor
