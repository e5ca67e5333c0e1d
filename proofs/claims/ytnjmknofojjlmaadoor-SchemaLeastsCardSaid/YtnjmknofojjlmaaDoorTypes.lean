/-
  Types as pure trees, and how they lie in memory: plain lemmas, no program.
-/
import Derived.Test.YtnjmknofojjlmaaDoorDocs
namespace Go.Proofs.YtnjmknofojjlmaaDoor
open Go.RowKit

mutual
/-- A type, as pure data. -/
inductive T where
  | mk (kind lo hi : Int) (names : List ByteArray) (fields : List F) (of : List T)
/-- A field. -/
inductive F where
  | mk (name : ByteArray) (opt : Bool) (type : T)
end

namespace F
def name : F → ByteArray | .mk n _ _ => n
def opt : F → Bool | .mk _ o _ => o
def type : F → T | .mk _ _ t => t
end F
namespace T
def kind : T → Int | .mk k _ _ _ _ _ => k
def lo : T → Int | .mk _ k _ _ _ _ => k
def hi : T → Int | .mk _ _ k _ _ _ => k
def names : T → List ByteArray | .mk _ _ _ l _ _ => l
def fields : T → List F | .mk _ _ _ _ l _ => l
def of : T → List T | .mk _ _ _ _ _ l => l
def kids (t : T) : List T := t.fields.map F.type ++ t.of
mutual
def size : T → Nat
  | .mk _ _ _ _ f l => sizesF f + sizes l + 1
def sizesF : List F → Nat
  | [] => 0
  | f :: r => sizeF f + sizesF r
def sizeF : F → Nat
  | .mk _ _ t => size t
def sizes : List T → Nat
  | [] => 0
  | d :: r => size d + sizes r
end
mutual
def depth : T → Nat
  | .mk _ _ _ _ f l => max (depthsF f) (depths l) + 1
def depthsF : List F → Nat
  | [] => 0
  | f :: r => max (depthF f) (depthsF r)
def depthF : F → Nat
  | .mk _ _ t => depth t
def depths : List T → Nat
  | [] => 0
  | d :: r => max (depth d) (depths r)
end
theorem sizeF_eq (f : F) : sizeF f = f.type.size := by obtain ⟨_, _, _⟩ := f; rfl
theorem depthF_eq (f : F) : depthF f = f.type.depth := by obtain ⟨_, _, _⟩ := f; rfl
theorem sizesF_eq : ∀ l : List F, sizesF l = sizes (l.map F.type)
  | [] => rfl
  | f :: r => by simp only [sizesF, List.map_cons, sizes, sizesF_eq r, sizeF_eq]
theorem depthsF_eq : ∀ l : List F, depthsF l = depths (l.map F.type)
  | [] => rfl
  | f :: r => by simp only [depthsF, List.map_cons, depths, depthsF_eq r, depthF_eq]
theorem sizes_append : ∀ a b : List T, sizes (a ++ b) = sizes a + sizes b
  | [], b => by simp [sizes]
  | d :: r, b => by simp only [List.cons_append, sizes, sizes_append r b]; omega
theorem depths_append : ∀ a b : List T, depths (a ++ b) = max (depths a) (depths b)
  | [], b => by simp [depths]
  | d :: r, b => by simp only [List.cons_append, depths, depths_append r b]; omega
theorem size_eq (t : T) : t.size = sizes (t.fields.map F.type) + sizes t.of + 1 := by
  obtain ⟨_, _, _, _, _, _⟩ := t; simp only [size, fields, of, sizesF_eq]
theorem depth_eq (t : T) : t.depth = max (depths (t.fields.map F.type)) (depths t.of) + 1 := by
  obtain ⟨_, _, _, _, _, _⟩ := t; simp only [depth, fields, of, depthsF_eq]
theorem size_pos (t : T) : 0 < t.size := by rw [size_eq]; omega
theorem depth_pos (t : T) : 0 < t.depth := by rw [depth_eq]; omega
theorem len_le_sizes : ∀ l : List T, l.length ≤ sizes l
  | [] => by simp [sizes]
  | d :: r => by have := len_le_sizes r; have := size_pos d; simp only [sizes, List.length_cons]; omega
theorem depth_le_depths : ∀ {l : List T} {i : Nat} (h : i < l.length), (l[i]).depth ≤ depths l
  | d :: r, 0, _ => by simp only [List.getElem_cons_zero, depths]; omega
  | d :: r, i + 1, h => by simp only [List.getElem_cons_succ, depths]; have := depth_le_depths (l := r) (i := i) (by simpa using h); omega
theorem depths_le {l : List T} {m : Nat} (h : ∀ (i : Nat) (h : i < l.length), (l[i]).depth ≤ m) : depths l ≤ m := by
  induction l with
  | nil => simp [depths]
  | cons d r ih =>
    simp only [depths]
    have h0 := h 0 (by simp)
    have := ih fun i hi => h (i + 1) (by simpa using hi)
    simp at h0
    omega
theorem field_depth {t : T} {i : Nat} (h : i < t.fields.length) : (t.fields[i]).type.depth < t.depth := by
  have := depth_le_depths (l := t.fields.map F.type) (i := i) (by simpa using h)
  rw [List.getElem_map] at this
  rw [depth_eq t]; omega
theorem of_depth {t : T} {i : Nat} (h : i < t.of.length) : (t.of[i]).depth < t.depth := by
  have := depth_le_depths (l := t.of) (i := i) h
  rw [depth_eq t]; omega
theorem sizes_take_succ (l : List T) (k : Nat) (h : k < l.length) : sizes (l.take (k + 1)) = sizes (l.take k) + (l[k]).size := by
  rw [List.take_succ_eq_append_getElem h, sizes_append]; simp [sizes]
theorem sizes_take_le (l : List T) (k : Nat) : sizes (l.take k) ≤ sizes l := by
  have := sizes_append (l.take k) (l.drop k)
  rw [List.take_append_drop] at this
  omega
end T

mutual
/-- The six cells of a type. -/
def TypeIn (w : World) (B : Nat) : T → Value → Value → Value → Value → Value → Value → Prop
  | .mk kind lo hi names fields of, v0, v1, v2, v3, v4, v5 =>
    v0 = .int .i64 kind ∧ v1 = .int .i64 lo ∧ v2 = .int .i64 hi ∧ Strs w B v3 names ∧
      (∃ (A : Option Addr) (c : Nat), v4 = .slice A fields.length c ∧ fields.length ≤ c ∧ (0 < fields.length → ∃ b off, A = some ⟨b, off, none⟩ ∧ b < B ∧ FieldsIn w B b off 0 fields)) ∧
      (∃ (A : Option Addr) (c : Nat), v5 = .slice A of.length c ∧ of.length ≤ c ∧ (0 < of.length → ∃ b off, A = some ⟨b, off, none⟩ ∧ b < B ∧ TypesIn w B b off 0 of))
def FieldsIn (w : World) (B : Nat) (b off : Nat) : Nat → List F → Prop
  | _, [] => True
  | i, f :: r => FieldIn w B b (off + i * 8) f ∧ FieldsIn w B b off (i + 1) r
def FieldIn (w : World) (B : Nat) (b o : Nat) : F → Prop
  | .mk name opt type => w.cell? ⟨b, o, none⟩ = some (.string name) ∧ w.cell? ⟨b, o + 1, none⟩ = some (.bool opt) ∧
      ∃ v0 v1 v2 v3 v4 v5 : Value, w.cell? ⟨b, o + 2, none⟩ = some v0 ∧ w.cell? ⟨b, o + 2 + 1, none⟩ = some v1 ∧ w.cell? ⟨b, o + 2 + 2, none⟩ = some v2 ∧ w.cell? ⟨b, o + 2 + 3, none⟩ = some v3 ∧ w.cell? ⟨b, o + 2 + 4, none⟩ = some v4 ∧ w.cell? ⟨b, o + 2 + 5, none⟩ = some v5 ∧ TypeIn w B type v0 v1 v2 v3 v4 v5
def TypesIn (w : World) (B : Nat) (b off : Nat) : Nat → List T → Prop
  | _, [] => True
  | i, d :: r => (∃ v0 v1 v2 v3 v4 v5 : Value, w.cell? ⟨b, off + i * 6, none⟩ = some v0 ∧ w.cell? ⟨b, off + i * 6 + 1, none⟩ = some v1 ∧ w.cell? ⟨b, off + i * 6 + 2, none⟩ = some v2 ∧ w.cell? ⟨b, off + i * 6 + 3, none⟩ = some v3 ∧ w.cell? ⟨b, off + i * 6 + 4, none⟩ = some v4 ∧ w.cell? ⟨b, off + i * 6 + 5, none⟩ = some v5 ∧ TypeIn w B d v0 v1 v2 v3 v4 v5) ∧ TypesIn w B b off (i + 1) r
end
/-- A type that stands at an address. -/
def TypeAt (w : World) (B : Nat) (b o : Nat) (t : T) : Prop :=
  ∃ v0 v1 v2 v3 v4 v5 : Value, w.cell? ⟨b, o, none⟩ = some v0 ∧ w.cell? ⟨b, o + 1, none⟩ = some v1 ∧ w.cell? ⟨b, o + 2, none⟩ = some v2 ∧ w.cell? ⟨b, o + 3, none⟩ = some v3 ∧ w.cell? ⟨b, o + 4, none⟩ = some v4 ∧ w.cell? ⟨b, o + 5, none⟩ = some v5 ∧ TypeIn w B t v0 v1 v2 v3 v4 v5
theorem FieldsIn.at_ {w : World} {B b off : Nat} : ∀ {l : List F} {i : Nat}, FieldsIn w B b off i l → ∀ (k : Nat) (h : k < l.length),
    w.cell? ⟨b, off + (i + k) * 8, none⟩ = some (.string (l[k]).name) ∧ w.cell? ⟨b, off + (i + k) * 8 + 1, none⟩ = some (.bool (l[k]).opt) ∧ TypeAt w B b (off + (i + k) * 8 + 2) (l[k]).type
  | [], _, _, k, h => by simp at h
  | f :: r, i, hk, 0, _ => by
    obtain ⟨n, o, t⟩ := f
    simp only [FieldsIn, FieldIn] at hk
    obtain ⟨⟨h1, h2, h3⟩, _⟩ := hk
    exact ⟨h1, h2, h3⟩
  | f :: r, i, hk, k + 1, h => by
    simp only [FieldsIn] at hk
    have := FieldsIn.at_ hk.2 k (by simpa using h)
    rw [show i + 1 + k = i + (k + 1) from by omega] at this
    simpa using this
theorem TypesIn.at_ {w : World} {B b off : Nat} : ∀ {l : List T} {i : Nat}, TypesIn w B b off i l → ∀ (k : Nat) (h : k < l.length), TypeAt w B b (off + (i + k) * 6) l[k]
  | [], _, _, k, h => by simp at h
  | d :: r, i, hk, 0, _ => by simp only [TypesIn] at hk; simpa [TypeAt] using hk.1
  | d :: r, i, hk, k + 1, h => by
    simp only [TypesIn] at hk
    have := TypesIn.at_ hk.2 k (by simpa using h)
    rw [show i + 1 + k = i + (k + 1) from by omega] at this
    simpa using this
mutual
theorem TypeIn.keep {w w' : World} {B B' : Nat} (hB : B ≤ B') (h : ∀ p : Addr, p.block < B → w'.cell? p = w.cell? p) : ∀ {d : T} {v0 v1 v2 v3 v4 v5 : Value}, TypeIn w B d v0 v1 v2 v3 v4 v5 → TypeIn w' B' d v0 v1 v2 v3 v4 v5
  | .mk _ _ _ _ fields of, _, _, _, _, _, _, hd => by
    simp only [TypeIn] at hd ⊢
    obtain ⟨h0, h1, h2, h3, ⟨A', c', e', k1, k2⟩, ⟨A'', c'', e'', k3, k4⟩⟩ := hd
    refine ⟨h0, h1, h2, (h3.keep h).more hB, ⟨A', c', e', k1, fun hl => ?_⟩, ⟨A'', c'', e'', k3, fun hl => ?_⟩⟩
    · obtain ⟨b, off, ea, hb, hk⟩ := k2 hl
      exact ⟨b, off, ea, by omega, FieldsIn.keep hB h hb hk⟩
    · obtain ⟨b, off, ea, hb, hk⟩ := k4 hl
      exact ⟨b, off, ea, by omega, TypesIn.keep hB h hb hk⟩
theorem FieldsIn.keep {w w' : World} {B B' : Nat} (hB : B ≤ B') (h : ∀ p : Addr, p.block < B → w'.cell? p = w.cell? p) {b off : Nat} (hb : b < B) : ∀ {l : List F} {i : Nat}, FieldsIn w B b off i l → FieldsIn w' B' b off i l
  | [], _, _ => by simp [FieldsIn]
  | f :: r, i, hk => by
    simp only [FieldsIn] at hk ⊢
    exact ⟨FieldIn.keep hB h hb hk.1, FieldsIn.keep hB h hb hk.2⟩
theorem FieldIn.keep {w w' : World} {B B' : Nat} (hB : B ≤ B') (h : ∀ p : Addr, p.block < B → w'.cell? p = w.cell? p) {b : Nat} (hb : b < B) : ∀ {f : F} {o : Nat}, FieldIn w B b o f → FieldIn w' B' b o f
  | .mk _ _ _, o, hk => by
    simp only [FieldIn] at hk ⊢
    obtain ⟨a1, a2, v0, v1, v2, v3, v4, v5, c0, c1, c2, c3, c4, c5, hd⟩ := hk
    have hh : ∀ n, w'.cell? ⟨b, n, none⟩ = w.cell? ⟨b, n, none⟩ := fun n => h ⟨b, n, none⟩ hb
    exact ⟨(hh _).trans a1, (hh _).trans a2, v0, v1, v2, v3, v4, v5, (hh _).trans c0, (hh _).trans c1, (hh _).trans c2, (hh _).trans c3, (hh _).trans c4, (hh _).trans c5, TypeIn.keep hB h hd⟩
theorem TypesIn.keep {w w' : World} {B B' : Nat} (hB : B ≤ B') (h : ∀ p : Addr, p.block < B → w'.cell? p = w.cell? p) {b off : Nat} (hb : b < B) : ∀ {l : List T} {i : Nat}, TypesIn w B b off i l → TypesIn w' B' b off i l
  | [], _, _ => by simp [TypesIn]
  | d :: r, i, hk => by
    simp only [TypesIn] at hk ⊢
    obtain ⟨⟨v0, v1, v2, v3, v4, v5, c0, c1, c2, c3, c4, c5, hd⟩, hr⟩ := hk
    have hh : ∀ n, w'.cell? ⟨b, n, none⟩ = w.cell? ⟨b, n, none⟩ := fun n => h ⟨b, n, none⟩ hb
    exact ⟨⟨v0, v1, v2, v3, v4, v5, (hh _).trans c0, (hh _).trans c1, (hh _).trans c2, (hh _).trans c3, (hh _).trans c4, (hh _).trans c5, TypeIn.keep hB h hd⟩, TypesIn.keep hB h hb hr⟩
end
theorem TypeAt.keep {w w' : World} {B B' b o : Nat} {t : T} (hB : B ≤ B') (h : ∀ p : Addr, p.block < B → w'.cell? p = w.cell? p) (hb : b < B) (ht : TypeAt w B b o t) : TypeAt w' B' b o t := by
  obtain ⟨v0, v1, v2, v3, v4, v5, c0, c1, c2, c3, c4, c5, hd⟩ := ht
  have hh : ∀ n, w'.cell? ⟨b, n, none⟩ = w.cell? ⟨b, n, none⟩ := fun n => h ⟨b, n, none⟩ hb
  exact ⟨v0, v1, v2, v3, v4, v5, (hh _).trans c0, (hh _).trans c1, (hh _).trans c2, (hh _).trans c3, (hh _).trans c4, (hh _).trans c5, hd.keep hB h⟩
theorem TypeIn.below {w w' : World} {B : Nat} {d : T} {v0 v1 v2 v3 v4 v5 : Value} (h : TypeIn w B d v0 v1 v2 v3 v4 v5) (hb : Below B w w') : TypeIn w' B d v0 v1 v2 v3 v4 v5 := TypeIn.keep (Nat.le_refl _) (fun _ hp => hb.cell hp) h
theorem TypeIn.forms {w : World} {B : Nat} {d : T} {v0 v1 v2 v3 v4 v5 : Value} (h : TypeIn w B d v0 v1 v2 v3 v4 v5) :
    ∃ A3 c3 A4 c4 A5 c5, v0 = .int .i64 d.kind ∧ v1 = .int .i64 d.lo ∧ v2 = .int .i64 d.hi ∧ v3 = .slice A3 d.names.length c3 ∧ v4 = .slice A4 d.fields.length c4 ∧ v5 = .slice A5 d.of.length c5 := by
  obtain ⟨_, _, _, _, _, _⟩ := d
  simp only [TypeIn] at h
  obtain ⟨h0, h1, h2, ⟨A3, c3, h3, _⟩, ⟨A4, c4, h4, _⟩, ⟨A5, c5, h5, _⟩⟩ := h
  exact ⟨A3, c3, A4, c4, A5, c5, h0, h1, h2, h3, h4, h5⟩
theorem TypeIn.names_ {w : World} {B : Nat} {d : T} {v0 v1 v2 v3 v4 v5 : Value} (h : TypeIn w B d v0 v1 v2 v3 v4 v5) : Strs w B v3 d.names := by
  obtain ⟨_, _, _, _, _, _⟩ := d
  simp only [TypeIn] at h
  exact h.2.2.2.1
/-- A row of fields that can be read. -/
def FieldsV (w : World) (B : Nat) (v : Value) (l : List F) : Prop :=
  ∃ (A : Option Addr) (c : Nat), v = .slice A l.length c ∧ l.length ≤ c ∧ (0 < l.length → ∃ b off, A = some ⟨b, off, none⟩ ∧ b < B ∧ FieldsIn w B b off 0 l)
/-- .. of types. -/
def TypesV (w : World) (B : Nat) (v : Value) (l : List T) : Prop :=
  ∃ (A : Option Addr) (c : Nat), v = .slice A l.length c ∧ l.length ≤ c ∧ (0 < l.length → ∃ b off, A = some ⟨b, off, none⟩ ∧ b < B ∧ TypesIn w B b off 0 l)
theorem TypeIn.fields_ {w : World} {B : Nat} {d : T} {v0 v1 v2 v3 v4 v5 : Value} (h : TypeIn w B d v0 v1 v2 v3 v4 v5) : FieldsV w B v4 d.fields := by
  obtain ⟨_, _, _, _, _, _⟩ := d
  simp only [TypeIn] at h
  exact h.2.2.2.2.1
theorem TypeIn.of_ {w : World} {B : Nat} {d : T} {v0 v1 v2 v3 v4 v5 : Value} (h : TypeIn w B d v0 v1 v2 v3 v4 v5) : TypesV w B v5 d.of := by
  obtain ⟨_, _, _, _, _, _⟩ := d
  simp only [TypeIn] at h
  exact h.2.2.2.2.2
theorem TypeIn.mk_ {w : World} {B : Nat} {d : T} {v3 v4 v5 : Value} (h3 : Strs w B v3 d.names) (h4 : FieldsV w B v4 d.fields) (h5 : TypesV w B v5 d.of) : TypeIn w B d (.int .i64 d.kind) (.int .i64 d.lo) (.int .i64 d.hi) v3 v4 v5 := by
  obtain ⟨_, _, _, _, _, _⟩ := d
  simp only [TypeIn]
  exact ⟨rfl, rfl, rfl, h3, h4, h5⟩
theorem FieldsV.keep {w w' : World} {B B' : Nat} {l : List F} {v : Value} (hB : B ≤ B') (h : ∀ p : Addr, p.block < B → w'.cell? p = w.cell? p) (hv : FieldsV w B v l) : FieldsV w' B' v l := by
  obtain ⟨A, c, rfl, k1, k2⟩ := hv
  refine ⟨A, c, rfl, k1, fun hl => ?_⟩
  obtain ⟨b, off, ea, hb, hk⟩ := k2 hl
  exact ⟨b, off, ea, by omega, FieldsIn.keep hB h hb hk⟩
theorem TypesV.keep {w w' : World} {B B' : Nat} {l : List T} {v : Value} (hB : B ≤ B') (h : ∀ p : Addr, p.block < B → w'.cell? p = w.cell? p) (hv : TypesV w B v l) : TypesV w' B' v l := by
  obtain ⟨A, c, rfl, k1, k2⟩ := hv
  refine ⟨A, c, rfl, k1, fun hl => ?_⟩
  obtain ⟨b, off, ea, hb, hk⟩ := k2 hl
  exact ⟨b, off, ea, by omega, TypesIn.keep hB h hb hk⟩
/-- A type handed over as a value. -/
def TypeV (w : World) (B : Nat) (t : T) (v : Value) : Prop := ∃ v0 v1 v2 v3 v4 v5, v = .agg #[v0, v1, v2, v3, v4, v5] ∧ TypeIn w B t v0 v1 v2 v3 v4 v5
theorem TypeV.keep {w w' : World} {B B' : Nat} {t : T} {v : Value} (hB : B ≤ B') (h : ∀ p : Addr, p.block < B → w'.cell? p = w.cell? p) (hv : TypeV w B t v) : TypeV w' B' t v := by
  obtain ⟨v0, v1, v2, v3, v4, v5, rfl, hd⟩ := hv
  exact ⟨v0, v1, v2, v3, v4, v5, rfl, hd.keep hB h⟩
mutual
/-- No part is greater than can be gone over. -/
def T.Fit : T → Prop
  | .mk _ _ _ ns f l => ns.length ≤ 10000 ∧ f.length ≤ 10000 ∧ l.length ≤ 10000 ∧ (∀ k ∈ ns, k.size ≤ 10000) ∧ T.FitsF f ∧ T.Fits l
def T.FitsF : List F → Prop
  | [] => True
  | f :: r => T.FitF f ∧ T.FitsF r
def T.FitF : F → Prop
  | .mk n _ t => n.size ≤ 10000 ∧ t.Fit
def T.Fits : List T → Prop
  | [] => True
  | d :: r => d.Fit ∧ T.Fits r
end
theorem T.Fits.at_ : ∀ {l : List T}, T.Fits l → ∀ {i : Nat} (hi : i < l.length), (l[i]).Fit
  | [], _, i, hi => by simp at hi
  | d :: r, h, 0, hi => by simp only [T.Fits] at h; exact h.1
  | d :: r, h, i + 1, hi => by simp only [T.Fits] at h; exact T.Fits.at_ h.2 (by simpa using hi)
theorem T.FitF.name {f : F} (h : T.FitF f) : f.name.size ≤ 10000 := by obtain ⟨_, _, _⟩ := f; simp only [T.FitF] at h; exact h.1
theorem T.FitF.type {f : F} (h : T.FitF f) : f.type.Fit := by obtain ⟨_, _, _⟩ := f; simp only [T.FitF] at h; exact h.2
theorem T.FitsF.at_ : ∀ {l : List F}, T.FitsF l → ∀ {i : Nat} (hi : i < l.length), T.FitF l[i]
  | [], _, i, hi => by simp at hi
  | d :: r, h, 0, hi => by simp only [T.FitsF] at h; exact h.1
  | d :: r, h, i + 1, hi => by simp only [T.FitsF] at h; exact T.FitsF.at_ h.2 (by simpa using hi)
theorem T.Fit.parts {t : T} (h : t.Fit) : t.names.length ≤ 10000 ∧ t.fields.length ≤ 10000 ∧ t.of.length ≤ 10000 ∧ (∀ k ∈ t.names, k.size ≤ 10000) ∧ T.FitsF t.fields ∧ T.Fits t.of := by
  obtain ⟨_, _, _, _, _, _⟩ := t; simp only [T.Fit] at h; exact h
end Go.Proofs.YtnjmknofojjlmaaDoor
