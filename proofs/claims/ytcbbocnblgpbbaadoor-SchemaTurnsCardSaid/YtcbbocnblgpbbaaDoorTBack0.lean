/-
  What stands while SchemaBack goes on: the arguments' boxes, and boxes of types of the call's own.
-/
import Derived.Test.YtcbbocnblgpbbaaDoorTCop0
import Derived.Test.YtcbbocnblgpbbaaDoorTBackP
import Derived.Test.YtcbbocnblgpbbaaDoorRTSize
namespace Go.Proofs.YtcbbocnblgpbbaaDoor
open Go.RowKit

/-- The boxes of the two arguments, and what is in them. -/
structure BackSt (w0 w : World) (t : T) (f : F) (A3 A4 A5 B3 B4 B5 : Option Addr) (c3 c4 c5 d3 d4 d5 : Nat) : Prop where
  bl : Below w0.heap.size w0 w
  sz : w0.heap.size + 1 + 1 ≤ w.heap.size
  ht : TypeIn w0 w0.heap.size t (.int .i64 t.kind) (.int .i64 t.lo) (.int .i64 t.hi) (.slice A3 t.names.length c3) (.slice A4 t.fields.length c4) (.slice A5 t.of.length c5)
  hf : TypeIn w0 w0.heap.size f.type (.int .i64 f.type.kind) (.int .i64 f.type.lo) (.int .i64 f.type.hi) (.slice B3 f.type.names.length d3) (.slice B4 f.type.fields.length d4) (.slice B5 f.type.of.length d5)
  bx : Box6 w w0.heap.size (.int .i64 t.kind) (.int .i64 t.lo) (.int .i64 t.hi) (.slice A3 t.names.length c3) (.slice A4 t.fields.length c4) (.slice A5 t.of.length c5)
  bf : Box8 w (w0.heap.size + 1) f.name f.opt (.int .i64 f.type.kind) (.int .i64 f.type.lo) (.int .i64 f.type.hi) (.slice B3 f.type.names.length d3) (.slice B4 f.type.fields.length d4) (.slice B5 f.type.of.length d5)
section
variable {w0 w w' : World} {t : T} {f : F} {A3 A4 A5 B3 B4 B5 : Option Addr} {c3 c4 c5 d3 d4 d5 : Nat}
theorem BackSt.start (ht : TypeIn w w.heap.size t (.int .i64 t.kind) (.int .i64 t.lo) (.int .i64 t.hi) (.slice A3 t.names.length c3) (.slice A4 t.fields.length c4) (.slice A5 t.of.length c5))
    (hf : TypeIn w w.heap.size f.type (.int .i64 f.type.kind) (.int .i64 f.type.lo) (.int .i64 f.type.hi) (.slice B3 f.type.names.length d3) (.slice B4 f.type.fields.length d4) (.slice B5 f.type.of.length d5)) :
    BackSt w ((w.alloc (.cells #[.int .i64 t.kind, .int .i64 t.lo, .int .i64 t.hi, .slice A3 t.names.length c3, .slice A4 t.fields.length c4, .slice A5 t.of.length c5] 26)).alloc
      (.cells #[.string f.name, .bool f.opt, .int .i64 f.type.kind, .int .i64 f.type.lo, .int .i64 f.type.hi, .slice B3 f.type.names.length d3, .slice B4 f.type.fields.length d4, .slice B5 f.type.of.length d5] 38)) t f A3 A4 A5 B3 B4 B5 c3 c4 c5 d3 d4 d5 :=
  ⟨((Below.refl _ _).alloc (Nat.le_refl _) _).alloc (by simp) _, by simp, ht, hf, (Box6.new w _ _ _ _ _ _).alloc _, heap_at _ (by simp)⟩
theorem BackSt.next (h : BackSt w0 w t f A3 A4 A5 B3 B4 B5 c3 c4 c5 d3 d4 d5) (hb : Below w.heap.size w w') : BackSt w0 w' t f A3 A4 A5 B3 B4 B5 c3 c4 c5 d3 d4 d5 := by
  have h1 := h.bl.size; have h2 := h.sz; have h5 := hb.size
  exact ⟨h.bl.trans (hb.mono h1), by omega, h.ht, h.hf, h.bx.same (hb.block _ (by omega)), h.bf.same (hb.block _ (by omega))⟩
theorem BackSt.tv (h : BackSt w0 w t f A3 A4 A5 B3 B4 B5 c3 c4 c5 d3 d4 d5) : TypeV w w.heap.size t (.agg #[.int .i64 t.kind, .int .i64 t.lo, .int .i64 t.hi, .slice A3 t.names.length c3, .slice A4 t.fields.length c4, .slice A5 t.of.length c5]) :=
  ⟨_, _, _, _, _, _, rfl, h.ht.keep h.bl.size fun _ hp => h.bl.cell hp⟩
theorem BackSt.fv (h : BackSt w0 w t f A3 A4 A5 B3 B4 B5 c3 c4 c5 d3 d4 d5) : TypeV w w.heap.size f.type (.agg #[.int .i64 f.type.kind, .int .i64 f.type.lo, .int .i64 f.type.hi, .slice B3 f.type.names.length d3, .slice B4 f.type.fields.length d4, .slice B5 f.type.of.length d5]) :=
  ⟨_, _, _, _, _, _, rfl, h.hf.keep h.bl.size fun _ hp => h.bl.cell hp⟩
theorem BackSt.ffv (h : BackSt w0 w t f A3 A4 A5 B3 B4 B5 c3 c4 c5 d3 d4 d5) : FieldV w w.heap.size f (.agg #[.string f.name, .bool f.opt, .int .i64 f.type.kind, .int .i64 f.type.lo, .int .i64 f.type.hi, .slice B3 f.type.names.length d3, .slice B4 f.type.fields.length d4, .slice B5 f.type.of.length d5]) :=
  ⟨_, _, _, _, _, _, rfl, h.hf.keep h.bl.size fun _ hp => h.bl.cell hp⟩
/-- A box, and the type of the call's own in it. -/
structure Hold (w : World) (b n0 : Nat) (t : T) (A3 A4 A5 : Option Addr) (c3 c4 c5 : Nat) : Prop where
  box : Box6 w b (.int .i64 t.kind) (.int .i64 t.lo) (.int .i64 t.hi) (.slice A3 t.names.length c3) (.slice A4 t.fields.length c4) (.slice A5 t.of.length c5)
  cp : Copied n0 w t (.slice A3 t.names.length c3) (.slice A4 t.fields.length c4) (.slice A5 t.of.length c5)
theorem Hold.new {n0 : Nat} (h : Copied n0 w t (.slice A3 t.names.length c3) (.slice A4 t.fields.length c4) (.slice A5 t.of.length c5)) :
    Hold (w.alloc (.cells #[.int .i64 t.kind, .int .i64 t.lo, .int .i64 t.hi, .slice A3 t.names.length c3, .slice A4 t.fields.length c4, .slice A5 t.of.length c5] 26)) w.heap.size n0 t A3 A4 A5 c3 c4 c5 :=
  ⟨Box6.new w _ _ _ _ _ _, h.later (by simp) fun k _ hk => Below.heap_alloc w _ k hk⟩
theorem Hold.next {b n0 : Nat} (h : Hold w b n0 t A3 A4 A5 c3 c4 c5) (hb : Below w.heap.size w w') : Hold w' b n0 t A3 A4 A5 c3 c4 c5 :=
  ⟨h.box.same (hb.block _ h.box.lt), h.cp.later hb.size fun k _ hk => hb.block k hk⟩
theorem Hold.v {b n0 : Nat} (h : Hold w b n0 t A3 A4 A5 c3 c4 c5) : TypeV w w.heap.size t (.agg #[.int .i64 t.kind, .int .i64 t.lo, .int .i64 t.hi, .slice A3 t.names.length c3, .slice A4 t.fields.length c4, .slice A5 t.of.length c5]) :=
  ⟨_, _, _, _, _, _, rfl, h.cp.typeIn⟩
/-- Whether its field at a place may be missing. -/
theorem Hold.opt {b n0 k : Nat} {g : F} (h : Hold w b n0 t A3 A4 A5 c3 c4 c5) (hk : t.fields[k]? = some g) : ∃ q o, A4 = some ⟨q, o, none⟩ ∧ q < w.heap.size ∧ w.cell? ⟨q, o + k * 8 + 1, none⟩ = some (.bool g.opt) := by
  obtain ⟨hlt, rfl⟩ := List.getElem?_eq_some_iff.1 hk
  obtain ⟨q, o, e, h1, _, h7, _⟩ := h.cp.typeIn.fields_.kid (Below.refl _ _) (Nat.le_refl _) hlt
  exact ⟨q, o, e, h1, h7⟩
end
theorem tsize_is {t : T} {n : Int} {v : Value} {w : World} {B : Nat} (hs : t.size ≤ 10000) (hd : t.depth ≤ 900) (hf : t.Fit) (hn : (t.size : Int) = n) (hB : B ≤ w.heap.size) (ht : TypeV w B t v) :
    Calls Tryd.prog 16 #[v] w fun e w' => e = .returned (.int .i64 n) ∧ Below w.heap.size w w' := by
  subst hn
  exact tsize_any hs hd hf hB ht
theorem tright_is {t : T} {v : Value} {w : World} {B : Nat} (hr : rightT t = true) (hs : t.size ≤ 10000) (hd : t.depth ≤ 900) (hf : t.Fit) (hB : B ≤ w.heap.size) (ht : TypeV w B t v) :
    Calls Tryd.prog 14 #[v] w fun e w' => e = .returned (.bool true) ∧ Below w.heap.size w w' := by
  have h := tright_any hs hd hf hB ht
  rw [hr] at h
  exact h
/-- A type within a field's box is loaded in a region that only reads. -/
theorem quiet_load6f {C : World → Prop} {K : Act → Prop} {o : Oper} {a : Act} {b : Nat} {n : ByteArray} {op : Bool} {v0 v1 v2 v3 v4 v5 : Value} (x : Operand) (ho : o.op = .load 26 x) (hx : a.eval x = .pointer (some ⟨b, 2, none⟩)) (hb : ∀ w, C w → Box8 w b n op v0 v1 v2 v3 v4 v5)
    (hk : K (a.put o.dst (.agg #[v0, v1, v2, v3, v4, v5]))) : o.quiet Tryd.prog a C K :=
  ⟨_, fun w hw => by
    obtain ⟨_, _, z0, z1, z2, z3, z4, z5⟩ := (hb w hw).cells
    unfold Oper.quietAt
    have e : (execOp a.eval o).run Tryd.prog w = .ok (.value (.agg #[v0, v1, v2, v3, v4, v5])) w := by
      unfold execOp
      rw [ho]
      dsimp only
      rw [hx]
      simp [go_sem, z0, z1, z2, z3, z4, z5]
    rw [e]
    exact ⟨rfl, rfl⟩, hk⟩
end Go.Proofs.YtcbbocnblgpbbaaDoor
