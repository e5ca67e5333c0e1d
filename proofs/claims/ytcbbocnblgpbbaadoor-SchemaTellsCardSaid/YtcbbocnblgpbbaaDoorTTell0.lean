/-
  What stands while SchemaTells goes on: the arguments' boxes, and boxes of types.
-/
import Derived.Test.YtcbbocnblgpbbaaDoorRTRight
import Derived.Test.YtcbbocnblgpbbaaDoorRTSame
import Derived.Test.YtcbbocnblgpbbaaDoorRTAt
namespace Go.Proofs.YtcbbocnblgpbbaaDoor
open Go.RowKit

/-- The boxes of the two types, and what is in them. -/
structure TellSt (w0 w : World) (a b : T) (A3 A4 A5 B3 B4 B5 : Option Addr) (c3 c4 c5 d3 d4 d5 : Nat) : Prop where
  bl : Below w0.heap.size w0 w
  sz : w0.heap.size + 1 + 1 ≤ w.heap.size
  ha : TypeIn w0 w0.heap.size a (.int .i64 a.kind) (.int .i64 a.lo) (.int .i64 a.hi) (.slice A3 a.names.length c3) (.slice A4 a.fields.length c4) (.slice A5 a.of.length c5)
  hb : TypeIn w0 w0.heap.size b (.int .i64 b.kind) (.int .i64 b.lo) (.int .i64 b.hi) (.slice B3 b.names.length d3) (.slice B4 b.fields.length d4) (.slice B5 b.of.length d5)
  bx : Box6 w w0.heap.size (.int .i64 a.kind) (.int .i64 a.lo) (.int .i64 a.hi) (.slice A3 a.names.length c3) (.slice A4 a.fields.length c4) (.slice A5 a.of.length c5)
  by_ : Box6 w (w0.heap.size + 1) (.int .i64 b.kind) (.int .i64 b.lo) (.int .i64 b.hi) (.slice B3 b.names.length d3) (.slice B4 b.fields.length d4) (.slice B5 b.of.length d5)
section
variable {w0 w w' : World} {a b t : T} {A3 A4 A5 B3 B4 B5 : Option Addr} {c3 c4 c5 d3 d4 d5 : Nat}
theorem TellSt.start (ha : TypeIn w w.heap.size a (.int .i64 a.kind) (.int .i64 a.lo) (.int .i64 a.hi) (.slice A3 a.names.length c3) (.slice A4 a.fields.length c4) (.slice A5 a.of.length c5))
    (hb : TypeIn w w.heap.size b (.int .i64 b.kind) (.int .i64 b.lo) (.int .i64 b.hi) (.slice B3 b.names.length d3) (.slice B4 b.fields.length d4) (.slice B5 b.of.length d5)) :
    TellSt w ((w.alloc (.cells #[.int .i64 a.kind, .int .i64 a.lo, .int .i64 a.hi, .slice A3 a.names.length c3, .slice A4 a.fields.length c4, .slice A5 a.of.length c5] 26)).alloc
      (.cells #[.int .i64 b.kind, .int .i64 b.lo, .int .i64 b.hi, .slice B3 b.names.length d3, .slice B4 b.fields.length d4, .slice B5 b.of.length d5] 26)) a b A3 A4 A5 B3 B4 B5 c3 c4 c5 d3 d4 d5 :=
  ⟨((Below.refl _ _).alloc (Nat.le_refl _) _).alloc (by simp) _, by simp, ha, hb, (Box6.new w _ _ _ _ _ _).alloc _, Box6.new' (by simp) _ _ _ _ _ _⟩
theorem TellSt.next (h : TellSt w0 w a b A3 A4 A5 B3 B4 B5 c3 c4 c5 d3 d4 d5) (hb : Below w.heap.size w w') : TellSt w0 w' a b A3 A4 A5 B3 B4 B5 c3 c4 c5 d3 d4 d5 := by
  have h1 := h.bl.size; have h2 := h.sz; have h5 := hb.size
  exact ⟨h.bl.trans (hb.mono h1), by omega, h.ha, h.hb, h.bx.same (hb.block _ (by omega)), h.by_.same (hb.block _ (by omega))⟩
theorem TellSt.av (h : TellSt w0 w a b A3 A4 A5 B3 B4 B5 c3 c4 c5 d3 d4 d5) : TypeV w w.heap.size a (.agg #[.int .i64 a.kind, .int .i64 a.lo, .int .i64 a.hi, .slice A3 a.names.length c3, .slice A4 a.fields.length c4, .slice A5 a.of.length c5]) :=
  ⟨_, _, _, _, _, _, rfl, h.ha.keep h.bl.size fun _ hp => h.bl.cell hp⟩
theorem TellSt.bv (h : TellSt w0 w a b A3 A4 A5 B3 B4 B5 c3 c4 c5 d3 d4 d5) : TypeV w w.heap.size b (.agg #[.int .i64 b.kind, .int .i64 b.lo, .int .i64 b.hi, .slice B3 b.names.length d3, .slice B4 b.fields.length d4, .slice B5 b.of.length d5]) :=
  ⟨_, _, _, _, _, _, rfl, h.hb.keep h.bl.size fun _ hp => h.bl.cell hp⟩
/-- A box, and the type in it. -/
structure HoldT (w : World) (b : Nat) (t : T) (A3 A4 A5 : Option Addr) (c3 c4 c5 : Nat) : Prop where
  box : Box6 w b (.int .i64 t.kind) (.int .i64 t.lo) (.int .i64 t.hi) (.slice A3 t.names.length c3) (.slice A4 t.fields.length c4) (.slice A5 t.of.length c5)
  ti : TypeIn w w.heap.size t (.int .i64 t.kind) (.int .i64 t.lo) (.int .i64 t.hi) (.slice A3 t.names.length c3) (.slice A4 t.fields.length c4) (.slice A5 t.of.length c5)
theorem HoldT.new {B : Nat} (hB : B ≤ w.heap.size) (h : TypeIn w B t (.int .i64 t.kind) (.int .i64 t.lo) (.int .i64 t.hi) (.slice A3 t.names.length c3) (.slice A4 t.fields.length c4) (.slice A5 t.of.length c5)) :
    HoldT (w.alloc (.cells #[.int .i64 t.kind, .int .i64 t.lo, .int .i64 t.hi, .slice A3 t.names.length c3, .slice A4 t.fields.length c4, .slice A5 t.of.length c5] 26)) w.heap.size t A3 A4 A5 c3 c4 c5 :=
  ⟨Box6.new w _ _ _ _ _ _, h.keep (by simp; omega) fun p hp => World.cell?_alloc_lt w _ p (by omega)⟩
theorem HoldT.next {b : Nat} (h : HoldT w b t A3 A4 A5 c3 c4 c5) (hb : Below w.heap.size w w') : HoldT w' b t A3 A4 A5 c3 c4 c5 :=
  ⟨h.box.same (hb.block _ h.box.lt), h.ti.keep hb.size fun _ hp => hb.cell hp⟩
theorem HoldT.v {b : Nat} (h : HoldT w b t A3 A4 A5 c3 c4 c5) : TypeV w w.heap.size t (.agg #[.int .i64 t.kind, .int .i64 t.lo, .int .i64 t.hi, .slice A3 t.names.length c3, .slice A4 t.fields.length c4, .slice A5 t.of.length c5]) :=
  ⟨_, _, _, _, _, _, rfl, h.ti⟩
end
theorem rtsame_self {t : T} {v u : Value} {w : World} {B : Nat} (hf : t.Fit) (hB : B ≤ w.heap.size) (hv : TypeV w B t v) (hu : TypeV w B t u) :
    Calls Tryd.prog 21 #[v, u] w fun e w' => e = .returned (.bool true) ∧ Below w.heap.size w w' := by
  have h := rtsame_any t.depth t t v u w B (Nat.le_refl _) hf hf hB hv hu
  rw [sameT_self] at h
  exact h
end Go.Proofs.YtcbbocnblgpbbaaDoor
