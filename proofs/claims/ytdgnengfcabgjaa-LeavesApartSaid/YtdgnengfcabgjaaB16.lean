/-
  leaves.visit: hands out the leaves of a document.
  leaves.visit at a document that is a leaf.
-/
import Derived.Test.YtdgnengfcabgjaaB04
import Derived.Test.YtdgnengfcabgjaaB12
import Derived.Test.YtdgnengfcabgjaaB01
namespace Go.Proofs.Ytdgnengfcabgjaa
open Go.RowKit Go.Shelf
attribute [local go_sem] Oper.semAt_some

theorem lkeyed_any {d : D} {v0 v1 v2 v3 v4 : Value} {B : Nat} {w : World} (h : DocIn w B d v0 v1 v2 v3 v4) :
    Calls Try.prog 83 #[.agg #[v0, v1, v2, v3, v4]] w fun e w' => e = .returned (.bool (decide (d.kind = 1 ∨ d.kind = 2))) ∧ Below w.heap.size w w' := by
  obtain ⟨A3, c3, A4, c4, rfl, rfl, rfl, rfl, rfl⟩ := h.forms
  clear h
  by_cases h1 : d.kind = 1
  · have hr : decide (d.kind = 1 ∨ d.kind = 2) = true := by simp [h1]
    rw [hr]
    go_enter Try.func83, Try.ntmps83
    go_wp2_with fail
    go_ret
    exact ⟨rfl, (Below.refl _ w).alloc (Nat.le_refl _) _⟩
  · by_cases h2 : d.kind = 2
    · have hr : decide (d.kind = 1 ∨ d.kind = 2) = true := by simp [h2]
      rw [hr]
      go_enter Try.func83, Try.ntmps83
      go_wp2_with fail
      go_ret
      exact ⟨rfl, (Below.refl _ w).alloc (Nat.le_refl _) _⟩
    · have hr : decide (d.kind = 1 ∨ d.kind = 2) = false := by simp [h1, h2]
      rw [hr]
      go_enter Try.func83, Try.ntmps83
      go_wp2_with fail
      go_ret
      exact ⟨by show Ending.returned (.bool (d.kind == 1 || d.kind == 2)) = _; simp [h1, h2], (Below.refl _ w).alloc (Nat.le_refl _) _⟩
def StrO (o : Obj) : Prop := ∃ cs fz, o = .cells cs 9 fz
/-- What the caller of an iterator promises, where the heap had M blocks at the call. -/
structure YieldC (l : Nat) (J : List Mk → World → Prop) (m M N : Nat) : Prop where
  hJ : ∀ xs A B, J xs A → KeepsI (Turns StrO M) m A B → J xs B
  hY : ∀ pre x W0 W1, J pre W0 → KeepsI (Turns StrO M) m W0 W1 → MkR x W0.heap.size W1 → pre.length < N → YieldAt Fence.wide 0 Try.prog l #[.agg (Mk.enc x).toArray] W1 fun e W' => e = .returned (.bool true) ∧ J (pre ++ [x]) W' ∧ Keeps RowO m W1 W'
/-- Between two leaves. -/
structure VisSt (J : List Mk → World → Prop) (m : Nat) (p : List ByteArray) (v : Value) (pre : List Mk) (W : World) : Prop where
  j : J pre W
  mks : Mks m pre W
  hi : ∀ x ∈ pre, x.hi ≤ W.heap.size
  row : W.ownsRow m 9 1 v p.length (p.map Value.string)
  free : ∀ x ∈ pre, ∀ b, v.ownBlock = some b → b ∉ blk x.v0 ++ x.F
  hm : m ≤ W.heap.size
/-- What a visit may turn: rows of leaves, and the block of its path. -/
def VisK (v : Value) (k : Nat) (o : Obj) : Prop := RowO o ∨ v.ownBlock = some k
theorem ownsRow_rowO {m base sz n : Nat} {v : Value} {xs : List Value} {W W' : World} (h : W.ownsRow base 9 sz v n xs) (hk : Keeps RowO m W W') : W'.ownsRow base 9 sz v n xs := ownsRow_keeps h hk fun cs fz => by rintro ⟨_, _, h | h⟩ <;> cases h
theorem VisSt.leaf {J : List Mk → World → Prop} {m : Nat} {p : List ByteArray} {v : Value} {pre : List Mk} {W W4 W5 : World} {x : Mk} (h : VisSt J m p v pre W) (hb : Below W.heap.size W W4) (hx : MkIn x W4) (hlo : x.lo = W.heap.size) (hhi : x.hi = W4.heap.size)
    (hJ5 : J (pre ++ [x]) W5) (hk5 : Keeps RowO m W4 W5) : VisSt J m p v (pre ++ [x]) W5 ∧ KeepsI (VisK v) m W W5 := by
  have s1 := hb.size; have s2 := hk5.size; have hm := h.hm
  have hkw : Keeps RowO m W W5 := (Keeps.new hb hm).trans hk5
  refine ⟨⟨hJ5, ((h.mks.below hb (Nat.le_refl _)).snoc hx (by omega) (fun y hy => by have := h.hi y hy; omega)).keeps hk5 memO_rowO, fun y hy => ?_, ownsRow_rowO h.row hkw, fun y hy b hb' hmem => ?_, by omega⟩, hkw.toI fun _ _ h => .inl h⟩
  · rcases List.mem_append.1 hy with hy | hy
    · have := h.hi y hy; omega
    · simp only [List.mem_singleton] at hy; subst hy; omega
  · rcases List.mem_append.1 hy with hy | hy
    · exact h.free y hy b hb' hmem
    · simp only [List.mem_singleton] at hy; subst hy
      have := (h.row.lt b hb').2
      have := (hx.lt b hmem).1
      omega
end Go.Proofs.Ytdgnengfcabgjaa
namespace Go.Proofs.Ytdgnengfcabgjaa
open Go.RowKit Go.Shelf
attribute [local go_sem] Oper.semAt_some

/-- What a visit has done. -/
def VisTo (J : List Mk → World → Prop) (m : Nat) (p : List ByteArray) (v : Value) (pre : List Mk) (ls : List Lf) (W : World) (e : Ending) (W' : World) : Prop :=
  e = .returned (.bool true) ∧ ∃ ys : List Mk, ys.map (·.lf) = ls ∧ (∀ y ∈ ys, W.heap.size ≤ y.lo) ∧ VisSt J m p v (pre ++ ys) W' ∧ KeepsI (VisK v) m W W'
set_option maxRecDepth 100000 in
set_option maxHeartbeats 4000000 in
theorem visit_leaf {l m M N : Nat} {J : List Mk → World → Prop} (C : YieldC l J m M N) {d : D} {p : List ByteArray} {v dv : Value} {pre : List Mk} {W : World} {B : Nat} (hst : VisSt J m p v pre W) (hB : B ≤ W.heap.size) (hd : DocV W B d dv) (hf : d.Fit) (hk : ¬ (d.kind = 1 ∨ d.kind = 2))
    (hlen : pre.length < N) (hpl : p.length ≤ 10000) : Calls Try.prog 67 #[v, dv, .func (.yield l) #[] #[]] W (VisTo J m p v pre (vis p d) W) := by
  obtain ⟨v0, v1, v2, v3, v4, rfl, hdi⟩ := hd
  have hb1 : Below W.heap.size W (W.alloc (.cells #[v0, v1, v2, v3, v4] 25)) := (Below.refl _ W).alloc (Nat.le_refl _) _
  have hdi1 : DocIn (W.alloc (.cells #[v0, v1, v2, v3, v4] 25)) B d v0 v1 v2 v3 v4 := hdi.keep (Nat.le_refl _) fun _ h => hb1.cell (Nat.lt_of_lt_of_le h hB)
  have hkey := lkeyed_any hdi1
  rw [decide_eq_false hk] at hkey
  obtain ⟨A, c, rfl⟩ := ownsRow_slice hst.row
  have hlay : ∀ w2, Below (W.alloc (.cells #[v0, v1, v2, v3, v4] 25)).heap.size (W.alloc (.cells #[v0, v1, v2, v3, v4] 25)) w2 → Below W.heap.size W w2.drew ∧ Box5 w2.drew W.heap.size v0 v1 v2 v3 v4 ∧ Strs w2.drew W.heap.size (.slice A p.length c) p := fun w2 h2 => by
    have hb2 : Below W.heap.size W w2.drew := (hb1.trans (h2.mono (by simp))).trans ((below_drewN w2 1).mono (by have := h2.size; simp at this; omega))
    exact ⟨hb2, (h2.block _ (by simp)).trans (Box5.new W v0 v1 v2 v3 v4), (Strs_of_own hst.row).keep fun q hq => hb2.cell hq⟩
  have hmk : ∀ w2 w3 w4 r u1 u2 u3 u4 u5 F, Below W.heap.size W w2 → w3.ownsRow w2.heap.size 9 1 r p.length (p.map Value.string) → Below w2.heap.size w2 w3 → OwnIn w4 w3.heap.size d u1 u2 u3 u4 u5 F → F.Nodup → Below w3.heap.size w3 w4 →
      YieldAt Fence.wide 0 Try.prog l #[.agg #[r, u1, u2, u3, u4, u5]] w4 (VisTo J m p (.slice A p.length c) pre (vis p d) W) := fun w2 w3 w4 r u1 u2 u3 u4 u5 F h2 h3 hb3 h4 hnd hb4 => by
    have hx := made_leaf (lf := ⟨p, d⟩) h2 h3 hb3 h4 hnd hb4
    refine YieldAt.mono (C.hY pre _ W w4 hst.j (KeepsI.new hx.2 hst.hm) ⟨hx.1, Nat.le_refl _, Nat.le_refl _⟩ hlen) ?_
    rintro e W5 ⟨rfl, hJ5, hk5⟩
    have hst5 := hst.leaf hx.2 hx.1 rfl rfl hJ5 hk5
    exact ⟨rfl, [_], by rw [vis_leaf p hk]; rfl, fun y hy => by simp only [List.mem_singleton] at hy; subst hy; exact Nat.le_refl _, hst5.1, hst5.2⟩
  have HLAY := Lib.hid hlay; have HMK := Lib.hid hmk; have HKEY := Lib.hid hkey
  have HDI := Lib.hid hdi
  have HBX := Lib.hid (Box5.new W v0 v1 v2 v3 v4)
  obtain ⟨b0, b1, b2, b3, b4⟩ := HBX.out.cells
  clear hlay hmk hkey hdi hdi1 hb1 hst
  refine (callsIn_wide (n := 0)).1 ?_
  refine callsIn_of_wp Try.func67 rfl trivial ?_ rfl
  simp only [Try.ntmps67, List.size_toArray, List.length_cons, List.length_nil, Nat.reduceAdd, Nat.reduceSub, Array.replicate_succ, Array.replicate_zero, List.push_toArray, List.append_toArray, List.nil_append, List.cons_append]
  obtain ⟨A3, c3, A4, c4, rfl, rfl, rfl, rfl, rfl⟩ := HDI.out.forms
  gi_wp2_with (refine ⟨trivial, rfl, ?_⟩; gi_at_call 83; refine (callsIn_wide.2 HKEY.out).mono ?_; rintro e w2 ⟨rfl, h2⟩; have HL := Lib.hid (HLAY.out w2 h2); clear h2 HLAY HKEY)
  have mixed : Try.prog.follows .mixedOrders = true := by kernel_rfl
  have hsz2 : W.heap.size < w2.heap.size := heap_lt HL.out.2.1
  have HJO := Lib.hid (joined_one p (.slice A p.length c) W.heap.size w2.drew (Nat.le_of_lt hsz2) HL.out.2.2 hpl)
  have HCO : Hid (∀ w3, Below w2.drew.heap.size w2.drew w3 → Calls Try.prog 56 #[.agg #[.int .i64 d.kind, .int .i64 d.num, .string d.str, .slice A3 d.keys.length c3, .slice A4 d.kids.length c4]] w3 (MadeDoc w3.heap.size w3 d)) := Lib.hid fun w3 hb3 =>
    copy_v hf (by have h3 : w2.heap.size ≤ w3.heap.size := hb3.size; omega) ((show DocV W B d _ from ⟨_, _, _, _, _, rfl, HDI.out⟩).below ((HL.out.1.mono hB).trans (hb3.mono (by show B ≤ w2.heap.size; omega))))
  obtain ⟨k0, k1, k2, k3, k4⟩ := HL.out.2.1.cells
  clear b0 b1 b2 b3 b4 HBX
  gi_region_with_o (first
    | (refine ⟨trivial, rfl, ?_⟩; gi_at_call 70; refine (callsIn_wide.2 HJO.out).mono ?_; rintro e w3 ⟨r, rfl, h3, hb3⟩; obtain ⟨Ar, nr, rfl⟩ := ownsRow_slice h3
       obtain ⟨j0, j1, j2, j3, j4⟩ := (show Box5 w3 W.heap.size _ _ _ _ _ from (hb3.block W.heap.size hsz2).trans HL.out.2.1).cells
       have HCO3 := Lib.hid (HCO.out w3 hb3); have H3 := Lib.hid h3; have HB3 := Lib.hid hb3
       clear h3 hb3 k0 k1 k2 k3 k4 HJO HCO)
    | (refine ⟨trivial, rfl, ?_⟩; gi_at_call 56; refine (callsIn_wide.2 HCO3.out).mono ?_; rintro e w4 ⟨u1, u2, u3, u4, u5, F, rfl, h4, hnd, hb4⟩
       obtain ⟨fn, tmps, assign, body, hy, hR⟩ := HMK.out _ w3 w4 _ u1 u2 u3 u4 u5 F HL.out.1 H3.out HB3.out h4 hnd hb4
       clear h4 hnd hb4 HCO3 H3 HB3 HMK)
    | ((first | refine ⟨rfl, ?_⟩ | refine ⟨trivial, rfl, ?_⟩ | skip); refine hR.mono ?_; rintro e W5 ⟨rfl, h5⟩; have H5 := Lib.hid h5; clear h5 hR hy))
  all_goals
    gi_wp2
    go_ret
    exact ⟨rfl, H5.out⟩
end Go.Proofs.Ytdgnengfcabgjaa
