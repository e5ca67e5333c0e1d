/-
  The walk of DocKeeps.
-/
import Derived.Test.YtpohbabdoiennaaDoorSmall
import Derived.Test.YtpohbabdoiennaaDoorKeepsR
import Derived.Test.YtpohbabdoiennaaDoorSize
import Derived.Deep.DrawnRows
import Derived.IntWalk
namespace Go.Proofs.YtpohbabdoiennaaDoor
open Go.RowKit
theorem few_is {d : D} (h : fewB d = true) : FewP d 20 := by simpa [fewB] using h
theorem doc_alloc' {w : World} {d : D} {v0 v1 v2 v3 v4 : Value} (h : DocIn w w.heap.size d v0 v1 v2 v3 v4) (o : Obj) : DocIn (w.alloc o) (w.alloc o).heap.size d v0 v1 v2 v3 v4 := h.keep (by simp) fun _ hp => World.cell?_alloc_lt w _ _ hp
/-- The two boxes, and what they hold. -/
structure Two (w0 w : World) (a b : D) (A3 : Option Addr) (d3 : Nat) (A4 : Option Addr) (d4 : Nat) (B3 : Option Addr) (e3 : Nat) (B4 : Option Addr) (e4 : Nat) : Prop where
  ha : Held w w0.heap.size a (.int .i64 a.kind) (.int .i64 a.num) (.string a.str) (.slice A3 a.keys.length d3) (.slice A4 a.kids.length d4)
  hb : Held w (w0.heap.size + 1) b (.int .i64 b.kind) (.int .i64 b.num) (.string b.str) (.slice B3 b.keys.length e3) (.slice B4 b.kids.length e4)
  bl : Below w0.heap.size w0 w
theorem Two.next {w0 w w' : World} {a b : D} {A3 : Option Addr} {d3 : Nat} {A4 : Option Addr} {d4 : Nat} {B3 : Option Addr} {e3 : Nat} {B4 : Option Addr} {e4 : Nat} (h : Two w0 w a b A3 d3 A4 d4 B3 e3 B4 e4) (hb : Below w.heap.size w w') : Two w0 w' a b A3 d3 A4 d4 B3 e3 B4 e4 :=
  ⟨h.ha.next hb, h.hb.next hb, h.bl.trans (hb.mono h.bl.size)⟩
theorem Two.start {w : World} {a b : D} {A3 : Option Addr} {d3 : Nat} {A4 : Option Addr} {d4 : Nat} {B3 : Option Addr} {e3 : Nat} {B4 : Option Addr} {e4 : Nat} (ha : DocIn w w.heap.size a (.int .i64 a.kind) (.int .i64 a.num) (.string a.str) (.slice A3 a.keys.length d3) (.slice A4 a.kids.length d4)) (hb : DocIn w w.heap.size b (.int .i64 b.kind) (.int .i64 b.num) (.string b.str) (.slice B3 b.keys.length e3) (.slice B4 b.kids.length e4)) :
    Two w ((w.alloc (.cells #[.int .i64 a.kind, .int .i64 a.num, .string a.str, .slice A3 a.keys.length d3, .slice A4 a.kids.length d4] 25)).alloc (.cells #[.int .i64 b.kind, .int .i64 b.num, .string b.str, .slice B3 b.keys.length e3, .slice B4 b.kids.length e4] 25)) a b A3 d3 A4 d4 B3 e3 B4 e4 := by
  refine ⟨(Held.new ha).alloc _, ?_, ((Below.refl _ _).alloc (Nat.le_refl _) _).alloc (by simp) _⟩
  have := Held.new (doc_alloc' hb (.cells #[.int .i64 a.kind, .int .i64 a.num, .string a.str, .slice A3 a.keys.length d3, .slice A4 a.kids.length d4] 25))
  rwa [World.size_alloc] at this

theorem putP {W : World} {d y p : D} {er : Int} {ps : List ByteArray} {v u pv : Value} (hf : d.Fit) (hfy : y.Fit) (hl : ps.length ≤ 20) (hs : ∀ s ∈ ps, Short s) (hg : Glob W) (hd : DocV W W.heap.size d v) (hy : DocV W W.heap.size y u) (hp : Strs W W.heap.size pv ps) (hr : putV d y ps = (p, er)) :
    Calls Tryd.prog 6 #[v, u, pv] W (fun e w' => ∃ A3 c3 A4 c4, e = .returned (.tuple #[.agg #[.int .i64 p.kind, .int .i64 p.num, .string p.str, .slice A3 p.keys.length c3, .slice A4 p.kids.length c4], .int .i64 er]) ∧
      DocIn w' w'.heap.size p (.int .i64 p.kind) (.int .i64 p.num) (.string p.str) (.slice A3 p.keys.length c3) (.slice A4 p.kids.length c4) ∧ Below W.heap.size W w') := by
  have h := (put_all hf hfy (by omega) hs hg (Nat.le_refl _) hd hy hp)
  rw [hr] at h
  refine h.mono fun e w' h' => ?_
  obtain ⟨v0, v1, v2, v3, v4, F, rfl, ho, _, hb1⟩ := h'
  obtain ⟨A3, c3, A4, c4, rfl, rfl, rfl, rfl, rfl⟩ := ho.doc.forms
  exact ⟨A3, c3, A4, c4, rfl, ho.doc, hb1⟩

theorem getP {W : World} {d p : D} {had : Bool} {ps : List ByteArray} {v pv : Value} (hf : d.Fit) (hl : ps.length ≤ 20) (hs : ∀ s ∈ ps, Short s) (hg : Glob W) (hd : DocV W W.heap.size d v) (hp : Strs W W.heap.size pv ps) (hr : getV d ps = (p, had)) :
    Calls Tryd.prog 7 #[v, pv] W (fun e w' => ∃ A3 c3 A4 c4, e = .returned (.tuple #[.agg #[.int .i64 p.kind, .int .i64 p.num, .string p.str, .slice A3 p.keys.length c3, .slice A4 p.kids.length c4], .bool had]) ∧
      DocIn w' w'.heap.size p (.int .i64 p.kind) (.int .i64 p.num) (.string p.str) (.slice A3 p.keys.length c3) (.slice A4 p.kids.length c4) ∧ Below W.heap.size W w') := by
  have h := (get_v hf (by omega) hs hg (Nat.le_refl _) hd hp)
  rw [hr] at h
  refine h.mono fun e w' h' => ?_
  obtain ⟨v0, v1, v2, v3, v4, F, rfl, ho, _, hb1⟩ := h'
  obtain ⟨A3, c3, A4, c4, rfl, rfl, rfl, rfl, rfl⟩ := ho.doc.forms
  exact ⟨A3, c3, A4, c4, rfl, ho.doc, hb1⟩

theorem dropP {W : World} {d p : D} {er : Int} {ps : List ByteArray} {v pv : Value} (hf : d.Fit) (hl : ps.length ≤ 20) (hs : ∀ s ∈ ps, Short s) (hg : Glob W) (hd : DocV W W.heap.size d v) (hp : Strs W W.heap.size pv ps) (hr : dropV d ps = (p, er)) :
    Calls Tryd.prog 9 #[v, pv] W (fun e w' => ∃ A3 c3 A4 c4, e = .returned (.tuple #[.agg #[.int .i64 p.kind, .int .i64 p.num, .string p.str, .slice A3 p.keys.length c3, .slice A4 p.kids.length c4], .int .i64 er]) ∧
      DocIn w' w'.heap.size p (.int .i64 p.kind) (.int .i64 p.num) (.string p.str) (.slice A3 p.keys.length c3) (.slice A4 p.kids.length c4) ∧ Below W.heap.size W w') := by
  have h := (drop_v hf (by omega) hs hg (Nat.le_refl _) hd hp)
  rw [hr] at h
  refine h.mono fun e w' h' => ?_
  obtain ⟨v0, v1, v2, v3, v4, F, rfl, ho, _, hb1⟩ := h'
  obtain ⟨A3, c3, A4, c4, rfl, rfl, rfl, rfl, rfl⟩ := ho.doc.forms
  exact ⟨A3, c3, A4, c4, rfl, ho.doc, hb1⟩
def apartN (ps qs : List ByteArray) : Nat → Bool
  | 0 => false
  | k + 1 => apartN ps qs k || ((ps.getD k ByteArray.empty).toList != (qs.getD k ByteArray.empty).toList)
theorem apart_succ {ps qs : List ByteArray} {k : Nat} (h1 : k < ps.length) (h2 : k < qs.length) : apartN ps qs (k + 1) = (apartN ps qs k || (ps[k].toList != qs[k].toList)) := by
  simp [apartN, List.getD, List.getElem?_eq_getElem h1, List.getElem?_eq_getElem h2]
theorem apart_some {ps qs : List ByteArray} : ∀ k, k ≤ ps.length → k ≤ qs.length → apartN ps qs k = true → ∃ (i : Nat) (h : i < ps.length) (h2 : i < qs.length), ps[i] ≠ qs[i]
  | 0, _, _, h => by cases h
  | k + 1, h1, h2, h => by
    rw [apart_succ (by omega) (by omega)] at h
    rw [Bool.or_eq_true] at h
    rcases h with h | h
    · exact apart_some k (by omega) (by omega) h
    · exact ⟨k, by omega, by omega, fun e => by rw [e] at h; simp at h⟩
theorem same_refl (a : D) : D.same a a = true := by simp [D.same, D.cmp_ordered.refl a trivial]
theorem getV_of {d x : D} {ps : List ByteArray} (h : D.get d ps = some x) : getV d ps = (x, true) := by unfold getV; rw [h]
theorem getV_eq {d e : D} {ps : List ByteArray} (h : D.get d ps = D.get e ps) : getV d ps = getV e ps := by unfold getV; rw [h]
theorem get_fit : ∀ (ps : List ByteArray) (d x : D), d.Fit → D.get d ps = some x → x.Fit
  | [], d, x, hd, h => by
    simp only [D.get, D.locate, D.subAt, Option.bind_some, Option.some.injEq] at h
    rw [← h]; exact hd
  | s :: r, d, x, hd, h => by
    rw [get_kid] at h
    unfold kidAt at h
    cases hs : stepD d s with
    | none => rw [hs] at h; cases h
    | some i =>
      rw [hs] at h
      have hi := (step_lt hs).1
      simp only [Option.bind_some, List.getElem?_eq_getElem hi] at h
      exact get_fit r _ x (hd.kid hi) h
theorem get_fit2 {d x : D} {ps : List ByteArray} {is : Bool} (hd : d.Fit) (h : getV d ps = (x, is)) : x.Fit := by
  unfold getV at h
  cases hg : D.get d ps with
  | none => rw [hg] at h; injection h with e _; rw [← e]; simp only [D.zero, D.Fit, D.Fits]; decide
  | some y => rw [hg] at h; injection h with e _; rw [← e]; exact get_fit ps d y hd hg
theorem strs_on {w w' : World} {v : Value} {xs : List ByteArray} (h : Strs w w.heap.size v xs) (hb : Below w.heap.size w w') : Strs w' w'.heap.size v xs := (h.keep fun _ hp => hb.cell hp).more hb.size

set_option maxHeartbeats 4000000 in
set_option maxRecDepth 100000 in
theorem keeps_not (a b : D) (ps qs : List ByteArray) (PA QA : Option Addr) (pc qc : Nat) (A3 : Option Addr) (d3 : Nat) (A4 : Option Addr) (d4 : Nat) (B3 : Option Addr) (e3 : Nat) (B4 : Option Addr) (e4 : Nat) (w : World) (hg : Glob w) (ha : DocIn w w.heap.size a (.int .i64 a.kind) (.int .i64 a.num) (.string a.str) (.slice A3 a.keys.length d3) (.slice A4 a.kids.length d4)) (hb : DocIn w w.heap.size b (.int .i64 b.kind) (.int .i64 b.num) (.string b.str) (.slice B3 b.keys.length e3) (.slice B4 b.kids.length e4)) (x y : Bool) (FA : Hid (fewB a = x)) (FB : Hid (fewB b = y)) (hn : x = false ∨ y = false ∨ 20 < ps.length ∨ 20 < qs.length) :
    Calls Tryd.prog 3 #[(.agg #[.int .i64 a.kind, .int .i64 a.num, .string a.str, .slice A3 a.keys.length d3, .slice A4 a.kids.length d4]), (.agg #[.int .i64 b.kind, .int .i64 b.num, .string b.str, .slice B3 b.keys.length e3, .slice B4 b.kids.length e4]), .slice PA ps.length pc, .slice QA qs.length qc] w fun e w' => e = .returned (.bool true) ∧ Below w.heap.size w w' := by
  cases x <;> cases y
  case true.true =>
    by_cases h1 : 20 < ps.length
    · have g1 : decide ((20 : Int) < (ps.length : Int)) = true := decide_eq_true (by omega)
      clear h1 hn
      have HG := Lib.hid ((hg.alloc (.cells #[.int .i64 a.kind, .int .i64 a.num, .string a.str, .slice A3 a.keys.length d3, .slice A4 a.kids.length d4] 25)).alloc (.cells #[.int .i64 b.kind, .int .i64 b.num, .string b.str, .slice B3 b.keys.length e3, .slice B4 b.kids.length e4] 25))
      have T0 := Lib.hid (Two.start ha hb)
      clear ha hb hg
      go_enter Tryd.func3, Tryd.ntmps3
      go_wp2_with fail
      refine (small_v _ HG.out).mono ?_
      rintro e w1 ⟨rfl, h⟩
      have HG1 := Lib.hid (HG.out.below h HG.out.size)
      have T1 := Lib.hid (T0.out.next h)
      clear T0 HG h
      obtain ⟨q0, q1, q2, q3, q4⟩ := T1.out.ha.box.cells
      obtain ⟨r0, r1, r2, r3, r4⟩ := T1.out.hb.box.cells
      go_wp2_with fail
      refine (few_v (Nat.le_refl _) T1.out.ha.v).mono ?_
      rintro e w2 ⟨rfl, h⟩
      rw [FA.out]
      have HG2 := Lib.hid (HG1.out.below h HG1.out.size)
      have T2 := Lib.hid (T1.out.next h)
      clear q0 q1 q2 q3 q4 r0 r1 r2 r3 r4 T1 h HG1
      obtain ⟨q0, q1, q2, q3, q4⟩ := T2.out.ha.box.cells
      obtain ⟨r0, r1, r2, r3, r4⟩ := T2.out.hb.box.cells
      go_wp2_with fail
      refine (few_v (Nat.le_refl _) T2.out.hb.v).mono ?_
      rintro e w3 ⟨rfl, h⟩
      rw [FB.out]
      have HG3 := Lib.hid (HG2.out.below h HG2.out.size)
      have T3 := Lib.hid (T2.out.next h)
      clear q0 q1 q2 q3 q4 r0 r1 r2 r3 r4 T2 h HG2
      obtain ⟨q0, q1, q2, q3, q4⟩ := T3.out.ha.box.cells
      obtain ⟨r0, r1, r2, r3, r4⟩ := T3.out.hb.box.cells
      go_wp2_with fail
      go_ret
      exact ⟨rfl, T3.out.bl⟩
    · have h2 : 20 < qs.length := by simpa [h1] using hn
      have g1 : decide ((20 : Int) < (ps.length : Int)) = false := decide_eq_false (by omega)
      have g2 : decide ((20 : Int) < (qs.length : Int)) = true := decide_eq_true (by omega)
      clear h1 h2 hn
      have HG := Lib.hid ((hg.alloc (.cells #[.int .i64 a.kind, .int .i64 a.num, .string a.str, .slice A3 a.keys.length d3, .slice A4 a.kids.length d4] 25)).alloc (.cells #[.int .i64 b.kind, .int .i64 b.num, .string b.str, .slice B3 b.keys.length e3, .slice B4 b.kids.length e4] 25))
      have T0 := Lib.hid (Two.start ha hb)
      clear ha hb hg
      go_enter Tryd.func3, Tryd.ntmps3
      go_wp2_with fail
      refine (small_v _ HG.out).mono ?_
      rintro e w1 ⟨rfl, h⟩
      have HG1 := Lib.hid (HG.out.below h HG.out.size)
      have T1 := Lib.hid (T0.out.next h)
      clear T0 HG h
      obtain ⟨q0, q1, q2, q3, q4⟩ := T1.out.ha.box.cells
      obtain ⟨r0, r1, r2, r3, r4⟩ := T1.out.hb.box.cells
      go_wp2_with fail
      refine (few_v (Nat.le_refl _) T1.out.ha.v).mono ?_
      rintro e w2 ⟨rfl, h⟩
      rw [FA.out]
      have HG2 := Lib.hid (HG1.out.below h HG1.out.size)
      have T2 := Lib.hid (T1.out.next h)
      clear q0 q1 q2 q3 q4 r0 r1 r2 r3 r4 T1 h HG1
      obtain ⟨q0, q1, q2, q3, q4⟩ := T2.out.ha.box.cells
      obtain ⟨r0, r1, r2, r3, r4⟩ := T2.out.hb.box.cells
      go_wp2_with fail
      refine (few_v (Nat.le_refl _) T2.out.hb.v).mono ?_
      rintro e w3 ⟨rfl, h⟩
      rw [FB.out]
      have HG3 := Lib.hid (HG2.out.below h HG2.out.size)
      have T3 := Lib.hid (T2.out.next h)
      clear q0 q1 q2 q3 q4 r0 r1 r2 r3 r4 T2 h HG2
      obtain ⟨q0, q1, q2, q3, q4⟩ := T3.out.ha.box.cells
      obtain ⟨r0, r1, r2, r3, r4⟩ := T3.out.hb.box.cells
      go_wp2_with fail
      go_ret
      exact ⟨rfl, T3.out.bl⟩
  all_goals clear hn
  all_goals (
    have HG := Lib.hid ((hg.alloc (.cells #[.int .i64 a.kind, .int .i64 a.num, .string a.str, .slice A3 a.keys.length d3, .slice A4 a.kids.length d4] 25)).alloc (.cells #[.int .i64 b.kind, .int .i64 b.num, .string b.str, .slice B3 b.keys.length e3, .slice B4 b.kids.length e4] 25))
    have T0 := Lib.hid (Two.start ha hb)
    clear ha hb hg
    go_enter Tryd.func3, Tryd.ntmps3
    go_wp2_with fail
    refine (small_v _ HG.out).mono ?_
    rintro e w1 ⟨rfl, h⟩
    have HG1 := Lib.hid (HG.out.below h HG.out.size)
    have T1 := Lib.hid (T0.out.next h)
    clear T0 HG h
    obtain ⟨q0, q1, q2, q3, q4⟩ := T1.out.ha.box.cells
    obtain ⟨r0, r1, r2, r3, r4⟩ := T1.out.hb.box.cells
    go_wp2_with fail
    refine (few_v (Nat.le_refl _) T1.out.ha.v).mono ?_
    rintro e w2 ⟨rfl, h⟩
    rw [FA.out]
    have HG2 := Lib.hid (HG1.out.below h HG1.out.size)
    have T2 := Lib.hid (T1.out.next h)
    clear q0 q1 q2 q3 q4 r0 r1 r2 r3 r4 T1 h HG1
    obtain ⟨q0, q1, q2, q3, q4⟩ := T2.out.ha.box.cells
    obtain ⟨r0, r1, r2, r3, r4⟩ := T2.out.hb.box.cells
    go_wp2_with fail
    refine (few_v (Nat.le_refl _) T2.out.hb.v).mono ?_
    rintro e w3 ⟨rfl, h⟩
    rw [FB.out]
    have HG3 := Lib.hid (HG2.out.below h HG2.out.size)
    have T3 := Lib.hid (T2.out.next h)
    clear q0 q1 q2 q3 q4 r0 r1 r2 r3 r4 T2 h HG2
    obtain ⟨q0, q1, q2, q3, q4⟩ := T3.out.ha.box.cells
    obtain ⟨r0, r1, r2, r3, r4⟩ := T3.out.hb.box.cells
    go_wp2_with fail
    go_ret
    exact ⟨rfl, T3.out.bl⟩)

set_option maxHeartbeats 16000000 in
set_option maxRecDepth 100000 in
theorem keeps_yes (a b : D) (ps qs : List ByteArray) (PA QA : Option Addr) (pc qc : Nat) (A3 : Option Addr) (d3 : Nat) (A4 : Option Addr) (d4 : Nat) (B3 : Option Addr) (e3 : Nat) (B4 : Option Addr) (e4 : Nat) (w : World) (hg : Glob w) (ha : DocIn w w.heap.size a (.int .i64 a.kind) (.int .i64 a.num) (.string a.str) (.slice A3 a.keys.length d3) (.slice A4 a.kids.length d4)) (hb : DocIn w w.heap.size b (.int .i64 b.kind) (.int .i64 b.num) (.string b.str) (.slice B3 b.keys.length e3) (.slice B4 b.kids.length e4)) (hp : Strs w w.heap.size (.slice PA ps.length pc) ps) (hq : Strs w w.heap.size (.slice QA qs.length qc) qs) (FA : Hid (fewB a = true)) (FB : Hid (fewB b = true)) (hpl : ps.length ≤ 20) (hql : qs.length ≤ 20) (hps : ∀ s ∈ ps, Short s) (hqs : ∀ s ∈ qs, Short s) (p xa xb xc r : D) (er er2 : Int) (had has was : Bool) (hpv : putV a b ps = (p, er)) (hga : getV a qs = (xa, had)) (hgb : getV p qs = (xb, has)) (hgc : getV a ps = (xc, was)) (hdr : dropV a ps = (r, er2)) :
    Calls Tryd.prog 3 #[(.agg #[.int .i64 a.kind, .int .i64 a.num, .string a.str, .slice A3 a.keys.length d3, .slice A4 a.kids.length d4]), (.agg #[.int .i64 b.kind, .int .i64 b.num, .string b.str, .slice B3 b.keys.length e3, .slice B4 b.kids.length e4]), .slice PA ps.length pc, .slice QA qs.length qc] w fun e w' => e = .returned (.bool true) ∧ Below w.heap.size w w' := by
  have FPA := Lib.hid (few_is FA.out).fit.fit
  have FPB := Lib.hid (few_is FB.out).fit.fit
  have HPS := Lib.hid hps
  have HQS := Lib.hid hqs
  have HP := Lib.hid hp
  have HQ := Lib.hid hq
  have PV := Lib.hid hpv
  have GA := Lib.hid hga
  have GB := Lib.hid hgb
  have GC := Lib.hid hgc
  have DR := Lib.hid hdr
  have hl1 : decide ((20 : Int) < (ps.length : Int)) = false := by simp; omega
  have hl2 : decide ((20 : Int) < (qs.length : Int)) = false := by simp; omega
  clear hps hqs hp hq hpv hga hgb hgc hdr
  have HG := Lib.hid ((hg.alloc (.cells #[.int .i64 a.kind, .int .i64 a.num, .string a.str, .slice A3 a.keys.length d3, .slice A4 a.kids.length d4] 25)).alloc (.cells #[.int .i64 b.kind, .int .i64 b.num, .string b.str, .slice B3 b.keys.length e3, .slice B4 b.kids.length e4] 25))
  have T0 := Lib.hid (Two.start ha hb)
  clear ha hb hg
  go_enter Tryd.func3, Tryd.ntmps3
  go_wp2_with fail
  refine (small_v _ HG.out).mono ?_
  rintro e w1 ⟨rfl, h⟩
  have HG1 := Lib.hid (HG.out.below h HG.out.size)
  have T1 := Lib.hid (T0.out.next h)
  clear T0 HG h
  obtain ⟨q0, q1, q2, q3, q4⟩ := T1.out.ha.box.cells
  obtain ⟨r0, r1, r2, r3, r4⟩ := T1.out.hb.box.cells
  go_wp2_with fail
  refine (few_v (Nat.le_refl _) T1.out.ha.v).mono ?_
  rintro e w2 ⟨rfl, h⟩
  rw [FA.out]
  have HG2 := Lib.hid (HG1.out.below h HG1.out.size)
  have T2 := Lib.hid (T1.out.next h)
  clear q0 q1 q2 q3 q4 r0 r1 r2 r3 r4 T1 h HG1
  obtain ⟨q0, q1, q2, q3, q4⟩ := T2.out.ha.box.cells
  obtain ⟨r0, r1, r2, r3, r4⟩ := T2.out.hb.box.cells
  go_wp2_with fail
  refine (few_v (Nat.le_refl _) T2.out.hb.v).mono ?_
  rintro e w3 ⟨rfl, h⟩
  rw [FB.out]
  have HG3 := Lib.hid (HG2.out.below h HG2.out.size)
  have T3 := Lib.hid (T2.out.next h)
  clear q0 q1 q2 q3 q4 r0 r1 r2 r3 r4 T2 h HG2
  obtain ⟨q0, q1, q2, q3, q4⟩ := T3.out.ha.box.cells
  obtain ⟨r0, r1, r2, r3, r4⟩ := T3.out.hb.box.cells
  go_wp2_with fail
  refine (putP FPA.out FPB.out hpl HPS.out HG3.out T3.out.ha.v T3.out.hb.v (strs_on HP.out T3.out.bl) PV.out).mono ?_
  rintro e w4 ⟨P3, g3, P4, g4, rfl, hput, h⟩
  have HG4 := Lib.hid (HG3.out.below h HG3.out.size)
  have T4 := Lib.hid (T3.out.next h)
  have HR := Lib.hid (Held.new hput)
  clear q0 q1 q2 q3 q4 r0 r1 r2 r3 r4 T3 h HG3 hput
  have hn : ∀ o : Obj, Below w4.heap.size w4 (w4.alloc o) := fun o => (Below.refl _ _).alloc (Nat.le_refl _) o
  have T5 := Lib.hid (T4.out.next (hn (.cells #[.int .i64 p.kind, .int .i64 p.num, .string p.str, .slice P3 p.keys.length g3, .slice P4 p.kids.length g4] 25)))
  have HG5 := Lib.hid (HG4.out.alloc (.cells #[.int .i64 p.kind, .int .i64 p.num, .string p.str, .slice P3 p.keys.length g3, .slice P4 p.kids.length g4] 25))
  clear T4 HG4 hn
  obtain ⟨p0, p1, p2, p3, p4⟩ := HR.out.box.cells
  by_cases h0 : er = 0
  · subst h0
    obtain ⟨hra, hrb, hput⟩ := (putV_ok PV.out).2 rfl
    have GOT := Lib.hid (put_got (right_part hra) hput)
    have FPP := Lib.hid (put_fit FPB.out ps a p (few_is FA.out).fit hput)
    have PUT := Lib.hid hput
    have RA := Lib.hid hra
    clear hput hra hrb
    go_wp2_with fail
    refine (getP FPP.out hpl HPS.out HG5.out HR.out.v (strs_on HP.out T5.out.bl) (getV_of GOT.out)).mono ?_
    rintro e w6 ⟨Y3, y3, Y4, y4, rfl, hgot, h⟩
    have HG6 := Lib.hid (HG5.out.below h HG5.out.size)
    have T6 := Lib.hid (T5.out.next h)
    have HR6 := Lib.hid (HR.out.next h)
    have HY := Lib.hid (Held.new hgot)
    clear T5 HR HG5 h hgot p0 p1 p2 p3 p4
    have hn : ∀ o : Obj, Below w6.heap.size w6 (w6.alloc o) := fun o => (Below.refl _ _).alloc (Nat.le_refl _) o
    have T7 := Lib.hid (T6.out.next (hn (.cells #[.int .i64 b.kind, .int .i64 b.num, .string b.str, .slice Y3 b.keys.length y3, .slice Y4 b.kids.length y4] 25)))
    have HR7 := Lib.hid (HR6.out.next (hn (.cells #[.int .i64 b.kind, .int .i64 b.num, .string b.str, .slice Y3 b.keys.length y3, .slice Y4 b.kids.length y4] 25)))
    have HG7 := Lib.hid (HG6.out.alloc (.cells #[.int .i64 b.kind, .int .i64 b.num, .string b.str, .slice Y3 b.keys.length y3, .slice Y4 b.kids.length y4] 25))
    obtain ⟨r0, r1, r2, r3, r4⟩ := T6.out.hb.box.cells
    have z1 := T6.out.hb.lt
    clear T6 HR6 HG6 hn
    go_wp2_with fail
    refine (same_v FPB.out FPB.out (Nat.le_refl _) T7.out.hb.v HY.out.v).mono ?_
    rintro e w8 ⟨rfl, h⟩
    rw [same_refl]
    have HG8 := Lib.hid (HG7.out.below h HG7.out.size)
    have T8 := Lib.hid (T7.out.next h)
    have HR8 := Lib.hid (HR7.out.next h)
    clear T7 HR7 HG7 HY h r0 r1 r2 r3 r4 z1
    have SP := Lib.hid (strs_on HP.out T8.out.bl)
    have SQ := Lib.hid (strs_on HQ.out T8.out.bl)
    go_wp2_with fail
    go_loopw [16, 17] (fun t i wr => ∃ k : Nat, k ≤ ps.length ∧ k ≤ qs.length ∧ i = .int .i64 k ∧ t = .bool (apartN ps qs k) ∧ Below w8.heap.size w8 wr) (fun _ i _ => ps.length - (intOf i).toNat)
    case atStart => exact ⟨0, Nat.zero_le _, Nat.zero_le _, rfl, rfl, Below.refl _ _⟩
    case round =>
      obtain ⟨k, hk1, hk2, rfl, rfl, hb⟩ := hrel
      by_cases hlt : k < ps.length ∧ k < qs.length
      · obtain ⟨hlt1, hlt2⟩ := hlt
        obtain ⟨_, _, e1, _, h1⟩ := strs_on SP.out hb
        obtain ⟨pb, po, e2, hpb, hpc⟩ := h1 (by omega)
        obtain ⟨_, _, e3, _, h2⟩ := strs_on SQ.out hb
        obtain ⟨qb, qo, e4, hqb, hqc⟩ := h2 (by omega)
        injection e1 with e1 _ e1c; injection e3 with e3 _ e3c
        subst e1; subst e3; subst e2; subst e4; subst e1c; subst e3c
        have cp := hpc k hlt1
        have cq := hqc k hlt2
        have hA := Lib.hid (apart_succ (ps := ps) (qs := qs) hlt1 hlt2)
        have HB := Lib.hid hb
        clear h1 h2 hpc hqc hb
        cases hap : apartN ps qs k
        case true =>
          go_wp2_with fail
          go_quiet (fail)
          go_wp2_with fail
          go_roundw
          case rel => exact ⟨k + 1, by omega, by omega, by go_num, by rw [hA.out, hap]; rfl, below_dr HB.out _⟩
          case measure => simp [intOf]; omega
        case false =>
          cases hne : (ps[k].toList == qs[k].toList)
          all_goals have hne2 : (ps[k].toList != qs[k].toList) = _ := congrArg (fun b => !b) hne
          all_goals
            go_wp2_with fail
            go_quiet (fail)
            go_wp2_with fail
            go_roundw
            case rel => exact ⟨k + 1, by omega, by omega, by go_num, by rw [hA.out, hap, hne2]; rfl, below_dr HB.out _⟩
            case measure => simp [intOf]; omega
      · have TR := Lib.hid (T8.out.next hb)
        have HRR := Lib.hid (HR8.out.next hb)
        have HGR := Lib.hid (HG8.out.below hb HG8.out.size)
        have hex : ¬ k < ps.length ∨ (k < ps.length ∧ ¬ k < qs.length) := by omega
        have APT := Lib.hid (apart_some (ps := ps) (qs := qs) k hk1 hk2)
        obtain ⟨q0, q1, q2, q3, q4⟩ := TR.out.ha.box.cells
        obtain ⟨p0, p1, p2, p3, p4⟩ := HRR.out.box.cells
        clear hlt hb
        cases hap : apartN ps qs k
        case false =>
          rcases hex with h | ⟨h, h'⟩
          all_goals

            have HP9 := Lib.hid (strs_on HP.out TR.out.bl)
            have HQ9 := Lib.hid (strs_on HQ.out TR.out.bl)
            go_wp2_with fail
            refine (getP FPA.out hql HQS.out HGR.out TR.out.ha.v HQ9.out GA.out).mono ?_
            rintro e w9 ⟨X3, x3, X4, x4, rfl, hga, h⟩
            have HG9 := Lib.hid (HGR.out.below h HGR.out.size)
            have T9 := Lib.hid (TR.out.next h)
            have HR9 := Lib.hid (HRR.out.next h)
            have HX := Lib.hid (Held.new hga)
            clear TR HRR HGR h hga q0 q1 q2 q3 q4 p0 p1 p2 p3 p4 HP9 HQ9
            have hn : ∀ o : Obj, Below w9.heap.size w9 (w9.alloc o) := fun o => (Below.refl _ _).alloc (Nat.le_refl _) o
            have T10 := Lib.hid (T9.out.next (hn (.cells #[.int .i64 xa.kind, .int .i64 xa.num, .string xa.str, .slice X3 xa.keys.length x3, .slice X4 xa.kids.length x4] 25)))
            have HR10 := Lib.hid (HR9.out.next (hn (.cells #[.int .i64 xa.kind, .int .i64 xa.num, .string xa.str, .slice X3 xa.keys.length x3, .slice X4 xa.kids.length x4] 25)))
            have HG10 := Lib.hid (HG9.out.alloc (.cells #[.int .i64 xa.kind, .int .i64 xa.num, .string xa.str, .slice X3 xa.keys.length x3, .slice X4 xa.kids.length x4] 25))
            obtain ⟨p0, p1, p2, p3, p4⟩ := HR9.out.box.cells
            have z1 := HR9.out.lt
            clear T9 HR9 HG9 hn
            go_wp2_with fail
            refine (getP FPP.out hql HQS.out HG10.out HR10.out.v (strs_on HQ.out T10.out.bl) GB.out).mono ?_
            rintro e w11 ⟨Z3, y3', Z4, y4', rfl, hgb, h⟩
            have HG11 := Lib.hid (HG10.out.below h HG10.out.size)
            have T11 := Lib.hid (T10.out.next h)
            have HX11 := Lib.hid (HX.out.next h)
            have HZ := Lib.hid (Held.new hgb)
            clear T10 HR10 HG10 HX h hgb p0 p1 p2 p3 p4 z1
            have hn : ∀ o : Obj, Below w11.heap.size w11 (w11.alloc o) := fun o => (Below.refl _ _).alloc (Nat.le_refl _) o
            have T12 := Lib.hid (T11.out.next (hn (.cells #[.int .i64 xb.kind, .int .i64 xb.num, .string xb.str, .slice Z3 xb.keys.length y3', .slice Z4 xb.kids.length y4'] 25)))
            have HX12 := Lib.hid (HX11.out.next (hn (.cells #[.int .i64 xb.kind, .int .i64 xb.num, .string xb.str, .slice Z3 xb.keys.length y3', .slice Z4 xb.kids.length y4'] 25)))
            have HG12 := Lib.hid (HG11.out.alloc (.cells #[.int .i64 xb.kind, .int .i64 xb.num, .string xb.str, .slice Z3 xb.keys.length y3', .slice Z4 xb.kids.length y4'] 25))
            obtain ⟨r0, r1, r2, r3, r4⟩ := HX11.out.box.cells
            obtain ⟨q0, q1, q2, q3, q4⟩ := T11.out.ha.box.cells
            have z1 := HX11.out.lt
            have z2 := T11.out.ha.lt
            clear T11 HX11 HG11 hn
            have T13 := T12
            have HG13 := HG12
            clear T12 HX12 HG12 HZ r0 r1 r2 r3 r4

            go_wp2_with fail
            refine (getP FPA.out hpl HPS.out HG13.out T13.out.ha.v (strs_on HP.out T13.out.bl) GC.out).mono ?_
            rintro e w14 ⟨C3, k3, C4, k4, rfl, hgc, h⟩
            have HG14 := Lib.hid (HG13.out.below h HG13.out.size)
            have T14 := Lib.hid (T13.out.next h)
            clear T13 HG13 h hgc
            have hn : ∀ o : Obj, Below w14.heap.size w14 (w14.alloc o) := fun o => (Below.refl _ _).alloc (Nat.le_refl _) o
            have T15 := Lib.hid (T14.out.next (hn (.cells #[.int .i64 xc.kind, .int .i64 xc.num, .string xc.str, .slice C3 xc.keys.length k3, .slice C4 xc.kids.length k4] 25)))
            have HG15 := Lib.hid (HG14.out.alloc (.cells #[.int .i64 xc.kind, .int .i64 xc.num, .string xc.str, .slice C3 xc.keys.length k3, .slice C4 xc.kids.length k4] 25))
            obtain ⟨q0', q1', q2', q3', q4'⟩ := T14.out.ha.box.cells
            have z3 := T14.out.ha.lt
            clear T14 HG14 hn
            go_wp2_with fail
            refine (dropP FPA.out hpl HPS.out HG15.out T15.out.ha.v (strs_on HP.out T15.out.bl) DR.out).mono ?_
            rintro e w16 ⟨E3, n3, E4, n4, rfl, hdr, h⟩
            have T16 := Lib.hid (T15.out.next h)
            have HD := Lib.hid (Held.new hdr)
            clear T15 HG15 h hdr q0' q1' q2' q3' q4' z3
            have hn : ∀ o : Obj, Below w16.heap.size w16 (w16.alloc o) := fun o => (Below.refl _ _).alloc (Nat.le_refl _) o
            have T17 := Lib.hid (T16.out.next (hn (.cells #[.int .i64 r.kind, .int .i64 r.num, .string r.str, .slice E3 r.keys.length n3, .slice E4 r.kids.length n4] 25)))
            have hz := T16.out.bl.size
            clear T16 hn
            obtain ⟨hk1', hk2'⟩ := dropV_ok RA.out DR.out
            rw [GC.out] at hk1'
            simp only at hk1'
            by_cases hf0 : er2 = 0
            · subst hf0
              have hlt' := hk2' rfl
              rw [decide_eq_true rfl] at hk1'
              obtain ⟨hwas, hlen⟩ := Bool.and_eq_true_iff.1 hk1'.symm
              subst hwas
              have hlen' : decide ((0 : Int) < (ps.length : Int)) = true := decide_eq_true (by have := of_decide_eq_true hlen; omega)
              have hlN : 0 < ps.length := of_decide_eq_true hlen
              have hlI : (0 : Int) < (ps.length : Int) := by omega
              have hlD : decide (0 < ps.length) = true := hlen
              have hsa : a.size ≤ 10000 := by have := (few_is FA.out).size; omega
              have hsr : r.size ≤ 10000 := by omega
              have hless : decide ((r.size : Int) < (a.size : Int)) = true := decide_eq_true (by omega)
              clear hk1' hk2' hlen
              go_wp2_with fail
              obtain ⟨w17, hw17⟩ : ∃ w17, w17 = w16.alloc (.cells #[.int .i64 r.kind, .int .i64 r.num, .string r.str, .slice E3 r.keys.length n3, .slice E4 r.kids.length n4] 25) := ⟨_, rfl⟩
              rw [← hw17]
              rw [← hw17] at T17 HD
              clear hw17 hz
              have CSR : Hid (∀ wq : World, Below w17.heap.size w17 wq → Calls Tryd.prog 10 #[(.agg #[.int .i64 r.kind, .int .i64 r.num, .string r.str, .slice E3 r.keys.length n3, .slice E4 r.kids.length n4])] wq fun e w'' => e = .returned (.int .i64 (r.size : Nat)) ∧ Below w17.heap.size w17 w'') := fun wq hq => (size_any r.depth r _ _ _ _ _ _ w17.heap.size (Nat.le_refl _) hsr hq.size (HD.out.doc.keep (Nat.le_refl _) fun p hp => hq.cell (p := p) hp)).mono fun e w'' h => ⟨h.1, hq.trans (h.2.mono hq.size)⟩
              have CSA : Hid (∀ wq : World, Below w17.heap.size w17 wq → Calls Tryd.prog 10 #[(.agg #[.int .i64 a.kind, .int .i64 a.num, .string a.str, .slice A3 a.keys.length d3, .slice A4 a.kids.length d4])] wq fun e w'' => e = .returned (.int .i64 (a.size : Nat)) ∧ Below w17.heap.size w17 w'') := fun wq hq => (size_any a.depth a _ _ _ _ _ _ w17.heap.size (Nat.le_refl _) hsa hq.size (T17.out.ha.doc.keep (Nat.le_refl _) fun p hp => hq.cell (p := p) hp)).mono fun e w'' h => ⟨h.1, hq.trans (h.2.mono hq.size)⟩
              refine wp_region_quiet (C := fun w' => Below w17.heap.size w17 w') (by kernel_rfl) (by kernel_rfl) ((Below.refl _ _).drew) ?_
              dsimp only
              repeat (first
                  | go_big_quiet_skip
                  | (go_big_quiet_want; go_big_quiet_op; go_big_quiet_on)
                  | (go_big_quiet_want; refine ⟨(.agg #[.int .i64 r.kind, .int .i64 r.num, .string r.str, .slice E3 r.keys.length n3, .slice E4 r.kids.length n4]), fun wq hq => ?_, ?_⟩
                     · (obtain ⟨q0, q1, q2, q3, q4⟩ := (HD.out.next hq).box.cells; go_simp; done)
                     (simp only [Act.put, List.setIfInBounds_toArray, List.set_cons_zero, List.set_cons_succ])
                     go_big_quiet_on)
                  | (go_big_quiet_want; refine ⟨(.agg #[.int .i64 a.kind, .int .i64 a.num, .string a.str, .slice A3 a.keys.length d3, .slice A4 a.kids.length d4]), fun wq hq => ?_, ?_⟩
                     · (obtain ⟨q0, q1, q2, q3, q4⟩ := (T17.out.next hq).ha.box.cells; go_simp; done)
                     (simp only [Act.put, List.setIfInBounds_toArray, List.set_cons_zero, List.set_cons_succ])
                     go_big_quiet_on)
                  | (go_big_quiet_want; go_big_quiet_op; apply Exists.intro; refine ⟨fun _ _ => rfl, ?_⟩; go_big_quiet_on)
                  | (go_big_quiet_want; go_big_quiet_op; apply Exists.intro; refine ⟨fun wq hq => ?_, ?_⟩
                     · (first
                          | (go_at_call 10; with_reducible exact CSR.out wq hq)
                          | (go_at_call 10; with_reducible exact CSA.out wq hq))
                     go_big_quiet_on))
              refine wpQuiet_nil ?_
              intro wq hq
              go_wp2_with fail
              go_ret
              exact ⟨rfl, T17.out.bl.trans (hq.mono T17.out.bl.size)⟩
            · have hf1 : (er2 == 0) = false := by simpa using hf0
              have hf2 : (er2 != 0) = true := by simpa using hf0
              rw [decide_eq_false hf0] at hk1'
              clear hf0 hk2'
              cases hwas : was
              all_goals (
                rw [hwas] at hk1'
                simp only [Bool.false_and, Bool.true_and] at hk1')
              · go_wp2_with fail
                go_quiet (fail)
                go_wp2_with fail
                go_ret
                exact ⟨rfl, below_dr T17.out.bl _⟩
              · have hlen' : decide ((0 : Int) < (ps.length : Int)) = false := decide_eq_false (by have := of_decide_eq_false hk1'.symm; omega)
                have hlD := Lib.hid hk1'.symm
                clear hk1'
                go_wp2_with fail
                have hlE := hlD.out
                have hlN : ¬ 0 < ps.length := of_decide_eq_false hlD.out
                go_quiet (fail)
                go_wp2_with fail
                go_ret
                exact ⟨rfl, below_dr T17.out.bl _⟩
        case true =>
          have HE := (getV_eq (put_apart (right_part RA.out) PUT.out (APT.out hap))).symm
          rw [GA.out, GB.out] at HE
          injection HE with HE1 HE2
          subst HE1; subst HE2
          have FXA := Lib.hid (get_fit2 FPA.out GA.out)
          rcases hex with h | ⟨h, h'⟩
          all_goals

            have HP9 := Lib.hid (strs_on HP.out TR.out.bl)
            have HQ9 := Lib.hid (strs_on HQ.out TR.out.bl)
            go_wp2_with fail
            refine (getP FPA.out hql HQS.out HGR.out TR.out.ha.v HQ9.out GA.out).mono ?_
            rintro e w9 ⟨X3, x3, X4, x4, rfl, hga, h⟩
            have HG9 := Lib.hid (HGR.out.below h HGR.out.size)
            have T9 := Lib.hid (TR.out.next h)
            have HR9 := Lib.hid (HRR.out.next h)
            have HX := Lib.hid (Held.new hga)
            clear TR HRR HGR h hga q0 q1 q2 q3 q4 p0 p1 p2 p3 p4 HP9 HQ9
            have hn : ∀ o : Obj, Below w9.heap.size w9 (w9.alloc o) := fun o => (Below.refl _ _).alloc (Nat.le_refl _) o
            have T10 := Lib.hid (T9.out.next (hn (.cells #[.int .i64 xa.kind, .int .i64 xa.num, .string xa.str, .slice X3 xa.keys.length x3, .slice X4 xa.kids.length x4] 25)))
            have HR10 := Lib.hid (HR9.out.next (hn (.cells #[.int .i64 xa.kind, .int .i64 xa.num, .string xa.str, .slice X3 xa.keys.length x3, .slice X4 xa.kids.length x4] 25)))
            have HG10 := Lib.hid (HG9.out.alloc (.cells #[.int .i64 xa.kind, .int .i64 xa.num, .string xa.str, .slice X3 xa.keys.length x3, .slice X4 xa.kids.length x4] 25))
            obtain ⟨p0, p1, p2, p3, p4⟩ := HR9.out.box.cells
            have z1 := HR9.out.lt
            clear T9 HR9 HG9 hn
            go_wp2_with fail
            refine (getP FPP.out hql HQS.out HG10.out HR10.out.v (strs_on HQ.out T10.out.bl) GB.out).mono ?_
            rintro e w11 ⟨Z3, y3', Z4, y4', rfl, hgb, h⟩
            have HG11 := Lib.hid (HG10.out.below h HG10.out.size)
            have T11 := Lib.hid (T10.out.next h)
            have HX11 := Lib.hid (HX.out.next h)
            have HZ := Lib.hid (Held.new hgb)
            clear T10 HR10 HG10 HX h hgb p0 p1 p2 p3 p4 z1
            have hn : ∀ o : Obj, Below w11.heap.size w11 (w11.alloc o) := fun o => (Below.refl _ _).alloc (Nat.le_refl _) o
            have T12 := Lib.hid (T11.out.next (hn (.cells #[.int .i64 xa.kind, .int .i64 xa.num, .string xa.str, .slice Z3 xa.keys.length y3', .slice Z4 xa.kids.length y4'] 25)))
            have HX12 := Lib.hid (HX11.out.next (hn (.cells #[.int .i64 xa.kind, .int .i64 xa.num, .string xa.str, .slice Z3 xa.keys.length y3', .slice Z4 xa.kids.length y4'] 25)))
            have HG12 := Lib.hid (HG11.out.alloc (.cells #[.int .i64 xa.kind, .int .i64 xa.num, .string xa.str, .slice Z3 xa.keys.length y3', .slice Z4 xa.kids.length y4'] 25))
            obtain ⟨r0, r1, r2, r3, r4⟩ := HX11.out.box.cells
            obtain ⟨q0, q1, q2, q3, q4⟩ := T11.out.ha.box.cells
            have z1 := HX11.out.lt
            have z2 := T11.out.ha.lt
            clear T11 HX11 HG11 hn
            go_wp2_with fail
            refine (same_v FXA.out FXA.out (Nat.le_refl _) HX12.out.v HZ.out.v).mono ?_
            rintro e w13 ⟨rfl, h⟩
            rw [same_refl]
            have HG13 := Lib.hid (HG12.out.below h HG12.out.size)
            have T13 := Lib.hid (T12.out.next h)
            clear T12 HX12 HG12 HZ h r0 r1 r2 r3 r4 q0 q1 q2 q3 q4 z1 z2
            obtain ⟨q0, q1, q2, q3, q4⟩ := T13.out.ha.box.cells

            go_wp2_with fail
            refine (getP FPA.out hpl HPS.out HG13.out T13.out.ha.v (strs_on HP.out T13.out.bl) GC.out).mono ?_
            rintro e w14 ⟨C3, k3, C4, k4, rfl, hgc, h⟩
            have HG14 := Lib.hid (HG13.out.below h HG13.out.size)
            have T14 := Lib.hid (T13.out.next h)
            clear T13 HG13 h hgc
            have hn : ∀ o : Obj, Below w14.heap.size w14 (w14.alloc o) := fun o => (Below.refl _ _).alloc (Nat.le_refl _) o
            have T15 := Lib.hid (T14.out.next (hn (.cells #[.int .i64 xc.kind, .int .i64 xc.num, .string xc.str, .slice C3 xc.keys.length k3, .slice C4 xc.kids.length k4] 25)))
            have HG15 := Lib.hid (HG14.out.alloc (.cells #[.int .i64 xc.kind, .int .i64 xc.num, .string xc.str, .slice C3 xc.keys.length k3, .slice C4 xc.kids.length k4] 25))
            obtain ⟨q0', q1', q2', q3', q4'⟩ := T14.out.ha.box.cells
            have z3 := T14.out.ha.lt
            clear T14 HG14 hn
            go_wp2_with fail
            refine (dropP FPA.out hpl HPS.out HG15.out T15.out.ha.v (strs_on HP.out T15.out.bl) DR.out).mono ?_
            rintro e w16 ⟨E3, n3, E4, n4, rfl, hdr, h⟩
            have T16 := Lib.hid (T15.out.next h)
            have HD := Lib.hid (Held.new hdr)
            clear T15 HG15 h hdr q0' q1' q2' q3' q4' z3
            have hn : ∀ o : Obj, Below w16.heap.size w16 (w16.alloc o) := fun o => (Below.refl _ _).alloc (Nat.le_refl _) o
            have T17 := Lib.hid (T16.out.next (hn (.cells #[.int .i64 r.kind, .int .i64 r.num, .string r.str, .slice E3 r.keys.length n3, .slice E4 r.kids.length n4] 25)))
            have hz := T16.out.bl.size
            clear T16 hn
            obtain ⟨hk1', hk2'⟩ := dropV_ok RA.out DR.out
            rw [GC.out] at hk1'
            simp only at hk1'
            by_cases hf0 : er2 = 0
            · subst hf0
              have hlt' := hk2' rfl
              rw [decide_eq_true rfl] at hk1'
              obtain ⟨hwas, hlen⟩ := Bool.and_eq_true_iff.1 hk1'.symm
              subst hwas
              have hlen' : decide ((0 : Int) < (ps.length : Int)) = true := decide_eq_true (by have := of_decide_eq_true hlen; omega)
              have hlN : 0 < ps.length := of_decide_eq_true hlen
              have hlI : (0 : Int) < (ps.length : Int) := by omega
              have hlD : decide (0 < ps.length) = true := hlen
              have hsa : a.size ≤ 10000 := by have := (few_is FA.out).size; omega
              have hsr : r.size ≤ 10000 := by omega
              have hless : decide ((r.size : Int) < (a.size : Int)) = true := decide_eq_true (by omega)
              clear hk1' hk2' hlen
              go_wp2_with fail
              obtain ⟨w17, hw17⟩ : ∃ w17, w17 = w16.alloc (.cells #[.int .i64 r.kind, .int .i64 r.num, .string r.str, .slice E3 r.keys.length n3, .slice E4 r.kids.length n4] 25) := ⟨_, rfl⟩
              rw [← hw17]
              rw [← hw17] at T17 HD
              clear hw17 hz
              have CSR : Hid (∀ wq : World, Below w17.heap.size w17 wq → Calls Tryd.prog 10 #[(.agg #[.int .i64 r.kind, .int .i64 r.num, .string r.str, .slice E3 r.keys.length n3, .slice E4 r.kids.length n4])] wq fun e w'' => e = .returned (.int .i64 (r.size : Nat)) ∧ Below w17.heap.size w17 w'') := fun wq hq => (size_any r.depth r _ _ _ _ _ _ w17.heap.size (Nat.le_refl _) hsr hq.size (HD.out.doc.keep (Nat.le_refl _) fun p hp => hq.cell (p := p) hp)).mono fun e w'' h => ⟨h.1, hq.trans (h.2.mono hq.size)⟩
              have CSA : Hid (∀ wq : World, Below w17.heap.size w17 wq → Calls Tryd.prog 10 #[(.agg #[.int .i64 a.kind, .int .i64 a.num, .string a.str, .slice A3 a.keys.length d3, .slice A4 a.kids.length d4])] wq fun e w'' => e = .returned (.int .i64 (a.size : Nat)) ∧ Below w17.heap.size w17 w'') := fun wq hq => (size_any a.depth a _ _ _ _ _ _ w17.heap.size (Nat.le_refl _) hsa hq.size (T17.out.ha.doc.keep (Nat.le_refl _) fun p hp => hq.cell (p := p) hp)).mono fun e w'' h => ⟨h.1, hq.trans (h.2.mono hq.size)⟩
              refine wp_region_quiet (C := fun w' => Below w17.heap.size w17 w') (by kernel_rfl) (by kernel_rfl) ((Below.refl _ _).drew) ?_
              dsimp only
              repeat (first
                  | go_big_quiet_skip
                  | (go_big_quiet_want; go_big_quiet_op; go_big_quiet_on)
                  | (go_big_quiet_want; refine ⟨(.agg #[.int .i64 r.kind, .int .i64 r.num, .string r.str, .slice E3 r.keys.length n3, .slice E4 r.kids.length n4]), fun wq hq => ?_, ?_⟩
                     · (obtain ⟨q0, q1, q2, q3, q4⟩ := (HD.out.next hq).box.cells; go_simp; done)
                     (simp only [Act.put, List.setIfInBounds_toArray, List.set_cons_zero, List.set_cons_succ])
                     go_big_quiet_on)
                  | (go_big_quiet_want; refine ⟨(.agg #[.int .i64 a.kind, .int .i64 a.num, .string a.str, .slice A3 a.keys.length d3, .slice A4 a.kids.length d4]), fun wq hq => ?_, ?_⟩
                     · (obtain ⟨q0, q1, q2, q3, q4⟩ := (T17.out.next hq).ha.box.cells; go_simp; done)
                     (simp only [Act.put, List.setIfInBounds_toArray, List.set_cons_zero, List.set_cons_succ])
                     go_big_quiet_on)
                  | (go_big_quiet_want; go_big_quiet_op; apply Exists.intro; refine ⟨fun _ _ => rfl, ?_⟩; go_big_quiet_on)
                  | (go_big_quiet_want; go_big_quiet_op; apply Exists.intro; refine ⟨fun wq hq => ?_, ?_⟩
                     · (first
                          | (go_at_call 10; with_reducible exact CSR.out wq hq)
                          | (go_at_call 10; with_reducible exact CSA.out wq hq))
                     go_big_quiet_on))
              refine wpQuiet_nil ?_
              intro wq hq
              go_wp2_with fail
              go_ret
              exact ⟨rfl, T17.out.bl.trans (hq.mono T17.out.bl.size)⟩
            · have hf1 : (er2 == 0) = false := by simpa using hf0
              have hf2 : (er2 != 0) = true := by simpa using hf0
              rw [decide_eq_false hf0] at hk1'
              clear hf0 hk2'
              cases hwas : was
              all_goals (
                rw [hwas] at hk1'
                simp only [Bool.false_and, Bool.true_and] at hk1')
              · go_wp2_with fail
                go_quiet (fail)
                go_wp2_with fail
                go_ret
                exact ⟨rfl, below_dr T17.out.bl _⟩
              · have hlen' : decide ((0 : Int) < (ps.length : Int)) = false := decide_eq_false (by have := of_decide_eq_false hk1'.symm; omega)
                have hlD := Lib.hid hk1'.symm
                clear hk1'
                go_wp2_with fail
                have hlE := hlD.out
                have hlN : ¬ 0 < ps.length := of_decide_eq_false hlD.out
                go_quiet (fail)
                go_wp2_with fail
                go_ret
                exact ⟨rfl, below_dr T17.out.bl _⟩

  · have hz : p = D.zero := (putV_ok PV.out).1 h0
    have g0 : (er != 0) = true := by simp [h0]
    subst hz
    clear h0
    go_wp2_with fail
    go_ret
    exact ⟨rfl, T5.out.bl⟩
end Go.Proofs.YtpohbabdoiennaaDoor
