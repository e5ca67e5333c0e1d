/-
  leaves.Less and leaves.byPath.
  
-/
import Derived.Test.YtdgnengfcabgjaaB07
import Derived.Test.YtdgnengfcabgjaaB03
import Derived.Deep.QuietTactic
import Derived.BigQuiet
import Derived.Test.YtdgnengfcabgjaaB02
namespace Go.Proofs.Ytdgnengfcabgjaa
open Go.RowKit

theorem lless_any (p q : List ByteArray) (v u : Value) (B : Nat) (w : World) (hv : Strs w B v p) (hu : Strs w B u q) (hx : p.length ≤ 10000) (hy : q.length ≤ 10000) :
    Calls Try.prog 24 #[v, u] w fun e w' => e = .returned (.int .i64 (kcmp p q)) ∧ w' = w := by
  have HC := Lib.hid (kcmp_any' p q v u B w hv hu hx hy)
  clear hv hu
  go_enter Try.func24, Try.ntmps24
  go_wp2_with (go_at_call 52; refine HC.out.mono ?_; rintro e w' ⟨rfl, rfl⟩)
  go_ret
  exact ⟨rfl, rfl⟩
theorem byPath_any (p q : List ByteArray) (v0 v1 v2 v3 v4 v5 u0 u1 u2 u3 u4 u5 : Value) (B : Nat) (w : World) (hB : B ≤ w.heap.size) (hv : Strs w B v0 p) (hu : Strs w B u0 q) (hx : p.length ≤ 10000) (hy : q.length ≤ 10000) :
    Calls Try.prog 41 #[.agg #[v0, v1, v2, v3, v4, v5], .agg #[u0, u1, u2, u3, u4, u5]] w fun e w' => e = .returned (.int .i64 (kcmp p q)) ∧
      w' = (w.alloc (.cells #[v0, v1, v2, v3, v4, v5] 42)).alloc (.cells #[u0, u1, u2, u3, u4, u5] 42) := by
  have hb : Below w.heap.size w ((w.alloc (.cells #[v0, v1, v2, v3, v4, v5] 42)).alloc (.cells #[u0, u1, u2, u3, u4, u5] 42)) := ((Below.refl _ w).alloc (Nat.le_refl _) _).alloc (by simp) _
  have HC := Lib.hid (lless_any p q v0 u0 B _ (hv.keep fun _ h => hb.cell (Nat.lt_of_lt_of_le h hB)) (hu.keep fun _ h => hb.cell (Nat.lt_of_lt_of_le h hB)) hx hy)
  have ha := (Box6.new w v0 v1 v2 v3 v4 v5).cells.1
  have ha2 : ((w.alloc (.cells #[v0, v1, v2, v3, v4, v5] 42)).alloc (.cells #[u0, u1, u2, u3, u4, u5] 42)).cell? ⟨w.heap.size, 0, none⟩ = some v0 := (((Below.refl (w.heap.size + 1) (w.alloc (.cells #[v0, v1, v2, v3, v4, v5] 42))).alloc (by simp) _).cell (p := ⟨w.heap.size, 0, none⟩) (by simp)).trans ha
  have hb2 : ((w.alloc (.cells #[v0, v1, v2, v3, v4, v5] 42)).alloc (.cells #[u0, u1, u2, u3, u4, u5] 42)).cell? ⟨w.heap.size + 1, 0, none⟩ = some u0 := by
    have := (Box6.new (w.alloc (.cells #[v0, v1, v2, v3, v4, v5] 42)) u0 u1 u2 u3 u4 u5).cells.1
    rwa [World.size_alloc] at this
  clear hv hu hb ha
  go_enter Try.func41, Try.ntmps41
  go_wp2_with (go_at_call 24; refine HC.out.mono ?_; rintro e w' ⟨rfl, rfl⟩)
  go_ret
  exact ⟨rfl, rfl⟩
end Go.Proofs.Ytdgnengfcabgjaa
namespace Go.Proofs.Ytdgnengfcabgjaa
open Go.RowKit

theorem compare_v {d d' : D} {v u : Value} {w : World} {B : Nat} (hf : d.Fit) (hf' : d'.Fit) (hB : B ≤ w.heap.size) (hd : DocV w B d v) (hd' : DocV w B d' u) :
    Calls Try.prog 54 #[v, u] w fun e w' => e = .returned (.int .i64 (D.cmp d d')) ∧ Below w.heap.size w w' := by
  obtain ⟨v0, v1, v2, v3, v4, rfl, hd⟩ := hd
  obtain ⟨u0, u1, u2, u3, u4, rfl, hd'⟩ := hd'
  exact compare_any d.depth d d' v0 v1 v2 v3 v4 u0 u1 u2 u3 u4 w B (Nat.le_refl _) hf hf' hB hd hd'

set_option maxHeartbeats 400000 in
theorem same_v {d d' : D} {v u : Value} {w : World} {B : Nat} (hf : d.Fit) (hf' : d'.Fit) (hB : B ≤ w.heap.size) (hd : DocV w B d v) (hd' : DocV w B d' u) :
    Calls Try.prog 27 #[v, u] w fun e w' => e = .returned (.bool (D.same d d')) ∧ Below w.heap.size w w' := by
  have HV := Lib.hid hd; have HU := Lib.hid hd'
  obtain ⟨v0, v1, v2, v3, v4, rfl, hd⟩ := hd
  obtain ⟨u0, u1, u2, u3, u4, rfl, hd'⟩ := hd'
  obtain ⟨A3, c3, A4, c4, rfl, rfl, rfl, rfl, rfl⟩ := hd.forms
  obtain ⟨A3', c3', A4', c4', rfl, rfl, rfl, rfl, rfl⟩ := hd'.forms
  clear hd hd'
  go_enter Try.func27, Try.ntmps27
  go_wp2_with fail
  refine (compare_v hf hf' (B := B) (by simp; omega) (HV.out.keep (Nat.le_refl _) fun p hp => (World.cell?_alloc_lt (w.alloc _) _ p (by simp; omega)).trans (World.cell?_alloc_lt w _ p (by omega))) (HU.out.keep (Nat.le_refl _) fun p hp => (World.cell?_alloc_lt (w.alloc _) _ p (by simp; omega)).trans (World.cell?_alloc_lt w _ p (by omega)))).mono ?_
  rintro e w1 ⟨rfl, hb1⟩
  go_wp2_with fail
  all_goals (go_ret; refine ⟨ret_bool ?_, (((Below.refl _ _).alloc (Nat.le_refl _) _).alloc (by simp) _).trans (hb1.mono (by simp; omega))⟩)
  all_goals (rw [Bool.eq_iff_iff]; simp [D.same])

theorem D.depths_take_succ (l : List D) (k : Nat) (h : k < l.length) : D.depths (l.take (k + 1)) = max (D.depths (l.take k)) (l[k]).depth := by
  have app : ∀ a b : List D, D.depths (a ++ b) = max (D.depths a) (D.depths b) := by
    intro a
    induction a with
    | nil => intro b; simp [D.depths]
    | cons x a ih => intro b; simp only [List.cons_append, D.depths, ih]; omega
  rw [List.take_succ_eq_append_getElem h, app]; simp [D.depths]
theorem D.depths_take_le (l : List D) (k : Nat) : D.depths (l.take k) ≤ D.depths l := by
  induction l generalizing k with
  | nil => simp [D.depths]
  | cons x l ih =>
    cases k with
    | zero => simp [D.depths]
    | succ k => simp only [List.take_succ_cons, D.depths]; have := ih k; omega
end Go.Proofs.Ytdgnengfcabgjaa
