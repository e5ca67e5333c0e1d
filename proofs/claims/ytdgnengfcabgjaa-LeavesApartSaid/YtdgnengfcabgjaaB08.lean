/-
  slices.Equal at strings; leaves.begins.
  The document that leaves tell, as leaves.grown makes it: plain facts.
-/
import Derived.Test.YtdgnengfcabgjaaB07
import Derived.Deep.QuietTactic
import Derived.BigQuiet
import Derived.BigRegion
import Derived.Test.YtdgnengfcabgjaaB04
namespace Go.Proofs.Ytdgnengfcabgjaa
open Go.RowKit

theorem drewN_two (w : World) (n m : Nat) : (w.drewN n).drewN m = w.drewN (n + m) := by simp [World.drewN, Nat.add_assoc]
theorem eq_rest {xs ys : List ByteArray} (hl : xs.length = ys.length) {k : Nat} (h : k < xs.length) : (xs.drop k = ys.drop k) ↔ (xs[k] = ys[k]'(by omega) ∧ xs.drop (k + 1) = ys.drop (k + 1)) := by
  rw [List.drop_eq_getElem_cons h, List.drop_eq_getElem_cons (by omega : k < ys.length)]
  exact ⟨fun h => by injection h with a b; exact ⟨a, b⟩, fun h => by rw [h.1, h.2]⟩
set_option maxHeartbeats 1000000 in
theorem sequal_any (xs ys : List ByteArray) (v u : Value) (B : Nat) (w : World) (hv : Strs w B v xs) (hu : Strs w B u ys) (hx : xs.length ≤ 10000) :
    Calls Try.prog 47 #[v, u] w fun e w' => e = .returned (.bool (decide (xs = ys))) ∧ ∃ n, w' = w.drewN n := by
  obtain ⟨A, c, rfl, hxc, hxs⟩ := hv
  obtain ⟨A', c', rfl, hyc, hys⟩ := hu
  have HX := Lib.hid hxs; clear hxs
  have HY := Lib.hid hys; clear hys
  clear hxc hyc
  by_cases hl : xs.length = ys.length
  · obtain ⟨N, hN⟩ : ∃ N, N = xs.length := ⟨_, rfl⟩
    rw [show ys.length = N by omega, ← hN]
    have HL := Lib.hid hl; have HN := Lib.hid hN
    have hx2 : N ≤ 10000 := by omega
    clear hl hN hx
    go_enter Try.func47, Try.ntmps47
    go_wp2_with fail
    go_loopw [13] (fun i wr => ∃ (k n : Nat), k ≤ N ∧ i = .int .i64 k ∧ Hid (wr = w.drewN n) ∧ Hid (xs = ys ↔ xs.drop k = ys.drop k)) (fun i _ => N - (intOf i).toNat)
    case atStart => exact ⟨0, 0, Nat.zero_le _, rfl, Lib.hid rfl, Lib.hid Iff.rfl⟩
    case round =>
      obtain ⟨k, n, hk, rfl, HW, HR⟩ := hrel
      by_cases hlt : k < N
      · have hkx : k < xs.length := HN.out ▸ hlt
        have hky : k < ys.length := HL.out ▸ hkx
        obtain ⟨b, off, rfl, _, hcx⟩ := HX.out (Nat.lt_of_le_of_lt (Nat.zero_le _) hkx)
        obtain ⟨b', off', rfl, _, hcy⟩ := HY.out (Nat.lt_of_le_of_lt (Nat.zero_le _) hky)
        have gx := hcx k hkx
        have gy := hcy k hky
        clear hcx hcy
        have hlti : (k : Int) < (N : Int) := by omega
        obtain rfl := HW.out
        by_cases hs : xs[k] = ys[k]
        · have HR2 := Lib.hid (HR.out.trans ((eq_rest HL.out hkx).trans ⟨fun h => h.2, fun h => ⟨hs, h⟩⟩))
          have hq : (xs[k].toList == (ys[k]'hky).toList) = true := by rw [hs]; simp
          clear HR hs
          go_wp2_with fail
          go_quiet (fail)
          go_wp2_with fail
          go_roundw
          case rel => exact ⟨k + 1, _, by omega, by first | rfl | go_num, Lib.hid rfl, HR2⟩
          case measure => simp [intOf]; omega
        · have HR2 := Lib.hid (show decide (xs = ys) = false from decide_eq_false fun h => hs ((eq_rest HL.out hkx).1 (HR.out.1 h)).1)
          have hq : (xs[k].toList == (ys[k]'hky).toList) = false := scmp_ne fun h => hs ((scmp_ordered.eq _ _ trivial trivial).1 h)
          clear HR hs
          go_wp2_with fail
          go_quiet (fail)
          go_wp2_with fail
          go_ret
          exact ⟨by rw [HR2.out]; rfl, _, drewN_two w n _⟩
      · have hlti : ¬ (k : Int) < (N : Int) := by omega
        have HR2 := Lib.hid (show decide (xs = ys) = true from decide_eq_true (HR.out.2 (by have h1 := HN.out; have h2 := HL.out; rw [List.drop_eq_nil_of_le (by omega), List.drop_eq_nil_of_le (by omega)])))
        obtain rfl := HW.out
        clear HR
        go_wp2_with fail
        go_ret
        exact ⟨by rw [HR2.out]; rfl, _, rfl⟩
  · have hne := Lib.hid (show decide (xs = ys) = false from decide_eq_false fun h => hl (by rw [h]))
    have hli : ¬ (xs.length : Int) = (ys.length : Int) := by omega
    go_enter Try.func47, Try.ntmps47
    go_wp2_with fail
    go_ret
    exact ⟨by rw [hne.out]; rfl, 0, rfl⟩
theorem Strs.take {w : World} {B : Nat} {A : Option Addr} {p : List ByteArray} {n c : Nat} (h : Strs w B (.slice A n c) p) (k : Nat) (hk : k ≤ p.length) : Strs w B (.slice A k c) (p.take k) := by
  obtain ⟨A', c', e, hl, h1⟩ := h
  injection e with e1 e2 e3
  subst e1; subst e3
  have hlen : (p.take k).length = k := by rw [List.length_take]; omega
  refine ⟨A, c, by rw [hlen], by omega, fun h0 => ?_⟩
  obtain ⟨b, off, eA, hb, hc⟩ := h1 (by omega)
  exact ⟨b, off, eA, hb, fun i hi => by rw [hc i (by omega)]; simp⟩
/-- Does a path begin with another one? -/
def begs (p q : List ByteArray) : Bool := decide (q.length ≤ p.length) && decide (p.take q.length = q)
set_option maxHeartbeats 1000000 in
theorem begins_any (p q : List ByteArray) (v u : Value) (B : Nat) (w : World) (hv : Strs w B v p) (hu : Strs w B u q) (hy : q.length ≤ 10000) :
    Calls Try.prog 58 #[v, u] w fun e w' => e = .returned (.bool (begs p q)) ∧ ∃ n, w' = w.drewN n := by
  obtain ⟨A, c, rfl, hxc, hxs⟩ := id hv
  obtain ⟨A', c', rfl, hyc, hys⟩ := id hu
  clear hxs hys
  by_cases hl : q.length ≤ p.length
  · have HC := Lib.hid (sequal_any (p.take q.length) q _ _ B w (hv.take q.length hl) hu (by rw [List.length_take]; omega))
    have hb : begs p q = decide (p.take q.length = q) := by simp [begs, hl]
    rw [hb]
    have hli : (q.length : Int) ≤ (p.length : Int) := by omega
    have hc2 : q.length ≤ c := by omega
    clear hv hu hb
    go_enter Try.func58, Try.ntmps58
    go_wp2_with (go_at_call 47; refine HC.out.mono ?_; rintro e w' ⟨rfl, n, rfl⟩)
    go_ret
    exact ⟨rfl, n, rfl⟩
  · have hb : begs p q = false := by simp [begs, hl]
    rw [hb]
    have hli : ¬ (q.length : Int) ≤ (p.length : Int) := by omega
    clear hv hu hb
    go_enter Try.func58, Try.ntmps58
    go_wp2_with fail
    go_ret
    exact ⟨rfl, 0, rfl⟩
end Go.Proofs.Ytdgnengfcabgjaa
namespace Go.Proofs.Ytdgnengfcabgjaa

/-- The row is at its end, or goes on at a place that is no deeper. -/
def Stop (dep : Nat) (l : List Lf) : Prop := ∀ x r, l = x :: r → x.path.length ≤ dep
/-- A leaf's document with these keys and kids behind its own. -/
def D.plus (d : D) (ks : List ByteArray) (ds : List D) : D := .mk d.kind d.num d.str (d.keys ++ ks) (d.kids ++ ds)
theorem D.plus_nil (d : D) : d.plus [] [] = d := by obtain ⟨_, _, _, _, _⟩ := d; simp [D.plus, D.kind, D.num, D.str, D.keys, D.kids]
/-- So far: of the row l these keys and kids of a document at depth dep are made, and the row r is left. -/
inductive Gr : Nat → List Lf → List ByteArray → List D → List Lf → Prop
  | refl (dep : Nat) (l : List Lf) : Gr dep l [] [] l
  | kid {dep : Nat} {x : Lf} {r r1 r2 : List Lf} {ks ks2 : List ByteArray} {ds ds2 : List D} (h : dep < x.path.length) (hk : Gr x.path.length r ks ds r1) (hs : Stop x.path.length r1) (hr : Gr dep r1 ks2 ds2 r2) :
      Gr dep (x :: r) (x.path[dep] :: ks2) (x.doc.plus ks ds :: ds2) r2
theorem Gr.snoc {dep : Nat} {l r : List Lf} {ks : List ByteArray} {ds : List D} (h : Gr dep l ks ds r) : ∀ {x : Lf} {r1 r2 : List Lf} {ks' : List ByteArray} {ds' : List D}, r = x :: r1 → (hd : dep < x.path.length) → Gr x.path.length r1 ks' ds' r2 → Stop x.path.length r2 →
    Gr dep l (ks ++ [x.path[dep]]) (ds ++ [x.doc.plus ks' ds']) r2 := by
  induction h with
  | refl dep l => intro x r1 r2 ks' ds' e hd hk hs; subst e; exact .kid hd hk hs (.refl _ _)
  | kid h hk hs hr _ ih2 => intro x r1 r2 ks' ds' e hd hk' hs'; exact .kid h hk hs (ih2 e hd hk' hs')
theorem Gr.len {dep : Nat} {l r : List Lf} {ks : List ByteArray} {ds : List D} (h : Gr dep l ks ds r) : ks.length = ds.length ∧ r.length + ks.length ≤ l.length := by
  induction h with
  | refl => simp
  | kid h hk hs hr ih1 ih2 => simp only [List.length_cons]; omega
/-- The same as a function: so many leaves at most. -/
def growF : Nat → Nat → List Lf → (List ByteArray × List D) × List Lf
  | 0, _, l => (([], []), l)
  | _ + 1, _, [] => (([], []), [])
  | n + 1, dep, x :: r =>
    if h : dep < x.path.length then
      let k := growF n x.path.length r
      let m := growF n dep k.2
      ((x.path[dep] :: m.1.1, x.doc.plus k.1.1 k.1.2 :: m.1.2), m.2)
    else (([], []), x :: r)
theorem Gr.fn {dep : Nat} {l r : List Lf} {ks : List ByteArray} {ds : List D} (h : Gr dep l ks ds r) : Stop dep r → ∀ n, l.length ≤ n → growF n dep l = ((ks, ds), r) := by
  induction h with
  | refl dep l =>
    intro hs n hn
    cases l with
    | nil => cases n <;> rfl
    | cons x r =>
      cases n with
      | zero => simp at hn
      | succ n =>
        have := hs x r rfl
        rw [growF, dif_neg (by omega)]
  | kid h hk hs hr ih1 ih2 =>
    intro hst n hn
    have := hk.len
    cases n with
    | zero => simp at hn
    | succ n =>
      simp only [List.length_cons] at hn
      rw [growF, dif_pos h, ih1 hs n (by omega)]
      simp only
      rw [ih2 hst n (by omega)]
/-- The document of a row that is not empty. -/
def grownD (l : List Lf) : D :=
  match l with
  | [] => .mk 0 0 ⟨#[]⟩ [] []
  | x :: r => x.doc.plus (growF r.length x.path.length r).1.1 (growF r.length x.path.length r).1.2
theorem grownD_of {x : Lf} {r rest : List Lf} {ks : List ByteArray} {ds : List D} (h : Gr x.path.length r ks ds rest) (hs : Stop x.path.length rest) : grownD (x :: r) = x.doc.plus ks ds := by
  rw [grownD, h.fn hs r.length (Nat.le_refl _)]
/-- Some leaf's home, or the root, is not there: the row is sorted. -/
def missK (p : List ByteArray) : List Lf → Bool
  | [] => false
  | x :: r => !(begs p (x.path.take (x.path.length - 1))) || missK x.path r
def missL (l : List Lf) : Bool :=
  match l with
  | [] => true
  | x :: r => decide (0 < x.path.length) || missK x.path r
end Go.Proofs.Ytdgnengfcabgjaa
