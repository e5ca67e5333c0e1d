/-
  schema.Right.
-/
import Derived.Test.YtnjmknofojjlmaaDoorTSound
namespace Go.Proofs.YtnjmknofojjlmaaDoor
open Go.RowKit

mutual
/-- Are all parts right, but for how great the type is? -/
def allT : T → Bool
  | .mk k lo hi ns f l => soundT (.mk k lo hi ns f l) && (allF f && allL l)
def allF : List F → Bool
  | [] => true
  | f :: r => allF1 f && allF r
def allF1 : F → Bool
  | .mk _ _ t => allT t
def allL : List T → Bool
  | [] => true
  | t :: r => allT t && allL r
end
theorem allL_append : ∀ a b : List T, allL (a ++ b) = (allL a && allL b)
  | [], b => by simp [allL]
  | t :: r, b => by simp [allL, allL_append r b, Bool.and_assoc]
theorem allF1_eq (f : F) : allF1 f = allT f.type := by obtain ⟨_, _, _⟩ := f; rfl
theorem allF_eq : ∀ l : List F, allF l = allL (l.map F.type)
  | [] => rfl
  | f :: r => by simp only [allF, List.map_cons, allL, allF_eq r, allF1_eq]
theorem allT_eq (t : T) : allT t = (soundT t && allL t.kids) := by
  obtain ⟨_, _, _, _, _, _⟩ := t
  simp only [allT, T.kids, T.fields, T.of, allL_append, allF_eq]
theorem kids_sizes (t : T) : t.size = T.sizes t.kids + 1 := by rw [T.size_eq]; simp only [T.kids, T.sizes_append]
theorem kids_depths (t : T) : t.depth = T.depths t.kids + 1 := by rw [T.depth_eq]; simp only [T.kids, T.depths_append]
/-- schema.Right. -/
def rightT (t : T) : Bool := decide (t.size ≤ 128) && (decide (t.depth ≤ 12) && allT t)

def rightStep (n : Int) (t : T) (d : Nat) : Int × Bool := (n + 1, decide (n + 1 ≤ 128) && (decide (d ≤ 12) && soundT t))
/-- No deeper, no more parts than these, and all right. -/
def okP (n : Int) (t : T) (d : Nat) : Prop := n + t.size ≤ 128 ∧ d + t.depth ≤ 13 ∧ allT t = true
theorem goT_right (m : Nat) : ∀ (n : Int) (t : T) (d : Nat), t.depth ≤ m → (okP n t d → goT rightStep m n t d = (n + t.size, true)) ∧ (¬ okP n t d → (goT rightStep m n t d).2 = false) := by
  induction m with
  | zero => intro n t d h; have := t.depth_pos; omega
  | succ m ih =>
    intro n t d h
    have key : ∀ (l : List T) (n : Int), (∀ x ∈ l, x.depth ≤ m) → ((n + T.sizes l ≤ 128 ∨ l = []) ∧ (d + 1 + T.depths l ≤ 13 ∨ l = []) ∧ allL l = true → walkL (fun n t => goT rightStep m n t (d + 1)) n l = (n + T.sizes l, true)) ∧
        (¬ ((n + T.sizes l ≤ 128 ∨ l = []) ∧ (d + 1 + T.depths l ≤ 13 ∨ l = []) ∧ allL l = true) → (walkL (fun n t => goT rightStep m n t (d + 1)) n l).2 = false) := by
      intro l
      induction l with
      | nil => intro n _; simp [walkL, T.sizes, allL]
      | cons x r ihl =>
        intro n hx
        have hxd := hx x (by simp)
        have hxp := x.depth_pos
        have hxs := x.size_pos
        obtain ⟨i1, i2⟩ := ih n x (d + 1) hxd
        by_cases hk : okP n x (d + 1)
        · have e := i1 hk
          obtain ⟨j1, j2⟩ := ihl (n + x.size) fun y hy => hx y (by simp [hy])
          have ew : walkL (fun n t => goT rightStep m n t (d + 1)) n (x :: r) = walkL (fun n t => goT rightStep m n t (d + 1)) (n + x.size) r := by simp only [walkL]; rw [e]; simp
          obtain ⟨k1, k2, k3⟩ := hk
          constructor
          · rintro ⟨h1, h2, h3⟩
            have h1 : n + T.sizes (x :: r) ≤ 128 := by rcases h1 with h1 | h1; exact h1; cases h1
            have h2 : d + 1 + T.depths (x :: r) ≤ 13 := by rcases h2 with h2 | h2; exact h2; cases h2
            simp only [T.sizes, T.depths, allL, Bool.and_eq_true] at h1 h2 h3
            rw [ew, j1 ⟨.inl (by omega), .inl (by omega), h3.2⟩]
            simp only [T.sizes]; simp; omega
          · intro hn
            rw [ew]
            apply j2
            rintro ⟨h1, h2, h3⟩
            apply hn
            refine ⟨.inl ?_, .inl ?_, ?_⟩
            · simp only [T.sizes]
              rcases h1 with h1 | rfl
              · simp; omega
              · simp [T.sizes]; omega
            · simp only [T.depths]
              rcases h2 with h2 | rfl
              · omega
              · simp [T.depths]; omega
            · simp only [allL, k3, h3]; rfl
        · have e := i2 hk
          have ew : (walkL (fun n t => goT rightStep m n t (d + 1)) n (x :: r)).2 = false := by simp only [walkL]; rw [e]; simp
          constructor
          · rintro ⟨h1, h2, h3⟩
            exfalso
            have h1 : n + T.sizes (x :: r) ≤ 128 := by rcases h1 with h1 | h1; exact h1; cases h1
            have h2 : d + 1 + T.depths (x :: r) ≤ 13 := by rcases h2 with h2 | h2; exact h2; cases h2
            simp only [T.sizes, T.depths, allL, Bool.and_eq_true] at h1 h2 h3
            exact hk ⟨by omega, by omega, h3.1⟩
          · intro _; exact ew
    have hkd : ∀ x ∈ t.kids, x.depth ≤ m := by
      intro x hx
      rw [kids_depths] at h
      obtain ⟨i, hi, rfl⟩ := List.mem_iff_getElem.1 hx; have := T.depth_le_depths hi; omega
    have hs := kids_sizes t
    have hd := kids_depths t
    obtain ⟨k1, k2⟩ := key t.kids (n + 1) hkd
    by_cases hst : (rightStep n t d).2 = true
    · have hg : goT rightStep (m + 1) n t d = walkL (fun n t => goT rightStep m n t (d + 1)) (n + 1) t.kids := by
        show (if (rightStep n t d).2 = true then _ else _) = _
        rw [if_pos hst]; rfl
      simp only [rightStep, Bool.and_eq_true, decide_eq_true_eq] at hst
      constructor
      · rintro ⟨h1, h2, h3⟩
        rw [allT_eq, Bool.and_eq_true] at h3
        rw [hg, k1 ⟨.inl (by omega), .inl (by omega), h3.2⟩]
        simp; omega
      · intro hn
        rw [hg]
        apply k2
        rintro ⟨h1, h2, h3⟩
        apply hn
        refine ⟨?_, ?_, by rw [allT_eq, hst.2.2, h3]; rfl⟩
        · rcases h1 with h1 | h1
          · omega
          · rw [h1] at hs; simp [T.sizes] at hs; omega
        · rcases h2 with h2 | h2
          · omega
          · rw [h2] at hd; simp [T.depths] at hd; omega
    · have hg : goT rightStep (m + 1) n t d = ((rightStep n t d).1, false) := by
        show (if (rightStep n t d).2 = true then _ else _) = _
        rw [if_neg hst]
      constructor
      · rintro ⟨h1, h2, h3⟩
        exfalso; apply hst
        rw [allT_eq, Bool.and_eq_true] at h3
        have := t.size_pos; have := t.depth_pos
        simp only [rightStep, Bool.and_eq_true, decide_eq_true_eq]
        exact ⟨by omega, by omega, h3.1⟩
      · intro _; rw [hg]
theorem goT_rightT (m : Nat) (t : T) (h : t.depth ≤ m) : (goT rightStep m 0 t 1).2 = rightT t := by
  obtain ⟨h1, h2⟩ := goT_right m 0 t 1 h
  have e : okP 0 t 1 ↔ rightT t = true := by
    unfold okP rightT; simp only [Bool.and_eq_true, decide_eq_true_eq]
    constructor
    · rintro ⟨a, b, c⟩; exact ⟨by omega, by omega, c⟩
    · rintro ⟨a, b, c⟩; exact ⟨by omega, by omega, c⟩
  by_cases hk : okP 0 t 1
  · rw [h1 hk, e.1 hk]
  · rw [h2 hk]
    cases hr : rightT t with
    | false => rfl
    | true => exact absurd (e.2 hr) hk
set_option maxHeartbeats 2000000 in
theorem sees_right (c B : Nat) (hBc : B ≤ c) : Sees rightStep 21 c B := by
  intro n t d b o w hn h0 h1 hd hf hb ht
  have HN := Lib.hid hn
  have e1 := hn.cell
  have e2 := hn.frozen
  have hcl := hn.lt
  have HF := Lib.hid hf; have HT := Lib.hid ht
  have hs1 : IntKind.i64.wrap (n + 1) = n + 1 := IntWalk.i64_in _ (by omega)
  clear hn hf ht
  by_cases g1 : n + 1 ≤ 128
  · by_cases g2 : d ≤ 12
    · have g2' : (d : Int) ≤ 12 := by omega
      have E := Lib.hid (show rightStep n t d = (n + 1, soundT t) by simp only [rightStep, g1, g2]; simp)
      have HN2 := Lib.hid (HN.out.set (n + 1))
      have HT2 : Hid (TypeAt (w.setCell ⟨c, 0, none⟩ (.int .i64 (n + 1))) B b o t) := HT.out.keep (Nat.le_refl _) (fun p hp => ((But.refl c w).setCell 0 (.int .i64 (n + 1))).cell (by omega) (by omega)) hb
      go_enter Tryd.func21, Tryd.ntmps21
      go_wp2_with fail
      refine (tsound_any (B := B) HF.out (by simp [World.setCell]; omega) HT2.out).mono ?_
      rintro e w1 ⟨rfl, hb1⟩
      have hz : (w.setCell ⟨c, 0, none⟩ (.int .i64 (n + 1))).heap.size = w.heap.size := by simp [World.setCell]
      have HB1 : Hid (But c w w1) := ((But.refl c w).setCell 0 (.int .i64 (n + 1))).trans (But.of_below hb1)
      have HN3 : Hid (Num w1 c (n + 1)) := HN2.out.same (hb1.block c (by rw [hz]; exact hcl))
      clear hb1 e1 e2 hz
      go_wp2_with fail
      go_ret
      rw [E.out]
      exact ⟨rfl, HN3.out, HB1.out⟩
    · have g2' : decide ((d : Int) ≤ 12) = false := decide_eq_false (by omega)
      have E := Lib.hid (show rightStep n t d = (n + 1, false) by simp only [rightStep, g1, g2]; simp)
      go_enter Tryd.func21, Tryd.ntmps21
      go_wp2_with fail
      go_ret
      rw [E.out]
      exact ⟨rfl, HN.out.set (n + 1), (But.refl c w).setCell 0 (.int .i64 (n + 1))⟩
  · have g1' : decide (n + 1 ≤ 128) = false := decide_eq_false g1
    have E := Lib.hid (show rightStep n t d = (n + 1, false) by simp only [rightStep, g1]; simp)
    go_enter Tryd.func21, Tryd.ntmps21
    go_wp2_with fail
    go_ret
    rw [E.out]
    exact ⟨rfl, HN.out.set (n + 1), (But.refl c w).setCell 0 (.int .i64 (n + 1))⟩
set_option maxHeartbeats 1000000 in
theorem tright_any {t : T} {v : Value} {w : World} {B : Nat} (hs : t.size ≤ 10000) (hd : t.depth ≤ 900) (hf : t.Fit) (hB : B ≤ w.heap.size) (ht : TypeV w B t v) :
    Calls Tryd.prog 6 #[v] w fun e w' => e = .returned (.bool (rightT t)) ∧ Below w.heap.size w w' := by
  obtain ⟨v0, v1, v2, v3, v4, v5, rfl, hin⟩ := ht
  have hat := boxed_at hB hin
  obtain ⟨A3, d3, A4, d4, A5, d5, rfl, rfl, rfl, rfl, rfl, rfl⟩ := hin.forms
  have HA := Lib.hid hat
  have hmf : ∀ (fn : Fn) (first cap : Array Value) (w : World), (Instr.makeFunc fn first cap).run Tryd.prog w = .ok (.func fn first cap) w := fun _ _ _ _ => rfl
  clear hin hat
  go_enter Tryd.func6, Tryd.ntmps6
  go_wp2_with fail
  have hat2 := TypeAt.keep (B' := w.heap.size + 1) (Nat.le_refl _) (fun p hp => World.cell?_alloc_lt (w.alloc (.cells #[.int .i64 t.kind, .int .i64 t.lo, .int .i64 t.hi, .slice A3 t.names.length d3, .slice A4 t.fields.length d4, .slice A5 t.of.length d5] 26)) (.cells #[.int .i64 0] 3) p (by simp; omega)) (Nat.lt_succ_self _) HA.out
  have hnum : Num ((w.alloc (.cells #[.int .i64 t.kind, .int .i64 t.lo, .int .i64 t.hi, .slice A3 t.names.length d3, .slice A4 t.fields.length d4, .slice A5 t.of.length d5] 26)).alloc (.cells #[.int .i64 0] 3)) (w.heap.size + 1) 0 := by have := num_new (w.alloc (.cells #[.int .i64 t.kind, .int .i64 t.lo, .int .i64 t.hi, .slice A3 t.names.length d3, .slice A4 t.fields.length d4, .slice A5 t.of.length d5] 26)) 0; rwa [World.size_alloc] at this
  refine (over_any (enters_of Tryd.func21 (by kernel_rfl) rfl) (sees_right _ (w.heap.size + 1) (Nat.le_refl _)) (fun n t d h0 h1 => by simp only [rightStep]; omega) (Nat.le_refl _) t.depth 0 t w.heap.size 0 _ (Nat.le_refl _) hnum (by omega) (by omega) hs hd hf (by omega) hat2).mono ?_
  rintro e w1 ⟨rfl, -, hb1⟩
  rw [goT_rightT _ _ (Nat.le_refl _)]
  have HB1 : Hid (Below w.heap.size w w1) := (((Below.refl _ _).alloc (Nat.le_refl _) _).alloc (by simp) _).trans (hb1.below (by omega) (by simp; omega))
  clear hb1 hat2 hnum
  go_wp2_with fail
  go_ret
  exact ⟨rfl, HB1.out⟩
end Go.Proofs.YtnjmknofojjlmaaDoor
