/-
  schema.Right.
  schema.Field, behind: slices.IndexFunc over fields.
  Types that lie in given blocks: as TypeIn, over a set of blocks. And rows of cells that hold them.
  The document's own Size and Depth of types: as the program's.
-/
import Derived.Test.YtlemlgllkcgigaaGreatDoorF04
import Derived.Test.YtlemlgllkcgigaaGreatDoorF02
namespace Go.Proofs.YtlemlgllkcgigaaGreatDoor
open Go.RowKit

mutual
/-- Are all parts right, but for how great the type is? -/
def allT : T → Bool
  | .mk k lo hi ns f l => soundT (.mk k lo hi ns f l) && (allF f && allL l)
def allF : List F → Bool
  | [] => true
  | f :: r => allF1 f && allF r
def allF1 : F → Bool
  | .mk _ _ t => allT t
def allL : List T → Bool
  | [] => true
  | t :: r => allT t && allL r
end
theorem allL_append : ∀ a b : List T, allL (a ++ b) = (allL a && allL b)
  | [], b => by simp [allL]
  | t :: r, b => by simp [allL, allL_append r b, Bool.and_assoc]
theorem allF1_eq (f : F) : allF1 f = allT f.type := by obtain ⟨_, _, _⟩ := f; rfl
theorem allF_eq : ∀ l : List F, allF l = allL (l.map F.type)
  | [] => rfl
  | f :: r => by simp only [allF, List.map_cons, allL, allF_eq r, allF1_eq]
theorem allT_eq (t : T) : allT t = (soundT t && allL t.kids) := by
  obtain ⟨_, _, _, _, _, _⟩ := t
  simp only [allT, T.kids, T.fields, T.of, allL_append, allF_eq]
theorem kids_sizes (t : T) : t.size = T.sizes t.kids + 1 := by rw [T.size_eq]; simp only [T.kids, T.sizes_append]
theorem kids_depths (t : T) : t.depth = T.depths t.kids + 1 := by rw [T.depth_eq]; simp only [T.kids, T.depths_append]
/-- schema.Right. -/
def rightT (t : T) : Bool := decide (t.size ≤ 128) && (decide (t.depth ≤ 12) && allT t)

def rightStep (n : Int) (t : T) (d : Nat) : Int × Bool := (n + 1, decide (n + 1 ≤ 128) && (decide (d ≤ 12) && soundT t))
/-- No deeper, no more parts than these, and all right. -/
def okP (n : Int) (t : T) (d : Nat) : Prop := n + t.size ≤ 128 ∧ d + t.depth ≤ 13 ∧ allT t = true
theorem goT_right (m : Nat) : ∀ (n : Int) (t : T) (d : Nat), t.depth ≤ m → (okP n t d → goT rightStep m n t d = (n + t.size, true)) ∧ (¬ okP n t d → (goT rightStep m n t d).2 = false) := by
  induction m with
  | zero => intro n t d h; have := t.depth_pos; omega
  | succ m ih =>
    intro n t d h
    have key : ∀ (l : List T) (n : Int), (∀ x ∈ l, x.depth ≤ m) → ((n + T.sizes l ≤ 128 ∨ l = []) ∧ (d + 1 + T.depths l ≤ 13 ∨ l = []) ∧ allL l = true → walkL (fun n t => goT rightStep m n t (d + 1)) n l = (n + T.sizes l, true)) ∧
        (¬ ((n + T.sizes l ≤ 128 ∨ l = []) ∧ (d + 1 + T.depths l ≤ 13 ∨ l = []) ∧ allL l = true) → (walkL (fun n t => goT rightStep m n t (d + 1)) n l).2 = false) := by
      intro l
      induction l with
      | nil => intro n _; simp [walkL, T.sizes, allL]
      | cons x r ihl =>
        intro n hx
        have hxd := hx x (by simp)
        have hxp := x.depth_pos
        have hxs := x.size_pos
        obtain ⟨i1, i2⟩ := ih n x (d + 1) hxd
        by_cases hk : okP n x (d + 1)
        · have e := i1 hk
          obtain ⟨j1, j2⟩ := ihl (n + x.size) fun y hy => hx y (by simp [hy])
          have ew : walkL (fun n t => goT rightStep m n t (d + 1)) n (x :: r) = walkL (fun n t => goT rightStep m n t (d + 1)) (n + x.size) r := by simp only [walkL]; rw [e]; simp
          obtain ⟨k1, k2, k3⟩ := hk
          constructor
          · rintro ⟨h1, h2, h3⟩
            have h1 : n + T.sizes (x :: r) ≤ 128 := by rcases h1 with h1 | h1; exact h1; cases h1
            have h2 : d + 1 + T.depths (x :: r) ≤ 13 := by rcases h2 with h2 | h2; exact h2; cases h2
            simp only [T.sizes, T.depths, allL, Bool.and_eq_true] at h1 h2 h3
            rw [ew, j1 ⟨.inl (by omega), .inl (by omega), h3.2⟩]
            simp only [T.sizes]; simp; omega
          · intro hn
            rw [ew]
            apply j2
            rintro ⟨h1, h2, h3⟩
            apply hn
            refine ⟨.inl ?_, .inl ?_, ?_⟩
            · simp only [T.sizes]
              rcases h1 with h1 | rfl
              · simp; omega
              · simp [T.sizes]; omega
            · simp only [T.depths]
              rcases h2 with h2 | rfl
              · omega
              · simp [T.depths]; omega
            · simp only [allL, k3, h3]; rfl
        · have e := i2 hk
          have ew : (walkL (fun n t => goT rightStep m n t (d + 1)) n (x :: r)).2 = false := by simp only [walkL]; rw [e]; simp
          constructor
          · rintro ⟨h1, h2, h3⟩
            exfalso
            have h1 : n + T.sizes (x :: r) ≤ 128 := by rcases h1 with h1 | h1; exact h1; cases h1
            have h2 : d + 1 + T.depths (x :: r) ≤ 13 := by rcases h2 with h2 | h2; exact h2; cases h2
            simp only [T.sizes, T.depths, allL, Bool.and_eq_true] at h1 h2 h3
            exact hk ⟨by omega, by omega, h3.1⟩
          · intro _; exact ew
    have hkd : ∀ x ∈ t.kids, x.depth ≤ m := by
      intro x hx
      rw [kids_depths] at h
      obtain ⟨i, hi, rfl⟩ := List.mem_iff_getElem.1 hx; have := T.depth_le_depths hi; omega
    have hs := kids_sizes t
    have hd := kids_depths t
    obtain ⟨k1, k2⟩ := key t.kids (n + 1) hkd
    by_cases hst : (rightStep n t d).2 = true
    · have hg : goT rightStep (m + 1) n t d = walkL (fun n t => goT rightStep m n t (d + 1)) (n + 1) t.kids := by
        show (if (rightStep n t d).2 = true then _ else _) = _
        rw [if_pos hst]; rfl
      simp only [rightStep, Bool.and_eq_true, decide_eq_true_eq] at hst
      constructor
      · rintro ⟨h1, h2, h3⟩
        rw [allT_eq, Bool.and_eq_true] at h3
        rw [hg, k1 ⟨.inl (by omega), .inl (by omega), h3.2⟩]
        simp; omega
      · intro hn
        rw [hg]
        apply k2
        rintro ⟨h1, h2, h3⟩
        apply hn
        refine ⟨?_, ?_, by rw [allT_eq, hst.2.2, h3]; rfl⟩
        · rcases h1 with h1 | h1
          · omega
          · rw [h1] at hs; simp [T.sizes] at hs; omega
        · rcases h2 with h2 | h2
          · omega
          · rw [h2] at hd; simp [T.depths] at hd; omega
    · have hg : goT rightStep (m + 1) n t d = ((rightStep n t d).1, false) := by
        show (if (rightStep n t d).2 = true then _ else _) = _
        rw [if_neg hst]
      constructor
      · rintro ⟨h1, h2, h3⟩
        exfalso; apply hst
        rw [allT_eq, Bool.and_eq_true] at h3
        have := t.size_pos; have := t.depth_pos
        simp only [rightStep, Bool.and_eq_true, decide_eq_true_eq]
        exact ⟨by omega, by omega, h3.1⟩
      · intro _; rw [hg]
theorem goT_rightT (m : Nat) (t : T) (h : t.depth ≤ m) : (goT rightStep m 0 t 1).2 = rightT t := by
  obtain ⟨h1, h2⟩ := goT_right m 0 t 1 h
  have e : okP 0 t 1 ↔ rightT t = true := by
    unfold okP rightT; simp only [Bool.and_eq_true, decide_eq_true_eq]
    constructor
    · rintro ⟨a, b, c⟩; exact ⟨by omega, by omega, c⟩
    · rintro ⟨a, b, c⟩; exact ⟨by omega, by omega, c⟩
  by_cases hk : okP 0 t 1
  · rw [h1 hk, e.1 hk]
  · rw [h2 hk]
    cases hr : rightT t with
    | false => rfl
    | true => exact absurd (e.2 hr) hk
set_option maxHeartbeats 2000000 in
theorem sees_right (c B : Nat) (hBc : B ≤ c) : Sees rightStep 48 c B := by
  intro n t d b o w hn h0 h1 hd hf hb ht
  have HN := Lib.hid hn
  have e1 := hn.cell
  have e2 := hn.frozen
  have hcl := hn.lt
  have HF := Lib.hid hf; have HT := Lib.hid ht
  have hs1 : IntKind.i64.wrap (n + 1) = n + 1 := IntWalk.i64_in _ (by omega)
  clear hn hf ht
  by_cases g1 : n + 1 ≤ 128
  · by_cases g2 : d ≤ 12
    · have g2' : (d : Int) ≤ 12 := by omega
      have E := Lib.hid (show rightStep n t d = (n + 1, soundT t) by simp only [rightStep, g1, g2]; simp)
      have HN2 := Lib.hid (HN.out.set (n + 1))
      have HT2 : Hid (TypeAt (w.setCell ⟨c, 0, none⟩ (.int .i64 (n + 1))) B b o t) := HT.out.keep (Nat.le_refl _) (fun p hp => ((But.refl c w).setCell 0 (.int .i64 (n + 1))).cell (by omega) (by omega)) hb
      go_enter Tryz.func48, Tryz.ntmps48
      go_wp2_with fail
      refine (tsound_any (B := B) HF.out (by simp [World.setCell]; omega) HT2.out).mono ?_
      rintro e w1 ⟨rfl, hb1⟩
      have hz : (w.setCell ⟨c, 0, none⟩ (.int .i64 (n + 1))).heap.size = w.heap.size := by simp [World.setCell]
      have HB1 : Hid (But c w w1) := ((But.refl c w).setCell 0 (.int .i64 (n + 1))).trans (But.of_below hb1)
      have HN3 : Hid (Num w1 c (n + 1)) := HN2.out.same (hb1.block c (by rw [hz]; exact hcl))
      clear hb1 e1 e2 hz
      go_wp2_with fail
      go_ret
      rw [E.out]
      exact ⟨rfl, HN3.out, HB1.out⟩
    · have g2' : decide ((d : Int) ≤ 12) = false := decide_eq_false (by omega)
      have E := Lib.hid (show rightStep n t d = (n + 1, false) by simp only [rightStep, g1, g2]; simp)
      go_enter Tryz.func48, Tryz.ntmps48
      go_wp2_with fail
      go_ret
      rw [E.out]
      exact ⟨rfl, HN.out.set (n + 1), (But.refl c w).setCell 0 (.int .i64 (n + 1))⟩
  · have g1' : decide (n + 1 ≤ 128) = false := decide_eq_false g1
    have E := Lib.hid (show rightStep n t d = (n + 1, false) by simp only [rightStep, g1]; simp)
    go_enter Tryz.func48, Tryz.ntmps48
    go_wp2_with fail
    go_ret
    rw [E.out]
    exact ⟨rfl, HN.out.set (n + 1), (But.refl c w).setCell 0 (.int .i64 (n + 1))⟩
set_option maxHeartbeats 1000000 in
theorem tright_any {t : T} {v : Value} {w : World} {B : Nat} (hs : t.size ≤ 10000) (hd : t.depth ≤ 900) (hf : t.Fit) (hB : B ≤ w.heap.size) (ht : TypeV w B t v) :
    Calls Tryz.prog 20 #[v] w fun e w' => e = .returned (.bool (rightT t)) ∧ Below w.heap.size w w' := by
  obtain ⟨v0, v1, v2, v3, v4, v5, rfl, hin⟩ := ht
  have hat := boxed_at hB hin
  obtain ⟨A3, d3, A4, d4, A5, d5, rfl, rfl, rfl, rfl, rfl, rfl⟩ := hin.forms
  have HA := Lib.hid hat
  have hmf : ∀ (fn : Fn) (first cap : Array Value) (w : World), (Instr.makeFunc fn first cap).run Tryz.prog w = .ok (.func fn first cap) w := fun _ _ _ _ => rfl
  clear hin hat
  go_enter Tryz.func20, Tryz.ntmps20
  go_wp2_with fail
  have hat2 := TypeAt.keep (B' := w.heap.size + 1) (Nat.le_refl _) (fun p hp => World.cell?_alloc_lt (w.alloc (.cells #[.int .i64 t.kind, .int .i64 t.lo, .int .i64 t.hi, .slice A3 t.names.length d3, .slice A4 t.fields.length d4, .slice A5 t.of.length d5] 26)) (.cells #[.int .i64 0] 3) p (by simp; omega)) (Nat.lt_succ_self _) HA.out
  have hnum : Num ((w.alloc (.cells #[.int .i64 t.kind, .int .i64 t.lo, .int .i64 t.hi, .slice A3 t.names.length d3, .slice A4 t.fields.length d4, .slice A5 t.of.length d5] 26)).alloc (.cells #[.int .i64 0] 3)) (w.heap.size + 1) 0 := by have := num_new (w.alloc (.cells #[.int .i64 t.kind, .int .i64 t.lo, .int .i64 t.hi, .slice A3 t.names.length d3, .slice A4 t.fields.length d4, .slice A5 t.of.length d5] 26)) 0; rwa [World.size_alloc] at this
  refine (over_any (enters_of Tryz.func48 (by kernel_rfl) rfl) (sees_right _ (w.heap.size + 1) (Nat.le_refl _)) (fun n t d h0 h1 => by simp only [rightStep]; omega) (Nat.le_refl _) t.depth 0 t w.heap.size 0 _ (Nat.le_refl _) hnum (by omega) (by omega) hs hd hf (by omega) hat2).mono ?_
  rintro e w1 ⟨rfl, -, hb1⟩
  rw [goT_rightT _ _ (Nat.le_refl _)]
  have HB1 : Hid (Below w.heap.size w w1) := (((Below.refl _ _).alloc (Nat.le_refl _) _).alloc (by simp) _).trans (hb1.below (by omega) (by simp; omega))
  clear hb1 hat2 hnum
  go_wp2_with fail
  go_ret
  exact ⟨rfl, HB1.out⟩
theorem kid_small {t t' : T} (h : t' ∈ t.kids) : t'.depth < t.depth ∧ t'.size < t.size ∧ (t.Fit → t'.Fit) := by
  rw [kids_depths t, kids_sizes t]
  have key : ∀ l : List T, t' ∈ l → t'.depth ≤ T.depths l ∧ t'.size ≤ T.sizes l := by
    intro l
    induction l with
    | nil => intro h; cases h
    | cons x r ih =>
      intro h
      simp only [T.depths, T.sizes]
      rcases List.mem_cons.1 h with rfl | h
      · omega
      · have := ih h; omega
  have := key _ h
  refine ⟨by omega, by omega, fun hf => ?_⟩
  obtain ⟨_, _, _, _, h5, h6⟩ := hf.parts
  rcases List.mem_append.1 h with h | h
  · obtain ⟨f, hf, rfl⟩ := List.mem_map.1 h
    obtain ⟨i, hi, rfl⟩ := List.mem_iff_getElem.1 hf
    exact (h5.at_ hi).type
  · obtain ⟨i, hi, rfl⟩ := List.mem_iff_getElem.1 h
    exact h6.at_ hi
end Go.Proofs.YtlemlgllkcgigaaGreatDoor
namespace Go.Proofs.YtlemlgllkcgigaaGreatDoor
open Go.RowKit

/-- The place of the first field that p takes, or -1. -/
def fieldIdx (p : F → Bool) : List F → Int
  | [] => -1
  | f :: r => if p f = true then 0 else if fieldIdx p r = -1 then -1 else fieldIdx p r + 1
theorem fieldIdx_cases (p : F → Bool) : ∀ (l : List F), (fieldIdx p l = -1 ∧ ∀ (i : Nat) (h : i < l.length), p l[i] = false) ∨ ∃ (i : Nat) (h : i < l.length), fieldIdx p l = i ∧ p l[i] = true ∧ ∀ (j : Nat) (hj : j < i), p (l[j]'(by omega)) = false
  | [] => .inl ⟨rfl, fun i h => by simp at h⟩
  | f :: r => by
    unfold fieldIdx
    by_cases hp : p f = true
    · rw [if_pos hp]
      exact .inr ⟨0, by simp, rfl, hp, fun j hj => absurd hj (by omega)⟩
    · rw [if_neg hp]
      have hp' : p f = false := by simpa using hp
      rcases fieldIdx_cases p r with ⟨h1, h2⟩ | ⟨i, h, h1, h2, h3⟩
      · rw [if_pos h1]
        refine .inl ⟨rfl, fun i h => ?_⟩
        cases i with
        | zero => exact hp'
        | succ i => exact h2 i (by simpa using h)
      · rw [if_neg (by omega), h1]
        refine .inr ⟨i + 1, by simpa using h, by omega, by simpa using h2, fun j hj => ?_⟩
        cases j with
        | zero => exact hp'
        | succ j => exact h3 j (by omega)
theorem fieldIdx_none {p : F → Bool} {l : List F} (h : ∀ (i : Nat) (h : i < l.length), p l[i] = false) : fieldIdx p l = -1 := by
  rcases fieldIdx_cases p l with ⟨h1, _⟩ | ⟨i, hi, _, h2, _⟩
  · exact h1
  · rw [h i hi] at h2; cases h2
theorem fieldIdx_at {p : F → Bool} {l : List F} {i : Nat} (hi : i < l.length) (h : p l[i] = true) (hj : ∀ (j : Nat) (hj : j < i), p (l[j]'(by omega)) = false) : fieldIdx p l = i := by
  rcases fieldIdx_cases p l with ⟨_, h1⟩ | ⟨k, hk, h1, h2, h3⟩
  · rw [h1 i hi] at h; cases h
  · rcases Nat.lt_trichotomy i k with h' | h' | h'
    · rw [h3 i h'] at h; cases h
    · rw [h1, h']
    · rw [hj k h'] at h2; cases h2
/-- What the function value must tell of a field. -/
def Asks (p : F → Bool) (G : Nat) (c : Nat) (w0 : World) (B : Nat) : Prop :=
  ∀ (f : F) (v0 v1 v2 v3 v4 v5 : Value) (w : World), Below w0.heap.size w0 w → TypeIn w B f.type v0 v1 v2 v3 v4 v5 → f.name.size ≤ 10000 →
    Calls Tryz.prog G #[.agg #[.string f.name, .bool f.opt, v0, v1, v2, v3, v4, v5], .pointer (some ⟨c, 0, none⟩)] w fun e w' => e = .returned (.bool (p f)) ∧ Below w.heap.size w w'
set_option maxHeartbeats 2000000 in
set_option maxRecDepth 100000 in
theorem indexF_any {p : F → Bool} {G c B : Nat} {l : List F} {v : Value} {w : World} (eg : ∀ args w, (callFunc G args).run Tryz.prog w = .ok (.enter G args) w) (ha : Asks p G c w B) (hB : B ≤ w.heap.size) (hv : FieldsV w B v l) (hn : l.length ≤ 10000) (hf : T.FitsF l) :
    Calls Tryz.prog 63 #[v, .func (.func G) #[] #[.pointer (some ⟨c, 0, none⟩)]] w fun e w' => e = .returned (.int .i64 (fieldIdx p l)) ∧ Below w.heap.size w w' := by
  obtain ⟨A, cc, rfl, hc, hk⟩ := hv
  have HA := Lib.hid ha; have HK := Lib.hid hk; have HF := Lib.hid hf
  clear ha hk hf
  go_enter Tryz.func63, Tryz.ntmps63
  go_wp2_with fail
  go_loopw [8] (fun i wr => ∃ k : Nat, k ≤ l.length ∧ i = .int .i64 k ∧ (∀ (j : Nat) (h : j < l.length), j < k → p l[j] = false) ∧ Below w.heap.size w wr) (fun i _ => l.length - (intOf i).toNat)
  case atStart => exact ⟨0, Nat.zero_le _, rfl, fun j _ hj => absurd hj (by omega), Below.refl _ _⟩
  case round =>
    obtain ⟨k, hkl, rfl, hall, hb⟩ := hrel
    have HALL := Lib.hid hall; have HB := Lib.hid hb
    have hz := hb.size
    clear hall
    by_cases hlt : k < l.length
    · obtain ⟨b, off, rfl, hab, hfi⟩ := HK.out (by omega)
      have hat := FieldsIn.at_ hfi k hlt
      rw [Nat.zero_add] at hat
      obtain ⟨n0, o0, ht⟩ := hat
      have kp : ∀ p : Addr, p.block < B → wr.cell? p = w.cell? p := fun p hp => hb.cell (by omega)
      have n1 := (kp ⟨b, off + k * 8, none⟩ hab).trans n0
      have o1 := (kp ⟨b, off + k * 8 + 1, none⟩ hab).trans o0
      obtain ⟨v0, v1, v2, v3, v4, v5, c0, c1, c2, c3, c4, c5, hin⟩ := ht.keep (Nat.le_refl _) kp hab
      have HIN := Lib.hid hin
      obtain ⟨A3, d3, A4, d4, A5, d5, rfl, rfl, rfl, rfl, rfl, rfl⟩ := hin.forms
      clear n0 o0 kp hfi ht hin hb
      cases hp : p l[k] with
      | false =>
        have HP := Lib.hid hp; clear hp
        go_wp2_with fail
        refine (HA.out l[k] _ _ _ _ _ _ wr HB.out HIN.out (HF.out.at_ hlt).name).mono ?_
        rintro e w2 ⟨rfl, hb2⟩
        rw [HP.out]
        have HB2 : Hid (Below w.heap.size w w2) := HB.out.trans (hb2.mono hz)
        clear hb2
        go_wp2_with fail
        go_roundw
        case rel => exact ⟨k + 1, by omega, by go_num, fun j h hj => by
          rcases Nat.lt_or_ge j k with h1 | h1
          · exact HALL.out j h h1
          · obtain rfl : j = k := by omega
            exact HP.out, HB2.out⟩
        case measure => simp [intOf]; omega
      | true =>
        have E := Lib.hid (fieldIdx_at hlt hp fun j hj => HALL.out j (by omega) hj)
        have HP := Lib.hid hp; clear hp
        go_wp2_with fail
        refine (HA.out l[k] _ _ _ _ _ _ wr HB.out HIN.out (HF.out.at_ hlt).name).mono ?_
        rintro e w2 ⟨rfl, hb2⟩
        rw [HP.out]
        have HB2 : Hid (Below w.heap.size w w2) := HB.out.trans (hb2.mono hz)
        clear hb2
        go_wp2_with fail
        go_ret
        exact ⟨ret_int E.out.symm, HB2.out⟩
    · have E := Lib.hid (fieldIdx_none fun j h => HALL.out j h (by omega))
      go_wp2_with fail
      go_ret
      exact ⟨ret_int E.out.symm, HB.out⟩
theorem beq_iff (a b : ByteArray) : (a.toList == b.toList) = decide (a = b) := by
  rw [Bool.eq_iff_iff, beq_iff_eq, decide_eq_true_eq, ByteArray.toList_eq, ByteArray.toList_eq]
  constructor
  · intro h
    cases a; cases b
    simp only at h
    congr 1
    exact Array.toList_inj.1 h
  · intro h; rw [h]
/-- Is it called so? -/
def calledB (s : ByteArray) (f : F) : Bool := decide (f.name = s)
def fieldOf (t : T) (s : ByteArray) : Int := if t.kind = 1 then fieldIdx (calledB s) t.fields else -1
set_option maxHeartbeats 1000000 in
theorem asks_field (s : ByteArray) (c B : Nat) (w0 : World) (hc : c < w0.heap.size) (hs : w0.cell? ⟨c, 0, none⟩ = some (.string s)) : Asks (calledB s) 64 c w0 B := by
  intro f v0 v1 v2 v3 v4 v5 w hb hin hn
  have e1 := (hb.cell (p := ⟨c, 0, none⟩) hc).trans hs
  have hz := hb.size
  obtain ⟨A3, d3, A4, d4, A5, d5, rfl, rfl, rfl, rfl, rfl, rfl⟩ := hin.forms
  have E := Lib.hid (beq_iff f.name s)
  clear hs hb hin
  have hc2 : c < w.heap.size := by omega
  have hc3 : ¬ c = w.heap.size := by omega
  go_enter Tryz.func64, Tryz.ntmps64
  go_wp2_with fail
  go_ret
  exact ⟨ret_bool E.out, (Below.refl _ _).alloc (Nat.le_refl _) _⟩
set_option maxHeartbeats 1000000 in
theorem tfield_any {t : T} {v : Value} {s : ByteArray} {w : World} {B : Nat} (hf : t.Fit) (hB : B ≤ w.heap.size) (ht : TypeV w B t v) :
    Calls Tryz.prog 33 #[v, .string s] w fun e w' => e = .returned (.int .i64 (fieldOf t s)) ∧ Below w.heap.size w w' := by
  obtain ⟨v0, v1, v2, v3, v4, v5, rfl, hin⟩ := ht
  have HFV := Lib.hid hin.fields_
  obtain ⟨A3, d3, A4, d4, A5, d5, rfl, rfl, rfl, rfl, rfl, rfl⟩ := hin.forms
  have hmf : ∀ (fn : Fn) (first cap : Array Value) (w : World), (Instr.makeFunc fn first cap).run Tryz.prog w = .ok (.func fn first cap) w := fun _ _ _ _ => rfl
  have HF := Lib.hid hf
  clear hin hf
  by_cases hk : t.kind = 1
  · have E := Lib.hid (show fieldOf t s = fieldIdx (calledB s) t.fields by unfold fieldOf; rw [if_pos hk])
    have hk2 : (t.kind != 1) = false := by simp [hk]
    clear hk
    go_enter Tryz.func33, Tryz.ntmps33
    go_wp2_with fail
    have hbl : Below w.heap.size w ((w.alloc (.cells #[.int .i64 t.kind, .int .i64 t.lo, .int .i64 t.hi, .slice A3 t.names.length d3, .slice A4 t.fields.length d4, .slice A5 t.of.length d5] 26)).alloc (.cells #[.string s] 9)) := ((Below.refl _ _).alloc (Nat.le_refl _) _).alloc (by simp) _
    have hc1 : ((w.alloc (.cells #[.int .i64 t.kind, .int .i64 t.lo, .int .i64 t.hi, .slice A3 t.names.length d3, .slice A4 t.fields.length d4, .slice A5 t.of.length d5] 26)).alloc (.cells #[.string s] 9)).cell? ⟨w.heap.size + 1, 0, none⟩ = some (.string s) := by go_simp
    have hc2 : w.heap.size + 1 < ((w.alloc (.cells #[.int .i64 t.kind, .int .i64 t.lo, .int .i64 t.hi, .slice A3 t.names.length d3, .slice A4 t.fields.length d4, .slice A5 t.of.length d5] 26)).alloc (.cells #[.string s] 9)).heap.size := by simp
    generalize ((w.alloc (.cells #[.int .i64 t.kind, .int .i64 t.lo, .int .i64 t.hi, .slice A3 t.names.length d3, .slice A4 t.fields.length d4, .slice A5 t.of.length d5] 26)).alloc (.cells #[.string s] 9)) = W2 at hbl hc1 hc2 ⊢
    refine (indexF_any (p := calledB s) (B := B) (enters_of Tryz.func64 (by kernel_rfl) rfl) (asks_field s (w.heap.size + 1) B W2 hc2 hc1) (by have := hbl.size; omega) (HFV.out.keep (Nat.le_refl _) fun p hp => hbl.cell (by omega)) HF.out.parts.2.1 HF.out.parts.2.2.2.2.1).mono ?_
    rintro e w1 ⟨rfl, hb1⟩
    have HB1 : Hid (Below w.heap.size w w1) := hbl.trans (hb1.mono hbl.size)
    clear hb1 hbl hc1
    go_wp2_with fail
    go_ret
    exact ⟨ret_int E.out.symm, HB1.out⟩
  · have E := Lib.hid (show fieldOf t s = -1 by unfold fieldOf; rw [if_neg hk])
    have hk2 : (t.kind != 1) = true := by simp [hk]
    clear hk
    go_enter Tryz.func33, Tryz.ntmps33
    go_wp2_with fail
    go_ret
    exact ⟨ret_int E.out.symm, ((Below.refl _ _).alloc (Nat.le_refl _) _).alloc (by simp) _⟩
end Go.Proofs.YtlemlgllkcgigaaGreatDoor
namespace Go.Proofs.YtlemlgllkcgigaaGreatDoor
open Go.RowKit

/-- A slice of strings in blocks of the set: nil let in. -/
def StrsS (w : World) (S : Nat → Prop) (v : Value) (xs : List ByteArray) : Prop :=
  ∃ (A : Option Addr) (c : Nat), v = .slice A xs.length c ∧ xs.length ≤ c ∧
    (0 < xs.length → ∃ b off, A = some ⟨b, off, none⟩ ∧ S b ∧ ∀ (i : Nat) (h : i < xs.length), w.cell? ⟨b, off + i, none⟩ = some (.string xs[i]))
mutual
/-- The six cells of a type. -/
def TypeS (w : World) (S : Nat → Prop) : T → Value → Value → Value → Value → Value → Value → Prop
  | .mk kind lo hi names fields of, v0, v1, v2, v3, v4, v5 =>
    v0 = .int .i64 kind ∧ v1 = .int .i64 lo ∧ v2 = .int .i64 hi ∧ StrsS w S v3 names ∧
      (∃ (A : Option Addr) (c : Nat), v4 = .slice A fields.length c ∧ fields.length ≤ c ∧ (0 < fields.length → ∃ b off, A = some ⟨b, off, none⟩ ∧ S b ∧ FieldsS w S b off 0 fields)) ∧
      (∃ (A : Option Addr) (c : Nat), v5 = .slice A of.length c ∧ of.length ≤ c ∧ (0 < of.length → ∃ b off, A = some ⟨b, off, none⟩ ∧ S b ∧ TypesS w S b off 0 of))
def FieldsS (w : World) (S : Nat → Prop) (b off : Nat) : Nat → List F → Prop
  | _, [] => True
  | i, f :: r => FieldS w S b (off + i * 8) f ∧ FieldsS w S b off (i + 1) r
def FieldS (w : World) (S : Nat → Prop) (b o : Nat) : F → Prop
  | .mk name opt type => w.cell? ⟨b, o, none⟩ = some (.string name) ∧ w.cell? ⟨b, o + 1, none⟩ = some (.bool opt) ∧
      ∃ v0 v1 v2 v3 v4 v5 : Value, w.cell? ⟨b, o + 2, none⟩ = some v0 ∧ w.cell? ⟨b, o + 2 + 1, none⟩ = some v1 ∧ w.cell? ⟨b, o + 2 + 2, none⟩ = some v2 ∧ w.cell? ⟨b, o + 2 + 3, none⟩ = some v3 ∧ w.cell? ⟨b, o + 2 + 4, none⟩ = some v4 ∧ w.cell? ⟨b, o + 2 + 5, none⟩ = some v5 ∧ TypeS w S type v0 v1 v2 v3 v4 v5
def TypesS (w : World) (S : Nat → Prop) (b off : Nat) : Nat → List T → Prop
  | _, [] => True
  | i, d :: r => (∃ v0 v1 v2 v3 v4 v5 : Value, w.cell? ⟨b, off + i * 6, none⟩ = some v0 ∧ w.cell? ⟨b, off + i * 6 + 1, none⟩ = some v1 ∧ w.cell? ⟨b, off + i * 6 + 2, none⟩ = some v2 ∧ w.cell? ⟨b, off + i * 6 + 3, none⟩ = some v3 ∧ w.cell? ⟨b, off + i * 6 + 4, none⟩ = some v4 ∧ w.cell? ⟨b, off + i * 6 + 5, none⟩ = some v5 ∧ TypeS w S d v0 v1 v2 v3 v4 v5) ∧ TypesS w S b off (i + 1) r
end
theorem StrsS.keep {w w' : World} {S S' : Nat → Prop} (hB : ∀ k, S k → S' k) (h : ∀ p : Addr, S p.block → w'.cell? p = w.cell? p) {v : Value} {xs : List ByteArray} (hs : StrsS w S v xs) : StrsS w' S' v xs := by
  obtain ⟨A, c, e, l, h1⟩ := hs
  refine ⟨A, c, e, l, fun hl => ?_⟩
  obtain ⟨b, off, e', hb, hc⟩ := h1 hl
  exact ⟨b, off, e', hB _ hb, fun i hi => (h ⟨b, off + i, none⟩ hb).trans (hc i hi)⟩
mutual
theorem TypeS.keep {w w' : World} {S S' : Nat → Prop} (hB : ∀ k, S k → S' k) (h : ∀ p : Addr, S p.block → w'.cell? p = w.cell? p) : ∀ {d : T} {v0 v1 v2 v3 v4 v5 : Value}, TypeS w S d v0 v1 v2 v3 v4 v5 → TypeS w' S' d v0 v1 v2 v3 v4 v5
  | .mk _ _ _ _ fields of, _, _, _, _, _, _, hd => by
    simp only [TypeS] at hd ⊢
    obtain ⟨h0, h1, h2, h3, ⟨A', c', e', k1, k2⟩, ⟨A'', c'', e'', k3, k4⟩⟩ := hd
    refine ⟨h0, h1, h2, h3.keep hB h, ⟨A', c', e', k1, fun hl => ?_⟩, ⟨A'', c'', e'', k3, fun hl => ?_⟩⟩
    · obtain ⟨b, off, ea, hb, hk⟩ := k2 hl
      exact ⟨b, off, ea, hB _ hb, FieldsS.keep hB h hb hk⟩
    · obtain ⟨b, off, ea, hb, hk⟩ := k4 hl
      exact ⟨b, off, ea, hB _ hb, TypesS.keep hB h hb hk⟩
theorem FieldsS.keep {w w' : World} {S S' : Nat → Prop} (hB : ∀ k, S k → S' k) (h : ∀ p : Addr, S p.block → w'.cell? p = w.cell? p) {b off : Nat} (hb : S b) : ∀ {l : List F} {i : Nat}, FieldsS w S b off i l → FieldsS w' S' b off i l
  | [], _, _ => by simp [FieldsS]
  | f :: r, i, hk => by
    simp only [FieldsS] at hk ⊢
    exact ⟨FieldS.keep hB h hb hk.1, FieldsS.keep hB h hb hk.2⟩
theorem FieldS.keep {w w' : World} {S S' : Nat → Prop} (hB : ∀ k, S k → S' k) (h : ∀ p : Addr, S p.block → w'.cell? p = w.cell? p) {b : Nat} (hb : S b) : ∀ {f : F} {o : Nat}, FieldS w S b o f → FieldS w' S' b o f
  | .mk _ _ _, o, hk => by
    simp only [FieldS] at hk ⊢
    obtain ⟨a1, a2, v0, v1, v2, v3, v4, v5, c0, c1, c2, c3, c4, c5, hd⟩ := hk
    have hh : ∀ n, w'.cell? ⟨b, n, none⟩ = w.cell? ⟨b, n, none⟩ := fun n => h ⟨b, n, none⟩ hb
    exact ⟨(hh _).trans a1, (hh _).trans a2, v0, v1, v2, v3, v4, v5, (hh _).trans c0, (hh _).trans c1, (hh _).trans c2, (hh _).trans c3, (hh _).trans c4, (hh _).trans c5, TypeS.keep hB h hd⟩
theorem TypesS.keep {w w' : World} {S S' : Nat → Prop} (hB : ∀ k, S k → S' k) (h : ∀ p : Addr, S p.block → w'.cell? p = w.cell? p) {b off : Nat} (hb : S b) : ∀ {l : List T} {i : Nat}, TypesS w S b off i l → TypesS w' S' b off i l
  | [], _, _ => by simp [TypesS]
  | d :: r, i, hk => by
    simp only [TypesS] at hk ⊢
    obtain ⟨⟨v0, v1, v2, v3, v4, v5, c0, c1, c2, c3, c4, c5, hd⟩, hr⟩ := hk
    have hh : ∀ n, w'.cell? ⟨b, n, none⟩ = w.cell? ⟨b, n, none⟩ := fun n => h ⟨b, n, none⟩ hb
    exact ⟨⟨v0, v1, v2, v3, v4, v5, (hh _).trans c0, (hh _).trans c1, (hh _).trans c2, (hh _).trans c3, (hh _).trans c4, (hh _).trans c5, TypeS.keep hB h hd⟩, TypesS.keep hB h hb hr⟩
end
theorem TypeS.forms {w : World} {S : Nat → Prop} {d : T} {v0 v1 v2 v3 v4 v5 : Value} (h : TypeS w S d v0 v1 v2 v3 v4 v5) :
    ∃ A3 c3 A4 c4 A5 c5, v0 = .int .i64 d.kind ∧ v1 = .int .i64 d.lo ∧ v2 = .int .i64 d.hi ∧ v3 = .slice A3 d.names.length c3 ∧ v4 = .slice A4 d.fields.length c4 ∧ v5 = .slice A5 d.of.length c5 := by
  obtain ⟨_, _, _, _, _, _⟩ := d
  simp only [TypeS] at h
  obtain ⟨h0, h1, h2, ⟨A3, c3, h3, _⟩, ⟨A4, c4, h4, _⟩, ⟨A5, c5, h5, _⟩⟩ := h
  exact ⟨A3, c3, A4, c4, A5, c5, h0, h1, h2, h3, h4, h5⟩
theorem TypeS.names_ {w : World} {S : Nat → Prop} {d : T} {v0 v1 v2 v3 v4 v5 : Value} (h : TypeS w S d v0 v1 v2 v3 v4 v5) : StrsS w S v3 d.names := by
  obtain ⟨_, _, _, _, _, _⟩ := d
  simp only [TypeS] at h
  exact h.2.2.2.1
mutual
theorem TypeS.toIn {w : World} {S : Nat → Prop} {B : Nat} (hS : ∀ k, S k → k < B) : ∀ {t : T} {v0 v1 v2 v3 v4 v5 : Value}, TypeS w S t v0 v1 v2 v3 v4 v5 → TypeIn w B t v0 v1 v2 v3 v4 v5
  | .mk _ _ _ _ fields of, _, _, _, _, _, _, hd => by
    simp only [TypeS] at hd
    simp only [TypeIn]
    obtain ⟨h0, h1, h2, ⟨A, c, e, l, h3⟩, ⟨A', c', e', k1, k2⟩, ⟨A'', c'', e'', k3, k4⟩⟩ := hd
    refine ⟨h0, h1, h2, ⟨A, c, e, l, fun hl => ?_⟩, ⟨A', c', e', k1, fun hl => ?_⟩, ⟨A'', c'', e'', k3, fun hl => ?_⟩⟩
    · obtain ⟨b, off, ea, hb, hk⟩ := h3 hl
      exact ⟨b, off, ea, hS _ hb, hk⟩
    · obtain ⟨b, off, ea, hb, hk⟩ := k2 hl
      exact ⟨b, off, ea, hS _ hb, FieldsS.toIn hS hk⟩
    · obtain ⟨b, off, ea, hb, hk⟩ := k4 hl
      exact ⟨b, off, ea, hS _ hb, TypesS.toIn hS hk⟩
theorem FieldsS.toIn {w : World} {S : Nat → Prop} {B : Nat} (hS : ∀ k, S k → k < B) {b off : Nat} : ∀ {l : List F} {i : Nat}, FieldsS w S b off i l → FieldsIn w B b off i l
  | [], _, _ => by simp [FieldsIn]
  | f :: r, i, hk => by
    simp only [FieldsS] at hk
    simp only [FieldsIn]
    exact ⟨FieldS.toIn hS hk.1, FieldsS.toIn hS hk.2⟩
theorem FieldS.toIn {w : World} {S : Nat → Prop} {B : Nat} (hS : ∀ k, S k → k < B) {b : Nat} : ∀ {f : F} {o : Nat}, FieldS w S b o f → FieldIn w B b o f
  | .mk _ _ _, o, hk => by
    simp only [FieldS] at hk
    simp only [FieldIn]
    obtain ⟨a1, a2, v0, v1, v2, v3, v4, v5, c0, c1, c2, c3, c4, c5, hd⟩ := hk
    exact ⟨a1, a2, v0, v1, v2, v3, v4, v5, c0, c1, c2, c3, c4, c5, TypeS.toIn hS hd⟩
theorem TypesS.toIn {w : World} {S : Nat → Prop} {B : Nat} (hS : ∀ k, S k → k < B) {b off : Nat} : ∀ {l : List T} {i : Nat}, TypesS w S b off i l → TypesIn w B b off i l
  | [], _, _ => by simp [TypesIn]
  | d :: r, i, hk => by
    simp only [TypesS] at hk
    simp only [TypesIn]
    obtain ⟨⟨v0, v1, v2, v3, v4, v5, c0, c1, c2, c3, c4, c5, hd⟩, hr⟩ := hk
    exact ⟨⟨v0, v1, v2, v3, v4, v5, c0, c1, c2, c3, c4, c5, TypeS.toIn hS hd⟩, TypesS.toIn hS hr⟩
end
mutual
theorem TypeIn.toS {w : World} {B : Nat} : ∀ {t : T} {v0 v1 v2 v3 v4 v5 : Value}, TypeIn w B t v0 v1 v2 v3 v4 v5 → TypeS w (fun k => k < B) t v0 v1 v2 v3 v4 v5
  | .mk _ _ _ _ fields of, _, _, _, _, _, _, hd => by
    simp only [TypeIn] at hd
    simp only [TypeS]
    obtain ⟨h0, h1, h2, ⟨A, c, e, l, h3⟩, ⟨A', c', e', k1, k2⟩, ⟨A'', c'', e'', k3, k4⟩⟩ := hd
    refine ⟨h0, h1, h2, ⟨A, c, e, l, h3⟩, ⟨A', c', e', k1, fun hl => ?_⟩, ⟨A'', c'', e'', k3, fun hl => ?_⟩⟩
    · obtain ⟨b, off, ea, hb, hk⟩ := k2 hl
      exact ⟨b, off, ea, hb, FieldsIn.toS hk⟩
    · obtain ⟨b, off, ea, hb, hk⟩ := k4 hl
      exact ⟨b, off, ea, hb, TypesIn.toS hk⟩
theorem FieldsIn.toS {w : World} {B : Nat} {b off : Nat} : ∀ {l : List F} {i : Nat}, FieldsIn w B b off i l → FieldsS w (fun k => k < B) b off i l
  | [], _, _ => by simp [FieldsS]
  | f :: r, i, hk => by
    simp only [FieldsIn] at hk
    simp only [FieldsS]
    exact ⟨FieldIn.toS hk.1, FieldsIn.toS hk.2⟩
theorem FieldIn.toS {w : World} {B : Nat} {b : Nat} : ∀ {f : F} {o : Nat}, FieldIn w B b o f → FieldS w (fun k => k < B) b o f
  | .mk _ _ _, o, hk => by
    simp only [FieldIn] at hk
    simp only [FieldS]
    obtain ⟨a1, a2, v0, v1, v2, v3, v4, v5, c0, c1, c2, c3, c4, c5, hd⟩ := hk
    exact ⟨a1, a2, v0, v1, v2, v3, v4, v5, c0, c1, c2, c3, c4, c5, TypeIn.toS hd⟩
theorem TypesIn.toS {w : World} {B : Nat} {b off : Nat} : ∀ {l : List T} {i : Nat}, TypesIn w B b off i l → TypesS w (fun k => k < B) b off i l
  | [], _, _ => by simp [TypesS]
  | d :: r, i, hk => by
    simp only [TypesIn] at hk
    simp only [TypesS]
    obtain ⟨⟨v0, v1, v2, v3, v4, v5, c0, c1, c2, c3, c4, c5, hd⟩, hr⟩ := hk
    exact ⟨⟨v0, v1, v2, v3, v4, v5, c0, c1, c2, c3, c4, c5, TypeIn.toS hd⟩, TypesIn.toS hr⟩
end
/-- The cells of a row of fields. -/
def RawFs (w : World) (S : Nat → Prop) : List F → List Value → Prop
  | [], cs => cs = []
  | f :: r, cs => ∃ (v0 v1 v2 v3 v4 v5 : Value) (c : List Value), cs = .string f.name :: .bool f.opt :: v0 :: v1 :: v2 :: v3 :: v4 :: v5 :: c ∧ TypeS w S f.type v0 v1 v2 v3 v4 v5 ∧ RawFs w S r c
/-- .. of types. -/
def RawTs (w : World) (S : Nat → Prop) : List T → List Value → Prop
  | [], cs => cs = []
  | t :: r, cs => ∃ (v0 v1 v2 v3 v4 v5 : Value) (c : List Value), cs = v0 :: v1 :: v2 :: v3 :: v4 :: v5 :: c ∧ TypeS w S t v0 v1 v2 v3 v4 v5 ∧ RawTs w S r c
theorem RawFs.keep {w w' : World} {S S' : Nat → Prop} (hB : ∀ k, S k → S' k) (h : ∀ p : Addr, S p.block → w'.cell? p = w.cell? p) : ∀ {l : List F} {cs : List Value}, RawFs w S l cs → RawFs w' S' l cs
  | [], _, hr => hr
  | f :: r, _, hr => by
    simp only [RawFs] at hr ⊢
    obtain ⟨v0, v1, v2, v3, v4, v5, c, rfl, h1, h2⟩ := hr
    exact ⟨v0, v1, v2, v3, v4, v5, c, rfl, h1.keep hB h, RawFs.keep hB h h2⟩
theorem RawTs.keep {w w' : World} {S S' : Nat → Prop} (hB : ∀ k, S k → S' k) (h : ∀ p : Addr, S p.block → w'.cell? p = w.cell? p) : ∀ {l : List T} {cs : List Value}, RawTs w S l cs → RawTs w' S' l cs
  | [], _, hr => hr
  | f :: r, _, hr => by
    simp only [RawTs] at hr ⊢
    obtain ⟨v0, v1, v2, v3, v4, v5, c, rfl, h1, h2⟩ := hr
    exact ⟨v0, v1, v2, v3, v4, v5, c, rfl, h1.keep hB h, RawTs.keep hB h h2⟩
theorem RawFs.len {w : World} {S : Nat → Prop} : ∀ {l : List F} {cs : List Value}, RawFs w S l cs → cs.length = l.length * 8
  | [], _, hr => by simp only [RawFs] at hr; simp [hr]
  | f :: r, _, hr => by
    simp only [RawFs] at hr
    obtain ⟨v0, v1, v2, v3, v4, v5, c, rfl, h1, h2⟩ := hr
    have := RawFs.len h2
    simp; omega
theorem RawTs.len {w : World} {S : Nat → Prop} : ∀ {l : List T} {cs : List Value}, RawTs w S l cs → cs.length = l.length * 6
  | [], _, hr => by simp only [RawTs] at hr; simp [hr]
  | f :: r, _, hr => by
    simp only [RawTs] at hr
    obtain ⟨v0, v1, v2, v3, v4, v5, c, rfl, h1, h2⟩ := hr
    have := RawTs.len h2
    simp; omega
theorem oneCell6 {w : World} {S : Nat → Prop} {t : T} {v0 v1 v2 v3 v4 v5 : Value} (h : TypeS w S t v0 v1 v2 v3 v4 v5) : ∀ u ∈ [v0, v1, v2, v3, v4, v5], u.oneCell' = true := by
  obtain ⟨A3, c3, A4, c4, A5, c5, rfl, rfl, rfl, rfl, rfl, rfl⟩ := h.forms
  intro u hu
  simp only [List.mem_cons, List.not_mem_nil, or_false] at hu
  rcases hu with rfl | rfl | rfl | rfl | rfl | rfl <;> rfl
theorem RawFs.one {w : World} {S : Nat → Prop} : ∀ {l : List F} {cs : List Value}, RawFs w S l cs → ∀ u ∈ cs, u.oneCell' = true
  | [], _, hr => by simp only [RawFs] at hr; simp [hr]
  | f :: r, _, hr => by
    simp only [RawFs] at hr
    obtain ⟨v0, v1, v2, v3, v4, v5, c, rfl, h1, h2⟩ := hr
    have h6 := oneCell6 h1
    intro u hu
    simp only [List.mem_cons] at hu h6
    rcases hu with rfl | rfl | rfl | rfl | rfl | rfl | rfl | rfl | hu
    · rfl
    · rfl
    · exact h6 _ (by simp)
    · exact h6 _ (by simp)
    · exact h6 _ (by simp)
    · exact h6 _ (by simp)
    · exact h6 _ (by simp)
    · exact h6 _ (by simp)
    · exact RawFs.one h2 u hu
theorem RawTs.one {w : World} {S : Nat → Prop} : ∀ {l : List T} {cs : List Value}, RawTs w S l cs → ∀ u ∈ cs, u.oneCell' = true
  | [], _, hr => by simp only [RawTs] at hr; simp [hr]
  | f :: r, _, hr => by
    simp only [RawTs] at hr
    obtain ⟨v0, v1, v2, v3, v4, v5, c, rfl, h1, h2⟩ := hr
    have h6 := oneCell6 h1
    intro u hu
    simp only [List.mem_cons] at hu h6
    rcases hu with rfl | rfl | rfl | rfl | rfl | rfl | hu
    · exact h6 _ (by simp)
    · exact h6 _ (by simp)
    · exact h6 _ (by simp)
    · exact h6 _ (by simp)
    · exact h6 _ (by simp)
    · exact h6 _ (by simp)
    · exact RawTs.one h2 u hu
/-- What lies there, as a list of cells. -/
theorem RawFs.of_ {w : World} {S : Nat → Prop} {b off : Nat} : ∀ {l : List F} {i : Nat}, FieldsS w S b off i l → ∃ cs, RawFs w S l cs ∧ ∀ j u, cs[j]? = some u → w.cell? ⟨b, off + i * 8 + j, none⟩ = some u
  | [], _, _ => ⟨[], rfl, by simp⟩
  | .mk n o t :: r, i, hk => by
    simp only [FieldsS, FieldS] at hk
    obtain ⟨⟨a1, a2, v0, v1, v2, v3, v4, v5, c0, c1, c2, c3, c4, c5, hd⟩, hr⟩ := hk
    obtain ⟨cs, h1, h2⟩ := RawFs.of_ hr
    refine ⟨.string n :: .bool o :: v0 :: v1 :: v2 :: v3 :: v4 :: v5 :: cs, ⟨v0, v1, v2, v3, v4, v5, cs, rfl, hd, h1⟩, ?_⟩
    intro j u hj
    match j, hj with
    | 0, hj => simp at hj; subst hj; exact a1
    | 1, hj => simp at hj; subst hj; exact a2
    | 2, hj => simp at hj; subst hj; exact c0
    | 3, hj => simp at hj; subst hj; exact c1
    | 4, hj => simp at hj; subst hj; exact c2
    | 5, hj => simp at hj; subst hj; exact c3
    | 6, hj => simp at hj; subst hj; exact c4
    | 7, hj => simp at hj; subst hj; exact c5
    | j + 8, hj =>
      have := h2 j u (by simpa using hj)
      rw [show off + i * 8 + (j + 8) = off + (i + 1) * 8 + j from by omega]
      exact this
theorem RawTs.of_ {w : World} {S : Nat → Prop} {b off : Nat} : ∀ {l : List T} {i : Nat}, TypesS w S b off i l → ∃ cs, RawTs w S l cs ∧ ∀ j u, cs[j]? = some u → w.cell? ⟨b, off + i * 6 + j, none⟩ = some u
  | [], _, _ => ⟨[], rfl, by simp⟩
  | t :: r, i, hk => by
    simp only [TypesS] at hk
    obtain ⟨⟨v0, v1, v2, v3, v4, v5, c0, c1, c2, c3, c4, c5, hd⟩, hr⟩ := hk
    obtain ⟨cs, h1, h2⟩ := RawTs.of_ hr
    refine ⟨v0 :: v1 :: v2 :: v3 :: v4 :: v5 :: cs, ⟨v0, v1, v2, v3, v4, v5, cs, rfl, hd, h1⟩, ?_⟩
    intro j u hj
    match j, hj with
    | 0, hj => simp at hj; subst hj; exact c0
    | 1, hj => simp at hj; subst hj; exact c1
    | 2, hj => simp at hj; subst hj; exact c2
    | 3, hj => simp at hj; subst hj; exact c3
    | 4, hj => simp at hj; subst hj; exact c4
    | 5, hj => simp at hj; subst hj; exact c5
    | j + 6, hj =>
      have := h2 j u (by simpa using hj)
      rw [show off + i * 6 + (j + 6) = off + (i + 1) * 6 + j from by omega]
      exact this
/-- .. and back. -/
theorem RawFs.fields {w : World} {S : Nat → Prop} {b off : Nat} : ∀ {l : List F} {cs : List Value} {i : Nat}, RawFs w S l cs → (∀ j, j < cs.length → w.cell? ⟨b, off + i * 8 + j, none⟩ = cs[j]?) → FieldsS w S b off i l
  | [], _, _, _, _ => by simp [FieldsS]
  | .mk n o t :: r, _, i, hr, hc => by
    simp only [RawFs] at hr
    obtain ⟨v0, v1, v2, v3, v4, v5, c, rfl, h1, h2⟩ := hr
    simp only [FieldsS, FieldS]
    refine ⟨⟨hc 0 (by simp), hc 1 (by simp), v0, v1, v2, v3, v4, v5, hc 2 (by simp), hc 3 (by simp), hc 4 (by simp), hc 5 (by simp), hc 6 (by simp), hc 7 (by simp), h1⟩, RawFs.fields h2 fun j hj => ?_⟩
    have := hc (j + 8) (by simp; omega)
    rw [show off + (i + 1) * 8 + j = off + i * 8 + (j + 8) from by omega, this]
    simp
theorem RawTs.types {w : World} {S : Nat → Prop} {b off : Nat} : ∀ {l : List T} {cs : List Value} {i : Nat}, RawTs w S l cs → (∀ j, j < cs.length → w.cell? ⟨b, off + i * 6 + j, none⟩ = cs[j]?) → TypesS w S b off i l
  | [], _, _, _, _ => by simp [TypesS]
  | t :: r, _, i, hr, hc => by
    simp only [RawTs] at hr
    obtain ⟨v0, v1, v2, v3, v4, v5, c, rfl, h1, h2⟩ := hr
    simp only [TypesS]
    refine ⟨⟨v0, v1, v2, v3, v4, v5, hc 0 (by simp), hc 1 (by simp), hc 2 (by simp), hc 3 (by simp), hc 4 (by simp), hc 5 (by simp), h1⟩, RawTs.types h2 fun j hj => ?_⟩
    have := hc (j + 6) (by simp; omega)
    rw [show off + (i + 1) * 6 + j = off + i * 6 + (j + 6) from by omega, this]
    simp
theorem RawFs.append {w : World} {S : Nat → Prop} : ∀ {a b : List F} {c d : List Value}, RawFs w S a c → RawFs w S b d → RawFs w S (a ++ b) (c ++ d)
  | [], _, _, _, h1, h2 => by simp only [RawFs] at h1; subst h1; simpa using h2
  | f :: r, _, _, _, h1, h2 => by
    simp only [RawFs] at h1
    obtain ⟨v0, v1, v2, v3, v4, v5, c, rfl, h3, h4⟩ := h1
    simp only [List.cons_append, RawFs]
    exact ⟨v0, v1, v2, v3, v4, v5, _, rfl, h3, RawFs.append h4 h2⟩
theorem RawTs.append {w : World} {S : Nat → Prop} : ∀ {a b : List T} {c d : List Value}, RawTs w S a c → RawTs w S b d → RawTs w S (a ++ b) (c ++ d)
  | [], _, _, _, h1, h2 => by simp only [RawTs] at h1; subst h1; simpa using h2
  | f :: r, _, _, _, h1, h2 => by
    simp only [RawTs] at h1
    obtain ⟨v0, v1, v2, v3, v4, v5, c, rfl, h3, h4⟩ := h1
    simp only [List.cons_append, RawTs]
    exact ⟨v0, v1, v2, v3, v4, v5, _, rfl, h3, RawTs.append h4 h2⟩
end Go.Proofs.YtlemlgllkcgigaaGreatDoor
namespace Go.Proofs.YtlemlgllkcgigaaGreatDoor
open Go.RowKit

theorem FieldsV.kid {w wr : World} {B c k : Nat} {A : Option Addr} {l : List F} (h : FieldsV w B (.slice A l.length c) l) (hb : Below w.heap.size w wr) (hB : B ≤ w.heap.size) (hk : k < l.length) :
    ∃ b off, A = some ⟨b, off, none⟩ ∧ b < wr.heap.size ∧ wr.cell? ⟨b, off + k * 8, none⟩ = some (.string (l[k]).name) ∧ wr.cell? ⟨b, off + k * 8 + 1, none⟩ = some (.bool (l[k]).opt) ∧
      ∃ X3 b3 X4 b4 X5 b5, wr.cell? ⟨b, off + k * 8 + 2, none⟩ = some (.int .i64 (l[k]).type.kind) ∧ wr.cell? ⟨b, off + k * 8 + 2 + 1, none⟩ = some (.int .i64 (l[k]).type.lo) ∧ wr.cell? ⟨b, off + k * 8 + 2 + 2, none⟩ = some (.int .i64 (l[k]).type.hi) ∧
        wr.cell? ⟨b, off + k * 8 + 2 + 3, none⟩ = some (.slice X3 (l[k]).type.names.length b3) ∧ wr.cell? ⟨b, off + k * 8 + 2 + 4, none⟩ = some (.slice X4 (l[k]).type.fields.length b4) ∧ wr.cell? ⟨b, off + k * 8 + 2 + 5, none⟩ = some (.slice X5 (l[k]).type.of.length b5) ∧
        TypeIn wr B (l[k]).type (.int .i64 (l[k]).type.kind) (.int .i64 (l[k]).type.lo) (.int .i64 (l[k]).type.hi) (.slice X3 (l[k]).type.names.length b3) (.slice X4 (l[k]).type.fields.length b4) (.slice X5 (l[k]).type.of.length b5) := by
  obtain ⟨A', cc, e, _, hc⟩ := h
  injection e with e1 _ e3
  subst e1
  obtain ⟨b, off, rfl, hbb, hc⟩ := hc (by omega)
  have hat := FieldsIn.at_ hc k hk
  rw [Nat.zero_add] at hat
  have kp : ∀ p : Addr, p.block < B → wr.cell? p = w.cell? p := fun p hp => hb.cell (by omega)
  obtain ⟨u0, u1, u2, u3, u4, u5, s0, s1, s2, s3, s4, s5, hi⟩ := hat.2.2.keep (Nat.le_refl _) kp hbb
  obtain ⟨X3, b3, X4, b4, X5, b5, rfl, rfl, rfl, rfl, rfl, rfl⟩ := hi.forms
  exact ⟨b, off, rfl, by have := hb.size; omega, (kp ⟨b, _, none⟩ hbb).trans hat.1, (kp ⟨b, _, none⟩ hbb).trans hat.2.1, X3, b3, X4, b4, X5, b5, s0, s1, s2, s3, s4, s5, hi⟩
theorem TypesV.kid {w wr : World} {B c k : Nat} {A : Option Addr} {l : List T} (h : TypesV w B (.slice A l.length c) l) (hb : Below w.heap.size w wr) (hB : B ≤ w.heap.size) (hk : k < l.length) :
    ∃ b off, A = some ⟨b, off, none⟩ ∧ b < wr.heap.size ∧
      ∃ X3 b3 X4 b4 X5 b5, wr.cell? ⟨b, off + k * 6, none⟩ = some (.int .i64 (l[k]).kind) ∧ wr.cell? ⟨b, off + k * 6 + 1, none⟩ = some (.int .i64 (l[k]).lo) ∧ wr.cell? ⟨b, off + k * 6 + 2, none⟩ = some (.int .i64 (l[k]).hi) ∧
        wr.cell? ⟨b, off + k * 6 + 3, none⟩ = some (.slice X3 (l[k]).names.length b3) ∧ wr.cell? ⟨b, off + k * 6 + 4, none⟩ = some (.slice X4 (l[k]).fields.length b4) ∧ wr.cell? ⟨b, off + k * 6 + 5, none⟩ = some (.slice X5 (l[k]).of.length b5) ∧
        TypeIn wr B (l[k]) (.int .i64 (l[k]).kind) (.int .i64 (l[k]).lo) (.int .i64 (l[k]).hi) (.slice X3 (l[k]).names.length b3) (.slice X4 (l[k]).fields.length b4) (.slice X5 (l[k]).of.length b5) := by
  obtain ⟨A', cc, e, _, hc⟩ := h
  injection e with e1 _ e3
  subst e1
  obtain ⟨b, off, rfl, hbb, hc⟩ := hc (by omega)
  have hat := TypesIn.at_ hc k hk
  rw [Nat.zero_add] at hat
  have kp : ∀ p : Addr, p.block < B → wr.cell? p = w.cell? p := fun p hp => hb.cell (by omega)
  obtain ⟨u0, u1, u2, u3, u4, u5, s0, s1, s2, s3, s4, s5, hi⟩ := hat.keep (Nat.le_refl _) kp hbb
  obtain ⟨X3, b3, X4, b4, X5, b5, rfl, rfl, rfl, rfl, rfl, rfl⟩ := hi.forms
  exact ⟨b, off, rfl, by have := hb.size; omega, X3, b3, X4, b4, X5, b5, s0, s1, s2, s3, s4, s5, hi⟩

set_option maxHeartbeats 4000000 in
set_option maxRecDepth 100000 in
theorem rtsize_any (m : Nat) : ∀ (t : T) (v : Value) (w : World) (B : Nat), t.depth ≤ m → t.size ≤ 10000 → B ≤ w.heap.size → TypeV w B t v →
    Calls Tryz.prog 107 #[v] w fun e w' => e = .returned (.int .i64 t.size) ∧ Below w.heap.size w w' := by
  induction m with
  | zero => intro t; intro _ _ _ h; have := t.depth_pos; omega
  | succ m ih =>
    intro t v w B hm hs hB ht
    obtain ⟨v0, v1, v2, v3, v4, v5, rfl, hin⟩ := ht
    have IH := Lib.hid ih; have HIN := Lib.hid hin
    obtain ⟨A3, d3, A4, d4, A5, d5, rfl, rfl, rfl, rfl, rfl, rfl⟩ := hin.forms
    have HFV := Lib.hid hin.fields_; have HOV := Lib.hid hin.of_
    clear ih hin
    have hsz := T.size_eq t
    have hl1 := T.len_le_sizes (t.fields.map F.type)
    have hl2 := T.len_le_sizes t.of
    rw [List.length_map] at hl1
    go_enter Tryz.func107, Tryz.ntmps107
    go_wp2_with fail
    obtain ⟨W2, hW2⟩ : ∃ W2, W2 = w.alloc (.cells #[.int .i64 t.kind, .int .i64 t.lo, .int .i64 t.hi, .slice A3 t.names.length d3, .slice A4 t.fields.length d4, .slice A5 t.of.length d5] 26) := ⟨_, rfl⟩
    have HBX : Hid (Box6 W2 w.heap.size (.int .i64 t.kind) (.int .i64 t.lo) (.int .i64 t.hi) (.slice A3 t.names.length d3) (.slice A4 t.fields.length d4) (.slice A5 t.of.length d5)) := by rw [hW2]; exact Box6.new w _ _ _ _ _ _
    have HBL : Hid (Below w.heap.size w W2) := by rw [hW2]; exact (Below.refl _ _).alloc (Nat.le_refl _) _
    rw [← hW2]
    clear hW2
    go_loopw [3, 4] (fun n i wr => ∃ k : Nat, k ≤ t.fields.length ∧ i = .int .i64 k ∧ n = .int .i64 ((T.sizes ((t.fields.map F.type).take k) + 1 : Nat) : Int) ∧ Below w.heap.size w wr ∧ Box6 wr w.heap.size (.int .i64 t.kind) (.int .i64 t.lo) (.int .i64 t.hi) (.slice A3 t.names.length d3) (.slice A4 t.fields.length d4) (.slice A5 t.of.length d5)) (fun _ i _ => t.fields.length - (intOf i).toNat)
    case atStart => exact ⟨0, Nat.zero_le _, rfl, by simp [T.sizes], HBL.out, HBX.out⟩
    case round =>
      obtain ⟨k, hk, rfl, rfl, hb, hbx⟩ := hrel
      have HB := Lib.hid hb; have HX := Lib.hid hbx
      obtain ⟨q0, q1, q2, q3, q4, q5⟩ := hbx.cells
      have hzr := hb.size
      have hxl := hbx.lt
      clear hb hbx
      by_cases hlt : k < t.fields.length
      · have hlt2 : (k : Int) < (t.fields.length : Int) := by omega
        have hk0 : (0 : Int) ≤ (k : Int) := by omega
        have hkm : k < (t.fields.map F.type).length := by rw [List.length_map]; exact hlt
        have HT := Lib.hid (T.sizes_take_succ (t.fields.map F.type) k hkm)
        have htl : T.sizes ((t.fields.map F.type).take k) + (t.fields[k]).type.size ≤ T.sizes (t.fields.map F.type) := by
          have := HT.out; rw [List.getElem_map] at this; rw [← this]; exact T.sizes_take_le _ (k + 1)
        have HE : Hid (T.sizes ((t.fields.map F.type).take (k + 1)) = T.sizes ((t.fields.map F.type).take k) + (t.fields[k]).type.size) := by
          have := HT.out; rw [List.getElem_map] at this; exact this
        obtain ⟨b, off, rfl, hbb, s6, s7, X3, b3, X4, b4, X5, b5, s0, s1, s2, s3, s4, s5, hi⟩ := HFV.out.kid HB.out hB hlt
        have HI := Lib.hid hi
        have hdk : (t.fields[k]).type.depth < t.depth := T.field_depth hlt
        clear hi s6 s7 hkm HT
        go_wp2_with fail
        refine (IH.out (t.fields[k]).type _ wr B (by omega) (by omega) (by omega) ⟨_, _, _, _, _, _, rfl, HI.out⟩).mono ?_
        rintro e w2 ⟨rfl, hb2⟩
        have HB2 : Hid (Below w.heap.size w w2) := HB.out.trans (hb2.mono hzr)
        have HX2 := Lib.hid (HX.out.same (hb2.block _ hxl))
        clear hb2 q0 q1 q2 q3 q4 q5
        obtain ⟨q0, q1, q2, q3, q4, q5⟩ := HX2.out.cells
        go_wp2_with fail
        go_roundw
        case rel => exact ⟨k + 1, by omega, by go_num, by rw [HE.out]; go_num, HB2.out, HX2.out⟩
        case measure => simp [intOf]; omega
      · have hkk : k = t.fields.length := by omega
        have htk : T.sizes ((t.fields.map F.type).take k) = T.sizes (t.fields.map F.type) := by rw [List.take_of_length_le (by rw [List.length_map]; omega)]
        rw [htk]
        clear htk
        subst hkk
        go_wp2_with fail
        clear q0 q1 q2 q3 q4 q5
        go_loopw [3, 5] (fun n i wr => ∃ k : Nat, k ≤ t.of.length ∧ i = .int .i64 k ∧ n = .int .i64 ((T.sizes (t.fields.map F.type) + T.sizes (t.of.take k) + 1 : Nat) : Int) ∧ Below w.heap.size w wr ∧ Box6 wr w.heap.size (.int .i64 t.kind) (.int .i64 t.lo) (.int .i64 t.hi) (.slice A3 t.names.length d3) (.slice A4 t.fields.length d4) (.slice A5 t.of.length d5)) (fun _ i _ => t.of.length - (intOf i).toNat)
        case atStart => exact ⟨0, Nat.zero_le _, rfl, by simp [T.sizes], HB.out, HX.out⟩
        case round =>
          obtain ⟨k, hk, rfl, rfl, hb, hbx⟩ := hrel
          have HB := Lib.hid hb; have HX := Lib.hid hbx
          obtain ⟨q0, q1, q2, q3, q4, q5⟩ := hbx.cells
          have hzr := hb.size
          have hxl := hbx.lt
          clear hb hbx
          by_cases hlt : k < t.of.length
          · have hlt2 : (k : Int) < (t.of.length : Int) := by omega
            have hk0 : (0 : Int) ≤ (k : Int) := by omega
            have HE := Lib.hid (T.sizes_take_succ t.of k hlt)
            have htl : T.sizes (t.of.take k) + (t.of[k]).size ≤ T.sizes t.of := by
              rw [← HE.out]; exact T.sizes_take_le _ (k + 1)
            obtain ⟨b, off, rfl, hbb, X3, b3, X4, b4, X5, b5, s0, s1, s2, s3, s4, s5, hi⟩ := HOV.out.kid HB.out hB hlt
            have HI := Lib.hid hi
            have hdk : (t.of[k]).depth < t.depth := T.of_depth hlt
            clear hi
            go_wp2_with fail
            refine (IH.out (t.of[k]) _ wr B (by omega) (by omega) (by omega) ⟨_, _, _, _, _, _, rfl, HI.out⟩).mono ?_
            rintro e w2 ⟨rfl, hb2⟩
            have HB2 : Hid (Below w.heap.size w w2) := HB.out.trans (hb2.mono hzr)
            have HX2 := Lib.hid (HX.out.same (hb2.block _ hxl))
            clear hb2 q0 q1 q2 q3 q4 q5
            obtain ⟨q0, q1, q2, q3, q4, q5⟩ := HX2.out.cells
            go_wp2_with fail
            go_roundw
            case rel => exact ⟨k + 1, by omega, by go_num, by rw [HE.out]; go_num, HB2.out, HX2.out⟩
            case measure => simp [intOf]; omega
          · have htk : T.sizes (t.of.take k) = T.sizes t.of := by rw [List.take_of_length_le (by omega)]
            rw [htk]
            have E : Hid (T.sizes (t.fields.map F.type) + T.sizes t.of + 1 = t.size) := hsz.symm
            go_wp2_with fail
            go_ret
            exact ⟨ret_int (by rw [E.out]), HB.out⟩
theorem depths_take_succ (l : List T) (k : Nat) (h : k < l.length) : T.depths (l.take (k + 1)) = max (T.depths (l.take k)) (l[k]).depth := by
  rw [List.take_succ_eq_append_getElem h, T.depths_append]; simp [T.depths]
theorem depths_take_le (l : List T) (k : Nat) : T.depths (l.take k) ≤ T.depths l := by
  have := T.depths_append (l.take k) (l.drop k)
  rw [List.take_append_drop] at this
  omega
set_option maxHeartbeats 4000000 in
set_option maxRecDepth 100000 in
theorem rtdepth_any (m : Nat) : ∀ (t : T) (v : Value) (w : World) (B : Nat), t.depth ≤ m → t.depth ≤ 10000 → t.Fit → B ≤ w.heap.size → TypeV w B t v →
    Calls Tryz.prog 108 #[v] w fun e w' => e = .returned (.int .i64 t.depth) ∧ Below w.heap.size w w' := by
  induction m with
  | zero => intro t; intro _ _ _ h; have := t.depth_pos; omega
  | succ m ih =>
    intro t v w B hm hs hfit hB ht
    obtain ⟨v0, v1, v2, v3, v4, v5, rfl, hin⟩ := ht
    have IH := Lib.hid ih; have HIN := Lib.hid hin
    obtain ⟨A3, d3, A4, d4, A5, d5, rfl, rfl, rfl, rfl, rfl, rfl⟩ := hin.forms
    have HFV := Lib.hid hin.fields_; have HOV := Lib.hid hin.of_
    have HFI := Lib.hid hfit
    clear ih hin
    have hsz := T.depth_eq t
    obtain ⟨hl0, hl1, hl2, _, _, _⟩ := hfit.parts
    go_enter Tryz.func108, Tryz.ntmps108
    clear hfit
    go_wp2_with fail
    obtain ⟨W2, hW2⟩ : ∃ W2, W2 = w.alloc (.cells #[.int .i64 t.kind, .int .i64 t.lo, .int .i64 t.hi, .slice A3 t.names.length d3, .slice A4 t.fields.length d4, .slice A5 t.of.length d5] 26) := ⟨_, rfl⟩
    have HBX : Hid (Box6 W2 w.heap.size (.int .i64 t.kind) (.int .i64 t.lo) (.int .i64 t.hi) (.slice A3 t.names.length d3) (.slice A4 t.fields.length d4) (.slice A5 t.of.length d5)) := by rw [hW2]; exact Box6.new w _ _ _ _ _ _
    have HBL : Hid (Below w.heap.size w W2) := by rw [hW2]; exact (Below.refl _ _).alloc (Nat.le_refl _) _
    rw [← hW2]
    clear hW2
    go_loopw [3, 4] (fun n i wr => ∃ k : Nat, k ≤ t.fields.length ∧ i = .int .i64 k ∧ n = .int .i64 ((T.depths ((t.fields.map F.type).take k) : Nat) : Int) ∧ Below w.heap.size w wr ∧ Box6 wr w.heap.size (.int .i64 t.kind) (.int .i64 t.lo) (.int .i64 t.hi) (.slice A3 t.names.length d3) (.slice A4 t.fields.length d4) (.slice A5 t.of.length d5)) (fun _ i _ => t.fields.length - (intOf i).toNat)
    case atStart => exact ⟨0, Nat.zero_le _, rfl, by simp [T.depths], HBL.out, HBX.out⟩
    case round =>
      obtain ⟨k, hk, rfl, rfl, hb, hbx⟩ := hrel
      have HB := Lib.hid hb; have HX := Lib.hid hbx
      obtain ⟨q0, q1, q2, q3, q4, q5⟩ := hbx.cells
      have hzr := hb.size
      have hxl := hbx.lt
      clear hb hbx
      by_cases hlt : k < t.fields.length
      · have hlt2 : (k : Int) < (t.fields.length : Int) := by omega
        have hk0 : (0 : Int) ≤ (k : Int) := by omega
        have hkm : k < (t.fields.map F.type).length := by rw [List.length_map]; exact hlt
        have HT := Lib.hid (depths_take_succ (t.fields.map F.type) k hkm)
        have htl : max (T.depths ((t.fields.map F.type).take k)) (t.fields[k]).type.depth ≤ T.depths (t.fields.map F.type) := by
          have := HT.out; rw [List.getElem_map] at this; rw [← this]; exact depths_take_le _ (k + 1)
        have HE : Hid (T.depths ((t.fields.map F.type).take (k + 1)) = max (T.depths ((t.fields.map F.type).take k)) (t.fields[k]).type.depth) := by
          have := HT.out; rw [List.getElem_map] at this; exact this
        obtain ⟨b, off, rfl, hbb, s6, s7, X3, b3, X4, b4, X5, b5, s0, s1, s2, s3, s4, s5, hi⟩ := HFV.out.kid HB.out hB hlt
        have HI := Lib.hid hi
        have hdk : (t.fields[k]).type.depth < t.depth := T.field_depth hlt
        clear hi s6 s7 hkm HT
        go_wp2_with fail
        refine (IH.out (t.fields[k]).type _ wr B (by omega) (by omega) (HFI.out.parts.2.2.2.2.1.at_ hlt).type (by omega) ⟨_, _, _, _, _, _, rfl, HI.out⟩).mono ?_
        rintro e w2 ⟨rfl, hb2⟩
        have HB2 : Hid (Below w.heap.size w w2) := HB.out.trans (hb2.mono hzr)
        have HX2 := Lib.hid (HX.out.same (hb2.block _ hxl))
        clear hb2 q0 q1 q2 q3 q4 q5
        obtain ⟨q0, q1, q2, q3, q4, q5⟩ := HX2.out.cells
        go_wp2_with fail
        all_goals
          go_roundw
          case rel => exact ⟨k + 1, by omega, by go_num, by rw [HE.out]; first | rfl | go_num | (congr 1; omega), HB2.out, HX2.out⟩
          case measure => simp [intOf]; omega
      · have hkk : k = t.fields.length := by omega
        have htk : T.depths ((t.fields.map F.type).take k) = T.depths (t.fields.map F.type) := by rw [List.take_of_length_le (by rw [List.length_map]; omega)]
        rw [htk]
        clear htk
        subst hkk
        go_wp2_with fail
        clear q0 q1 q2 q3 q4 q5
        go_loopw [3, 5] (fun n i wr => ∃ k : Nat, k ≤ t.of.length ∧ i = .int .i64 k ∧ n = .int .i64 ((max (T.depths (t.fields.map F.type)) (T.depths (t.of.take k)) : Nat) : Int) ∧ Below w.heap.size w wr ∧ Box6 wr w.heap.size (.int .i64 t.kind) (.int .i64 t.lo) (.int .i64 t.hi) (.slice A3 t.names.length d3) (.slice A4 t.fields.length d4) (.slice A5 t.of.length d5)) (fun _ i _ => t.of.length - (intOf i).toNat)
        case atStart => exact ⟨0, Nat.zero_le _, rfl, by simp [T.depths], HB.out, HX.out⟩
        case round =>
          obtain ⟨k, hk, rfl, rfl, hb, hbx⟩ := hrel
          have HB := Lib.hid hb; have HX := Lib.hid hbx
          obtain ⟨q0, q1, q2, q3, q4, q5⟩ := hbx.cells
          have hzr := hb.size
          have hxl := hbx.lt
          clear hb hbx
          by_cases hlt : k < t.of.length
          · have hlt2 : (k : Int) < (t.of.length : Int) := by omega
            have hk0 : (0 : Int) ≤ (k : Int) := by omega
            have HT := Lib.hid (depths_take_succ t.of k hlt)
            have htl : max (T.depths (t.of.take k)) (t.of[k]).depth ≤ T.depths t.of := by
              rw [← HT.out]; exact depths_take_le _ (k + 1)
            have HE : Hid (max (T.depths (t.fields.map F.type)) (T.depths (t.of.take (k + 1))) = max (max (T.depths (t.fields.map F.type)) (T.depths (t.of.take k))) (t.of[k]).depth) := by
              show max _ (T.depths (t.of.take (k + 1))) = _
              rw [HT.out]; omega
            have htl2 : max (T.depths (t.fields.map F.type)) (T.depths (t.of.take k)) < t.depth := by omega
            obtain ⟨b, off, rfl, hbb, X3, b3, X4, b4, X5, b5, s0, s1, s2, s3, s4, s5, hi⟩ := HOV.out.kid HB.out hB hlt
            have HI := Lib.hid hi
            have hdk : (t.of[k]).depth < t.depth := T.of_depth hlt
            clear hi HT
            generalize max (T.depths (t.fields.map F.type)) (T.depths (t.of.take k)) = M at HE htl2 ⊢
            go_wp2_with fail
            refine (IH.out (t.of[k]) _ wr B (by omega) (by omega) (HFI.out.parts.2.2.2.2.2.at_ hlt) (by omega) ⟨_, _, _, _, _, _, rfl, HI.out⟩).mono ?_
            rintro e w2 ⟨rfl, hb2⟩
            have HB2 : Hid (Below w.heap.size w w2) := HB.out.trans (hb2.mono hzr)
            have HX2 := Lib.hid (HX.out.same (hb2.block _ hxl))
            clear hb2 q0 q1 q2 q3 q4 q5
            obtain ⟨q0, q1, q2, q3, q4, q5⟩ := HX2.out.cells
            go_wp2_with fail
            all_goals
              go_roundw
              case rel => exact ⟨k + 1, by omega, by go_num, by rw [HE.out]; first | rfl | go_num | (congr 1; omega), HB2.out, HX2.out⟩
              case measure => simp [intOf]; omega
          · have htk : T.depths (t.of.take k) = T.depths t.of := by rw [List.take_of_length_le (by omega)]
            rw [htk]
            have E : Hid (max (T.depths (t.fields.map F.type)) (T.depths t.of) + 1 = t.depth) := hsz.symm
            have htl2 : max (T.depths (t.fields.map F.type)) (T.depths t.of) < t.depth := by omega
            generalize max (T.depths (t.fields.map F.type)) (T.depths t.of) = M at E htl2 ⊢
            go_wp2_with fail
            go_ret
            exact ⟨ret_int (by rw [← E.out]; go_num), HB.out⟩
end Go.Proofs.YtlemlgllkcgigaaGreatDoor
