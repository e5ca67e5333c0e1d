/-
  schema.Right.
  schema.Field, behind: slices.IndexFunc over fields.
  Types that lie in given blocks: as TypeIn, over a set of blocks. And rows of cells that hold them.
  The document's own Size and Depth of types: as the program's.
  Documents that lie in given blocks: as DocIn, over a set of blocks. And a row of documents of the call's own, whose parts lie in other blocks of the set.
  A document that grows, whose kids may share what the call was handed: its kids' row is the call's own, their parts lie in blocks of the set, or were made since.
  The end of a document that grew out of what the call was handed.
-/
import Derived.Test.YteecdmceleanjaaGreatDoorB04
import Derived.Test.YteecdmceleanjaaGreatDoorB02
import Derived.Test.YteecdmceleanjaaGreatDoorB01
namespace Go.Proofs.YteecdmceleanjaaGreatDoor
open Go.RowKit

mutual
/-- Are all parts right, but for how great the type is? -/
def allT : T → Bool
  | .mk k lo hi ns f l => soundT (.mk k lo hi ns f l) && (allF f && allL l)
def allF : List F → Bool
  | [] => true
  | f :: r => allF1 f && allF r
def allF1 : F → Bool
  | .mk _ _ t => allT t
def allL : List T → Bool
  | [] => true
  | t :: r => allT t && allL r
end
theorem allL_append : ∀ a b : List T, allL (a ++ b) = (allL a && allL b)
  | [], b => by simp [allL]
  | t :: r, b => by simp [allL, allL_append r b, Bool.and_assoc]
theorem allF1_eq (f : F) : allF1 f = allT f.type := by obtain ⟨_, _, _⟩ := f; rfl
theorem allF_eq : ∀ l : List F, allF l = allL (l.map F.type)
  | [] => rfl
  | f :: r => by simp only [allF, List.map_cons, allL, allF_eq r, allF1_eq]
theorem allT_eq (t : T) : allT t = (soundT t && allL t.kids) := by
  obtain ⟨_, _, _, _, _, _⟩ := t
  simp only [allT, T.kids, T.fields, T.of, allL_append, allF_eq]
theorem kids_sizes (t : T) : t.size = T.sizes t.kids + 1 := by rw [T.size_eq]; simp only [T.kids, T.sizes_append]
theorem kids_depths (t : T) : t.depth = T.depths t.kids + 1 := by rw [T.depth_eq]; simp only [T.kids, T.depths_append]
/-- schema.Right. -/
def rightT (t : T) : Bool := decide (t.size ≤ 128) && (decide (t.depth ≤ 12) && allT t)

def rightStep (n : Int) (t : T) (d : Nat) : Int × Bool := (n + 1, decide (n + 1 ≤ 128) && (decide (d ≤ 12) && soundT t))
/-- No deeper, no more parts than these, and all right. -/
def okP (n : Int) (t : T) (d : Nat) : Prop := n + t.size ≤ 128 ∧ d + t.depth ≤ 13 ∧ allT t = true
theorem goT_right (m : Nat) : ∀ (n : Int) (t : T) (d : Nat), t.depth ≤ m → (okP n t d → goT rightStep m n t d = (n + t.size, true)) ∧ (¬ okP n t d → (goT rightStep m n t d).2 = false) := by
  induction m with
  | zero => intro n t d h; have := t.depth_pos; omega
  | succ m ih =>
    intro n t d h
    have key : ∀ (l : List T) (n : Int), (∀ x ∈ l, x.depth ≤ m) → ((n + T.sizes l ≤ 128 ∨ l = []) ∧ (d + 1 + T.depths l ≤ 13 ∨ l = []) ∧ allL l = true → walkL (fun n t => goT rightStep m n t (d + 1)) n l = (n + T.sizes l, true)) ∧
        (¬ ((n + T.sizes l ≤ 128 ∨ l = []) ∧ (d + 1 + T.depths l ≤ 13 ∨ l = []) ∧ allL l = true) → (walkL (fun n t => goT rightStep m n t (d + 1)) n l).2 = false) := by
      intro l
      induction l with
      | nil => intro n _; simp [walkL, T.sizes, allL]
      | cons x r ihl =>
        intro n hx
        have hxd := hx x (by simp)
        have hxp := x.depth_pos
        have hxs := x.size_pos
        obtain ⟨i1, i2⟩ := ih n x (d + 1) hxd
        by_cases hk : okP n x (d + 1)
        · have e := i1 hk
          obtain ⟨j1, j2⟩ := ihl (n + x.size) fun y hy => hx y (by simp [hy])
          have ew : walkL (fun n t => goT rightStep m n t (d + 1)) n (x :: r) = walkL (fun n t => goT rightStep m n t (d + 1)) (n + x.size) r := by simp only [walkL]; rw [e]; simp
          obtain ⟨k1, k2, k3⟩ := hk
          constructor
          · rintro ⟨h1, h2, h3⟩
            have h1 : n + T.sizes (x :: r) ≤ 128 := by rcases h1 with h1 | h1; exact h1; cases h1
            have h2 : d + 1 + T.depths (x :: r) ≤ 13 := by rcases h2 with h2 | h2; exact h2; cases h2
            simp only [T.sizes, T.depths, allL, Bool.and_eq_true] at h1 h2 h3
            rw [ew, j1 ⟨.inl (by omega), .inl (by omega), h3.2⟩]
            simp only [T.sizes]; simp; omega
          · intro hn
            rw [ew]
            apply j2
            rintro ⟨h1, h2, h3⟩
            apply hn
            refine ⟨.inl ?_, .inl ?_, ?_⟩
            · simp only [T.sizes]
              rcases h1 with h1 | rfl
              · simp; omega
              · simp [T.sizes]; omega
            · simp only [T.depths]
              rcases h2 with h2 | rfl
              · omega
              · simp [T.depths]; omega
            · simp only [allL, k3, h3]; rfl
        · have e := i2 hk
          have ew : (walkL (fun n t => goT rightStep m n t (d + 1)) n (x :: r)).2 = false := by simp only [walkL]; rw [e]; simp
          constructor
          · rintro ⟨h1, h2, h3⟩
            exfalso
            have h1 : n + T.sizes (x :: r) ≤ 128 := by rcases h1 with h1 | h1; exact h1; cases h1
            have h2 : d + 1 + T.depths (x :: r) ≤ 13 := by rcases h2 with h2 | h2; exact h2; cases h2
            simp only [T.sizes, T.depths, allL, Bool.and_eq_true] at h1 h2 h3
            exact hk ⟨by omega, by omega, h3.1⟩
          · intro _; exact ew
    have hkd : ∀ x ∈ t.kids, x.depth ≤ m := by
      intro x hx
      rw [kids_depths] at h
      obtain ⟨i, hi, rfl⟩ := List.mem_iff_getElem.1 hx; have := T.depth_le_depths hi; omega
    have hs := kids_sizes t
    have hd := kids_depths t
    obtain ⟨k1, k2⟩ := key t.kids (n + 1) hkd
    by_cases hst : (rightStep n t d).2 = true
    · have hg : goT rightStep (m + 1) n t d = walkL (fun n t => goT rightStep m n t (d + 1)) (n + 1) t.kids := by
        show (if (rightStep n t d).2 = true then _ else _) = _
        rw [if_pos hst]; rfl
      simp only [rightStep, Bool.and_eq_true, decide_eq_true_eq] at hst
      constructor
      · rintro ⟨h1, h2, h3⟩
        rw [allT_eq, Bool.and_eq_true] at h3
        rw [hg, k1 ⟨.inl (by omega), .inl (by omega), h3.2⟩]
        simp; omega
      · intro hn
        rw [hg]
        apply k2
        rintro ⟨h1, h2, h3⟩
        apply hn
        refine ⟨?_, ?_, by rw [allT_eq, hst.2.2, h3]; rfl⟩
        · rcases h1 with h1 | h1
          · omega
          · rw [h1] at hs; simp [T.sizes] at hs; omega
        · rcases h2 with h2 | h2
          · omega
          · rw [h2] at hd; simp [T.depths] at hd; omega
    · have hg : goT rightStep (m + 1) n t d = ((rightStep n t d).1, false) := by
        show (if (rightStep n t d).2 = true then _ else _) = _
        rw [if_neg hst]
      constructor
      · rintro ⟨h1, h2, h3⟩
        exfalso; apply hst
        rw [allT_eq, Bool.and_eq_true] at h3
        have := t.size_pos; have := t.depth_pos
        simp only [rightStep, Bool.and_eq_true, decide_eq_true_eq]
        exact ⟨by omega, by omega, h3.1⟩
      · intro _; rw [hg]
theorem goT_rightT (m : Nat) (t : T) (h : t.depth ≤ m) : (goT rightStep m 0 t 1).2 = rightT t := by
  obtain ⟨h1, h2⟩ := goT_right m 0 t 1 h
  have e : okP 0 t 1 ↔ rightT t = true := by
    unfold okP rightT; simp only [Bool.and_eq_true, decide_eq_true_eq]
    constructor
    · rintro ⟨a, b, c⟩; exact ⟨by omega, by omega, c⟩
    · rintro ⟨a, b, c⟩; exact ⟨by omega, by omega, c⟩
  by_cases hk : okP 0 t 1
  · rw [h1 hk, e.1 hk]
  · rw [h2 hk]
    cases hr : rightT t with
    | false => rfl
    | true => exact absurd (e.2 hr) hk
set_option maxHeartbeats 2000000 in
theorem sees_right (c B : Nat) (hBc : B ≤ c) : Sees rightStep 48 c B := by
  intro n t d b o w hn h0 h1 hd hf hb ht
  have HN := Lib.hid hn
  have e1 := hn.cell
  have e2 := hn.frozen
  have hcl := hn.lt
  have HF := Lib.hid hf; have HT := Lib.hid ht
  have hs1 : IntKind.i64.wrap (n + 1) = n + 1 := IntWalk.i64_in _ (by omega)
  clear hn hf ht
  by_cases g1 : n + 1 ≤ 128
  · by_cases g2 : d ≤ 12
    · have g2' : (d : Int) ≤ 12 := by omega
      have E := Lib.hid (show rightStep n t d = (n + 1, soundT t) by simp only [rightStep, g1, g2]; simp)
      have HN2 := Lib.hid (HN.out.set (n + 1))
      have HT2 : Hid (TypeAt (w.setCell ⟨c, 0, none⟩ (.int .i64 (n + 1))) B b o t) := HT.out.keep (Nat.le_refl _) (fun p hp => ((But.refl c w).setCell 0 (.int .i64 (n + 1))).cell (by omega) (by omega)) hb
      go_enter Tryz.func48, Tryz.ntmps48
      go_wp2_with fail
      refine (tsound_any (B := B) HF.out (by simp [World.setCell]; omega) HT2.out).mono ?_
      rintro e w1 ⟨rfl, hb1⟩
      have hz : (w.setCell ⟨c, 0, none⟩ (.int .i64 (n + 1))).heap.size = w.heap.size := by simp [World.setCell]
      have HB1 : Hid (But c w w1) := ((But.refl c w).setCell 0 (.int .i64 (n + 1))).trans (But.of_below hb1)
      have HN3 : Hid (Num w1 c (n + 1)) := HN2.out.same (hb1.block c (by rw [hz]; exact hcl))
      clear hb1 e1 e2 hz
      go_wp2_with fail
      go_ret
      rw [E.out]
      exact ⟨rfl, HN3.out, HB1.out⟩
    · have g2' : decide ((d : Int) ≤ 12) = false := decide_eq_false (by omega)
      have E := Lib.hid (show rightStep n t d = (n + 1, false) by simp only [rightStep, g1, g2]; simp)
      go_enter Tryz.func48, Tryz.ntmps48
      go_wp2_with fail
      go_ret
      rw [E.out]
      exact ⟨rfl, HN.out.set (n + 1), (But.refl c w).setCell 0 (.int .i64 (n + 1))⟩
  · have g1' : decide (n + 1 ≤ 128) = false := decide_eq_false g1
    have E := Lib.hid (show rightStep n t d = (n + 1, false) by simp only [rightStep, g1]; simp)
    go_enter Tryz.func48, Tryz.ntmps48
    go_wp2_with fail
    go_ret
    rw [E.out]
    exact ⟨rfl, HN.out.set (n + 1), (But.refl c w).setCell 0 (.int .i64 (n + 1))⟩
set_option maxHeartbeats 1000000 in
theorem tright_any {t : T} {v : Value} {w : World} {B : Nat} (hs : t.size ≤ 10000) (hd : t.depth ≤ 900) (hf : t.Fit) (hB : B ≤ w.heap.size) (ht : TypeV w B t v) :
    Calls Tryz.prog 20 #[v] w fun e w' => e = .returned (.bool (rightT t)) ∧ Below w.heap.size w w' := by
  obtain ⟨v0, v1, v2, v3, v4, v5, rfl, hin⟩ := ht
  have hat := boxed_at hB hin
  obtain ⟨A3, d3, A4, d4, A5, d5, rfl, rfl, rfl, rfl, rfl, rfl⟩ := hin.forms
  have HA := Lib.hid hat
  have hmf : ∀ (fn : Fn) (first cap : Array Value) (w : World), (Instr.makeFunc fn first cap).run Tryz.prog w = .ok (.func fn first cap) w := fun _ _ _ _ => rfl
  clear hin hat
  go_enter Tryz.func20, Tryz.ntmps20
  go_wp2_with fail
  have hat2 := TypeAt.keep (B' := w.heap.size + 1) (Nat.le_refl _) (fun p hp => World.cell?_alloc_lt (w.alloc (.cells #[.int .i64 t.kind, .int .i64 t.lo, .int .i64 t.hi, .slice A3 t.names.length d3, .slice A4 t.fields.length d4, .slice A5 t.of.length d5] 26)) (.cells #[.int .i64 0] 3) p (by simp; omega)) (Nat.lt_succ_self _) HA.out
  have hnum : Num ((w.alloc (.cells #[.int .i64 t.kind, .int .i64 t.lo, .int .i64 t.hi, .slice A3 t.names.length d3, .slice A4 t.fields.length d4, .slice A5 t.of.length d5] 26)).alloc (.cells #[.int .i64 0] 3)) (w.heap.size + 1) 0 := by have := num_new (w.alloc (.cells #[.int .i64 t.kind, .int .i64 t.lo, .int .i64 t.hi, .slice A3 t.names.length d3, .slice A4 t.fields.length d4, .slice A5 t.of.length d5] 26)) 0; rwa [World.size_alloc] at this
  refine (over_any (enters_of Tryz.func48 (by kernel_rfl) rfl) (sees_right _ (w.heap.size + 1) (Nat.le_refl _)) (fun n t d h0 h1 => by simp only [rightStep]; omega) (Nat.le_refl _) t.depth 0 t w.heap.size 0 _ (Nat.le_refl _) hnum (by omega) (by omega) hs hd hf (by omega) hat2).mono ?_
  rintro e w1 ⟨rfl, -, hb1⟩
  rw [goT_rightT _ _ (Nat.le_refl _)]
  have HB1 : Hid (Below w.heap.size w w1) := (((Below.refl _ _).alloc (Nat.le_refl _) _).alloc (by simp) _).trans (hb1.below (by omega) (by simp; omega))
  clear hb1 hat2 hnum
  go_wp2_with fail
  go_ret
  exact ⟨rfl, HB1.out⟩
theorem kid_small {t t' : T} (h : t' ∈ t.kids) : t'.depth < t.depth ∧ t'.size < t.size ∧ (t.Fit → t'.Fit) := by
  rw [kids_depths t, kids_sizes t]
  have key : ∀ l : List T, t' ∈ l → t'.depth ≤ T.depths l ∧ t'.size ≤ T.sizes l := by
    intro l
    induction l with
    | nil => intro h; cases h
    | cons x r ih =>
      intro h
      simp only [T.depths, T.sizes]
      rcases List.mem_cons.1 h with rfl | h
      · omega
      · have := ih h; omega
  have := key _ h
  refine ⟨by omega, by omega, fun hf => ?_⟩
  obtain ⟨_, _, _, _, h5, h6⟩ := hf.parts
  rcases List.mem_append.1 h with h | h
  · obtain ⟨f, hf, rfl⟩ := List.mem_map.1 h
    obtain ⟨i, hi, rfl⟩ := List.mem_iff_getElem.1 hf
    exact (h5.at_ hi).type
  · obtain ⟨i, hi, rfl⟩ := List.mem_iff_getElem.1 h
    exact h6.at_ hi
end Go.Proofs.YteecdmceleanjaaGreatDoor
namespace Go.Proofs.YteecdmceleanjaaGreatDoor
open Go.RowKit

/-- The place of the first field that p takes, or -1. -/
def fieldIdx (p : F → Bool) : List F → Int
  | [] => -1
  | f :: r => if p f = true then 0 else if fieldIdx p r = -1 then -1 else fieldIdx p r + 1
theorem fieldIdx_cases (p : F → Bool) : ∀ (l : List F), (fieldIdx p l = -1 ∧ ∀ (i : Nat) (h : i < l.length), p l[i] = false) ∨ ∃ (i : Nat) (h : i < l.length), fieldIdx p l = i ∧ p l[i] = true ∧ ∀ (j : Nat) (hj : j < i), p (l[j]'(by omega)) = false
  | [] => .inl ⟨rfl, fun i h => by simp at h⟩
  | f :: r => by
    unfold fieldIdx
    by_cases hp : p f = true
    · rw [if_pos hp]
      exact .inr ⟨0, by simp, rfl, hp, fun j hj => absurd hj (by omega)⟩
    · rw [if_neg hp]
      have hp' : p f = false := by simpa using hp
      rcases fieldIdx_cases p r with ⟨h1, h2⟩ | ⟨i, h, h1, h2, h3⟩
      · rw [if_pos h1]
        refine .inl ⟨rfl, fun i h => ?_⟩
        cases i with
        | zero => exact hp'
        | succ i => exact h2 i (by simpa using h)
      · rw [if_neg (by omega), h1]
        refine .inr ⟨i + 1, by simpa using h, by omega, by simpa using h2, fun j hj => ?_⟩
        cases j with
        | zero => exact hp'
        | succ j => exact h3 j (by omega)
theorem fieldIdx_none {p : F → Bool} {l : List F} (h : ∀ (i : Nat) (h : i < l.length), p l[i] = false) : fieldIdx p l = -1 := by
  rcases fieldIdx_cases p l with ⟨h1, _⟩ | ⟨i, hi, _, h2, _⟩
  · exact h1
  · rw [h i hi] at h2; cases h2
theorem fieldIdx_at {p : F → Bool} {l : List F} {i : Nat} (hi : i < l.length) (h : p l[i] = true) (hj : ∀ (j : Nat) (hj : j < i), p (l[j]'(by omega)) = false) : fieldIdx p l = i := by
  rcases fieldIdx_cases p l with ⟨_, h1⟩ | ⟨k, hk, h1, h2, h3⟩
  · rw [h1 i hi] at h; cases h
  · rcases Nat.lt_trichotomy i k with h' | h' | h'
    · rw [h3 i h'] at h; cases h
    · rw [h1, h']
    · rw [hj k h'] at h2; cases h2
/-- What the function value must tell of a field. -/
def Asks (p : F → Bool) (G : Nat) (c : Nat) (w0 : World) (B : Nat) : Prop :=
  ∀ (f : F) (v0 v1 v2 v3 v4 v5 : Value) (w : World), Below w0.heap.size w0 w → TypeIn w B f.type v0 v1 v2 v3 v4 v5 → f.name.size ≤ 10000 →
    Calls Tryz.prog G #[.agg #[.string f.name, .bool f.opt, v0, v1, v2, v3, v4, v5], .pointer (some ⟨c, 0, none⟩)] w fun e w' => e = .returned (.bool (p f)) ∧ Below w.heap.size w w'
set_option maxHeartbeats 2000000 in
set_option maxRecDepth 100000 in
theorem indexF_any {p : F → Bool} {G c B : Nat} {l : List F} {v : Value} {w : World} (eg : ∀ args w, (callFunc G args).run Tryz.prog w = .ok (.enter G args) w) (ha : Asks p G c w B) (hB : B ≤ w.heap.size) (hv : FieldsV w B v l) (hn : l.length ≤ 10000) (hf : T.FitsF l) :
    Calls Tryz.prog 63 #[v, .func (.func G) #[] #[.pointer (some ⟨c, 0, none⟩)]] w fun e w' => e = .returned (.int .i64 (fieldIdx p l)) ∧ Below w.heap.size w w' := by
  obtain ⟨A, cc, rfl, hc, hk⟩ := hv
  have HA := Lib.hid ha; have HK := Lib.hid hk; have HF := Lib.hid hf
  clear ha hk hf
  go_enter Tryz.func63, Tryz.ntmps63
  go_wp2_with fail
  go_loopw [8] (fun i wr => ∃ k : Nat, k ≤ l.length ∧ i = .int .i64 k ∧ (∀ (j : Nat) (h : j < l.length), j < k → p l[j] = false) ∧ Below w.heap.size w wr) (fun i _ => l.length - (intOf i).toNat)
  case atStart => exact ⟨0, Nat.zero_le _, rfl, fun j _ hj => absurd hj (by omega), Below.refl _ _⟩
  case round =>
    obtain ⟨k, hkl, rfl, hall, hb⟩ := hrel
    have HALL := Lib.hid hall; have HB := Lib.hid hb
    have hz := hb.size
    clear hall
    by_cases hlt : k < l.length
    · obtain ⟨b, off, rfl, hab, hfi⟩ := HK.out (by omega)
      have hat := FieldsIn.at_ hfi k hlt
      rw [Nat.zero_add] at hat
      obtain ⟨n0, o0, ht⟩ := hat
      have kp : ∀ p : Addr, p.block < B → wr.cell? p = w.cell? p := fun p hp => hb.cell (by omega)
      have n1 := (kp ⟨b, off + k * 8, none⟩ hab).trans n0
      have o1 := (kp ⟨b, off + k * 8 + 1, none⟩ hab).trans o0
      obtain ⟨v0, v1, v2, v3, v4, v5, c0, c1, c2, c3, c4, c5, hin⟩ := ht.keep (Nat.le_refl _) kp hab
      have HIN := Lib.hid hin
      obtain ⟨A3, d3, A4, d4, A5, d5, rfl, rfl, rfl, rfl, rfl, rfl⟩ := hin.forms
      clear n0 o0 kp hfi ht hin hb
      cases hp : p l[k] with
      | false =>
        have HP := Lib.hid hp; clear hp
        go_wp2_with fail
        refine (HA.out l[k] _ _ _ _ _ _ wr HB.out HIN.out (HF.out.at_ hlt).name).mono ?_
        rintro e w2 ⟨rfl, hb2⟩
        rw [HP.out]
        have HB2 : Hid (Below w.heap.size w w2) := HB.out.trans (hb2.mono hz)
        clear hb2
        go_wp2_with fail
        go_roundw
        case rel => exact ⟨k + 1, by omega, by go_num, fun j h hj => by
          rcases Nat.lt_or_ge j k with h1 | h1
          · exact HALL.out j h h1
          · obtain rfl : j = k := by omega
            exact HP.out, HB2.out⟩
        case measure => simp [intOf]; omega
      | true =>
        have E := Lib.hid (fieldIdx_at hlt hp fun j hj => HALL.out j (by omega) hj)
        have HP := Lib.hid hp; clear hp
        go_wp2_with fail
        refine (HA.out l[k] _ _ _ _ _ _ wr HB.out HIN.out (HF.out.at_ hlt).name).mono ?_
        rintro e w2 ⟨rfl, hb2⟩
        rw [HP.out]
        have HB2 : Hid (Below w.heap.size w w2) := HB.out.trans (hb2.mono hz)
        clear hb2
        go_wp2_with fail
        go_ret
        exact ⟨ret_int E.out.symm, HB2.out⟩
    · have E := Lib.hid (fieldIdx_none fun j h => HALL.out j h (by omega))
      go_wp2_with fail
      go_ret
      exact ⟨ret_int E.out.symm, HB.out⟩
theorem beq_iff (a b : ByteArray) : (a.toList == b.toList) = decide (a = b) := by
  rw [Bool.eq_iff_iff, beq_iff_eq, decide_eq_true_eq, ByteArray.toList_eq, ByteArray.toList_eq]
  constructor
  · intro h
    cases a; cases b
    simp only at h
    congr 1
    exact Array.toList_inj.1 h
  · intro h; rw [h]
/-- Is it called so? -/
def calledB (s : ByteArray) (f : F) : Bool := decide (f.name = s)
def fieldOf (t : T) (s : ByteArray) : Int := if t.kind = 1 then fieldIdx (calledB s) t.fields else -1
set_option maxHeartbeats 1000000 in
theorem asks_field (s : ByteArray) (c B : Nat) (w0 : World) (hc : c < w0.heap.size) (hs : w0.cell? ⟨c, 0, none⟩ = some (.string s)) : Asks (calledB s) 64 c w0 B := by
  intro f v0 v1 v2 v3 v4 v5 w hb hin hn
  have e1 := (hb.cell (p := ⟨c, 0, none⟩) hc).trans hs
  have hz := hb.size
  obtain ⟨A3, d3, A4, d4, A5, d5, rfl, rfl, rfl, rfl, rfl, rfl⟩ := hin.forms
  have E := Lib.hid (beq_iff f.name s)
  clear hs hb hin
  have hc2 : c < w.heap.size := by omega
  have hc3 : ¬ c = w.heap.size := by omega
  go_enter Tryz.func64, Tryz.ntmps64
  go_wp2_with fail
  go_ret
  exact ⟨ret_bool E.out, (Below.refl _ _).alloc (Nat.le_refl _) _⟩
set_option maxHeartbeats 1000000 in
theorem tfield_any {t : T} {v : Value} {s : ByteArray} {w : World} {B : Nat} (hf : t.Fit) (hB : B ≤ w.heap.size) (ht : TypeV w B t v) :
    Calls Tryz.prog 33 #[v, .string s] w fun e w' => e = .returned (.int .i64 (fieldOf t s)) ∧ Below w.heap.size w w' := by
  obtain ⟨v0, v1, v2, v3, v4, v5, rfl, hin⟩ := ht
  have HFV := Lib.hid hin.fields_
  obtain ⟨A3, d3, A4, d4, A5, d5, rfl, rfl, rfl, rfl, rfl, rfl⟩ := hin.forms
  have hmf : ∀ (fn : Fn) (first cap : Array Value) (w : World), (Instr.makeFunc fn first cap).run Tryz.prog w = .ok (.func fn first cap) w := fun _ _ _ _ => rfl
  have HF := Lib.hid hf
  clear hin hf
  by_cases hk : t.kind = 1
  · have E := Lib.hid (show fieldOf t s = fieldIdx (calledB s) t.fields by unfold fieldOf; rw [if_pos hk])
    have hk2 : (t.kind != 1) = false := by simp [hk]
    clear hk
    go_enter Tryz.func33, Tryz.ntmps33
    go_wp2_with fail
    have hbl : Below w.heap.size w ((w.alloc (.cells #[.int .i64 t.kind, .int .i64 t.lo, .int .i64 t.hi, .slice A3 t.names.length d3, .slice A4 t.fields.length d4, .slice A5 t.of.length d5] 26)).alloc (.cells #[.string s] 9)) := ((Below.refl _ _).alloc (Nat.le_refl _) _).alloc (by simp) _
    have hc1 : ((w.alloc (.cells #[.int .i64 t.kind, .int .i64 t.lo, .int .i64 t.hi, .slice A3 t.names.length d3, .slice A4 t.fields.length d4, .slice A5 t.of.length d5] 26)).alloc (.cells #[.string s] 9)).cell? ⟨w.heap.size + 1, 0, none⟩ = some (.string s) := by go_simp
    have hc2 : w.heap.size + 1 < ((w.alloc (.cells #[.int .i64 t.kind, .int .i64 t.lo, .int .i64 t.hi, .slice A3 t.names.length d3, .slice A4 t.fields.length d4, .slice A5 t.of.length d5] 26)).alloc (.cells #[.string s] 9)).heap.size := by simp
    generalize ((w.alloc (.cells #[.int .i64 t.kind, .int .i64 t.lo, .int .i64 t.hi, .slice A3 t.names.length d3, .slice A4 t.fields.length d4, .slice A5 t.of.length d5] 26)).alloc (.cells #[.string s] 9)) = W2 at hbl hc1 hc2 ⊢
    refine (indexF_any (p := calledB s) (B := B) (enters_of Tryz.func64 (by kernel_rfl) rfl) (asks_field s (w.heap.size + 1) B W2 hc2 hc1) (by have := hbl.size; omega) (HFV.out.keep (Nat.le_refl _) fun p hp => hbl.cell (by omega)) HF.out.parts.2.1 HF.out.parts.2.2.2.2.1).mono ?_
    rintro e w1 ⟨rfl, hb1⟩
    have HB1 : Hid (Below w.heap.size w w1) := hbl.trans (hb1.mono hbl.size)
    clear hb1 hbl hc1
    go_wp2_with fail
    go_ret
    exact ⟨ret_int E.out.symm, HB1.out⟩
  · have E := Lib.hid (show fieldOf t s = -1 by unfold fieldOf; rw [if_neg hk])
    have hk2 : (t.kind != 1) = true := by simp [hk]
    clear hk
    go_enter Tryz.func33, Tryz.ntmps33
    go_wp2_with fail
    go_ret
    exact ⟨ret_int E.out.symm, ((Below.refl _ _).alloc (Nat.le_refl _) _).alloc (by simp) _⟩
end Go.Proofs.YteecdmceleanjaaGreatDoor
namespace Go.Proofs.YteecdmceleanjaaGreatDoor
open Go.RowKit

/-- A slice of strings in blocks of the set: nil let in. -/
def StrsS (w : World) (S : Nat → Prop) (v : Value) (xs : List ByteArray) : Prop :=
  ∃ (A : Option Addr) (c : Nat), v = .slice A xs.length c ∧ xs.length ≤ c ∧
    (0 < xs.length → ∃ b off, A = some ⟨b, off, none⟩ ∧ S b ∧ ∀ (i : Nat) (h : i < xs.length), w.cell? ⟨b, off + i, none⟩ = some (.string xs[i]))
mutual
/-- The six cells of a type. -/
def TypeS (w : World) (S : Nat → Prop) : T → Value → Value → Value → Value → Value → Value → Prop
  | .mk kind lo hi names fields of, v0, v1, v2, v3, v4, v5 =>
    v0 = .int .i64 kind ∧ v1 = .int .i64 lo ∧ v2 = .int .i64 hi ∧ StrsS w S v3 names ∧
      (∃ (A : Option Addr) (c : Nat), v4 = .slice A fields.length c ∧ fields.length ≤ c ∧ (0 < fields.length → ∃ b off, A = some ⟨b, off, none⟩ ∧ S b ∧ FieldsS w S b off 0 fields)) ∧
      (∃ (A : Option Addr) (c : Nat), v5 = .slice A of.length c ∧ of.length ≤ c ∧ (0 < of.length → ∃ b off, A = some ⟨b, off, none⟩ ∧ S b ∧ TypesS w S b off 0 of))
def FieldsS (w : World) (S : Nat → Prop) (b off : Nat) : Nat → List F → Prop
  | _, [] => True
  | i, f :: r => FieldS w S b (off + i * 8) f ∧ FieldsS w S b off (i + 1) r
def FieldS (w : World) (S : Nat → Prop) (b o : Nat) : F → Prop
  | .mk name opt type => w.cell? ⟨b, o, none⟩ = some (.string name) ∧ w.cell? ⟨b, o + 1, none⟩ = some (.bool opt) ∧
      ∃ v0 v1 v2 v3 v4 v5 : Value, w.cell? ⟨b, o + 2, none⟩ = some v0 ∧ w.cell? ⟨b, o + 2 + 1, none⟩ = some v1 ∧ w.cell? ⟨b, o + 2 + 2, none⟩ = some v2 ∧ w.cell? ⟨b, o + 2 + 3, none⟩ = some v3 ∧ w.cell? ⟨b, o + 2 + 4, none⟩ = some v4 ∧ w.cell? ⟨b, o + 2 + 5, none⟩ = some v5 ∧ TypeS w S type v0 v1 v2 v3 v4 v5
def TypesS (w : World) (S : Nat → Prop) (b off : Nat) : Nat → List T → Prop
  | _, [] => True
  | i, d :: r => (∃ v0 v1 v2 v3 v4 v5 : Value, w.cell? ⟨b, off + i * 6, none⟩ = some v0 ∧ w.cell? ⟨b, off + i * 6 + 1, none⟩ = some v1 ∧ w.cell? ⟨b, off + i * 6 + 2, none⟩ = some v2 ∧ w.cell? ⟨b, off + i * 6 + 3, none⟩ = some v3 ∧ w.cell? ⟨b, off + i * 6 + 4, none⟩ = some v4 ∧ w.cell? ⟨b, off + i * 6 + 5, none⟩ = some v5 ∧ TypeS w S d v0 v1 v2 v3 v4 v5) ∧ TypesS w S b off (i + 1) r
end
theorem StrsS.keep {w w' : World} {S S' : Nat → Prop} (hB : ∀ k, S k → S' k) (h : ∀ p : Addr, S p.block → w'.cell? p = w.cell? p) {v : Value} {xs : List ByteArray} (hs : StrsS w S v xs) : StrsS w' S' v xs := by
  obtain ⟨A, c, e, l, h1⟩ := hs
  refine ⟨A, c, e, l, fun hl => ?_⟩
  obtain ⟨b, off, e', hb, hc⟩ := h1 hl
  exact ⟨b, off, e', hB _ hb, fun i hi => (h ⟨b, off + i, none⟩ hb).trans (hc i hi)⟩
mutual
theorem TypeS.keep {w w' : World} {S S' : Nat → Prop} (hB : ∀ k, S k → S' k) (h : ∀ p : Addr, S p.block → w'.cell? p = w.cell? p) : ∀ {d : T} {v0 v1 v2 v3 v4 v5 : Value}, TypeS w S d v0 v1 v2 v3 v4 v5 → TypeS w' S' d v0 v1 v2 v3 v4 v5
  | .mk _ _ _ _ fields of, _, _, _, _, _, _, hd => by
    simp only [TypeS] at hd ⊢
    obtain ⟨h0, h1, h2, h3, ⟨A', c', e', k1, k2⟩, ⟨A'', c'', e'', k3, k4⟩⟩ := hd
    refine ⟨h0, h1, h2, h3.keep hB h, ⟨A', c', e', k1, fun hl => ?_⟩, ⟨A'', c'', e'', k3, fun hl => ?_⟩⟩
    · obtain ⟨b, off, ea, hb, hk⟩ := k2 hl
      exact ⟨b, off, ea, hB _ hb, FieldsS.keep hB h hb hk⟩
    · obtain ⟨b, off, ea, hb, hk⟩ := k4 hl
      exact ⟨b, off, ea, hB _ hb, TypesS.keep hB h hb hk⟩
theorem FieldsS.keep {w w' : World} {S S' : Nat → Prop} (hB : ∀ k, S k → S' k) (h : ∀ p : Addr, S p.block → w'.cell? p = w.cell? p) {b off : Nat} (hb : S b) : ∀ {l : List F} {i : Nat}, FieldsS w S b off i l → FieldsS w' S' b off i l
  | [], _, _ => by simp [FieldsS]
  | f :: r, i, hk => by
    simp only [FieldsS] at hk ⊢
    exact ⟨FieldS.keep hB h hb hk.1, FieldsS.keep hB h hb hk.2⟩
theorem FieldS.keep {w w' : World} {S S' : Nat → Prop} (hB : ∀ k, S k → S' k) (h : ∀ p : Addr, S p.block → w'.cell? p = w.cell? p) {b : Nat} (hb : S b) : ∀ {f : F} {o : Nat}, FieldS w S b o f → FieldS w' S' b o f
  | .mk _ _ _, o, hk => by
    simp only [FieldS] at hk ⊢
    obtain ⟨a1, a2, v0, v1, v2, v3, v4, v5, c0, c1, c2, c3, c4, c5, hd⟩ := hk
    have hh : ∀ n, w'.cell? ⟨b, n, none⟩ = w.cell? ⟨b, n, none⟩ := fun n => h ⟨b, n, none⟩ hb
    exact ⟨(hh _).trans a1, (hh _).trans a2, v0, v1, v2, v3, v4, v5, (hh _).trans c0, (hh _).trans c1, (hh _).trans c2, (hh _).trans c3, (hh _).trans c4, (hh _).trans c5, TypeS.keep hB h hd⟩
theorem TypesS.keep {w w' : World} {S S' : Nat → Prop} (hB : ∀ k, S k → S' k) (h : ∀ p : Addr, S p.block → w'.cell? p = w.cell? p) {b off : Nat} (hb : S b) : ∀ {l : List T} {i : Nat}, TypesS w S b off i l → TypesS w' S' b off i l
  | [], _, _ => by simp [TypesS]
  | d :: r, i, hk => by
    simp only [TypesS] at hk ⊢
    obtain ⟨⟨v0, v1, v2, v3, v4, v5, c0, c1, c2, c3, c4, c5, hd⟩, hr⟩ := hk
    have hh : ∀ n, w'.cell? ⟨b, n, none⟩ = w.cell? ⟨b, n, none⟩ := fun n => h ⟨b, n, none⟩ hb
    exact ⟨⟨v0, v1, v2, v3, v4, v5, (hh _).trans c0, (hh _).trans c1, (hh _).trans c2, (hh _).trans c3, (hh _).trans c4, (hh _).trans c5, TypeS.keep hB h hd⟩, TypesS.keep hB h hb hr⟩
end
theorem TypeS.forms {w : World} {S : Nat → Prop} {d : T} {v0 v1 v2 v3 v4 v5 : Value} (h : TypeS w S d v0 v1 v2 v3 v4 v5) :
    ∃ A3 c3 A4 c4 A5 c5, v0 = .int .i64 d.kind ∧ v1 = .int .i64 d.lo ∧ v2 = .int .i64 d.hi ∧ v3 = .slice A3 d.names.length c3 ∧ v4 = .slice A4 d.fields.length c4 ∧ v5 = .slice A5 d.of.length c5 := by
  obtain ⟨_, _, _, _, _, _⟩ := d
  simp only [TypeS] at h
  obtain ⟨h0, h1, h2, ⟨A3, c3, h3, _⟩, ⟨A4, c4, h4, _⟩, ⟨A5, c5, h5, _⟩⟩ := h
  exact ⟨A3, c3, A4, c4, A5, c5, h0, h1, h2, h3, h4, h5⟩
theorem TypeS.names_ {w : World} {S : Nat → Prop} {d : T} {v0 v1 v2 v3 v4 v5 : Value} (h : TypeS w S d v0 v1 v2 v3 v4 v5) : StrsS w S v3 d.names := by
  obtain ⟨_, _, _, _, _, _⟩ := d
  simp only [TypeS] at h
  exact h.2.2.2.1
mutual
theorem TypeS.toIn {w : World} {S : Nat → Prop} {B : Nat} (hS : ∀ k, S k → k < B) : ∀ {t : T} {v0 v1 v2 v3 v4 v5 : Value}, TypeS w S t v0 v1 v2 v3 v4 v5 → TypeIn w B t v0 v1 v2 v3 v4 v5
  | .mk _ _ _ _ fields of, _, _, _, _, _, _, hd => by
    simp only [TypeS] at hd
    simp only [TypeIn]
    obtain ⟨h0, h1, h2, ⟨A, c, e, l, h3⟩, ⟨A', c', e', k1, k2⟩, ⟨A'', c'', e'', k3, k4⟩⟩ := hd
    refine ⟨h0, h1, h2, ⟨A, c, e, l, fun hl => ?_⟩, ⟨A', c', e', k1, fun hl => ?_⟩, ⟨A'', c'', e'', k3, fun hl => ?_⟩⟩
    · obtain ⟨b, off, ea, hb, hk⟩ := h3 hl
      exact ⟨b, off, ea, hS _ hb, hk⟩
    · obtain ⟨b, off, ea, hb, hk⟩ := k2 hl
      exact ⟨b, off, ea, hS _ hb, FieldsS.toIn hS hk⟩
    · obtain ⟨b, off, ea, hb, hk⟩ := k4 hl
      exact ⟨b, off, ea, hS _ hb, TypesS.toIn hS hk⟩
theorem FieldsS.toIn {w : World} {S : Nat → Prop} {B : Nat} (hS : ∀ k, S k → k < B) {b off : Nat} : ∀ {l : List F} {i : Nat}, FieldsS w S b off i l → FieldsIn w B b off i l
  | [], _, _ => by simp [FieldsIn]
  | f :: r, i, hk => by
    simp only [FieldsS] at hk
    simp only [FieldsIn]
    exact ⟨FieldS.toIn hS hk.1, FieldsS.toIn hS hk.2⟩
theorem FieldS.toIn {w : World} {S : Nat → Prop} {B : Nat} (hS : ∀ k, S k → k < B) {b : Nat} : ∀ {f : F} {o : Nat}, FieldS w S b o f → FieldIn w B b o f
  | .mk _ _ _, o, hk => by
    simp only [FieldS] at hk
    simp only [FieldIn]
    obtain ⟨a1, a2, v0, v1, v2, v3, v4, v5, c0, c1, c2, c3, c4, c5, hd⟩ := hk
    exact ⟨a1, a2, v0, v1, v2, v3, v4, v5, c0, c1, c2, c3, c4, c5, TypeS.toIn hS hd⟩
theorem TypesS.toIn {w : World} {S : Nat → Prop} {B : Nat} (hS : ∀ k, S k → k < B) {b off : Nat} : ∀ {l : List T} {i : Nat}, TypesS w S b off i l → TypesIn w B b off i l
  | [], _, _ => by simp [TypesIn]
  | d :: r, i, hk => by
    simp only [TypesS] at hk
    simp only [TypesIn]
    obtain ⟨⟨v0, v1, v2, v3, v4, v5, c0, c1, c2, c3, c4, c5, hd⟩, hr⟩ := hk
    exact ⟨⟨v0, v1, v2, v3, v4, v5, c0, c1, c2, c3, c4, c5, TypeS.toIn hS hd⟩, TypesS.toIn hS hr⟩
end
mutual
theorem TypeIn.toS {w : World} {B : Nat} : ∀ {t : T} {v0 v1 v2 v3 v4 v5 : Value}, TypeIn w B t v0 v1 v2 v3 v4 v5 → TypeS w (fun k => k < B) t v0 v1 v2 v3 v4 v5
  | .mk _ _ _ _ fields of, _, _, _, _, _, _, hd => by
    simp only [TypeIn] at hd
    simp only [TypeS]
    obtain ⟨h0, h1, h2, ⟨A, c, e, l, h3⟩, ⟨A', c', e', k1, k2⟩, ⟨A'', c'', e'', k3, k4⟩⟩ := hd
    refine ⟨h0, h1, h2, ⟨A, c, e, l, h3⟩, ⟨A', c', e', k1, fun hl => ?_⟩, ⟨A'', c'', e'', k3, fun hl => ?_⟩⟩
    · obtain ⟨b, off, ea, hb, hk⟩ := k2 hl
      exact ⟨b, off, ea, hb, FieldsIn.toS hk⟩
    · obtain ⟨b, off, ea, hb, hk⟩ := k4 hl
      exact ⟨b, off, ea, hb, TypesIn.toS hk⟩
theorem FieldsIn.toS {w : World} {B : Nat} {b off : Nat} : ∀ {l : List F} {i : Nat}, FieldsIn w B b off i l → FieldsS w (fun k => k < B) b off i l
  | [], _, _ => by simp [FieldsS]
  | f :: r, i, hk => by
    simp only [FieldsIn] at hk
    simp only [FieldsS]
    exact ⟨FieldIn.toS hk.1, FieldsIn.toS hk.2⟩
theorem FieldIn.toS {w : World} {B : Nat} {b : Nat} : ∀ {f : F} {o : Nat}, FieldIn w B b o f → FieldS w (fun k => k < B) b o f
  | .mk _ _ _, o, hk => by
    simp only [FieldIn] at hk
    simp only [FieldS]
    obtain ⟨a1, a2, v0, v1, v2, v3, v4, v5, c0, c1, c2, c3, c4, c5, hd⟩ := hk
    exact ⟨a1, a2, v0, v1, v2, v3, v4, v5, c0, c1, c2, c3, c4, c5, TypeIn.toS hd⟩
theorem TypesIn.toS {w : World} {B : Nat} {b off : Nat} : ∀ {l : List T} {i : Nat}, TypesIn w B b off i l → TypesS w (fun k => k < B) b off i l
  | [], _, _ => by simp [TypesS]
  | d :: r, i, hk => by
    simp only [TypesIn] at hk
    simp only [TypesS]
    obtain ⟨⟨v0, v1, v2, v3, v4, v5, c0, c1, c2, c3, c4, c5, hd⟩, hr⟩ := hk
    exact ⟨⟨v0, v1, v2, v3, v4, v5, c0, c1, c2, c3, c4, c5, TypeIn.toS hd⟩, TypesIn.toS hr⟩
end
/-- The cells of a row of fields. -/
def RawFs (w : World) (S : Nat → Prop) : List F → List Value → Prop
  | [], cs => cs = []
  | f :: r, cs => ∃ (v0 v1 v2 v3 v4 v5 : Value) (c : List Value), cs = .string f.name :: .bool f.opt :: v0 :: v1 :: v2 :: v3 :: v4 :: v5 :: c ∧ TypeS w S f.type v0 v1 v2 v3 v4 v5 ∧ RawFs w S r c
/-- .. of types. -/
def RawTs (w : World) (S : Nat → Prop) : List T → List Value → Prop
  | [], cs => cs = []
  | t :: r, cs => ∃ (v0 v1 v2 v3 v4 v5 : Value) (c : List Value), cs = v0 :: v1 :: v2 :: v3 :: v4 :: v5 :: c ∧ TypeS w S t v0 v1 v2 v3 v4 v5 ∧ RawTs w S r c
theorem RawFs.keep {w w' : World} {S S' : Nat → Prop} (hB : ∀ k, S k → S' k) (h : ∀ p : Addr, S p.block → w'.cell? p = w.cell? p) : ∀ {l : List F} {cs : List Value}, RawFs w S l cs → RawFs w' S' l cs
  | [], _, hr => hr
  | f :: r, _, hr => by
    simp only [RawFs] at hr ⊢
    obtain ⟨v0, v1, v2, v3, v4, v5, c, rfl, h1, h2⟩ := hr
    exact ⟨v0, v1, v2, v3, v4, v5, c, rfl, h1.keep hB h, RawFs.keep hB h h2⟩
theorem RawTs.keep {w w' : World} {S S' : Nat → Prop} (hB : ∀ k, S k → S' k) (h : ∀ p : Addr, S p.block → w'.cell? p = w.cell? p) : ∀ {l : List T} {cs : List Value}, RawTs w S l cs → RawTs w' S' l cs
  | [], _, hr => hr
  | f :: r, _, hr => by
    simp only [RawTs] at hr ⊢
    obtain ⟨v0, v1, v2, v3, v4, v5, c, rfl, h1, h2⟩ := hr
    exact ⟨v0, v1, v2, v3, v4, v5, c, rfl, h1.keep hB h, RawTs.keep hB h h2⟩
theorem RawFs.len {w : World} {S : Nat → Prop} : ∀ {l : List F} {cs : List Value}, RawFs w S l cs → cs.length = l.length * 8
  | [], _, hr => by simp only [RawFs] at hr; simp [hr]
  | f :: r, _, hr => by
    simp only [RawFs] at hr
    obtain ⟨v0, v1, v2, v3, v4, v5, c, rfl, h1, h2⟩ := hr
    have := RawFs.len h2
    simp; omega
theorem RawTs.len {w : World} {S : Nat → Prop} : ∀ {l : List T} {cs : List Value}, RawTs w S l cs → cs.length = l.length * 6
  | [], _, hr => by simp only [RawTs] at hr; simp [hr]
  | f :: r, _, hr => by
    simp only [RawTs] at hr
    obtain ⟨v0, v1, v2, v3, v4, v5, c, rfl, h1, h2⟩ := hr
    have := RawTs.len h2
    simp; omega
theorem oneCell6 {w : World} {S : Nat → Prop} {t : T} {v0 v1 v2 v3 v4 v5 : Value} (h : TypeS w S t v0 v1 v2 v3 v4 v5) : ∀ u ∈ [v0, v1, v2, v3, v4, v5], u.oneCell' = true := by
  obtain ⟨A3, c3, A4, c4, A5, c5, rfl, rfl, rfl, rfl, rfl, rfl⟩ := h.forms
  intro u hu
  simp only [List.mem_cons, List.not_mem_nil, or_false] at hu
  rcases hu with rfl | rfl | rfl | rfl | rfl | rfl <;> rfl
theorem RawFs.one {w : World} {S : Nat → Prop} : ∀ {l : List F} {cs : List Value}, RawFs w S l cs → ∀ u ∈ cs, u.oneCell' = true
  | [], _, hr => by simp only [RawFs] at hr; simp [hr]
  | f :: r, _, hr => by
    simp only [RawFs] at hr
    obtain ⟨v0, v1, v2, v3, v4, v5, c, rfl, h1, h2⟩ := hr
    have h6 := oneCell6 h1
    intro u hu
    simp only [List.mem_cons] at hu h6
    rcases hu with rfl | rfl | rfl | rfl | rfl | rfl | rfl | rfl | hu
    · rfl
    · rfl
    · exact h6 _ (by simp)
    · exact h6 _ (by simp)
    · exact h6 _ (by simp)
    · exact h6 _ (by simp)
    · exact h6 _ (by simp)
    · exact h6 _ (by simp)
    · exact RawFs.one h2 u hu
theorem RawTs.one {w : World} {S : Nat → Prop} : ∀ {l : List T} {cs : List Value}, RawTs w S l cs → ∀ u ∈ cs, u.oneCell' = true
  | [], _, hr => by simp only [RawTs] at hr; simp [hr]
  | f :: r, _, hr => by
    simp only [RawTs] at hr
    obtain ⟨v0, v1, v2, v3, v4, v5, c, rfl, h1, h2⟩ := hr
    have h6 := oneCell6 h1
    intro u hu
    simp only [List.mem_cons] at hu h6
    rcases hu with rfl | rfl | rfl | rfl | rfl | rfl | hu
    · exact h6 _ (by simp)
    · exact h6 _ (by simp)
    · exact h6 _ (by simp)
    · exact h6 _ (by simp)
    · exact h6 _ (by simp)
    · exact h6 _ (by simp)
    · exact RawTs.one h2 u hu
/-- What lies there, as a list of cells. -/
theorem RawFs.of_ {w : World} {S : Nat → Prop} {b off : Nat} : ∀ {l : List F} {i : Nat}, FieldsS w S b off i l → ∃ cs, RawFs w S l cs ∧ ∀ j u, cs[j]? = some u → w.cell? ⟨b, off + i * 8 + j, none⟩ = some u
  | [], _, _ => ⟨[], rfl, by simp⟩
  | .mk n o t :: r, i, hk => by
    simp only [FieldsS, FieldS] at hk
    obtain ⟨⟨a1, a2, v0, v1, v2, v3, v4, v5, c0, c1, c2, c3, c4, c5, hd⟩, hr⟩ := hk
    obtain ⟨cs, h1, h2⟩ := RawFs.of_ hr
    refine ⟨.string n :: .bool o :: v0 :: v1 :: v2 :: v3 :: v4 :: v5 :: cs, ⟨v0, v1, v2, v3, v4, v5, cs, rfl, hd, h1⟩, ?_⟩
    intro j u hj
    match j, hj with
    | 0, hj => simp at hj; subst hj; exact a1
    | 1, hj => simp at hj; subst hj; exact a2
    | 2, hj => simp at hj; subst hj; exact c0
    | 3, hj => simp at hj; subst hj; exact c1
    | 4, hj => simp at hj; subst hj; exact c2
    | 5, hj => simp at hj; subst hj; exact c3
    | 6, hj => simp at hj; subst hj; exact c4
    | 7, hj => simp at hj; subst hj; exact c5
    | j + 8, hj =>
      have := h2 j u (by simpa using hj)
      rw [show off + i * 8 + (j + 8) = off + (i + 1) * 8 + j from by omega]
      exact this
theorem RawTs.of_ {w : World} {S : Nat → Prop} {b off : Nat} : ∀ {l : List T} {i : Nat}, TypesS w S b off i l → ∃ cs, RawTs w S l cs ∧ ∀ j u, cs[j]? = some u → w.cell? ⟨b, off + i * 6 + j, none⟩ = some u
  | [], _, _ => ⟨[], rfl, by simp⟩
  | t :: r, i, hk => by
    simp only [TypesS] at hk
    obtain ⟨⟨v0, v1, v2, v3, v4, v5, c0, c1, c2, c3, c4, c5, hd⟩, hr⟩ := hk
    obtain ⟨cs, h1, h2⟩ := RawTs.of_ hr
    refine ⟨v0 :: v1 :: v2 :: v3 :: v4 :: v5 :: cs, ⟨v0, v1, v2, v3, v4, v5, cs, rfl, hd, h1⟩, ?_⟩
    intro j u hj
    match j, hj with
    | 0, hj => simp at hj; subst hj; exact c0
    | 1, hj => simp at hj; subst hj; exact c1
    | 2, hj => simp at hj; subst hj; exact c2
    | 3, hj => simp at hj; subst hj; exact c3
    | 4, hj => simp at hj; subst hj; exact c4
    | 5, hj => simp at hj; subst hj; exact c5
    | j + 6, hj =>
      have := h2 j u (by simpa using hj)
      rw [show off + i * 6 + (j + 6) = off + (i + 1) * 6 + j from by omega]
      exact this
/-- .. and back. -/
theorem RawFs.fields {w : World} {S : Nat → Prop} {b off : Nat} : ∀ {l : List F} {cs : List Value} {i : Nat}, RawFs w S l cs → (∀ j, j < cs.length → w.cell? ⟨b, off + i * 8 + j, none⟩ = cs[j]?) → FieldsS w S b off i l
  | [], _, _, _, _ => by simp [FieldsS]
  | .mk n o t :: r, _, i, hr, hc => by
    simp only [RawFs] at hr
    obtain ⟨v0, v1, v2, v3, v4, v5, c, rfl, h1, h2⟩ := hr
    simp only [FieldsS, FieldS]
    refine ⟨⟨hc 0 (by simp), hc 1 (by simp), v0, v1, v2, v3, v4, v5, hc 2 (by simp), hc 3 (by simp), hc 4 (by simp), hc 5 (by simp), hc 6 (by simp), hc 7 (by simp), h1⟩, RawFs.fields h2 fun j hj => ?_⟩
    have := hc (j + 8) (by simp; omega)
    rw [show off + (i + 1) * 8 + j = off + i * 8 + (j + 8) from by omega, this]
    simp
theorem RawTs.types {w : World} {S : Nat → Prop} {b off : Nat} : ∀ {l : List T} {cs : List Value} {i : Nat}, RawTs w S l cs → (∀ j, j < cs.length → w.cell? ⟨b, off + i * 6 + j, none⟩ = cs[j]?) → TypesS w S b off i l
  | [], _, _, _, _ => by simp [TypesS]
  | t :: r, _, i, hr, hc => by
    simp only [RawTs] at hr
    obtain ⟨v0, v1, v2, v3, v4, v5, c, rfl, h1, h2⟩ := hr
    simp only [TypesS]
    refine ⟨⟨v0, v1, v2, v3, v4, v5, hc 0 (by simp), hc 1 (by simp), hc 2 (by simp), hc 3 (by simp), hc 4 (by simp), hc 5 (by simp), h1⟩, RawTs.types h2 fun j hj => ?_⟩
    have := hc (j + 6) (by simp; omega)
    rw [show off + (i + 1) * 6 + j = off + i * 6 + (j + 6) from by omega, this]
    simp
theorem RawFs.append {w : World} {S : Nat → Prop} : ∀ {a b : List F} {c d : List Value}, RawFs w S a c → RawFs w S b d → RawFs w S (a ++ b) (c ++ d)
  | [], _, _, _, h1, h2 => by simp only [RawFs] at h1; subst h1; simpa using h2
  | f :: r, _, _, _, h1, h2 => by
    simp only [RawFs] at h1
    obtain ⟨v0, v1, v2, v3, v4, v5, c, rfl, h3, h4⟩ := h1
    simp only [List.cons_append, RawFs]
    exact ⟨v0, v1, v2, v3, v4, v5, _, rfl, h3, RawFs.append h4 h2⟩
theorem RawTs.append {w : World} {S : Nat → Prop} : ∀ {a b : List T} {c d : List Value}, RawTs w S a c → RawTs w S b d → RawTs w S (a ++ b) (c ++ d)
  | [], _, _, _, h1, h2 => by simp only [RawTs] at h1; subst h1; simpa using h2
  | f :: r, _, _, _, h1, h2 => by
    simp only [RawTs] at h1
    obtain ⟨v0, v1, v2, v3, v4, v5, c, rfl, h3, h4⟩ := h1
    simp only [List.cons_append, RawTs]
    exact ⟨v0, v1, v2, v3, v4, v5, _, rfl, h3, RawTs.append h4 h2⟩
end Go.Proofs.YteecdmceleanjaaGreatDoor
namespace Go.Proofs.YteecdmceleanjaaGreatDoor
open Go.RowKit

theorem FieldsV.kid {w wr : World} {B c k : Nat} {A : Option Addr} {l : List F} (h : FieldsV w B (.slice A l.length c) l) (hb : Below w.heap.size w wr) (hB : B ≤ w.heap.size) (hk : k < l.length) :
    ∃ b off, A = some ⟨b, off, none⟩ ∧ b < wr.heap.size ∧ wr.cell? ⟨b, off + k * 8, none⟩ = some (.string (l[k]).name) ∧ wr.cell? ⟨b, off + k * 8 + 1, none⟩ = some (.bool (l[k]).opt) ∧
      ∃ X3 b3 X4 b4 X5 b5, wr.cell? ⟨b, off + k * 8 + 2, none⟩ = some (.int .i64 (l[k]).type.kind) ∧ wr.cell? ⟨b, off + k * 8 + 2 + 1, none⟩ = some (.int .i64 (l[k]).type.lo) ∧ wr.cell? ⟨b, off + k * 8 + 2 + 2, none⟩ = some (.int .i64 (l[k]).type.hi) ∧
        wr.cell? ⟨b, off + k * 8 + 2 + 3, none⟩ = some (.slice X3 (l[k]).type.names.length b3) ∧ wr.cell? ⟨b, off + k * 8 + 2 + 4, none⟩ = some (.slice X4 (l[k]).type.fields.length b4) ∧ wr.cell? ⟨b, off + k * 8 + 2 + 5, none⟩ = some (.slice X5 (l[k]).type.of.length b5) ∧
        TypeIn wr B (l[k]).type (.int .i64 (l[k]).type.kind) (.int .i64 (l[k]).type.lo) (.int .i64 (l[k]).type.hi) (.slice X3 (l[k]).type.names.length b3) (.slice X4 (l[k]).type.fields.length b4) (.slice X5 (l[k]).type.of.length b5) := by
  obtain ⟨A', cc, e, _, hc⟩ := h
  injection e with e1 _ e3
  subst e1
  obtain ⟨b, off, rfl, hbb, hc⟩ := hc (by omega)
  have hat := FieldsIn.at_ hc k hk
  rw [Nat.zero_add] at hat
  have kp : ∀ p : Addr, p.block < B → wr.cell? p = w.cell? p := fun p hp => hb.cell (by omega)
  obtain ⟨u0, u1, u2, u3, u4, u5, s0, s1, s2, s3, s4, s5, hi⟩ := hat.2.2.keep (Nat.le_refl _) kp hbb
  obtain ⟨X3, b3, X4, b4, X5, b5, rfl, rfl, rfl, rfl, rfl, rfl⟩ := hi.forms
  exact ⟨b, off, rfl, by have := hb.size; omega, (kp ⟨b, _, none⟩ hbb).trans hat.1, (kp ⟨b, _, none⟩ hbb).trans hat.2.1, X3, b3, X4, b4, X5, b5, s0, s1, s2, s3, s4, s5, hi⟩
theorem TypesV.kid {w wr : World} {B c k : Nat} {A : Option Addr} {l : List T} (h : TypesV w B (.slice A l.length c) l) (hb : Below w.heap.size w wr) (hB : B ≤ w.heap.size) (hk : k < l.length) :
    ∃ b off, A = some ⟨b, off, none⟩ ∧ b < wr.heap.size ∧
      ∃ X3 b3 X4 b4 X5 b5, wr.cell? ⟨b, off + k * 6, none⟩ = some (.int .i64 (l[k]).kind) ∧ wr.cell? ⟨b, off + k * 6 + 1, none⟩ = some (.int .i64 (l[k]).lo) ∧ wr.cell? ⟨b, off + k * 6 + 2, none⟩ = some (.int .i64 (l[k]).hi) ∧
        wr.cell? ⟨b, off + k * 6 + 3, none⟩ = some (.slice X3 (l[k]).names.length b3) ∧ wr.cell? ⟨b, off + k * 6 + 4, none⟩ = some (.slice X4 (l[k]).fields.length b4) ∧ wr.cell? ⟨b, off + k * 6 + 5, none⟩ = some (.slice X5 (l[k]).of.length b5) ∧
        TypeIn wr B (l[k]) (.int .i64 (l[k]).kind) (.int .i64 (l[k]).lo) (.int .i64 (l[k]).hi) (.slice X3 (l[k]).names.length b3) (.slice X4 (l[k]).fields.length b4) (.slice X5 (l[k]).of.length b5) := by
  obtain ⟨A', cc, e, _, hc⟩ := h
  injection e with e1 _ e3
  subst e1
  obtain ⟨b, off, rfl, hbb, hc⟩ := hc (by omega)
  have hat := TypesIn.at_ hc k hk
  rw [Nat.zero_add] at hat
  have kp : ∀ p : Addr, p.block < B → wr.cell? p = w.cell? p := fun p hp => hb.cell (by omega)
  obtain ⟨u0, u1, u2, u3, u4, u5, s0, s1, s2, s3, s4, s5, hi⟩ := hat.keep (Nat.le_refl _) kp hbb
  obtain ⟨X3, b3, X4, b4, X5, b5, rfl, rfl, rfl, rfl, rfl, rfl⟩ := hi.forms
  exact ⟨b, off, rfl, by have := hb.size; omega, X3, b3, X4, b4, X5, b5, s0, s1, s2, s3, s4, s5, hi⟩

set_option maxHeartbeats 4000000 in
set_option maxRecDepth 100000 in
theorem rtsize_any (m : Nat) : ∀ (t : T) (v : Value) (w : World) (B : Nat), t.depth ≤ m → t.size ≤ 10000 → B ≤ w.heap.size → TypeV w B t v →
    Calls Tryz.prog 107 #[v] w fun e w' => e = .returned (.int .i64 t.size) ∧ Below w.heap.size w w' := by
  induction m with
  | zero => intro t; intro _ _ _ h; have := t.depth_pos; omega
  | succ m ih =>
    intro t v w B hm hs hB ht
    obtain ⟨v0, v1, v2, v3, v4, v5, rfl, hin⟩ := ht
    have IH := Lib.hid ih; have HIN := Lib.hid hin
    obtain ⟨A3, d3, A4, d4, A5, d5, rfl, rfl, rfl, rfl, rfl, rfl⟩ := hin.forms
    have HFV := Lib.hid hin.fields_; have HOV := Lib.hid hin.of_
    clear ih hin
    have hsz := T.size_eq t
    have hl1 := T.len_le_sizes (t.fields.map F.type)
    have hl2 := T.len_le_sizes t.of
    rw [List.length_map] at hl1
    go_enter Tryz.func107, Tryz.ntmps107
    go_wp2_with fail
    obtain ⟨W2, hW2⟩ : ∃ W2, W2 = w.alloc (.cells #[.int .i64 t.kind, .int .i64 t.lo, .int .i64 t.hi, .slice A3 t.names.length d3, .slice A4 t.fields.length d4, .slice A5 t.of.length d5] 26) := ⟨_, rfl⟩
    have HBX : Hid (Box6 W2 w.heap.size (.int .i64 t.kind) (.int .i64 t.lo) (.int .i64 t.hi) (.slice A3 t.names.length d3) (.slice A4 t.fields.length d4) (.slice A5 t.of.length d5)) := by rw [hW2]; exact Box6.new w _ _ _ _ _ _
    have HBL : Hid (Below w.heap.size w W2) := by rw [hW2]; exact (Below.refl _ _).alloc (Nat.le_refl _) _
    rw [← hW2]
    clear hW2
    go_loopw [3, 4] (fun n i wr => ∃ k : Nat, k ≤ t.fields.length ∧ i = .int .i64 k ∧ n = .int .i64 ((T.sizes ((t.fields.map F.type).take k) + 1 : Nat) : Int) ∧ Below w.heap.size w wr ∧ Box6 wr w.heap.size (.int .i64 t.kind) (.int .i64 t.lo) (.int .i64 t.hi) (.slice A3 t.names.length d3) (.slice A4 t.fields.length d4) (.slice A5 t.of.length d5)) (fun _ i _ => t.fields.length - (intOf i).toNat)
    case atStart => exact ⟨0, Nat.zero_le _, rfl, by simp [T.sizes], HBL.out, HBX.out⟩
    case round =>
      obtain ⟨k, hk, rfl, rfl, hb, hbx⟩ := hrel
      have HB := Lib.hid hb; have HX := Lib.hid hbx
      obtain ⟨q0, q1, q2, q3, q4, q5⟩ := hbx.cells
      have hzr := hb.size
      have hxl := hbx.lt
      clear hb hbx
      by_cases hlt : k < t.fields.length
      · have hlt2 : (k : Int) < (t.fields.length : Int) := by omega
        have hk0 : (0 : Int) ≤ (k : Int) := by omega
        have hkm : k < (t.fields.map F.type).length := by rw [List.length_map]; exact hlt
        have HT := Lib.hid (T.sizes_take_succ (t.fields.map F.type) k hkm)
        have htl : T.sizes ((t.fields.map F.type).take k) + (t.fields[k]).type.size ≤ T.sizes (t.fields.map F.type) := by
          have := HT.out; rw [List.getElem_map] at this; rw [← this]; exact T.sizes_take_le _ (k + 1)
        have HE : Hid (T.sizes ((t.fields.map F.type).take (k + 1)) = T.sizes ((t.fields.map F.type).take k) + (t.fields[k]).type.size) := by
          have := HT.out; rw [List.getElem_map] at this; exact this
        obtain ⟨b, off, rfl, hbb, s6, s7, X3, b3, X4, b4, X5, b5, s0, s1, s2, s3, s4, s5, hi⟩ := HFV.out.kid HB.out hB hlt
        have HI := Lib.hid hi
        have hdk : (t.fields[k]).type.depth < t.depth := T.field_depth hlt
        clear hi s6 s7 hkm HT
        go_wp2_with fail
        refine (IH.out (t.fields[k]).type _ wr B (by omega) (by omega) (by omega) ⟨_, _, _, _, _, _, rfl, HI.out⟩).mono ?_
        rintro e w2 ⟨rfl, hb2⟩
        have HB2 : Hid (Below w.heap.size w w2) := HB.out.trans (hb2.mono hzr)
        have HX2 := Lib.hid (HX.out.same (hb2.block _ hxl))
        clear hb2 q0 q1 q2 q3 q4 q5
        obtain ⟨q0, q1, q2, q3, q4, q5⟩ := HX2.out.cells
        go_wp2_with fail
        go_roundw
        case rel => exact ⟨k + 1, by omega, by go_num, by rw [HE.out]; go_num, HB2.out, HX2.out⟩
        case measure => simp [intOf]; omega
      · have hkk : k = t.fields.length := by omega
        have htk : T.sizes ((t.fields.map F.type).take k) = T.sizes (t.fields.map F.type) := by rw [List.take_of_length_le (by rw [List.length_map]; omega)]
        rw [htk]
        clear htk
        subst hkk
        go_wp2_with fail
        clear q0 q1 q2 q3 q4 q5
        go_loopw [3, 5] (fun n i wr => ∃ k : Nat, k ≤ t.of.length ∧ i = .int .i64 k ∧ n = .int .i64 ((T.sizes (t.fields.map F.type) + T.sizes (t.of.take k) + 1 : Nat) : Int) ∧ Below w.heap.size w wr ∧ Box6 wr w.heap.size (.int .i64 t.kind) (.int .i64 t.lo) (.int .i64 t.hi) (.slice A3 t.names.length d3) (.slice A4 t.fields.length d4) (.slice A5 t.of.length d5)) (fun _ i _ => t.of.length - (intOf i).toNat)
        case atStart => exact ⟨0, Nat.zero_le _, rfl, by simp [T.sizes], HB.out, HX.out⟩
        case round =>
          obtain ⟨k, hk, rfl, rfl, hb, hbx⟩ := hrel
          have HB := Lib.hid hb; have HX := Lib.hid hbx
          obtain ⟨q0, q1, q2, q3, q4, q5⟩ := hbx.cells
          have hzr := hb.size
          have hxl := hbx.lt
          clear hb hbx
          by_cases hlt : k < t.of.length
          · have hlt2 : (k : Int) < (t.of.length : Int) := by omega
            have hk0 : (0 : Int) ≤ (k : Int) := by omega
            have HE := Lib.hid (T.sizes_take_succ t.of k hlt)
            have htl : T.sizes (t.of.take k) + (t.of[k]).size ≤ T.sizes t.of := by
              rw [← HE.out]; exact T.sizes_take_le _ (k + 1)
            obtain ⟨b, off, rfl, hbb, X3, b3, X4, b4, X5, b5, s0, s1, s2, s3, s4, s5, hi⟩ := HOV.out.kid HB.out hB hlt
            have HI := Lib.hid hi
            have hdk : (t.of[k]).depth < t.depth := T.of_depth hlt
            clear hi
            go_wp2_with fail
            refine (IH.out (t.of[k]) _ wr B (by omega) (by omega) (by omega) ⟨_, _, _, _, _, _, rfl, HI.out⟩).mono ?_
            rintro e w2 ⟨rfl, hb2⟩
            have HB2 : Hid (Below w.heap.size w w2) := HB.out.trans (hb2.mono hzr)
            have HX2 := Lib.hid (HX.out.same (hb2.block _ hxl))
            clear hb2 q0 q1 q2 q3 q4 q5
            obtain ⟨q0, q1, q2, q3, q4, q5⟩ := HX2.out.cells
            go_wp2_with fail
            go_roundw
            case rel => exact ⟨k + 1, by omega, by go_num, by rw [HE.out]; go_num, HB2.out, HX2.out⟩
            case measure => simp [intOf]; omega
          · have htk : T.sizes (t.of.take k) = T.sizes t.of := by rw [List.take_of_length_le (by omega)]
            rw [htk]
            have E : Hid (T.sizes (t.fields.map F.type) + T.sizes t.of + 1 = t.size) := hsz.symm
            go_wp2_with fail
            go_ret
            exact ⟨ret_int (by rw [E.out]), HB.out⟩
theorem depths_take_succ (l : List T) (k : Nat) (h : k < l.length) : T.depths (l.take (k + 1)) = max (T.depths (l.take k)) (l[k]).depth := by
  rw [List.take_succ_eq_append_getElem h, T.depths_append]; simp [T.depths]
theorem depths_take_le (l : List T) (k : Nat) : T.depths (l.take k) ≤ T.depths l := by
  have := T.depths_append (l.take k) (l.drop k)
  rw [List.take_append_drop] at this
  omega
set_option maxHeartbeats 4000000 in
set_option maxRecDepth 100000 in
theorem rtdepth_any (m : Nat) : ∀ (t : T) (v : Value) (w : World) (B : Nat), t.depth ≤ m → t.depth ≤ 10000 → t.Fit → B ≤ w.heap.size → TypeV w B t v →
    Calls Tryz.prog 108 #[v] w fun e w' => e = .returned (.int .i64 t.depth) ∧ Below w.heap.size w w' := by
  induction m with
  | zero => intro t; intro _ _ _ h; have := t.depth_pos; omega
  | succ m ih =>
    intro t v w B hm hs hfit hB ht
    obtain ⟨v0, v1, v2, v3, v4, v5, rfl, hin⟩ := ht
    have IH := Lib.hid ih; have HIN := Lib.hid hin
    obtain ⟨A3, d3, A4, d4, A5, d5, rfl, rfl, rfl, rfl, rfl, rfl⟩ := hin.forms
    have HFV := Lib.hid hin.fields_; have HOV := Lib.hid hin.of_
    have HFI := Lib.hid hfit
    clear ih hin
    have hsz := T.depth_eq t
    obtain ⟨hl0, hl1, hl2, _, _, _⟩ := hfit.parts
    go_enter Tryz.func108, Tryz.ntmps108
    clear hfit
    go_wp2_with fail
    obtain ⟨W2, hW2⟩ : ∃ W2, W2 = w.alloc (.cells #[.int .i64 t.kind, .int .i64 t.lo, .int .i64 t.hi, .slice A3 t.names.length d3, .slice A4 t.fields.length d4, .slice A5 t.of.length d5] 26) := ⟨_, rfl⟩
    have HBX : Hid (Box6 W2 w.heap.size (.int .i64 t.kind) (.int .i64 t.lo) (.int .i64 t.hi) (.slice A3 t.names.length d3) (.slice A4 t.fields.length d4) (.slice A5 t.of.length d5)) := by rw [hW2]; exact Box6.new w _ _ _ _ _ _
    have HBL : Hid (Below w.heap.size w W2) := by rw [hW2]; exact (Below.refl _ _).alloc (Nat.le_refl _) _
    rw [← hW2]
    clear hW2
    go_loopw [3, 4] (fun n i wr => ∃ k : Nat, k ≤ t.fields.length ∧ i = .int .i64 k ∧ n = .int .i64 ((T.depths ((t.fields.map F.type).take k) : Nat) : Int) ∧ Below w.heap.size w wr ∧ Box6 wr w.heap.size (.int .i64 t.kind) (.int .i64 t.lo) (.int .i64 t.hi) (.slice A3 t.names.length d3) (.slice A4 t.fields.length d4) (.slice A5 t.of.length d5)) (fun _ i _ => t.fields.length - (intOf i).toNat)
    case atStart => exact ⟨0, Nat.zero_le _, rfl, by simp [T.depths], HBL.out, HBX.out⟩
    case round =>
      obtain ⟨k, hk, rfl, rfl, hb, hbx⟩ := hrel
      have HB := Lib.hid hb; have HX := Lib.hid hbx
      obtain ⟨q0, q1, q2, q3, q4, q5⟩ := hbx.cells
      have hzr := hb.size
      have hxl := hbx.lt
      clear hb hbx
      by_cases hlt : k < t.fields.length
      · have hlt2 : (k : Int) < (t.fields.length : Int) := by omega
        have hk0 : (0 : Int) ≤ (k : Int) := by omega
        have hkm : k < (t.fields.map F.type).length := by rw [List.length_map]; exact hlt
        have HT := Lib.hid (depths_take_succ (t.fields.map F.type) k hkm)
        have htl : max (T.depths ((t.fields.map F.type).take k)) (t.fields[k]).type.depth ≤ T.depths (t.fields.map F.type) := by
          have := HT.out; rw [List.getElem_map] at this; rw [← this]; exact depths_take_le _ (k + 1)
        have HE : Hid (T.depths ((t.fields.map F.type).take (k + 1)) = max (T.depths ((t.fields.map F.type).take k)) (t.fields[k]).type.depth) := by
          have := HT.out; rw [List.getElem_map] at this; exact this
        obtain ⟨b, off, rfl, hbb, s6, s7, X3, b3, X4, b4, X5, b5, s0, s1, s2, s3, s4, s5, hi⟩ := HFV.out.kid HB.out hB hlt
        have HI := Lib.hid hi
        have hdk : (t.fields[k]).type.depth < t.depth := T.field_depth hlt
        clear hi s6 s7 hkm HT
        go_wp2_with fail
        refine (IH.out (t.fields[k]).type _ wr B (by omega) (by omega) (HFI.out.parts.2.2.2.2.1.at_ hlt).type (by omega) ⟨_, _, _, _, _, _, rfl, HI.out⟩).mono ?_
        rintro e w2 ⟨rfl, hb2⟩
        have HB2 : Hid (Below w.heap.size w w2) := HB.out.trans (hb2.mono hzr)
        have HX2 := Lib.hid (HX.out.same (hb2.block _ hxl))
        clear hb2 q0 q1 q2 q3 q4 q5
        obtain ⟨q0, q1, q2, q3, q4, q5⟩ := HX2.out.cells
        go_wp2_with fail
        all_goals
          go_roundw
          case rel => exact ⟨k + 1, by omega, by go_num, by rw [HE.out]; first | rfl | go_num | (congr 1; omega), HB2.out, HX2.out⟩
          case measure => simp [intOf]; omega
      · have hkk : k = t.fields.length := by omega
        have htk : T.depths ((t.fields.map F.type).take k) = T.depths (t.fields.map F.type) := by rw [List.take_of_length_le (by rw [List.length_map]; omega)]
        rw [htk]
        clear htk
        subst hkk
        go_wp2_with fail
        clear q0 q1 q2 q3 q4 q5
        go_loopw [3, 5] (fun n i wr => ∃ k : Nat, k ≤ t.of.length ∧ i = .int .i64 k ∧ n = .int .i64 ((max (T.depths (t.fields.map F.type)) (T.depths (t.of.take k)) : Nat) : Int) ∧ Below w.heap.size w wr ∧ Box6 wr w.heap.size (.int .i64 t.kind) (.int .i64 t.lo) (.int .i64 t.hi) (.slice A3 t.names.length d3) (.slice A4 t.fields.length d4) (.slice A5 t.of.length d5)) (fun _ i _ => t.of.length - (intOf i).toNat)
        case atStart => exact ⟨0, Nat.zero_le _, rfl, by simp [T.depths], HB.out, HX.out⟩
        case round =>
          obtain ⟨k, hk, rfl, rfl, hb, hbx⟩ := hrel
          have HB := Lib.hid hb; have HX := Lib.hid hbx
          obtain ⟨q0, q1, q2, q3, q4, q5⟩ := hbx.cells
          have hzr := hb.size
          have hxl := hbx.lt
          clear hb hbx
          by_cases hlt : k < t.of.length
          · have hlt2 : (k : Int) < (t.of.length : Int) := by omega
            have hk0 : (0 : Int) ≤ (k : Int) := by omega
            have HT := Lib.hid (depths_take_succ t.of k hlt)
            have htl : max (T.depths (t.of.take k)) (t.of[k]).depth ≤ T.depths t.of := by
              rw [← HT.out]; exact depths_take_le _ (k + 1)
            have HE : Hid (max (T.depths (t.fields.map F.type)) (T.depths (t.of.take (k + 1))) = max (max (T.depths (t.fields.map F.type)) (T.depths (t.of.take k))) (t.of[k]).depth) := by
              show max _ (T.depths (t.of.take (k + 1))) = _
              rw [HT.out]; omega
            have htl2 : max (T.depths (t.fields.map F.type)) (T.depths (t.of.take k)) < t.depth := by omega
            obtain ⟨b, off, rfl, hbb, X3, b3, X4, b4, X5, b5, s0, s1, s2, s3, s4, s5, hi⟩ := HOV.out.kid HB.out hB hlt
            have HI := Lib.hid hi
            have hdk : (t.of[k]).depth < t.depth := T.of_depth hlt
            clear hi HT
            generalize max (T.depths (t.fields.map F.type)) (T.depths (t.of.take k)) = M at HE htl2 ⊢
            go_wp2_with fail
            refine (IH.out (t.of[k]) _ wr B (by omega) (by omega) (HFI.out.parts.2.2.2.2.2.at_ hlt) (by omega) ⟨_, _, _, _, _, _, rfl, HI.out⟩).mono ?_
            rintro e w2 ⟨rfl, hb2⟩
            have HB2 : Hid (Below w.heap.size w w2) := HB.out.trans (hb2.mono hzr)
            have HX2 := Lib.hid (HX.out.same (hb2.block _ hxl))
            clear hb2 q0 q1 q2 q3 q4 q5
            obtain ⟨q0, q1, q2, q3, q4, q5⟩ := HX2.out.cells
            go_wp2_with fail
            all_goals
              go_roundw
              case rel => exact ⟨k + 1, by omega, by go_num, by rw [HE.out]; first | rfl | go_num | (congr 1; omega), HB2.out, HX2.out⟩
              case measure => simp [intOf]; omega
          · have htk : T.depths (t.of.take k) = T.depths t.of := by rw [List.take_of_length_le (by omega)]
            rw [htk]
            have E : Hid (max (T.depths (t.fields.map F.type)) (T.depths t.of) + 1 = t.depth) := hsz.symm
            have htl2 : max (T.depths (t.fields.map F.type)) (T.depths t.of) < t.depth := by omega
            generalize max (T.depths (t.fields.map F.type)) (T.depths t.of) = M at E htl2 ⊢
            go_wp2_with fail
            go_ret
            exact ⟨ret_int (by rw [← E.out]; go_num), HB.out⟩
end Go.Proofs.YteecdmceleanjaaGreatDoor
namespace Go.Proofs.YteecdmceleanjaaGreatDoor
open Go.RowKit

mutual
/-- The five cells of a document. -/
def DocS (w : World) (S : Nat → Prop) : D → Value → Value → Value → Value → Value → Prop
  | .mk kind num str keys kids, v0, v1, v2, v3, v4 =>
    v0 = .int .i64 kind ∧ v1 = .int .i64 num ∧ v2 = .string str ∧ StrsS w S v3 keys ∧
      (∃ (A : Option Addr) (c : Nat), v4 = .slice A kids.length c ∧ kids.length ≤ c ∧ (0 < kids.length → ∃ b off, A = some ⟨b, off, none⟩ ∧ S b ∧ KidsS w S b off 0 kids))
def KidsS (w : World) (S : Nat → Prop) (b off : Nat) : Nat → List D → Prop
  | _, [] => True
  | i, d :: r => (∃ v0 v1 v2 v3 v4 : Value, w.cell? ⟨b, off + i * 5, none⟩ = some v0 ∧ w.cell? ⟨b, off + i * 5 + 1, none⟩ = some v1 ∧ w.cell? ⟨b, off + i * 5 + 2, none⟩ = some v2 ∧ w.cell? ⟨b, off + i * 5 + 3, none⟩ = some v3 ∧ w.cell? ⟨b, off + i * 5 + 4, none⟩ = some v4 ∧ DocS w S d v0 v1 v2 v3 v4) ∧ KidsS w S b off (i + 1) r
end
mutual
theorem DocS.keep {w w' : World} {S S' : Nat → Prop} (hB : ∀ k, S k → S' k) (h : ∀ p : Addr, S p.block → w'.cell? p = w.cell? p) : ∀ {d : D} {v0 v1 v2 v3 v4 : Value}, DocS w S d v0 v1 v2 v3 v4 → DocS w' S' d v0 v1 v2 v3 v4
  | .mk _ _ _ _ kids, _, _, _, _, _, hd => by
    simp only [DocS] at hd ⊢
    obtain ⟨h0, h1, h2, h3, ⟨A, c, e, k1, k2⟩⟩ := hd
    refine ⟨h0, h1, h2, h3.keep hB h, ⟨A, c, e, k1, fun hl => ?_⟩⟩
    obtain ⟨b, off, ea, hb, hk⟩ := k2 hl
    exact ⟨b, off, ea, hB _ hb, KidsS.keep hB h hb hk⟩
theorem KidsS.keep {w w' : World} {S S' : Nat → Prop} (hB : ∀ k, S k → S' k) (h : ∀ p : Addr, S p.block → w'.cell? p = w.cell? p) {b off : Nat} (hb : S b) : ∀ {l : List D} {i : Nat}, KidsS w S b off i l → KidsS w' S' b off i l
  | [], _, _ => by simp [KidsS]
  | d :: r, i, hk => by
    simp only [KidsS] at hk ⊢
    obtain ⟨⟨v0, v1, v2, v3, v4, c0, c1, c2, c3, c4, hd⟩, hr⟩ := hk
    have hh : ∀ n, w'.cell? ⟨b, n, none⟩ = w.cell? ⟨b, n, none⟩ := fun n => h ⟨b, n, none⟩ hb
    exact ⟨⟨v0, v1, v2, v3, v4, (hh _).trans c0, (hh _).trans c1, (hh _).trans c2, (hh _).trans c3, (hh _).trans c4, DocS.keep hB h hd⟩, KidsS.keep hB h hb hr⟩
end
theorem DocS.forms {w : World} {S : Nat → Prop} {d : D} {v0 v1 v2 v3 v4 : Value} (h : DocS w S d v0 v1 v2 v3 v4) :
    ∃ A3 c3 A4 c4, v0 = .int .i64 d.kind ∧ v1 = .int .i64 d.num ∧ v2 = .string d.str ∧ v3 = .slice A3 d.keys.length c3 ∧ v4 = .slice A4 d.kids.length c4 := by
  obtain ⟨_, _, _, _, _⟩ := d
  simp only [DocS] at h
  obtain ⟨h0, h1, h2, ⟨A3, c3, h3, _⟩, ⟨A4, c4, h4, _⟩⟩ := h
  exact ⟨A3, c3, A4, c4, h0, h1, h2, h3, h4⟩
mutual
theorem DocS.toIn {w : World} {S : Nat → Prop} {B : Nat} (hS : ∀ k, S k → k < B) : ∀ {d : D} {v0 v1 v2 v3 v4 : Value}, DocS w S d v0 v1 v2 v3 v4 → DocIn w B d v0 v1 v2 v3 v4
  | .mk _ _ _ _ kids, _, _, _, _, _, hd => by
    simp only [DocS] at hd
    simp only [DocIn]
    obtain ⟨h0, h1, h2, ⟨A, c, e, l, h3⟩, ⟨A', c', e', k1, k2⟩⟩ := hd
    refine ⟨h0, h1, h2, ⟨A, c, e, l, fun hl => ?_⟩, ⟨A', c', e', k1, fun hl => ?_⟩⟩
    · obtain ⟨b, off, ea, hb, hk⟩ := h3 hl
      exact ⟨b, off, ea, hS _ hb, hk⟩
    · obtain ⟨b, off, ea, hb, hk⟩ := k2 hl
      exact ⟨b, off, ea, hS _ hb, KidsS.toIn hS hk⟩
theorem KidsS.toIn {w : World} {S : Nat → Prop} {B : Nat} (hS : ∀ k, S k → k < B) {b off : Nat} : ∀ {l : List D} {i : Nat}, KidsS w S b off i l → KidsIn w B b off i l
  | [], _, _ => by simp [KidsIn]
  | d :: r, i, hk => by
    simp only [KidsS] at hk
    simp only [KidsIn]
    obtain ⟨⟨v0, v1, v2, v3, v4, c0, c1, c2, c3, c4, hd⟩, hr⟩ := hk
    exact ⟨⟨v0, v1, v2, v3, v4, c0, c1, c2, c3, c4, DocS.toIn hS hd⟩, KidsS.toIn hS hr⟩
end
mutual
theorem DocIn.toS {w : World} {B : Nat} : ∀ {d : D} {v0 v1 v2 v3 v4 : Value}, DocIn w B d v0 v1 v2 v3 v4 → DocS w (fun k => k < B) d v0 v1 v2 v3 v4
  | .mk _ _ _ _ kids, _, _, _, _, _, hd => by
    simp only [DocIn] at hd
    simp only [DocS]
    obtain ⟨h0, h1, h2, ⟨A, c, e, l, h3⟩, ⟨A', c', e', k1, k2⟩⟩ := hd
    refine ⟨h0, h1, h2, ⟨A, c, e, l, fun hl => ?_⟩, ⟨A', c', e', k1, fun hl => ?_⟩⟩
    · obtain ⟨b, off, ea, hb, hk⟩ := h3 hl
      exact ⟨b, off, ea, hb, hk⟩
    · obtain ⟨b, off, ea, hb, hk⟩ := k2 hl
      exact ⟨b, off, ea, hb, KidsIn.toS hk⟩
theorem KidsIn.toS {w : World} {B : Nat} {b off : Nat} : ∀ {l : List D} {i : Nat}, KidsIn w B b off i l → KidsS w (fun k => k < B) b off i l
  | [], _, _ => by simp [KidsS]
  | d :: r, i, hk => by
    simp only [KidsIn] at hk
    simp only [KidsS]
    obtain ⟨⟨v0, v1, v2, v3, v4, c0, c1, c2, c3, c4, hd⟩, hr⟩ := hk
    exact ⟨⟨v0, v1, v2, v3, v4, c0, c1, c2, c3, c4, DocIn.toS hd⟩, KidsIn.toS hr⟩
end
/-- Documents that can be read in flat cells; their parts in blocks of the set. -/
def DocR (w : World) (S : Nat → Prop) : List D → List Value → Prop
  | [], cs => cs = []
  | d :: r, cs => ∃ (v0 v1 v2 v3 v4 : Value) (cs' : List Value), cs = v0 :: v1 :: v2 :: v3 :: v4 :: cs' ∧ DocS w S d v0 v1 v2 v3 v4 ∧ DocR w S r cs'
theorem DocR.keep {w w' : World} {S S' : Nat → Prop} (hB : ∀ k, S k → S' k) (h : ∀ p : Addr, S p.block → w'.cell? p = w.cell? p) : ∀ {l : List D} {cs : List Value}, DocR w S l cs → DocR w' S' l cs
  | [], _, hs => hs
  | d :: r, _, hs => by
    simp only [DocR] at hs ⊢
    obtain ⟨v0, v1, v2, v3, v4, cs', rfl, h1, h2⟩ := hs
    exact ⟨v0, v1, v2, v3, v4, cs', rfl, h1.keep hB h, h2.keep hB h⟩
theorem DocR.append {w : World} {S : Nat → Prop} : ∀ {a b : List D} {c d : List Value}, DocR w S a c → DocR w S b d → DocR w S (a ++ b) (c ++ d)
  | [], _, _, _, ha, hb => by simp only [DocR] at ha; subst ha; simpa using hb
  | f :: r, b, _, d, ha, hb => by
    simp only [DocR] at ha
    obtain ⟨v0, v1, v2, v3, v4, cs', rfl, h1, h2⟩ := ha
    simp only [List.cons_append, DocR]
    exact ⟨v0, v1, v2, v3, v4, cs' ++ d, rfl, h1, h2.append hb⟩
theorem DocR.len {w : World} {S : Nat → Prop} : ∀ {l : List D} {cs : List Value}, DocR w S l cs → cs.length = l.length * 5
  | [], _, h => by simp only [DocR] at h; simp [h]
  | f :: r, _, h => by
    simp only [DocR] at h
    obtain ⟨v0, v1, v2, v3, v4, cs', rfl, _, h2⟩ := h
    simp [h2.len]; omega
/-- A row of documents of the call's own; their parts lie elsewhere: in blocks of the set, or made since. -/
structure RowD (W0 : Nat) (S0 : Nat → Prop) (w : World) (l : List D) (v : Value) : Prop where
  ex : ∃ cs, w.ownsRow W0 29 5 v l.length cs ∧ DocR w (fun k => (S0 k ∨ W0 ≤ k) ∧ k < w.heap.size ∧ v.ownBlock ≠ some k) l cs
theorem RowD.nil (W0 : Nat) (S0 : Nat → Prop) (w : World) : RowD W0 S0 w [] (.slice none 0 0) := ⟨[], World.ownsRow_nil _ _ _ _, rfl⟩
theorem RowD.past {W0 : Nat} {S0 : Nat → Prop} {w w' : World} {l : List D} {v : Value} (h : RowD W0 S0 w l v) (hb : Below w.heap.size w w') : RowD W0 S0 w' l v := by
  obtain ⟨cs, h1, h2⟩ := h.ex
  exact ⟨cs, ownsRow_same h1 fun k hk => hb.block k (h1.lt k (blk_mem.1 hk)).2, h2.keep (fun k hk => ⟨hk.1, Nat.lt_of_lt_of_le hk.2.1 hb.size, hk.2.2⟩) fun p hp => hb.cell hp.2.1⟩
theorem strsS_own2 {w : World} {base : Nat} {v : Value} {xs : List ByteArray} (h : w.ownsRow base 9 1 v xs.length (xs.map Value.string)) : StrsS w (fun k => base ≤ k ∧ k < w.heap.size) v xs := by
  obtain ⟨A, c, e, hc, hcell⟩ := Strs_of_own h
  subst e
  refine ⟨A, c, rfl, hc, fun hl => ?_⟩
  obtain ⟨g, cap, e, hg, hlt⟩ := h.form hl
  injection e with e1 _ _
  subst e1
  obtain ⟨b, off, e2, _, hc2⟩ := hcell hl
  injection e2 with e2
  injection e2 with e2 e3 _
  subst e2; subst e3
  exact ⟨g, 0, rfl, ⟨hg, hlt⟩, hc2⟩
mutual
theorem OwnIn.docS {w : World} {base : Nat} : ∀ {d : D} {v0 v1 v2 v3 v4 : Value} {F : List Nat}, OwnIn w base d v0 v1 v2 v3 v4 F → DocS w (fun k => base ≤ k ∧ k < w.heap.size) d v0 v1 v2 v3 v4
  | .mk _ _ _ keys kids, v0, v1, v2, v3, v4, F, h => by
    simp only [OwnIn] at h
    simp only [DocS]
    obtain ⟨h0, h1, h2, h3, cs, Fs, h4, h5, rfl⟩ := h
    refine ⟨h0, h1, h2, strsS_own2 h3, ?_⟩
    rcases Nat.eq_zero_or_pos kids.length with hz | hz
    · rcases h4.2 with ⟨rfl, _⟩ | ⟨g, cap, cur, rfl, _, hh, hc, _⟩
      · exact ⟨none, 0, by rw [hz], by omega, fun h => by omega⟩
      · exact ⟨some ⟨g, 0, none⟩, cap, rfl, hc, fun h => by omega⟩
    · obtain ⟨g, cap, rfl, hg, hlt⟩ := h4.form hz
      have hc : kids.length ≤ cap := by
        rcases h4.2 with ⟨e, _⟩ | ⟨g', cap', cur, e, _, _, hc, _⟩
        · cases e
        · injection e with _ _ e3; omega
      refine ⟨some ⟨g, 0, none⟩, cap, rfl, hc, fun _ => ⟨g, 0, rfl, ⟨hg, hlt⟩, ?_⟩⟩
      exact OwnKids.kidsS h5 (i := 0) fun j hj => by
        rw [Nat.zero_mul, Nat.add_zero, Nat.zero_add, h4.cellAt j (by have := h4.1; omega)]
theorem OwnKids.kidsS {w : World} {base : Nat} {g off : Nat} : ∀ {l : List D} {cs : List Value} {F : List Nat}, OwnKids w base l cs F → ∀ {i : Nat}, (∀ j, j < cs.length → w.cell? ⟨g, off + i * 5 + j, none⟩ = cs[j]?) → KidsS w (fun k => base ≤ k ∧ k < w.heap.size) g off i l
  | [], _, _, _, _, _ => by simp [KidsS]
  | d :: r, _, _, h, i, hc => by
    simp only [OwnKids] at h
    obtain ⟨v0, v1, v2, v3, v4, cs', F1, F2, rfl, h2, h3, rfl⟩ := h
    simp only [KidsS]
    refine ⟨⟨v0, v1, v2, v3, v4, hc 0 (by simp), hc 1 (by simp), hc 2 (by simp), hc 3 (by simp), hc 4 (by simp), OwnIn.docS h2⟩, OwnKids.kidsS h3 fun j hj => ?_⟩
    have := hc (j + 5) (by simp; omega)
    rw [show off + (i + 1) * 5 + j = off + i * 5 + (j + 5) from by omega, this]
    simp
end
theorem DocR.kids {w : World} {S S' : Nat → Prop} {g off : Nat} (hS : ∀ k, S k → S' k) : ∀ {l : List D} {cs : List Value}, DocR w S l cs → ∀ {i : Nat}, (∀ j, j < cs.length → w.cell? ⟨g, off + i * 5 + j, none⟩ = cs[j]?) → KidsS w S' g off i l
  | [], _, _, _, _ => by simp [KidsS]
  | d :: r, _, h, i, hc => by
    simp only [DocR] at h
    obtain ⟨v0, v1, v2, v3, v4, cs', rfl, h2, h3⟩ := h
    simp only [KidsS]
    refine ⟨⟨v0, v1, v2, v3, v4, hc 0 (by simp), hc 1 (by simp), hc 2 (by simp), hc 3 (by simp), hc 4 (by simp), h2.keep hS fun _ _ => rfl⟩, DocR.kids hS h3 fun j hj => ?_⟩
    have := hc (j + 5) (by simp; omega)
    rw [show off + (i + 1) * 5 + j = off + i * 5 + (j + 5) from by omega, this]
    simp
/-- One document more: its five cells in a row that was just made. -/
theorem RowD.one {W0 : Nat} {S0 S2 : Nat → Prop} {w : World} {l : List D} {v : Value} (ty : TypeId) (h : RowD W0 S0 w l v) {g : Nat} {d : D} {a0 a1 a2 a3 a4 : Value} (hd : DocS w S2 d a0 a1 a2 a3 a4)
    (c0 : w.cell? ⟨g, 0, none⟩ = some a0) (c1 : w.cell? ⟨g, 1, none⟩ = some a1) (c2 : w.cell? ⟨g, 2, none⟩ = some a2) (c3 : w.cell? ⟨g, 3, none⟩ = some a3) (c4 : w.cell? ⟨g, 4, none⟩ = some a4)
    (hS : ∀ k, S2 k → (S0 k ∨ W0 ≤ k) ∧ k < w.heap.size ∧ v.ownBlock ≠ some k) (hn : l.length + 1 ≤ 100000) (hW : W0 ≤ w.heap.size) :
    ∃ v' w', (Builtin.append_ #[27, 27] ty #[v, .slice (some ⟨g, 0, none⟩) 1 1]).run Tryz.prog w = .ok v' w' ∧ RowD W0 S0 w' (l ++ [d]) v' ∧ w.grownBy w' v.ownBlock ∧ (v'.ownBlock = v.ownBlock ∨ v'.ownBlock = some w.heap.size) := by
  obtain ⟨cs, ho, hr⟩ := h.ex
  obtain ⟨i0, hi, hz0, hz1, hz2⟩ := info_parts infoD
  have hd' := hd.keep (w' := w) hS fun _ _ => rfl
  obtain ⟨A3, e3, A4, e4, f0, f1, f2, f3, f4⟩ := hd.forms
  obtain ⟨v', w', hrun, hown, hgrow, _, hat⟩ := run_append_own_at (P := Tryz.prog) w W0 27 ty 29 i0 (.agg #[.int .i64 0, .int .i64 0, .string ByteArray.empty, .slice none 0 0, .slice none 0 0]) 5 80 Tryz.underlying27 hi hz0 hz1 hz2 (by rfl) (by omega) v l.length cs ho ⟨g, 0, none⟩ 1 1 [a0, a1, a2, a3, a4] rfl (fun j x hj => by
    have e : (⟨g, 0, none⟩ : Addr).add j = ⟨g, 0 + j, none⟩ := by unfold Addr.add; split <;> simp_all
    rw [e, Nat.zero_add]
    match j, hj with
    | 0, hj => simp at hj; subst hj; exact c0
    | 1, hj => simp at hj; subst hj; exact c1
    | 2, hj => simp at hj; subst hj; exact c2
    | 3, hj => simp at hj; subst hj; exact c3
    | 4, hj => simp at hj; subst hj; exact c4) (fun u hu => by
      simp only [List.mem_cons, List.not_mem_nil, or_false] at hu
      rcases hu with rfl | rfl | rfl | rfl | rfl
      · rw [f0]; rfl
      · rw [f1]; rfl
      · rw [f2]; rfl
      · rw [f3]; rfl
      · rw [f4]; rfl) (by unfold maxLen; omega) (by omega) hW
  have hS' : ∀ k, (S0 k ∨ W0 ≤ k) ∧ k < w.heap.size ∧ v.ownBlock ≠ some k → (S0 k ∨ W0 ≤ k) ∧ k < w'.heap.size ∧ v'.ownBlock ≠ some k := fun k hk => ⟨hk.1, Nat.lt_of_lt_of_le hk.2.1 hgrow.size, fun e => by
    rcases hat with e2 | e2
    · exact hk.2.2 (e2 ▸ e)
    · rw [e] at e2; injection e2 with e2; omega⟩
  exact ⟨v', w', hrun, ⟨cs ++ [a0, a1, a2, a3, a4], by rw [List.length_append]; exact hown, (hr.append (show DocR w _ [d] [a0, a1, a2, a3, a4] from ⟨a0, a1, a2, a3, a4, [], rfl, hd', rfl⟩)).keep hS' fun p hp => World.cell?_of_block (hgrow.block p.block hp.2.1 fun e => hp.2.2 e.symm)⟩, hgrow, hat⟩
end Go.Proofs.YteecdmceleanjaaGreatDoor
namespace Go.Proofs.YteecdmceleanjaaGreatDoor
open Go.RowKit

/-- Where the parts of the kids may lie. -/
def MKid (w3 w : World) (S0 : Nat → Prop) (box : Nat) (v3 v4 : Value) (k : Nat) : Prop := (S0 k ∨ w3.heap.size ≤ k) ∧ k < w.heap.size ∧ k ≠ box ∧ v3.ownBlock ≠ some k ∧ v4.ownBlock ≠ some k
/-- The variable box holds a record of these keys, in a row of the call's own, and these kids. -/
structure DocM (w3 w : World) (S0 : Nat → Prop) (box : Nat) (kd nm : Int) (st : ByteArray) (xs : List ByteArray) (ls : List D) (v3 v4 : Value) (cs : List Value) : Prop where
  bx : Box5 w box (.int .i64 kd) (.int .i64 nm) (.string st) v3 v4
  o3 : w.ownsRow w3.heap.size 9 1 v3 xs.length (xs.map Value.string)
  o4 : w.ownsRow w3.heap.size 29 5 v4 ls.length cs
  ok : DocR w (MKid w3 w S0 box v3 v4) ls cs
  ne : ∀ k, v3.ownBlock = some k → v4.ownBlock ≠ some k
  t : Turned w3 w [] box
theorem DocM.past {w3 w w' : World} {S0 : Nat → Prop} {box : Nat} {kd nm : Int} {st : ByteArray} {xs : List ByteArray} {ls : List D} {v3 v4 : Value} {cs : List Value} (h : DocM w3 w S0 box kd nm st xs ls v3 v4 cs) (hb : Below w.heap.size w w') : DocM w3 w' S0 box kd nm st xs ls v3 v4 cs :=
  ⟨h.bx.same (hb.block _ h.bx.lt), ownsRow_same h.o3 fun k hk => hb.block k (h.o3.lt k (blk_mem.1 hk)).2, ownsRow_same h.o4 fun k hk => hb.block k (h.o4.lt k (blk_mem.1 hk)).2, h.ok.keep (fun _ hk => ⟨hk.1, Nat.lt_of_lt_of_le hk.2.1 hb.size, hk.2.2⟩) fun _ hp => hb.cell hp.2.1, h.ne, h.t.trans (Turned.of_below hb _ _)⟩
theorem DocM.alloc {w3 w : World} {S0 : Nat → Prop} {box : Nat} {kd nm : Int} {st : ByteArray} {xs : List ByteArray} {ls : List D} {v3 v4 : Value} {cs : List Value} (h : DocM w3 w S0 box kd nm st xs ls v3 v4 cs) (o : Obj) : DocM w3 (w.alloc o) S0 box kd nm st xs ls v3 v4 cs :=
  h.past ((Below.refl _ _).alloc (Nat.le_refl _) _)
theorem DocM.drewN {w3 w : World} {S0 : Nat → Prop} {box : Nat} {kd nm : Int} {st : ByteArray} {xs : List ByteArray} {ls : List D} {v3 v4 : Value} {cs : List Value} (h : DocM w3 w S0 box kd nm st xs ls v3 v4 cs) (n : Nat) : DocM w3 (w.drewN n) S0 box kd nm st xs ls v3 v4 cs :=
  ⟨h.bx, h.o3, h.o4, DocR.keep (w := w) (w' := w.drewN n) (S := MKid w3 w S0 box v3 v4) (S' := MKid w3 (w.drewN n) S0 box v3 v4) (fun _ hk => hk) (fun _ _ => rfl) h.ok, h.ne, ⟨h.t.os, h.t.tape, h.t.output, h.t.size, h.t.block⟩⟩
theorem DocM.key {w3 w4 w5 : World} {S0 : Nat → Prop} {box : Nat} {kd nm : Int} {st : ByteArray} {xs : List ByteArray} {ls : List D} {v3 v4 : Value} {cs : List Value} (h : DocM w3 w4 S0 box kd nm st xs ls v3 v4 cs) (hbox : box < w3.heap.size) {g cap : Nat} {S : ByteArray}
    (hown : w5.ownsRow w3.heap.size 9 1 (.slice (some ⟨g, 0, none⟩) (xs.length + 1) cap) (xs.length + 1) (xs.map Value.string ++ [.string S])) (ob : Obj) (hgrow : (w4.alloc ob).drew.grownBy w5 v3.ownBlock) (hat : v3.ownBlock = some g ∨ g = w4.heap.size + 1) :
    DocM w3 (w5.setCell ⟨box, 3, none⟩ (.slice (some ⟨g, 0, none⟩) (xs.length + 1) cap)) S0 box kd nm st (xs ++ [S]) ls (.slice (some ⟨g, 0, none⟩) (xs.length + 1) cap) v4 cs := by
  have hz := h.t.size
  have l3 := h.o3.lt
  have l4 := h.o4.lt
  have hgb : g ≠ box := by
    rcases hat with e | e
    · have := (l3 g e).1; omega
    · omega
  have keep : ∀ k, k < w4.heap.size → v3.ownBlock ≠ some k → w5.heap[k]? = w4.heap[k]? := fun k hk hne =>
    (hgrow.block k (by show k < (w4.alloc ob).heap.size; rw [World.size_alloc]; omega) (fun e => hne e.symm)).trans (Below.heap_alloc w4 ob k hk)
  have far : ∀ k, k ≠ box → (w5.setCell ⟨box, 3, none⟩ (.slice (some ⟨g, 0, none⟩) (xs.length + 1) cap)).heap[k]? = w5.heap[k]? := fun k hk => Below.heap_setCell _ _ _ k hk
  have hb3 : v3.ownBlock ≠ some box := fun e => by have := (l3 box e).1; omega
  have hs5 : w4.heap.size ≤ (w5.setCell ⟨box, 3, none⟩ (.slice (some ⟨g, 0, none⟩) (xs.length + 1) cap)).heap.size := by
    have h1 : (w4.alloc ob).heap.size ≤ w5.heap.size := hgrow.size
    rw [World.size_alloc] at h1
    simp [World.setCell]; omega
  have hob : (Value.slice (some ⟨g, 0, none⟩) (xs.length + 1) cap).ownBlock = some g := rfl
  refine ⟨?_, ?_, ?_, ?_, ?_, ?_⟩
  · exact (h.bx.same (keep box (by omega) hb3)).set3 _
  · rw [List.length_append, List.map_append]
    exact ownsRow_same hown fun k hk => far k (by
      have : k = g := by simpa [blk, Value.ownBlock] using hk
      omega)
  · exact ownsRow_same h.o4 fun k hk => (far k (by have := (l4 k (blk_mem.1 hk)).1; omega)).trans (keep k (l4 k (blk_mem.1 hk)).2 fun e => h.ne k e (blk_mem.1 hk))
  · refine h.ok.keep (fun k hk => ⟨hk.1, Nat.lt_of_lt_of_le hk.2.1 hs5, hk.2.2.1, fun e => ?_, hk.2.2.2.2⟩) fun p hp => World.cell?_of_block ((far p.block hp.2.2.1).trans (keep p.block hp.2.1 hp.2.2.2.1))
    rw [hob] at e
    injection e with e
    subst e
    rcases hat with e | e
    · exact hk.2.2.2.1 e
    · have := hk.2.1; omega
  · intro k e e4
    rw [hob] at e
    injection e with e
    subst e
    rcases hat with e | e
    · exact h.ne _ e e4
    · have := (l4 _ e4).2; omega
  · refine ⟨hgrow.os.trans h.t.os, hgrow.tape.trans h.t.tape, hgrow.output.trans h.t.output, by omega, fun k hk hk1 hk2 => ?_⟩
    exact (far k hk2).trans ((keep k (by omega) fun e => by have := (l3 k e).1; omega).trans (h.t.block k hk hk1 hk2))
/-- .. by a statement whose order is known. -/
theorem DocM.key0 {w3 w4 w5 : World} {S0 : Nat → Prop} {box : Nat} {kd nm : Int} {st : ByteArray} {xs : List ByteArray} {ls : List D} {v3 v4 : Value} {cs : List Value} (h : DocM w3 w4 S0 box kd nm st xs ls v3 v4 cs) (hbox : box < w3.heap.size) {g cap : Nat} {S : ByteArray}
    (hown : w5.ownsRow w3.heap.size 9 1 (.slice (some ⟨g, 0, none⟩) (xs.length + 1) cap) (xs.length + 1) (xs.map Value.string ++ [.string S])) (ob : Obj) (hgrow : (w4.alloc ob).grownBy w5 v3.ownBlock) (hat : v3.ownBlock = some g ∨ g = w4.heap.size + 1) :
    DocM w3 (w5.setCell ⟨box, 3, none⟩ (.slice (some ⟨g, 0, none⟩) (xs.length + 1) cap)) S0 box kd nm st (xs ++ [S]) ls (.slice (some ⟨g, 0, none⟩) (xs.length + 1) cap) v4 cs :=
  h.key hbox hown ob ⟨hgrow.os, hgrow.tape, hgrow.output, hgrow.size, hgrow.block⟩ hat
theorem DocM.kid {w3 w6 w7 w8 : World} {S0 S2 : Nat → Prop} {box : Nat} {kd nm : Int} {st : ByteArray} {xs : List ByteArray} {ls : List D} {v3 v4 : Value} {cs : List Value} (h : DocM w3 w6 S0 box kd nm st xs ls v3 v4 cs) (hbox : box < w3.heap.size) {x : D} {y0 y1 y2 y3 y4 : Value} (hb7 : Below w6.heap.size w6 w7)
    (hd : DocS w7 S2 x y0 y1 y2 y3 y4) (hS : ∀ k, S2 k → MKid w3 w7 S0 box v3 v4 k) {g cap : Nat}
    (hown : w8.ownsRow w3.heap.size 29 5 (.slice (some ⟨g, 0, none⟩) (ls.length + 1) cap) (ls.length + 1) (cs ++ [y0, y1, y2, y3, y4])) (ob : Obj) (hgrow : (w7.alloc ob).grownBy w8 v4.ownBlock) (hat : v4.ownBlock = some g ∨ g = w7.heap.size + 1) :
    DocM w3 (w8.setCell ⟨box, 4, none⟩ (.slice (some ⟨g, 0, none⟩) (ls.length + 1) cap)) S0 box kd nm st xs (ls ++ [x]) v3 (.slice (some ⟨g, 0, none⟩) (ls.length + 1) cap) (cs ++ [y0, y1, y2, y3, y4]) := by
  have h7 := h.past hb7
  have hz := h7.t.size
  have l3 := h7.o3.lt
  have l4 := h7.o4.lt
  have hgb : g ≠ box := by
    rcases hat with e | e
    · have := (l4 g e).1; omega
    · omega
  have keep : ∀ k, k < w7.heap.size → v4.ownBlock ≠ some k → w8.heap[k]? = w7.heap[k]? := fun k hk hne =>
    (hgrow.block k (by rw [World.size_alloc]; omega) (fun e => hne e.symm)).trans (Below.heap_alloc w7 ob k hk)
  have far : ∀ k, k ≠ box → (w8.setCell ⟨box, 4, none⟩ (.slice (some ⟨g, 0, none⟩) (ls.length + 1) cap)).heap[k]? = w8.heap[k]? := fun k hk => Below.heap_setCell _ _ _ k hk
  have hb4 : v4.ownBlock ≠ some box := fun e => by have := (l4 box e).1; omega
  have hs8 : w7.heap.size ≤ (w8.setCell ⟨box, 4, none⟩ (.slice (some ⟨g, 0, none⟩) (ls.length + 1) cap)).heap.size := by
    have h1 : (w7.alloc ob).heap.size ≤ w8.heap.size := hgrow.size
    rw [World.size_alloc] at h1
    simp [World.setCell]; omega
  have hob : (Value.slice (some ⟨g, 0, none⟩) (ls.length + 1) cap).ownBlock = some g := rfl
  have hS' : ∀ k, MKid w3 w7 S0 box v3 v4 k → MKid w3 (w8.setCell ⟨box, 4, none⟩ (.slice (some ⟨g, 0, none⟩) (ls.length + 1) cap)) S0 box v3 (.slice (some ⟨g, 0, none⟩) (ls.length + 1) cap) k := fun k hk => ⟨hk.1, Nat.lt_of_lt_of_le hk.2.1 hs8, hk.2.2.1, hk.2.2.2.1, fun e => by
    rw [hob] at e
    injection e with e
    subst e
    rcases hat with e | e
    · exact hk.2.2.2.2 e
    · have := hk.2.1; omega⟩
  refine ⟨?_, ?_, ?_, ?_, ?_, ?_⟩
  · exact (h7.bx.same (keep box (by omega) hb4)).set4 _
  · exact ownsRow_same h7.o3 fun k hk => (far k (by have := (l3 k (blk_mem.1 hk)).1; omega)).trans (keep k (l3 k (blk_mem.1 hk)).2 fun e => h.ne k (blk_mem.1 hk) e)
  · rw [List.length_append]
    exact ownsRow_same hown fun k hk => far k (by
      have : k = g := by simpa [blk, Value.ownBlock] using hk
      omega)
  · exact (h7.ok.append (show DocR w7 (MKid w3 w7 S0 box v3 v4) [x] [y0, y1, y2, y3, y4] from ⟨y0, y1, y2, y3, y4, [], rfl, hd.keep hS fun _ _ => rfl, rfl⟩)).keep hS' fun p hp => World.cell?_of_block ((far p.block hp.2.2.1).trans (keep p.block hp.2.1 hp.2.2.2.2))
  · intro k e e4
    rw [hob] at e4
    injection e4 with e4
    subst e4
    rcases hat with e' | e'
    · exact h.ne _ e e'
    · have := (l3 _ e).2; omega
  · refine ⟨hgrow.os.trans h7.t.os, hgrow.tape.trans h7.t.tape, hgrow.output.trans h7.t.output, by omega, fun k hk hk1 hk2 => ?_⟩
    exact (far k hk2).trans ((keep k (by omega) fun e => by have := (l4 k e).1; omega).trans (h7.t.block k hk hk1 hk2))
/-- The same with keys that were handed in, and stay as they are. -/
structure DocN (w3 w : World) (S0 : Nat → Prop) (box : Nat) (kd nm : Int) (st : ByteArray) (xs : List ByteArray) (ls : List D) (v3 v4 : Value) (cs : List Value) : Prop where
  bx : Box5 w box (.int .i64 kd) (.int .i64 nm) (.string st) v3 v4
  k3 : StrsS w (fun k => S0 k ∧ k < w3.heap.size ∧ k ≠ box) v3 xs
  o4 : w.ownsRow w3.heap.size 29 5 v4 ls.length cs
  ok : DocR w (MKid w3 w S0 box (.slice none 0 0) v4) ls cs
  t : Turned w3 w [] box
theorem DocN.past {w3 w w' : World} {S0 : Nat → Prop} {box : Nat} {kd nm : Int} {st : ByteArray} {xs : List ByteArray} {ls : List D} {v3 v4 : Value} {cs : List Value} (h : DocN w3 w S0 box kd nm st xs ls v3 v4 cs) (hb : Below w.heap.size w w') : DocN w3 w' S0 box kd nm st xs ls v3 v4 cs := by
  have hz := h.t.size
  exact ⟨h.bx.same (hb.block _ h.bx.lt), h.k3.keep (fun _ hk => hk) fun p hp => hb.cell (Nat.lt_of_lt_of_le hp.2.1 hz), ownsRow_same h.o4 fun k hk => hb.block k (h.o4.lt k (blk_mem.1 hk)).2, h.ok.keep (fun _ hk => ⟨hk.1, Nat.lt_of_lt_of_le hk.2.1 hb.size, hk.2.2⟩) fun _ hp => hb.cell hp.2.1, h.t.trans (Turned.of_below hb _ _)⟩
theorem DocN.kid {w3 w6 w7 w8 : World} {S0 S2 : Nat → Prop} {box : Nat} {kd nm : Int} {st : ByteArray} {xs : List ByteArray} {ls : List D} {v3 v4 : Value} {cs : List Value} (h : DocN w3 w6 S0 box kd nm st xs ls v3 v4 cs) (hbox : box < w3.heap.size) {x : D} {y0 y1 y2 y3 y4 : Value} (hb7 : Below w6.heap.size w6 w7)
    (hd : DocS w7 S2 x y0 y1 y2 y3 y4) (hS : ∀ k, S2 k → MKid w3 w7 S0 box (.slice none 0 0) v4 k) {g cap : Nat}
    (hown : w8.ownsRow w3.heap.size 29 5 (.slice (some ⟨g, 0, none⟩) (ls.length + 1) cap) (ls.length + 1) (cs ++ [y0, y1, y2, y3, y4])) (ob : Obj) (hgrow : (w7.alloc ob).grownBy w8 v4.ownBlock) (hat : v4.ownBlock = some g ∨ g = w7.heap.size + 1) :
    DocN w3 (w8.setCell ⟨box, 4, none⟩ (.slice (some ⟨g, 0, none⟩) (ls.length + 1) cap)) S0 box kd nm st xs (ls ++ [x]) v3 (.slice (some ⟨g, 0, none⟩) (ls.length + 1) cap) (cs ++ [y0, y1, y2, y3, y4]) := by
  have h7 := h.past hb7
  have hz := h7.t.size
  have l4 := h7.o4.lt
  have hgb : g ≠ box := by
    rcases hat with e | e
    · have := (l4 g e).1; omega
    · omega
  have keep : ∀ k, k < w7.heap.size → v4.ownBlock ≠ some k → w8.heap[k]? = w7.heap[k]? := fun k hk hne =>
    (hgrow.block k (by rw [World.size_alloc]; omega) (fun e => hne e.symm)).trans (Below.heap_alloc w7 ob k hk)
  have far : ∀ k, k ≠ box → (w8.setCell ⟨box, 4, none⟩ (.slice (some ⟨g, 0, none⟩) (ls.length + 1) cap)).heap[k]? = w8.heap[k]? := fun k hk => Below.heap_setCell _ _ _ k hk
  have hb4 : ∀ k, k < w3.heap.size → v4.ownBlock ≠ some k := fun k hk e => by have := (l4 k e).1; omega
  have hs8 : w7.heap.size ≤ (w8.setCell ⟨box, 4, none⟩ (.slice (some ⟨g, 0, none⟩) (ls.length + 1) cap)).heap.size := by
    have h1 : (w7.alloc ob).heap.size ≤ w8.heap.size := hgrow.size
    rw [World.size_alloc] at h1
    simp [World.setCell]; omega
  have hob : (Value.slice (some ⟨g, 0, none⟩) (ls.length + 1) cap).ownBlock = some g := rfl
  have hS' : ∀ k, MKid w3 w7 S0 box (.slice none 0 0) v4 k → MKid w3 (w8.setCell ⟨box, 4, none⟩ (.slice (some ⟨g, 0, none⟩) (ls.length + 1) cap)) S0 box (.slice none 0 0) (.slice (some ⟨g, 0, none⟩) (ls.length + 1) cap) k := fun k hk => ⟨hk.1, Nat.lt_of_lt_of_le hk.2.1 hs8, hk.2.2.1, hk.2.2.2.1, fun e => by
    rw [hob] at e
    injection e with e
    subst e
    rcases hat with e | e
    · exact hk.2.2.2.2 e
    · have := hk.2.1; omega⟩
  refine ⟨?_, ?_, ?_, ?_, ?_⟩
  · exact (h7.bx.same (keep box (by omega) (hb4 box hbox))).set4 _
  · exact h7.k3.keep (fun _ hk => hk) fun p hp => World.cell?_of_block ((far p.block hp.2.2).trans (keep p.block (Nat.lt_of_lt_of_le hp.2.1 hz) (hb4 _ hp.2.1)))
  · rw [List.length_append]
    exact ownsRow_same hown fun k hk => far k (by
      have : k = g := by simpa [blk, Value.ownBlock] using hk
      omega)
  · exact (h7.ok.append (show DocR w7 (MKid w3 w7 S0 box (.slice none 0 0) v4) [x] [y0, y1, y2, y3, y4] from ⟨y0, y1, y2, y3, y4, [], rfl, hd.keep hS fun _ _ => rfl, rfl⟩)).keep hS' fun p hp => World.cell?_of_block ((far p.block hp.2.2.1).trans (keep p.block hp.2.1 hp.2.2.2.2))
  · refine ⟨hgrow.os.trans h7.t.os, hgrow.tape.trans h7.t.tape, hgrow.output.trans h7.t.output, by omega, fun k hk hk1 hk2 => ?_⟩
    exact (far k hk2).trans ((keep k (by omega) (hb4 k hk)).trans (h7.t.block k hk hk1 hk2))
end Go.Proofs.YteecdmceleanjaaGreatDoor
namespace Go.Proofs.YteecdmceleanjaaGreatDoor
open Go.RowKit

theorem row_docS {w : World} {base : Nat} {v4 : Value} {ls : List D} {cs : List Value} {S S' : Nat → Prop} (h4 : w.ownsRow base 29 5 v4 ls.length cs) (h5 : DocR w S ls cs) (hS : ∀ k, S k → S' k) (hb : ∀ k, base ≤ k → S' k) :
    ∃ (A : Option Addr) (c : Nat), v4 = .slice A ls.length c ∧ ls.length ≤ c ∧ (0 < ls.length → ∃ b off, A = some ⟨b, off, none⟩ ∧ S' b ∧ KidsS w S' b off 0 ls) := by
  rcases Nat.eq_zero_or_pos ls.length with hz | hz
  · rcases h4.2 with ⟨rfl, _⟩ | ⟨g, cap, cur, rfl, _, hh, hc, _⟩
    · exact ⟨none, 0, by rw [hz], by omega, fun h => by omega⟩
    · exact ⟨some ⟨g, 0, none⟩, cap, rfl, hc, fun h => by omega⟩
  · obtain ⟨g, cap, rfl, hg, hlt⟩ := h4.form hz
    have hc : ls.length ≤ cap := by
      rcases h4.2 with ⟨e, _⟩ | ⟨g', cap', cur, e, _, _, hc, _⟩
      · cases e
      · injection e with _ _ e3; omega
    refine ⟨some ⟨g, 0, none⟩, cap, rfl, hc, fun _ => ⟨g, 0, rfl, hb g hg, ?_⟩⟩
    exact DocR.kids hS h5 (i := 0) fun j hj => by
      rw [Nat.zero_mul, Nat.add_zero, Nat.zero_add, h4.cellAt j (by have := h4.1; omega)]
/-- The grown record, read in a world in which at most the result's variable was turned since. -/
theorem DocM.out {w3 wr wf : World} {S0 : Nat → Prop} {box r : Nat} {kd nm : Int} {st : ByteArray} {xs : List ByteArray} {ls : List D} {v3 v4 : Value} {cs : List Value} (h : DocM w3 wr S0 box kd nm st xs ls v3 v4 cs) (hr3 : r < w3.heap.size) (hSr : ¬ S0 r) (hsame : ∀ k, k ≠ r → wf.heap[k]? = wr.heap[k]?) :
    DocS wf (fun k => S0 k ∨ w3.heap.size ≤ k) (.mk kd nm st xs ls) (.int .i64 kd) (.int .i64 nm) (.string st) v3 v4 := by
  simp only [DocS]
  refine ⟨trivial, trivial, trivial, (strsS_own2 h.o3).keep (fun k hk => .inr hk.1) fun p hp => World.cell?_of_block (hsame p.block (by have := hp.1; omega)), ?_⟩
  have h4 := ownsRow_same (w' := wf) h.o4 fun k hk => hsame k (by have := (h.o4.lt k (blk_mem.1 hk)).1; omega)
  have h5 : DocR wf (MKid w3 wr S0 box v3 v4) ls cs := h.ok.keep (fun _ hk => hk) fun p hp => World.cell?_of_block (hsame p.block fun e => by
    rcases hp.1 with h1 | h1
    · exact hSr (e ▸ h1)
    · omega)
  exact row_docS h4 h5 (fun k hk => hk.1) fun k hk => .inr hk
theorem DocN.out {w3 wr wf : World} {S0 : Nat → Prop} {box r : Nat} {kd nm : Int} {st : ByteArray} {xs : List ByteArray} {ls : List D} {v3 v4 : Value} {cs : List Value} (h : DocN w3 wr S0 box kd nm st xs ls v3 v4 cs) (hr3 : r < w3.heap.size) (hSr : ¬ S0 r) (hsame : ∀ k, k ≠ r → wf.heap[k]? = wr.heap[k]?) :
    DocS wf (fun k => S0 k ∨ w3.heap.size ≤ k) (.mk kd nm st xs ls) (.int .i64 kd) (.int .i64 nm) (.string st) v3 v4 := by
  simp only [DocS]
  refine ⟨trivial, trivial, trivial, h.k3.keep (fun k hk => .inl hk.1) fun p hp => World.cell?_of_block (hsame p.block fun e => hSr (e ▸ hp.1)), ?_⟩
  have h4 := ownsRow_same (w' := wf) h.o4 fun k hk => hsame k (by have := (h.o4.lt k (blk_mem.1 hk)).1; omega)
  have h5 : DocR wf (MKid w3 wr S0 box (.slice none 0 0) v4) ls cs := h.ok.keep (fun _ hk => hk) fun p hp => World.cell?_of_block (hsame p.block fun e => by
    rcases hp.1 with h1 | h1
    · exact hSr (e ▸ h1)
    · omega)
  exact row_docS h4 h5 (fun k hk => hk.1) fun k hk => .inr hk
/-- What a call tells that makes a document out of others, in blocks of the set and its own, and something beside it. -/
def MadeDocS2 (w : World) (S0 : Nat → Prop) (d : D) (u : Value) (e : Ending) (w' : World) : Prop :=
  ∃ (v0 v1 v2 v3 v4 : Value), e = .returned (.tuple #[.agg #[v0, v1, v2, v3, v4], u]) ∧ DocS w' (fun k => (S0 k ∨ w.heap.size ≤ k) ∧ k < w'.heap.size) d v0 v1 v2 v3 v4 ∧ Below w.heap.size w w'
/-- What is made anew is also made so. -/
theorem MadeDoc2.toS {w w' : World} {S0 : Nat → Prop} {d : D} {u : Value} {e : Ending} (h : MadeDoc2 w.heap.size w d u e w') : MadeDocS2 w S0 d u e w' := by
  obtain ⟨v0, v1, v2, v3, v4, F, he, ho, _, hb⟩ := h
  exact ⟨v0, v1, v2, v3, v4, he, ho.docS.keep (fun k hk => ⟨.inr hk.1, hk.2⟩) fun _ _ => rfl, hb⟩
end Go.Proofs.YteecdmceleanjaaGreatDoor
