/-
  schema.Same: slices.Equal of strings, slices.EqualFunc of fields and types.
-/
import Derived.Test.YtnjmknofojjlmaaDoorTAt
namespace Go.Proofs.YtnjmknofojjlmaaDoor
open Go.RowKit

theorem strs_drewN {w : World} {B : Nat} {v : Value} {xs : List ByteArray} (h : Strs w B v xs) (n : Nat) : Strs (w.drewN n) B v xs := h
set_option maxHeartbeats 2000000 in
set_option maxRecDepth 100000 in
theorem equalS_any {xs ys : List ByteArray} {v u : Value} {w : World} {B : Nat} (hx : Strs w B v xs) (hy : Strs w B u ys) (hn : xs.length ≤ 10000) (hm : ys.length ≤ 10000) :
    Calls Tryd.prog 37 #[v, u] w fun e w' => e = .returned (.bool (decide (xs = ys))) ∧ ∃ n, w' = w.drewN n := by
  obtain ⟨A, c, rfl, hc, hk⟩ := hx
  obtain ⟨A', c', rfl, hc', hk'⟩ := hy
  have HX := Lib.hid hk; have HY := Lib.hid hk'
  clear hk hk'
  by_cases hl : xs.length = ys.length
  · have HL := Lib.hid hl
    have hl2 : ((xs.length : Int) != (ys.length : Int)) = false := by simp [hl]
    clear hl
    go_enter Tryd.func37, Tryd.ntmps37
    go_wp2_with fail
    go_loopw [13] (fun i wr => ∃ k n : Nat, k ≤ xs.length ∧ i = .int .i64 k ∧ (∀ (j : Nat) (h : j < xs.length) (h' : j < ys.length), j < k → xs[j] = ys[j]) ∧ wr = w.drewN n) (fun i _ => xs.length - (intOf i).toNat)
    case atStart => exact ⟨0, 0, Nat.zero_le _, rfl, fun j _ _ hj => absurd hj (by omega), rfl⟩
    case round =>
      obtain ⟨k, n, hkl, rfl, hall, hwr⟩ := hrel
      have HALL := Lib.hid hall; clear hall
      have HWR := Lib.hid hwr
      by_cases hlt : k < xs.length
      · have hlt2 : k < ys.length := by have := HL.out; omega
        obtain ⟨b, off, rfl, _, hcx⟩ := HX.out (by omega)
        obtain ⟨b', off', rfl, _, hcy⟩ := HY.out (by omega)
        have gx : wr.cell? ⟨b, off + k, none⟩ = some (.string xs[k]) := by rw [hwr]; exact hcx k hlt
        have gy : wr.cell? ⟨b', off' + k, none⟩ = some (.string ys[k]) := by rw [hwr]; exact hcy k hlt2
        have hk0 : (0 : Int) ≤ (k : Int) := by omega
        have hk1 : (k : Int) < (xs.length : Int) := by omega
        have hk2 : (k : Int) < (ys.length : Int) := by omega
        clear hcx hcy hwr
        by_cases he : xs[k] = ys[k]
        · have hb1 : (xs[k].toList == ys[k].toList) = true := by rw [beq_iff]; simp [he]
          have hb2 : (xs[k].toList != ys[k].toList) = false := by rw [bne, hb1]; rfl
          have HE := Lib.hid he; clear he
          go_wp2_with fail
          go_quiet (fail)
          go_wp2_with fail
          go_roundw
          case rel => exact ⟨k + 1, _, by omega, by go_num, fun j h h' hj => by
            rcases Nat.lt_or_ge j k with h1 | h1
            · exact HALL.out j h h' h1
            · obtain rfl : j = k := by omega
              exact HE.out, by rw [HWR.out]; exact World.drewN_drewN _ _ _⟩
          case measure => simp [intOf]; omega
        · have hb1 : (xs[k].toList == ys[k].toList) = false := by rw [beq_iff]; simp [he]
          have hb2 : (xs[k].toList != ys[k].toList) = true := by rw [bne, hb1]; rfl
          have HE := Lib.hid (show decide (xs = ys) = false from decide_eq_false fun h => he (by subst h; rfl))
          clear he
          go_wp2_with fail
          go_quiet (fail)
          go_wp2_with fail
          go_ret
          exact ⟨ret_bool HE.out.symm, _, by rw [HWR.out]; exact World.drewN_drewN _ _ _⟩
      · have HE := Lib.hid (show decide (xs = ys) = true from decide_eq_true (List.ext_getElem HL.out fun j h h' => HALL.out j h h' (by omega)))
        clear hwr
        go_wp2_with fail
        go_ret
        exact ⟨ret_bool HE.out.symm, n, HWR.out⟩
  · have HE := Lib.hid (show decide (xs = ys) = false from decide_eq_false fun h => hl (by rw [h]))
    have hl2 : ((xs.length : Int) != (ys.length : Int)) = true := by simp; omega
    clear hl
    go_enter Tryd.func37, Tryd.ntmps37
    go_wp2_with fail
    go_ret
    exact ⟨ret_bool HE.out.symm, 0, rfl⟩
mutual
def sameT : T → T → Bool
  | .mk k l h n f o, .mk k' l' h' n' f' o' => decide (k = k') && (decide (l = l') && (decide (h = h') && (decide (n = n') && (sameFs f f' && sameTs o o'))))
def sameFs : List F → List F → Bool
  | [], [] => true
  | f :: r, f' :: r' => sameF f f' && sameFs r r'
  | _, _ => false
def sameF : F → F → Bool
  | .mk n o t, .mk n' o' t' => decide (n = n') && (decide (o = o') && sameT t t')
def sameTs : List T → List T → Bool
  | [], [] => true
  | f :: r, f' :: r' => sameT f f' && sameTs r r'
  | _, _ => false
end
mutual
theorem sameT_iff : ∀ a b : T, sameT a b = true ↔ a = b
  | .mk k l h n f o, .mk k' l' h' n' f' o' => by
    simp only [sameT, Bool.and_eq_true, decide_eq_true_eq, sameFs_iff f f', sameTs_iff o o', T.mk.injEq]
theorem sameFs_iff : ∀ a b : List F, sameFs a b = true ↔ a = b
  | [], [] => by simp [sameFs]
  | [], f' :: r' => by simp [sameFs]
  | f :: r, [] => by simp [sameFs]
  | f :: r, f' :: r' => by simp only [sameFs, Bool.and_eq_true, sameF_iff f f', sameFs_iff r r', List.cons.injEq]
theorem sameF_iff : ∀ a b : F, sameF a b = true ↔ a = b
  | .mk n o t, .mk n' o' t' => by simp only [sameF, Bool.and_eq_true, decide_eq_true_eq, sameT_iff t t', F.mk.injEq]
theorem sameTs_iff : ∀ a b : List T, sameTs a b = true ↔ a = b
  | [], [] => by simp [sameTs]
  | [], f' :: r' => by simp [sameTs]
  | f :: r, [] => by simp [sameTs]
  | f :: r, f' :: r' => by simp only [sameTs, Bool.and_eq_true, sameT_iff f f', sameTs_iff r r', List.cons.injEq]
end
theorem sameT_self (t : T) : sameT t t = true := (sameT_iff t t).2 rfl
theorem sameT_eq (a b : T) : sameT a b = (decide (a.kind = b.kind) && (decide (a.lo = b.lo) && (decide (a.hi = b.hi) && (decide (a.names = b.names) && (sameFs a.fields b.fields && sameTs a.of b.of))))) := by
  obtain ⟨_, _, _, _, _, _⟩ := a; obtain ⟨_, _, _, _, _, _⟩ := b
  rw [Bool.eq_iff_iff]; simp only [sameT_iff, Bool.and_eq_true, decide_eq_true_eq, sameFs_iff, sameTs_iff]; simp only [T.kind, T.lo, T.hi, T.names, T.fields, T.of, T.mk.injEq]
theorem sameF_eq (a b : F) : sameF a b = (decide (a.name = b.name) && (decide (a.opt = b.opt) && sameT a.type b.type)) := by
  obtain ⟨_, _, _⟩ := a; obtain ⟨_, _, _⟩ := b
  rw [Bool.eq_iff_iff]; simp only [sameF_iff, Bool.and_eq_true, decide_eq_true_eq, sameT_iff]; simp only [F.name, F.opt, F.type, F.mk.injEq]
theorem sameFs_true : ∀ {a b : List F}, a.length = b.length → (∀ (i : Nat) (h : i < a.length) (h' : i < b.length), sameF a[i] b[i] = true) → sameFs a b = true := fun hl h =>
  (sameFs_iff _ _).2 (List.ext_getElem hl fun i h1 h2 => (sameF_iff _ _).1 (h i h1 h2))
theorem sameFs_false {a b : List F} (i : Nat) (h1 : i < a.length) (h2 : i < b.length) (h : sameF a[i] b[i] = false) : sameFs a b = false := by
  cases hs : sameFs a b with
  | false => rfl
  | true => have e := (sameFs_iff _ _).1 hs; subst e; rw [(sameF_iff _ _).2 rfl] at h; cases h
theorem sameFs_len {a b : List F} (h : a.length ≠ b.length) : sameFs a b = false := by
  cases hs : sameFs a b with
  | false => rfl
  | true => exact absurd (by rw [(sameFs_iff _ _).1 hs]) h
theorem sameTs_true : ∀ {a b : List T}, a.length = b.length → (∀ (i : Nat) (h : i < a.length) (h' : i < b.length), sameT a[i] b[i] = true) → sameTs a b = true := fun hl h =>
  (sameTs_iff _ _).2 (List.ext_getElem hl fun i h1 h2 => (sameT_iff _ _).1 (h i h1 h2))
theorem sameTs_false {a b : List T} (i : Nat) (h1 : i < a.length) (h2 : i < b.length) (h : sameT a[i] b[i] = false) : sameTs a b = false := by
  cases hs : sameTs a b with
  | false => rfl
  | true => have e := (sameTs_iff _ _).1 hs; subst e; rw [(sameT_iff _ _).2 rfl] at h; cases h
theorem sameTs_len {a b : List T} (h : a.length ≠ b.length) : sameTs a b = false := by
  cases hs : sameTs a b with
  | false => rfl
  | true => exact absurd (by rw [(sameTs_iff _ _).1 hs]) h
/-- A value of a field. -/
def FieldV (w : World) (B : Nat) (f : F) (v : Value) : Prop := ∃ v0 v1 v2 v3 v4 v5, v = .agg #[.string f.name, .bool f.opt, v0, v1, v2, v3, v4, v5] ∧ TypeIn w B f.type v0 v1 v2 v3 v4 v5
/-- The function value tells whether two fields are the same. -/
def SamesF (l : List F) (c : Nat) (w0 : World) (B : Nat) : Prop :=
  ∀ (i : Nat) (h : i < l.length) (f' : F) (v u : Value) (w : World), Below w0.heap.size w0 w → FieldV w B l[i] v → FieldV w B f' u → f'.name.size ≤ 10000 → f'.type.Fit →
    Calls Tryd.prog 35 #[v, u, .pointer (some ⟨c, 0, none⟩)] w fun e w' => e = .returned (.bool (sameF l[i] f')) ∧ Below w.heap.size w w'
set_option maxHeartbeats 4000000 in
set_option maxRecDepth 100000 in
theorem equalF_any {l m : List F} {c : Nat} {v u : Value} {w : World} {B : Nat} (ha : SamesF l c w B) (hB : B ≤ w.heap.size) (hl : FieldsV w B v l) (hm : FieldsV w B u m) (hn : l.length ≤ 10000) (hn2 : m.length ≤ 10000) (hf : T.FitsF m) :
    Calls Tryd.prog 38 #[v, u, .func (.func 35) #[] #[.pointer (some ⟨c, 0, none⟩)]] w fun e w' => e = .returned (.bool (sameFs l m)) ∧ Below w.heap.size w w' := by
  obtain ⟨A, cc, rfl, hc, hk⟩ := hl
  obtain ⟨A', cc', rfl, hc', hk'⟩ := hm
  have HA := Lib.hid ha; have HX := Lib.hid hk; have HY := Lib.hid hk'; have HF := Lib.hid hf
  clear ha hk hk' hf
  by_cases hlen : l.length = m.length
  · have HL := Lib.hid hlen
    have hl2 : ((l.length : Int) != (m.length : Int)) = false := by simp [hlen]
    clear hlen
    go_enter Tryd.func38, Tryd.ntmps38
    go_wp2_with fail
    go_loopw [17] (fun i wr => ∃ k : Nat, k ≤ l.length ∧ i = .int .i64 k ∧ (∀ (j : Nat) (h : j < l.length) (h' : j < m.length), j < k → sameF l[j] m[j] = true) ∧ Below w.heap.size w wr) (fun i _ => l.length - (intOf i).toNat)
    case atStart => exact ⟨0, Nat.zero_le _, rfl, fun j _ _ hj => absurd hj (by omega), Below.refl _ _⟩
    case round =>
      obtain ⟨k, hkl, rfl, hall, hb⟩ := hrel
      have HALL := Lib.hid hall; have HB := Lib.hid hb
      have hz := hb.size
      clear hall
      by_cases hlt : k < l.length
      · have hlt2 : k < m.length := by have := HL.out; omega
        obtain ⟨b, off, rfl, hab, hfi⟩ := HX.out (by omega)
        obtain ⟨b', off', rfl, hab', hfi'⟩ := HY.out (by omega)
        have hat := FieldsIn.at_ hfi k hlt
        have hat' := FieldsIn.at_ hfi' k hlt2
        rw [Nat.zero_add] at hat hat'
        obtain ⟨n0, o0, ht⟩ := hat
        obtain ⟨n0', o0', ht'⟩ := hat'
        have kp : ∀ p : Addr, p.block < B → wr.cell? p = w.cell? p := fun p hp => hb.cell (by omega)
        have n1 := (kp ⟨b, off + k * 8, none⟩ hab).trans n0
        have o1 := (kp ⟨b, off + k * 8 + 1, none⟩ hab).trans o0
        obtain ⟨v0, v1, v2, v3, v4, v5, c0, c1, c2, c3, c4, c5, hin⟩ := ht.keep (Nat.le_refl _) kp hab
        have HIN := Lib.hid hin
        obtain ⟨A3, d3, A4, d4, A5, d5, rfl, rfl, rfl, rfl, rfl, rfl⟩ := hin.forms
        clear n0 o0 hfi ht hin
        have n1' := (kp ⟨b', off' + k * 8, none⟩ hab').trans n0'
        have o1' := (kp ⟨b', off' + k * 8 + 1, none⟩ hab').trans o0'
        obtain ⟨u0, u1, u2, u3, u4, u5, e0, e1, e2, e3, e4, e5, hin'⟩ := ht'.keep (Nat.le_refl _) kp hab'
        have HIN' := Lib.hid hin'
        obtain ⟨B3, g3, B4, g4, B5, g5, rfl, rfl, rfl, rfl, rfl, rfl⟩ := hin'.forms
        clear n0' o0' kp hfi' ht' hin' hb
        have HFM := Lib.hid (HF.out.at_ hlt2)
        have hk0 : (0 : Int) ≤ (k : Int) := by omega
        have hk1 : (k : Int) < (l.length : Int) := by omega
        have hk2 : (k : Int) < (m.length : Int) := by omega
        have hbw : b' < wr.heap.size := by omega
        cases hs : sameF l[k] m[k] with
        | true =>
          have HSM := Lib.hid hs; clear hs
          go_wp2_with fail
          obtain ⟨W2, hW2⟩ : ∃ W2, W2 = (wr.alloc (.cells #[.string l[k].name, .bool l[k].opt, .int .i64 l[k].type.kind, .int .i64 l[k].type.lo, .int .i64 l[k].type.hi, .slice A3 l[k].type.names.length d3, .slice A4 l[k].type.fields.length d4, .slice A5 l[k].type.of.length d5] 40)).alloc (.cells #[.string m[k].name, .bool m[k].opt, .int .i64 m[k].type.kind, .int .i64 m[k].type.lo, .int .i64 m[k].type.hi, .slice B3 m[k].type.names.length g3, .slice B4 m[k].type.fields.length g4, .slice B5 m[k].type.of.length g5] 40) := ⟨_, rfl⟩
          have hbl : Below wr.heap.size wr W2 := by rw [hW2]; exact ((Below.refl _ _).alloc (Nat.le_refl _) _).alloc (by simp) _
          rw [← hW2]
          clear hW2
          have kp2 : ∀ p : Addr, p.block < B → W2.cell? p = wr.cell? p := fun p hp => hbl.cell (by omega)
          refine (HA.out k hlt m[k] _ _ W2 (HB.out.trans (hbl.mono hz)) ⟨_, _, _, _, _, _, rfl, HIN.out.keep (Nat.le_refl _) kp2⟩ ⟨_, _, _, _, _, _, rfl, HIN'.out.keep (Nat.le_refl _) kp2⟩ HFM.out.name HFM.out.type).mono ?_
          rintro e w2 ⟨rfl, hb2⟩
          rw [HSM.out]
          have HB2 : Hid (Below w.heap.size w w2) := (HB.out.trans (hbl.mono hz)).trans (hb2.mono (by have := hbl.size; omega))
          clear hb2 hbl kp2
          go_wp2_with fail
          go_roundw
          case rel => exact ⟨k + 1, by omega, by go_num, fun j h h' hj => by
            rcases Nat.lt_or_ge j k with h1 | h1
            · exact HALL.out j h h' h1
            · obtain rfl : j = k := by omega
              exact HSM.out, HB2.out⟩
          case measure => simp [intOf]; omega
        | false =>
          have E := Lib.hid (sameFs_false k hlt hlt2 hs)
          have HSM := Lib.hid hs; clear hs
          go_wp2_with fail
          obtain ⟨W2, hW2⟩ : ∃ W2, W2 = (wr.alloc (.cells #[.string l[k].name, .bool l[k].opt, .int .i64 l[k].type.kind, .int .i64 l[k].type.lo, .int .i64 l[k].type.hi, .slice A3 l[k].type.names.length d3, .slice A4 l[k].type.fields.length d4, .slice A5 l[k].type.of.length d5] 40)).alloc (.cells #[.string m[k].name, .bool m[k].opt, .int .i64 m[k].type.kind, .int .i64 m[k].type.lo, .int .i64 m[k].type.hi, .slice B3 m[k].type.names.length g3, .slice B4 m[k].type.fields.length g4, .slice B5 m[k].type.of.length g5] 40) := ⟨_, rfl⟩
          have hbl : Below wr.heap.size wr W2 := by rw [hW2]; exact ((Below.refl _ _).alloc (Nat.le_refl _) _).alloc (by simp) _
          rw [← hW2]
          clear hW2
          have kp2 : ∀ p : Addr, p.block < B → W2.cell? p = wr.cell? p := fun p hp => hbl.cell (by omega)
          refine (HA.out k hlt m[k] _ _ W2 (HB.out.trans (hbl.mono hz)) ⟨_, _, _, _, _, _, rfl, HIN.out.keep (Nat.le_refl _) kp2⟩ ⟨_, _, _, _, _, _, rfl, HIN'.out.keep (Nat.le_refl _) kp2⟩ HFM.out.name HFM.out.type).mono ?_
          rintro e w2 ⟨rfl, hb2⟩
          rw [HSM.out]
          have HB2 : Hid (Below w.heap.size w w2) := (HB.out.trans (hbl.mono hz)).trans (hb2.mono (by have := hbl.size; omega))
          clear hb2 hbl kp2
          go_wp2_with fail
          go_ret
          exact ⟨ret_bool E.out.symm, HB2.out⟩
      · have E := Lib.hid (sameFs_true HL.out fun j h h' => HALL.out j h h' (by omega))
        clear hb
        go_wp2_with fail
        go_ret
        exact ⟨ret_bool E.out.symm, HB.out⟩
  · have E := Lib.hid (sameFs_len hlen)
    have hl2 : ((l.length : Int) != (m.length : Int)) = true := by simp; omega
    clear hlen
    go_enter Tryd.func38, Tryd.ntmps38
    go_wp2_with fail
    go_ret
    exact ⟨ret_bool E.out.symm, Below.refl _ _⟩
/-- The function value tells whether two types are the same. -/
def SamesT (l : List T) (c0 c : Nat) (w0 : World) (B : Nat) : Prop :=
  ∀ (i : Nat) (h : i < l.length) (f' : T) (v u : Value) (w : World), Below w0.heap.size w0 w → TypeV w B l[i] v → TypeV w B f' u → f'.Fit →
    Calls Tryd.prog 36 #[v, u, .pointer (some ⟨c0, 0, none⟩), .pointer (some ⟨c, 0, none⟩)] w fun e w' => e = .returned (.bool (sameT l[i] f')) ∧ Below w.heap.size w w'
set_option maxHeartbeats 4000000 in
set_option maxRecDepth 100000 in
theorem equalT_any {l m : List T} {c0 c : Nat} {v u : Value} {w : World} {B : Nat} (ha : SamesT l c0 c w B) (hB : B ≤ w.heap.size) (hl : TypesV w B v l) (hm : TypesV w B u m) (hn : l.length ≤ 10000) (hn2 : m.length ≤ 10000) (hf : T.Fits m) :
    Calls Tryd.prog 39 #[v, u, .func (.func 36) #[] #[.pointer (some ⟨c0, 0, none⟩), .pointer (some ⟨c, 0, none⟩)]] w fun e w' => e = .returned (.bool (sameTs l m)) ∧ Below w.heap.size w w' := by
  obtain ⟨A, cc, rfl, hc, hk⟩ := hl
  obtain ⟨A', cc', rfl, hc', hk'⟩ := hm
  have HA := Lib.hid ha; have HX := Lib.hid hk; have HY := Lib.hid hk'; have HF := Lib.hid hf
  clear ha hk hk' hf
  by_cases hlen : l.length = m.length
  · have HL := Lib.hid hlen
    have hl2 : ((l.length : Int) != (m.length : Int)) = false := by simp [hlen]
    clear hlen
    go_enter Tryd.func39, Tryd.ntmps39
    go_wp2_with fail
    go_loopw [17] (fun i wr => ∃ k : Nat, k ≤ l.length ∧ i = .int .i64 k ∧ (∀ (j : Nat) (h : j < l.length) (h' : j < m.length), j < k → sameT l[j] m[j] = true) ∧ Below w.heap.size w wr) (fun i _ => l.length - (intOf i).toNat)
    case atStart => exact ⟨0, Nat.zero_le _, rfl, fun j _ _ hj => absurd hj (by omega), Below.refl _ _⟩
    case round =>
      obtain ⟨k, hkl, rfl, hall, hb⟩ := hrel
      have HALL := Lib.hid hall; have HB := Lib.hid hb
      have hz := hb.size
      clear hall
      by_cases hlt : k < l.length
      · have hlt2 : k < m.length := by have := HL.out; omega
        obtain ⟨b, off, rfl, hab, hfi⟩ := HX.out (by omega)
        obtain ⟨b', off', rfl, hab', hfi'⟩ := HY.out (by omega)
        have hat := TypesIn.at_ hfi k hlt
        have hat' := TypesIn.at_ hfi' k hlt2
        rw [Nat.zero_add] at hat hat'
        have kp : ∀ p : Addr, p.block < B → wr.cell? p = w.cell? p := fun p hp => hb.cell (by omega)
        obtain ⟨v0, v1, v2, v3, v4, v5, c0, c1, c2, c3, c4, c5, hin⟩ := hat.keep (Nat.le_refl _) kp hab
        have HIN := Lib.hid hin
        obtain ⟨A3, d3, A4, d4, A5, d5, rfl, rfl, rfl, rfl, rfl, rfl⟩ := hin.forms
        clear hfi hat hin
        obtain ⟨u0, u1, u2, u3, u4, u5, e0, e1, e2, e3, e4, e5, hin'⟩ := hat'.keep (Nat.le_refl _) kp hab'
        have HIN' := Lib.hid hin'
        obtain ⟨B3, g3, B4, g4, B5, g5, rfl, rfl, rfl, rfl, rfl, rfl⟩ := hin'.forms
        clear kp hfi' hat' hin' hb
        have HFM := Lib.hid (HF.out.at_ hlt2)
        have hk0 : (0 : Int) ≤ (k : Int) := by omega
        have hk1 : (k : Int) < (l.length : Int) := by omega
        have hk2 : (k : Int) < (m.length : Int) := by omega
        have hbw : b' < wr.heap.size := by omega
        cases hs : sameT l[k] m[k] with
        | true =>
          have HSM := Lib.hid hs; clear hs
          go_wp2_with fail
          obtain ⟨W2, hW2⟩ : ∃ W2, W2 = (wr.alloc (.cells #[.int .i64 l[k].kind, .int .i64 l[k].lo, .int .i64 l[k].hi, .slice A3 l[k].names.length d3, .slice A4 l[k].fields.length d4, .slice A5 l[k].of.length d5] 26)).alloc (.cells #[.int .i64 m[k].kind, .int .i64 m[k].lo, .int .i64 m[k].hi, .slice B3 m[k].names.length g3, .slice B4 m[k].fields.length g4, .slice B5 m[k].of.length g5] 26) := ⟨_, rfl⟩
          have hbl : Below wr.heap.size wr W2 := by rw [hW2]; exact ((Below.refl _ _).alloc (Nat.le_refl _) _).alloc (by simp) _
          rw [← hW2]
          clear hW2
          have kp2 : ∀ p : Addr, p.block < B → W2.cell? p = wr.cell? p := fun p hp => hbl.cell (by omega)
          refine (HA.out k hlt m[k] _ _ W2 (HB.out.trans (hbl.mono hz)) ⟨_, _, _, _, _, _, rfl, HIN.out.keep (Nat.le_refl _) kp2⟩ ⟨_, _, _, _, _, _, rfl, HIN'.out.keep (Nat.le_refl _) kp2⟩ HFM.out).mono ?_
          rintro e w2 ⟨rfl, hb2⟩
          rw [HSM.out]
          have HB2 : Hid (Below w.heap.size w w2) := (HB.out.trans (hbl.mono hz)).trans (hb2.mono (by have := hbl.size; omega))
          clear hb2 hbl kp2
          go_wp2_with fail
          go_roundw
          case rel => exact ⟨k + 1, by omega, by go_num, fun j h h' hj => by
            rcases Nat.lt_or_ge j k with h1 | h1
            · exact HALL.out j h h' h1
            · obtain rfl : j = k := by omega
              exact HSM.out, HB2.out⟩
          case measure => simp [intOf]; omega
        | false =>
          have E := Lib.hid (sameTs_false k hlt hlt2 hs)
          have HSM := Lib.hid hs; clear hs
          go_wp2_with fail
          obtain ⟨W2, hW2⟩ : ∃ W2, W2 = (wr.alloc (.cells #[.int .i64 l[k].kind, .int .i64 l[k].lo, .int .i64 l[k].hi, .slice A3 l[k].names.length d3, .slice A4 l[k].fields.length d4, .slice A5 l[k].of.length d5] 26)).alloc (.cells #[.int .i64 m[k].kind, .int .i64 m[k].lo, .int .i64 m[k].hi, .slice B3 m[k].names.length g3, .slice B4 m[k].fields.length g4, .slice B5 m[k].of.length g5] 26) := ⟨_, rfl⟩
          have hbl : Below wr.heap.size wr W2 := by rw [hW2]; exact ((Below.refl _ _).alloc (Nat.le_refl _) _).alloc (by simp) _
          rw [← hW2]
          clear hW2
          have kp2 : ∀ p : Addr, p.block < B → W2.cell? p = wr.cell? p := fun p hp => hbl.cell (by omega)
          refine (HA.out k hlt m[k] _ _ W2 (HB.out.trans (hbl.mono hz)) ⟨_, _, _, _, _, _, rfl, HIN.out.keep (Nat.le_refl _) kp2⟩ ⟨_, _, _, _, _, _, rfl, HIN'.out.keep (Nat.le_refl _) kp2⟩ HFM.out).mono ?_
          rintro e w2 ⟨rfl, hb2⟩
          rw [HSM.out]
          have HB2 : Hid (Below w.heap.size w w2) := (HB.out.trans (hbl.mono hz)).trans (hb2.mono (by have := hbl.size; omega))
          clear hb2 hbl kp2
          go_wp2_with fail
          go_ret
          exact ⟨ret_bool E.out.symm, HB2.out⟩
      · have E := Lib.hid (sameTs_true HL.out fun j h h' => HALL.out j h h' (by omega))
        clear hb
        go_wp2_with fail
        go_ret
        exact ⟨ret_bool E.out.symm, HB.out⟩
  · have E := Lib.hid (sameTs_len hlen)
    have hl2 : ((l.length : Int) != (m.length : Int)) = true := by simp; omega
    clear hlen
    go_enter Tryd.func39, Tryd.ntmps39
    go_wp2_with fail
    go_ret
    exact ⟨ret_bool E.out.symm, Below.refl _ _⟩
end Go.Proofs.YtnjmknofojjlmaaDoor
