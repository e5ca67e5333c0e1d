/-
  schema.Field, behind: slices.IndexFunc over fields.
-/
import Derived.Test.YtnjmknofojjlmaaDoorTCopy
namespace Go.Proofs.YtnjmknofojjlmaaDoor
open Go.RowKit

/-- The place of the first field that p takes, or -1. -/
def fieldIdx (p : F → Bool) : List F → Int
  | [] => -1
  | f :: r => if p f = true then 0 else if fieldIdx p r = -1 then -1 else fieldIdx p r + 1
theorem fieldIdx_cases (p : F → Bool) : ∀ (l : List F), (fieldIdx p l = -1 ∧ ∀ (i : Nat) (h : i < l.length), p l[i] = false) ∨ ∃ (i : Nat) (h : i < l.length), fieldIdx p l = i ∧ p l[i] = true ∧ ∀ (j : Nat) (hj : j < i), p (l[j]'(by omega)) = false
  | [] => .inl ⟨rfl, fun i h => by simp at h⟩
  | f :: r => by
    unfold fieldIdx
    by_cases hp : p f = true
    · rw [if_pos hp]
      exact .inr ⟨0, by simp, rfl, hp, fun j hj => absurd hj (by omega)⟩
    · rw [if_neg hp]
      have hp' : p f = false := by simpa using hp
      rcases fieldIdx_cases p r with ⟨h1, h2⟩ | ⟨i, h, h1, h2, h3⟩
      · rw [if_pos h1]
        refine .inl ⟨rfl, fun i h => ?_⟩
        cases i with
        | zero => exact hp'
        | succ i => exact h2 i (by simpa using h)
      · rw [if_neg (by omega), h1]
        refine .inr ⟨i + 1, by simpa using h, by omega, by simpa using h2, fun j hj => ?_⟩
        cases j with
        | zero => exact hp'
        | succ j => exact h3 j (by omega)
theorem fieldIdx_none {p : F → Bool} {l : List F} (h : ∀ (i : Nat) (h : i < l.length), p l[i] = false) : fieldIdx p l = -1 := by
  rcases fieldIdx_cases p l with ⟨h1, _⟩ | ⟨i, hi, _, h2, _⟩
  · exact h1
  · rw [h i hi] at h2; cases h2
theorem fieldIdx_at {p : F → Bool} {l : List F} {i : Nat} (hi : i < l.length) (h : p l[i] = true) (hj : ∀ (j : Nat) (hj : j < i), p (l[j]'(by omega)) = false) : fieldIdx p l = i := by
  rcases fieldIdx_cases p l with ⟨_, h1⟩ | ⟨k, hk, h1, h2, h3⟩
  · rw [h1 i hi] at h; cases h
  · rcases Nat.lt_trichotomy i k with h' | h' | h'
    · rw [h3 i h'] at h; cases h
    · rw [h1, h']
    · rw [hj k h'] at h2; cases h2
/-- What the function value must tell of a field. -/
def Asks (p : F → Bool) (G : Nat) (c : Nat) (w0 : World) (B : Nat) : Prop :=
  ∀ (f : F) (v0 v1 v2 v3 v4 v5 : Value) (w : World), Below w0.heap.size w0 w → TypeIn w B f.type v0 v1 v2 v3 v4 v5 → f.name.size ≤ 10000 →
    Calls Tryd.prog G #[.agg #[.string f.name, .bool f.opt, v0, v1, v2, v3, v4, v5], .pointer (some ⟨c, 0, none⟩)] w fun e w' => e = .returned (.bool (p f)) ∧ Below w.heap.size w w'
set_option maxHeartbeats 2000000 in
set_option maxRecDepth 100000 in
theorem indexF_any {p : F → Bool} {G c B : Nat} {l : List F} {v : Value} {w : World} (eg : ∀ args w, (callFunc G args).run Tryd.prog w = .ok (.enter G args) w) (ha : Asks p G c w B) (hB : B ≤ w.heap.size) (hv : FieldsV w B v l) (hn : l.length ≤ 10000) (hf : T.FitsF l) :
    Calls Tryd.prog 41 #[v, .func (.func G) #[] #[.pointer (some ⟨c, 0, none⟩)]] w fun e w' => e = .returned (.int .i64 (fieldIdx p l)) ∧ Below w.heap.size w w' := by
  obtain ⟨A, cc, rfl, hc, hk⟩ := hv
  have HA := Lib.hid ha; have HK := Lib.hid hk; have HF := Lib.hid hf
  clear ha hk hf
  go_enter Tryd.func41, Tryd.ntmps41
  go_wp2_with fail
  go_loopw [8] (fun i wr => ∃ k : Nat, k ≤ l.length ∧ i = .int .i64 k ∧ (∀ (j : Nat) (h : j < l.length), j < k → p l[j] = false) ∧ Below w.heap.size w wr) (fun i _ => l.length - (intOf i).toNat)
  case atStart => exact ⟨0, Nat.zero_le _, rfl, fun j _ hj => absurd hj (by omega), Below.refl _ _⟩
  case round =>
    obtain ⟨k, hkl, rfl, hall, hb⟩ := hrel
    have HALL := Lib.hid hall; have HB := Lib.hid hb
    have hz := hb.size
    clear hall
    by_cases hlt : k < l.length
    · obtain ⟨b, off, rfl, hab, hfi⟩ := HK.out (by omega)
      have hat := FieldsIn.at_ hfi k hlt
      rw [Nat.zero_add] at hat
      obtain ⟨n0, o0, ht⟩ := hat
      have kp : ∀ p : Addr, p.block < B → wr.cell? p = w.cell? p := fun p hp => hb.cell (by omega)
      have n1 := (kp ⟨b, off + k * 8, none⟩ hab).trans n0
      have o1 := (kp ⟨b, off + k * 8 + 1, none⟩ hab).trans o0
      obtain ⟨v0, v1, v2, v3, v4, v5, c0, c1, c2, c3, c4, c5, hin⟩ := ht.keep (Nat.le_refl _) kp hab
      have HIN := Lib.hid hin
      obtain ⟨A3, d3, A4, d4, A5, d5, rfl, rfl, rfl, rfl, rfl, rfl⟩ := hin.forms
      clear n0 o0 kp hfi ht hin hb
      cases hp : p l[k] with
      | false =>
        have HP := Lib.hid hp; clear hp
        go_wp2_with fail
        refine (HA.out l[k] _ _ _ _ _ _ wr HB.out HIN.out (HF.out.at_ hlt).name).mono ?_
        rintro e w2 ⟨rfl, hb2⟩
        rw [HP.out]
        have HB2 : Hid (Below w.heap.size w w2) := HB.out.trans (hb2.mono hz)
        clear hb2
        go_wp2_with fail
        go_roundw
        case rel => exact ⟨k + 1, by omega, by go_num, fun j h hj => by
          rcases Nat.lt_or_ge j k with h1 | h1
          · exact HALL.out j h h1
          · obtain rfl : j = k := by omega
            exact HP.out, HB2.out⟩
        case measure => simp [intOf]; omega
      | true =>
        have E := Lib.hid (fieldIdx_at hlt hp fun j hj => HALL.out j (by omega) hj)
        have HP := Lib.hid hp; clear hp
        go_wp2_with fail
        refine (HA.out l[k] _ _ _ _ _ _ wr HB.out HIN.out (HF.out.at_ hlt).name).mono ?_
        rintro e w2 ⟨rfl, hb2⟩
        rw [HP.out]
        have HB2 : Hid (Below w.heap.size w w2) := HB.out.trans (hb2.mono hz)
        clear hb2
        go_wp2_with fail
        go_ret
        exact ⟨ret_int E.out.symm, HB2.out⟩
    · have E := Lib.hid (fieldIdx_none fun j h => HALL.out j h (by omega))
      go_wp2_with fail
      go_ret
      exact ⟨ret_int E.out.symm, HB.out⟩
theorem beq_iff (a b : ByteArray) : (a.toList == b.toList) = decide (a = b) := by
  rw [Bool.eq_iff_iff, beq_iff_eq, decide_eq_true_eq, ByteArray.toList_eq, ByteArray.toList_eq]
  constructor
  · intro h
    cases a; cases b
    simp only at h
    congr 1
    exact Array.toList_inj.1 h
  · intro h; rw [h]
/-- Is it called so? -/
def calledB (s : ByteArray) (f : F) : Bool := decide (f.name = s)
def fieldOf (t : T) (s : ByteArray) : Int := if t.kind = 1 then fieldIdx (calledB s) t.fields else -1
set_option maxHeartbeats 1000000 in
theorem asks_field (s : ByteArray) (c B : Nat) (w0 : World) (hc : c < w0.heap.size) (hs : w0.cell? ⟨c, 0, none⟩ = some (.string s)) : Asks (calledB s) 42 c w0 B := by
  intro f v0 v1 v2 v3 v4 v5 w hb hin hn
  have e1 := (hb.cell (p := ⟨c, 0, none⟩) hc).trans hs
  have hz := hb.size
  obtain ⟨A3, d3, A4, d4, A5, d5, rfl, rfl, rfl, rfl, rfl, rfl⟩ := hin.forms
  have E := Lib.hid (beq_iff f.name s)
  clear hs hb hin
  have hc2 : c < w.heap.size := by omega
  have hc3 : ¬ c = w.heap.size := by omega
  go_enter Tryd.func42, Tryd.ntmps42
  go_wp2_with fail
  go_ret
  exact ⟨ret_bool E.out, (Below.refl _ _).alloc (Nat.le_refl _) _⟩
set_option maxHeartbeats 1000000 in
theorem tfield_any {t : T} {v : Value} {s : ByteArray} {w : World} {B : Nat} (hf : t.Fit) (hB : B ≤ w.heap.size) (ht : TypeV w B t v) :
    Calls Tryd.prog 18 #[v, .string s] w fun e w' => e = .returned (.int .i64 (fieldOf t s)) ∧ Below w.heap.size w w' := by
  obtain ⟨v0, v1, v2, v3, v4, v5, rfl, hin⟩ := ht
  have HFV := Lib.hid hin.fields_
  obtain ⟨A3, d3, A4, d4, A5, d5, rfl, rfl, rfl, rfl, rfl, rfl⟩ := hin.forms
  have hmf : ∀ (fn : Fn) (first cap : Array Value) (w : World), (Instr.makeFunc fn first cap).run Tryd.prog w = .ok (.func fn first cap) w := fun _ _ _ _ => rfl
  have HF := Lib.hid hf
  clear hin hf
  by_cases hk : t.kind = 1
  · have E := Lib.hid (show fieldOf t s = fieldIdx (calledB s) t.fields by unfold fieldOf; rw [if_pos hk])
    have hk2 : (t.kind != 1) = false := by simp [hk]
    clear hk
    go_enter Tryd.func18, Tryd.ntmps18
    go_wp2_with fail
    have hbl : Below w.heap.size w ((w.alloc (.cells #[.int .i64 t.kind, .int .i64 t.lo, .int .i64 t.hi, .slice A3 t.names.length d3, .slice A4 t.fields.length d4, .slice A5 t.of.length d5] 26)).alloc (.cells #[.string s] 9)) := ((Below.refl _ _).alloc (Nat.le_refl _) _).alloc (by simp) _
    have hc1 : ((w.alloc (.cells #[.int .i64 t.kind, .int .i64 t.lo, .int .i64 t.hi, .slice A3 t.names.length d3, .slice A4 t.fields.length d4, .slice A5 t.of.length d5] 26)).alloc (.cells #[.string s] 9)).cell? ⟨w.heap.size + 1, 0, none⟩ = some (.string s) := by go_simp
    have hc2 : w.heap.size + 1 < ((w.alloc (.cells #[.int .i64 t.kind, .int .i64 t.lo, .int .i64 t.hi, .slice A3 t.names.length d3, .slice A4 t.fields.length d4, .slice A5 t.of.length d5] 26)).alloc (.cells #[.string s] 9)).heap.size := by simp
    generalize ((w.alloc (.cells #[.int .i64 t.kind, .int .i64 t.lo, .int .i64 t.hi, .slice A3 t.names.length d3, .slice A4 t.fields.length d4, .slice A5 t.of.length d5] 26)).alloc (.cells #[.string s] 9)) = W2 at hbl hc1 hc2 ⊢
    refine (indexF_any (p := calledB s) (B := B) (enters_of Tryd.func42 (by kernel_rfl) rfl) (asks_field s (w.heap.size + 1) B W2 hc2 hc1) (by have := hbl.size; omega) (HFV.out.keep (Nat.le_refl _) fun p hp => hbl.cell (by omega)) HF.out.parts.2.1 HF.out.parts.2.2.2.2.1).mono ?_
    rintro e w1 ⟨rfl, hb1⟩
    have HB1 : Hid (Below w.heap.size w w1) := hbl.trans (hb1.mono hbl.size)
    clear hb1 hbl hc1
    go_wp2_with fail
    go_ret
    exact ⟨ret_int E.out.symm, HB1.out⟩
  · have E := Lib.hid (show fieldOf t s = -1 by unfold fieldOf; rw [if_neg hk])
    have hk2 : (t.kind != 1) = true := by simp [hk]
    clear hk
    go_enter Tryd.func18, Tryd.ntmps18
    go_wp2_with fail
    go_ret
    exact ⟨ret_int E.out.symm, ((Below.refl _ _).alloc (Nat.le_refl _) _).alloc (by simp) _⟩
end Go.Proofs.YtnjmknofojjlmaaDoor
