/-
  The stable sort's merge where one of the two blocks has one element.
  The stable sort's merge where the right block has one element.
-/
import Derived.Test.YtdcempejdggkpaaGreatDoorB03
namespace Go.Proofs.YtdcempejdggkpaaGreatDoor
open Go.RowKit Go.Lib Go.Sort
variable {α : Type} [Inhabited α]

theorem shiftL_step {d dk : Array α} {a k : Nat} (hk : k + 1 < dk.size) (hak : a ≤ k) (he : ∀ x, dk[x]! = if a ≤ x ∧ x < k then d[x + 1]! else if x = k then d[a]! else d[x]!) : ∀ x, (swp dk k (k + 1))[x]! = if a ≤ x ∧ x < k + 1 then d[x + 1]! else if x = k + 1 then d[a]! else d[x]! := fun x => by
  rw [swp_get dk (by omega) hk]
  by_cases c1 : x = k + 1
  · rw [if_pos c1, if_neg (by omega), if_pos c1, he k, if_neg (by omega), if_pos rfl]
  · rw [if_neg c1]
    by_cases c2 : x = k
    · rw [if_pos c2, if_pos (by omega), he (k + 1), if_neg (by omega), if_neg (by omega), c2]
    · rw [if_neg c2, he x]
      by_cases c3 : a ≤ x ∧ x < k
      · rw [if_pos c3, if_pos (by omega)]
      · rw [if_neg c3, if_neg c2, if_neg (by omega), if_neg c1]
theorem shiftR_step {d dk : Array α} {m k : Nat} (hk : k < dk.size) (hk0 : 0 < k) (hkm : k ≤ m) (he : ∀ x, dk[x]! = if x = k then d[m]! else if k < x ∧ x ≤ m then d[x - 1]! else d[x]!) : ∀ x, (swp dk k (k - 1))[x]! = if x = k - 1 then d[m]! else if k - 1 < x ∧ x ≤ m then d[x - 1]! else d[x]! := fun x => by
  rw [swp_get dk hk (by omega)]
  by_cases c1 : x = k - 1
  · rw [if_pos c1, if_pos c1, he k, if_pos rfl]
  · rw [if_neg c1, if_neg c1]
    by_cases c2 : x = k
    · rw [if_pos c2, if_pos (by omega), he (k - 1), if_neg (by omega), if_neg (by omega), c2]
    · rw [if_neg c2, he x, if_neg c2]
      by_cases c3 : k < x ∧ x ≤ m
      · rw [if_pos c3, if_pos (by omega)]
      · rw [if_neg c3, if_neg (by omega)]
/-- What the merge makes. -/
def Merged (T : α → α → Bool) (enc : α → Value) (w0 : World) (blk off a b : Nat) (d : Array α) (e : Ending) (w' : World) : Prop :=
  e = .returned (.tuple #[]) ∧ ∃ d' : Array α, d'.size = d.size ∧ SW enc w0 blk off d' w' ∧ PermIn a b d d' ∧ SortedIn T a b d'
theorem bool_of {x : Int} {t : Bool} (h : x < 0 ↔ t = true) : decide (x < 0) = t := by
  cases t
  · simp at h; simp; exact h
  · simp at h; simp; exact h

set_option maxHeartbeats 8000000 in
set_option maxRecDepth 100000 in
theorem symLeft {T : α → α → Bool} (hS : SWO T) {L : α → α → Prop} {cf : α → α → Int} (hcl : ∀ x y, L x y → (cf y x < 0 ↔ T y x = true)) (enc : α → Value) (g : Nat) (cb : Array Value) (blk off cap a b : Nat) (d0 d : Array α) (w0 w : World)
    (eg : ∀ args w, (callFunc g args).run Tryz.prog w = .ok (.enter g args) w) (hcmp : CmpLays1 Tryz.prog g cb enc cf blk off d0.size w0) (R : Row1 enc w0 blk off d0) (hs : d0.size = d.size) (S : SW enc w0 blk off d w) (hmb : a + 1 < b) (hb : b ≤ d.size) (hsz : d.size < 4611686018427387904) (h2 : Two T L a (a + 1) b d) :
    Calls Tryz.prog 69 #[.slice (some ⟨blk, off, none⟩) d.size cap, .int .i64 a, .int .i64 ((a + 1 : Nat) : Int), .int .i64 b, .func (.func g) #[] cb] w (Merged T enc w0 blk off a b d) := by
  have hcl0 := R.hO.cells
  simp only [Value.cells] at hcl0
  have hst := R.hO.store Tryz.prog
  have mixed : Tryz.prog.follows .mixedOrders = true := by kernel_rfl
  have S0 : Aside (SW enc w0 blk off d w) := S
  have HC : Aside _ := hcmp
  have H2 := Lib.hid h2
  have HSW := Lib.hid hS
  have HCL := Lib.hid hcl
  clear S hcmp h2 hS hcl
  obtain ⟨m, hm⟩ : ∃ m, m = a + 1 := ⟨_, rfl⟩
  rw [← hm]
  have w1 : IntKind.i64.wrap ((m : Int) - (a : Int)) = 1 := by rw [IntKind.wrap_i64]; omega
  have HM := Lib.hid hm
  have hma : m ≤ b := by omega
  have ham : a < m := by omega
  clear hm
  go_enter Tryz.func69, Tryz.ntmps69
  go_wp2_with fail
  clear w1
  go_loopg [10, 11] (b - m) (fun g1 vi vj wr => ∃ (i j : Nat), vi = .int .i64 i ∧ vj = .int .i64 j ∧ m ≤ i ∧ i ≤ j ∧ j ≤ b ∧ j - i ≤ g1 ∧ Aside (SW enc w0 blk off d wr) ∧ Hid (i = a + 1 ∨ T d[i - 1]! d[a]! = true) ∧ Hid (j = b ∨ T d[j]! d[a]! = false))
  case atStart => exact ⟨m, b, rfl, rfl, Nat.le_refl _, hma, Nat.le_refl _, Nat.le_refl _, S0, .inl HM.out, .inl rfl⟩
  case round =>
    clear S0
    obtain ⟨i, j, rfl, rfl, hmi, hij, hjb, hg1, S1, HI, HJ⟩ := hrel
    by_cases hlt : i < j
    · have hlt2 : (i : Int) < (j : Int) := by omega
      obtain ⟨h, hh⟩ : ∃ h : Nat, h = (i + j) / 2 := ⟨_, rfl⟩
      have hhi : ((i : Int) + (j : Int)) / 2 = (h : Int) := by omega
      have hb1 : i ≤ h := by omega
      have hb2 : h < j := by omega
      clear hh
      have hb3 : (h : Int) < (d.size : Int) := by omega
      have hb4 : (0 : Int) ≤ (h : Int) := by omega
      have pa : (0 : Int) ≤ (a : Int) := by omega
      have pb : (a : Int) < (d.size : Int) := by omega
      obtain ⟨x, hx⟩ : ∃ x, x = d[h]! := ⟨_, rfl⟩
      obtain ⟨y, hy⟩ : ∃ x, x = d[a]! := ⟨_, rfl⟩
      have la := S1.out.cl R (by omega) h (by omega)
      have lb := S1.out.cl R (by omega) a (by omega)
      rw [← hx] at la
      rw [← hy] at lb
      have hc := S1.out.cmp HC.out (by omega) x y
      have hcv : decide (cf x y < 0) = T x y := bool_of (HCL.out y x (by rw [hx, hy]; have := HM.out; exact H2.out.lr a h (Nat.le_refl _) (by omega) (by omega) (by omega)))
      have HX := Lib.hid hx; have HY := Lib.hid hy
      have hw : IntKind.i64.wrap ((i : Int) + (j : Int)) = (i : Int) + (j : Int) := IntWalk.i64_in _ (by omega)
      clear hx hy
      cases ht : T x y with
      | true =>
        rw [ht] at hcv
        have HT := Lib.hid ht; clear ht
        go_wp2_with fail
        go_quiet_grown (first | (go_at_fn g; refine Calls.grown_of (hc _ _)))
        have S2 : Aside (SW enc w0 blk off d (grow (wr.drewN nq) osq)) := S1.out.grown nq osq
        clear la lb hc S1
        generalize grow (wr.drewN nq) osq = w2 at S2 ⊢
        clear nq osq hw
        have q1 : m ≤ h + 1 := by omega
        have q2 : j - (h + 1) ≤ gk - 1 := by omega
        have q3 : j - (h + 1) < gk := by omega
        go_wp2_with fail
        go_roundg (j - (h + 1))
        case measure => exact q3
        case rel => exact ⟨h + 1, j, by go_num, rfl, q1, by omega, hjb, Nat.le_refl _, S2, .inr (by rw [Nat.add_sub_cancel, ← HX.out, ← HY.out]; exact HT.out), HJ⟩
      | false =>
        rw [ht] at hcv
        have HT := Lib.hid ht; clear ht
        go_wp2_with fail
        go_quiet_grown (first | (go_at_fn g; refine Calls.grown_of (hc _ _)))
        have S2 : Aside (SW enc w0 blk off d (grow (wr.drewN nq) osq)) := S1.out.grown nq osq
        clear la lb hc S1
        generalize grow (wr.drewN nq) osq = w2 at S2 ⊢
        clear nq osq hw
        have q3 : h - i < gk := by omega
        go_wp2_with fail
        go_roundg (h - i)
        case measure => exact q3
        case rel => exact ⟨i, h, rfl, rfl, hmi, hb1, by omega, Nat.le_refl _, S2, HI, .inr (by rw [← HX.out, ← HY.out]; exact HT.out)⟩
    · obtain rfl : i = j := by omega
      have hlt2 : ¬ (i : Int) < (i : Int) := by omega
      go_wp2_with fail
      have w2 : IntKind.i64.wrap ((i : Int) - 1) = (i : Int) - 1 := by rw [IntKind.wrap_i64]; omega
      go_loopg [13] (i - 1 - a) (fun g2 vk wr2 => ∃ (k : Nat) (dk : Array α), vk = .int .i64 k ∧ a ≤ k ∧ k + 1 ≤ i ∧ i - 1 - k ≤ g2 ∧ dk.size = d.size ∧ Aside (SW enc w0 blk off dk wr2) ∧ Hid (PermIn a b d dk) ∧ Hid (∀ x, dk[x]! = if a ≤ x ∧ x < k then d[x + 1]! else if x = k then d[a]! else d[x]!))
      case atStart => exact ⟨a, d, rfl, Nat.le_refl _, by clear w2; omega, Nat.le_refl _, rfl, S1, permIn_refl _ _ _, fun x => by
        rw [if_neg (by omega)]
        split
        · rename_i h; rw [h]
        · rfl⟩
      case round =>
        clear S1
        obtain ⟨k, dk, rfl, hak, hki, hg2, hsk, SK, HP, HE⟩ := hrel
        by_cases hlk : k + 1 < i
        · clear w2
          have hlk2 : (k : Int) < (i : Int) - 1 := by omega
          obtain ⟨kN, hkN⟩ : ∃ q, q = k + 1 := ⟨_, rfl⟩
          have ea : ((k : Int) + 1).toNat = kN := by omega
          have pa : (0 : Int) ≤ (k : Int) + 1 := by omega
          have pb : (k : Int) + 1 < (d.size : Int) := by omega
          have pc : (0 : Int) ≤ (k : Int) := by omega
          have pd : (k : Int) < (d.size : Int) := by omega
          have ra : IntKind.i64.wrap ((k : Int) + 1) = (k : Int) + 1 := by rw [IntKind.wrap_i64]; omega
          have w2 : IntKind.i64.wrap ((i : Int) - 1) = (i : Int) - 1 := by clear ra; rw [IntKind.wrap_i64]; omega
          obtain ⟨x, hx⟩ : ∃ x, x = dk[k]! := ⟨_, rfl⟩
          obtain ⟨y, hy⟩ : ∃ x, x = dk[k + 1]! := ⟨_, rfl⟩
          have q0 : k + 1 < dk.size := by clear ra w2; omega
          have q1 : k < dk.size := by clear ra w2; omega
          have q2 : dk.size = d0.size := by clear ra w2; omega
          have q3 : k + 1 < b := by clear ra w2; omega
          have q4 : i - 1 - (k + 1) < gk := by clear ra w2; omega
          have S3 : Aside (SW enc w0 blk off (swp dk k (k + 1)) ((wr.setCell ⟨blk, off + k, none⟩ (enc y)).setCell ⟨blk, off + kN, none⟩ (enc x)).drew) := by rw [hkN, hx, hy]; exact SK.out.swapped R k (k + 1) q1 q0
          have ca := SK.out.c1 R q2 k q1
          have cb := SK.out.c1 R q2 (k + 1) q0
          have fa := SK.out.f1 R q2 k q1
          have fb := SK.out.f1 R q2 (k + 1) q0
          obtain ⟨u, cc⟩ := SK.out.c2 R q2 k (k + 1) q1 q0 (enc y)
          have HP2 : Hid (PermIn a b d (swp dk k (k + 1))) := permIn_trans _ _ _ _ _ HP.out (swp_permIn _ _ _ _ _ hak (by clear ra w2; omega) (by clear ra w2; omega) q3 (by clear ra w2; omega))
          have HE2 : Hid (∀ x, (swp dk k (k + 1))[x]! = if a ≤ x ∧ x < k + 1 then d[x + 1]! else if x = k + 1 then d[a]! else d[x]!) := shiftL_step q0 hak HE.out
          rw [← hkN] at cc
          rw [← hx] at ca
          rw [← hy, ← hkN] at cb
          rw [← hkN] at fb
          clear SK HP HE hx hy hkN
          go_wp2_with fail
          go_big_region_o
          clear ca cb cc fa fb
          generalize ((wr.setCell ⟨blk, off + k, none⟩ (enc y)).setCell ⟨blk, off + kN, none⟩ (enc x)).drew = w3 at S3 ⊢
          clear ea
          go_wp2_with fail
          go_roundg (i - 1 - (k + 1))
          case measure => exact q4
          case rel => exact ⟨k + 1, _, by go_num, by clear ra w2; omega, hlk, Nat.le_refl _, by rw [size_swp]; exact hsk, S3, HP2, HE2⟩
        · have hlk2 : ¬ (k : Int) < (i : Int) - 1 := by clear w2; omega
          go_wp2_with fail
          have hki2 : i = k + 1 := by clear w2; omega
          have hfin : Merged T enc w0 blk off a b d (.returned (.tuple #[])) wr := by
            clear w2
            subst hki2
            refine ⟨rfl, dk, hsk, SK.out, HP.out, left_sorted (i := k + 1) HSW.out (by omega) hjb (by have := H2.out.r; exact this) HI.out HJ.out fun x => ?_⟩
            rw [HE.out x]
            by_cases c1 : a ≤ x ∧ x < k
            · rw [if_pos c1, if_pos (by omega)]
            · rw [if_neg c1]
              by_cases c2 : x = k
              · rw [if_pos c2, if_neg (by omega), if_pos (by omega)]
              · rw [if_neg c2, if_neg (by omega), if_neg (by omega)]
          have HF := Lib.hid hfin
          clear hfin hki2
          go_end0
          exact HF.out
end Go.Proofs.YtdcempejdggkpaaGreatDoor
namespace Go.Proofs.YtdcempejdggkpaaGreatDoor
open Go.RowKit Go.Lib Go.Sort
variable {α : Type} [Inhabited α]

set_option maxHeartbeats 8000000 in
set_option maxRecDepth 100000 in
theorem symRight {T : α → α → Bool} (hS : SWO T) {L : α → α → Prop} {cf : α → α → Int} (hcl : ∀ x y, L x y → (cf y x < 0 ↔ T y x = true)) (enc : α → Value) (g : Nat) (cb : Array Value) (blk off cap a m : Nat) (d0 d : Array α) (w0 w : World)
    (eg : ∀ args w, (callFunc g args).run Tryz.prog w = .ok (.enter g args) w) (hcmp : CmpLays1 Tryz.prog g cb enc cf blk off d0.size w0) (R : Row1 enc w0 blk off d0) (hs : d0.size = d.size) (S : SW enc w0 blk off d w) (ham : a + 1 < m) (hb : m + 1 ≤ d.size) (hsz : d.size < 4611686018427387904) (h2 : Two T L a m (m + 1) d) :
    Calls Tryz.prog 69 #[.slice (some ⟨blk, off, none⟩) d.size cap, .int .i64 a, .int .i64 m, .int .i64 ((m + 1 : Nat) : Int), .func (.func g) #[] cb] w (Merged T enc w0 blk off a (m + 1) d) := by
  have hcl0 := R.hO.cells
  simp only [Value.cells] at hcl0
  have hst := R.hO.store Tryz.prog
  have mixed : Tryz.prog.follows .mixedOrders = true := by kernel_rfl
  have S0 : Aside (SW enc w0 blk off d w) := S
  have HC : Aside _ := hcmp
  have H2 := Lib.hid h2
  have HSW := Lib.hid hS
  have HCL := Lib.hid hcl
  clear S hcmp h2 hS hcl
  obtain ⟨b, hbm⟩ : ∃ b, b = m + 1 := ⟨_, rfl⟩
  rw [← hbm] at hb ⊢
  have ne1 : ((m : Int) - (a : Int) == 1) = false := by simp; omega
  have w1 : IntKind.i64.wrap ((m : Int) - (a : Int)) = (m : Int) - (a : Int) := by rw [IntKind.wrap_i64]; omega
  have w3 : IntKind.i64.wrap ((b : Int) - (m : Int)) = 1 := by clear w1; rw [IntKind.wrap_i64]; omega
  have HM := Lib.hid hbm
  have hms : m < d.size := by clear w1 w3; omega
  have ham' : a ≤ m := by clear w1 w3; omega
  have hmb : m < b := by clear w1 w3; omega
  clear hbm
  go_enter Tryz.func69, Tryz.ntmps69
  go_wp2_with fail
  clear w1 w3 ne1
  go_loopg [14, 15] (m - a) (fun g1 vi vj wr => ∃ (i j : Nat), vi = .int .i64 i ∧ vj = .int .i64 j ∧ a ≤ i ∧ i ≤ j ∧ j ≤ m ∧ j - i ≤ g1 ∧ Aside (SW enc w0 blk off d wr) ∧ Hid (i = a ∨ T d[m]! d[i - 1]! = false) ∧ Hid (j = m ∨ T d[m]! d[j]! = true))
  case atStart => exact ⟨a, m, rfl, rfl, Nat.le_refl _, ham', Nat.le_refl _, Nat.le_refl _, S0, .inl rfl, .inl rfl⟩
  case round =>
    clear S0
    obtain ⟨i, j, rfl, rfl, hmi, hij, hjb, hg1, S1, HI, HJ⟩ := hrel
    by_cases hlt : i < j
    · have hlt2 : (i : Int) < (j : Int) := by omega
      obtain ⟨h, hh⟩ : ∃ h : Nat, h = (i + j) / 2 := ⟨_, rfl⟩
      have hhi : ((i : Int) + (j : Int)) / 2 = (h : Int) := by omega
      have hb1 : i ≤ h := by omega
      have hb2 : h < j := by omega
      clear hh
      have hb3 : (h : Int) < (d.size : Int) := by omega
      have hb4 : (0 : Int) ≤ (h : Int) := by omega
      have pa : (0 : Int) ≤ (m : Int) := by omega
      have pb : (m : Int) < (d.size : Int) := by omega
      obtain ⟨x, hx⟩ : ∃ x, x = d[m]! := ⟨_, rfl⟩
      obtain ⟨y, hy⟩ : ∃ x, x = d[h]! := ⟨_, rfl⟩
      have la := S1.out.cl R (by omega) m (by omega)
      have lb := S1.out.cl R (by omega) h (by omega)
      rw [← hx] at la
      rw [← hy] at lb
      have hc := S1.out.cmp HC.out (by omega) x y
      have hcv : decide (cf x y < 0) = T x y := bool_of (HCL.out y x (by rw [hx, hy]; exact H2.out.lr h m (by omega) (by omega) (Nat.le_refl _) (by omega)))
      have HX := Lib.hid hx; have HY := Lib.hid hy
      have hw : IntKind.i64.wrap ((i : Int) + (j : Int)) = (i : Int) + (j : Int) := IntWalk.i64_in _ (by omega)
      clear hx hy
      cases ht : T x y with
      | false =>
        rw [ht] at hcv
        have HT := Lib.hid ht; clear ht
        go_wp2_with fail
        go_quiet_grown (first | (go_at_fn g; refine Calls.grown_of (hc _ _)))
        have S2 : Aside (SW enc w0 blk off d (grow (wr.drewN nq) osq)) := S1.out.grown nq osq
        clear la lb hc S1
        generalize grow (wr.drewN nq) osq = w2 at S2 ⊢
        clear nq osq hw
        have q1 : a ≤ h + 1 := by omega
        have q3 : j - (h + 1) < gk := by omega
        go_wp2_with fail
        go_roundg (j - (h + 1))
        case measure => exact q3
        case rel => exact ⟨h + 1, j, by go_num, rfl, q1, by omega, hjb, Nat.le_refl _, S2, .inr (by rw [Nat.add_sub_cancel, ← HX.out, ← HY.out]; exact HT.out), HJ⟩
      | true =>
        rw [ht] at hcv
        have HT := Lib.hid ht; clear ht
        go_wp2_with fail
        go_quiet_grown (first | (go_at_fn g; refine Calls.grown_of (hc _ _)))
        have S2 : Aside (SW enc w0 blk off d (grow (wr.drewN nq) osq)) := S1.out.grown nq osq
        clear la lb hc S1
        generalize grow (wr.drewN nq) osq = w2 at S2 ⊢
        clear nq osq hw
        have q3 : h - i < gk := by omega
        go_wp2_with fail
        go_roundg (h - i)
        case measure => exact q3
        case rel => exact ⟨i, h, rfl, rfl, hmi, hb1, by omega, Nat.le_refl _, S2, HI, .inr (by rw [← HX.out, ← HY.out]; exact HT.out)⟩
    · obtain rfl : i = j := by omega
      have hlt2 : ¬ (i : Int) < (i : Int) := by omega
      go_wp2_with fail
      go_loopg [17] (m - i) (fun g2 vk wr2 => ∃ (k : Nat) (dk : Array α), vk = .int .i64 k ∧ i ≤ k ∧ k ≤ m ∧ k - i ≤ g2 ∧ dk.size = d.size ∧ Aside (SW enc w0 blk off dk wr2) ∧ Hid (PermIn a b d dk) ∧ Hid (∀ x, dk[x]! = if x = k then d[m]! else if k < x ∧ x ≤ m then d[x - 1]! else d[x]!))
      case atStart => exact ⟨m, d, rfl, hjb, Nat.le_refl _, Nat.le_refl _, rfl, S1, permIn_refl _ _ _, fun x => by
        split
        · rename_i h; rw [h]
        · rw [if_neg (by omega)]⟩
      case round =>
        clear S1
        obtain ⟨k, dk, rfl, hak, hki, hg2, hsk, SK, HP, HE⟩ := hrel
        by_cases hlk : i < k
        · have hlk2 : (i : Int) < (k : Int) := by omega
          obtain ⟨kN, hkN⟩ : ∃ q, q = k - 1 := ⟨_, rfl⟩
          have ea : ((k : Int) - 1).toNat = kN := by omega
          have pa : (0 : Int) ≤ (k : Int) - 1 := by omega
          have pb : (k : Int) - 1 < (d.size : Int) := by omega
          have pc : (0 : Int) ≤ (k : Int) := by omega
          have pd : (k : Int) < (d.size : Int) := by omega
          have ez : (k : Int) - 1 = ((k - 1 : Nat) : Int) := by omega
          have EZ := Lib.hid ez
          clear ez
          obtain ⟨x, hx⟩ : ∃ x, x = dk[k]! := ⟨_, rfl⟩
          obtain ⟨y, hy⟩ : ∃ x, x = dk[k - 1]! := ⟨_, rfl⟩
          have q0 : k - 1 < dk.size := by omega
          have q1 : k < dk.size := by omega
          have q2 : dk.size = d0.size := by omega
          have q4 : k - 1 - i < gk := by omega
          have q5 : i ≤ k - 1 := by omega
          have q6 : k - 1 ≤ m := by omega
          have S3 : Aside (SW enc w0 blk off (swp dk k (k - 1)) ((wr.setCell ⟨blk, off + k, none⟩ (enc y)).setCell ⟨blk, off + kN, none⟩ (enc x)).drew) := by rw [hkN, hx, hy]; exact SK.out.swapped R k (k - 1) q1 q0
          have ca := SK.out.c1 R q2 k q1
          have cb := SK.out.c1 R q2 (k - 1) q0
          have fa := SK.out.f1 R q2 k q1
          have fb := SK.out.f1 R q2 (k - 1) q0
          obtain ⟨u, cc⟩ := SK.out.c2 R q2 k (k - 1) q1 q0 (enc y)
          have HP2 : Hid (PermIn a b d (swp dk k (k - 1))) := permIn_trans _ _ _ _ _ HP.out (swp_permIn _ _ _ _ _ (by omega) (by omega) (by omega) (by omega) (by omega))
          have HE2 : Hid (∀ x, (swp dk k (k - 1))[x]! = if x = k - 1 then d[m]! else if k - 1 < x ∧ x ≤ m then d[x - 1]! else d[x]!) := shiftR_step q1 (by omega) hki HE.out
          have ra : IntKind.i64.wrap ((k : Int) - 1) = (k : Int) - 1 := by rw [IntKind.wrap_i64]; omega
          rw [← hkN] at cc
          rw [← hx] at ca
          rw [← hy, ← hkN] at cb
          rw [← hkN] at fb
          clear SK HP HE hx hy hkN
          go_wp2_with fail
          go_big_region_o
          clear ca cb cc fa fb
          generalize ((wr.setCell ⟨blk, off + k, none⟩ (enc y)).setCell ⟨blk, off + kN, none⟩ (enc x)).drew = w3 at S3 ⊢
          clear ea
          go_wp2_with fail
          go_roundg (k - 1 - i)
          case measure => exact q4
          case rel => exact ⟨k - 1, _, by rw [EZ.out], q5, q6, Nat.le_refl _, by rw [size_swp]; exact hsk, S3, HP2, HE2⟩
        · have hlk2 : ¬ (i : Int) < (k : Int) := by omega
          go_wp2_with fail
          have hki2 : k = i := by omega
          have hfin : Merged T enc w0 blk off a b d (.returned (.tuple #[])) wr := by
            subst hki2
            refine ⟨rfl, dk, hsk, SK.out, HP.out, ?_⟩
            rw [HM.out]
            exact right_sorted (i := k) HSW.out hmi hjb H2.out.l HI.out HJ.out HE.out
          have HF := Lib.hid hfin
          clear hfin hki2
          go_end0
          exact HF.out
end Go.Proofs.YtdcempejdggkpaaGreatDoor
