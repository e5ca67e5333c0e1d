/-
  The stable sort's merge where one of the two blocks has one element.
  The stable sort's merge where the right block has one element.
  The stable sort's merge of two blocks of more than one element each, and of any.
-/
import Derived.Test.YtdgnengfcabgjaaB21
import Derived.Deep.CutRange
import Derived.Deep.DeepCutAuto
namespace Go.Proofs.Ytdgnengfcabgjaa
open Go.RowKit Go.Lib Go.Sort
variable {α : Type} [Inhabited α] {P : Program} {zz : Nat}

theorem shiftL_step {d dk : Array α} {a k : Nat} (hk : k + 1 < dk.size) (hak : a ≤ k) (he : ∀ x, dk[x]! = if a ≤ x ∧ x < k then d[x + 1]! else if x = k then d[a]! else d[x]!) : ∀ x, (swp dk k (k + 1))[x]! = if a ≤ x ∧ x < k + 1 then d[x + 1]! else if x = k + 1 then d[a]! else d[x]! := fun x => by
  rw [swp_get dk (by omega) hk]
  by_cases c1 : x = k + 1
  · rw [if_pos c1, if_neg (by omega), if_pos c1, he k, if_neg (by omega), if_pos rfl]
  · rw [if_neg c1]
    by_cases c2 : x = k
    · rw [if_pos c2, if_pos (by omega), he (k + 1), if_neg (by omega), if_neg (by omega), c2]
    · rw [if_neg c2, he x]
      by_cases c3 : a ≤ x ∧ x < k
      · rw [if_pos c3, if_pos (by omega)]
      · rw [if_neg c3, if_neg c2, if_neg (by omega), if_neg c1]
theorem shiftR_step {d dk : Array α} {m k : Nat} (hk : k < dk.size) (hk0 : 0 < k) (hkm : k ≤ m) (he : ∀ x, dk[x]! = if x = k then d[m]! else if k < x ∧ x ≤ m then d[x - 1]! else d[x]!) : ∀ x, (swp dk k (k - 1))[x]! = if x = k - 1 then d[m]! else if k - 1 < x ∧ x ≤ m then d[x - 1]! else d[x]! := fun x => by
  rw [swp_get dk hk (by omega)]
  by_cases c1 : x = k - 1
  · rw [if_pos c1, if_pos c1, he k, if_pos rfl]
  · rw [if_neg c1, if_neg c1]
    by_cases c2 : x = k
    · rw [if_pos c2, if_pos (by omega), he (k - 1), if_neg (by omega), if_neg (by omega), c2]
    · rw [if_neg c2, he x, if_neg c2]
      by_cases c3 : k < x ∧ x ≤ m
      · rw [if_pos c3, if_pos (by omega)]
      · rw [if_neg c3, if_neg (by omega)]
/-- What the merge makes. -/
def Merged (T : α → α → Bool) (ENC : α → List Value) (zz : Nat) (w0 : World) (blk off a b : Nat) (d : Array α) (e : Ending) (w' : World) : Prop :=
  e = .returned (.tuple #[]) ∧ ∃ d' : Array α, d'.size = d.size ∧ SWK ENC zz w0 blk off d' w' ∧ PermIn a b d d' ∧ SortedIn T a b d'
theorem bool_of {x : Int} {t : Bool} (h : x < 0 ↔ t = true) : decide (x < 0) = t := by
  cases t
  · simp at h; simp; exact h
  · simp at h; simp; exact h

set_option maxHeartbeats 8000000 in
set_option maxRecDepth 100000 in
theorem symLeft {T : α → α → Bool} (hS : SWO T) {L : α → α → Prop} {cf : α → α → Int} (hcl : ∀ x y, L x y → (cf y x < 0 ↔ T y x = true)) (LF : LfP P zz) (enc : α → List Value) (g : Nat) (cb : Array Value) (blk off cap a b : Nat) (d0 d : Array α) (w0 w : World)
    (eg : ∀ args w, (callFunc g args).run P w = .ok (.enter g args) w) (hcmp : CmpLays P g cb enc zz cf blk off d0.size w0) (R : RowK enc zz w0 blk off d0) (hs : d0.size = d.size) (S : SWK enc zz w0 blk off d w) (hmb : a + 1 < b) (hb : b ≤ d.size) (hsz : d.size < 4611686018427387904) (h2 : Two T L a (a + 1) b d) :
    Calls P 91 #[.slice (some ⟨blk, off, none⟩) d.size cap, .int .i64 a, .int .i64 ((a + 1 : Nat) : Int), .int .i64 b, .func (.func g) #[] cb] w (Merged T enc zz w0 blk off a b d) := by
  have S0 : Aside (SWK enc zz w0 blk off d w) := S
  have HC : Aside _ := hcmp
  have H2 := Lib.hid h2
  have HSW := Lib.hid hS
  have HCL := Lib.hid hcl
  clear S hcmp h2 hS hcl
  obtain ⟨m, hm⟩ : ∃ m, m = a + 1 := ⟨_, rfl⟩
  rw [← hm]
  have w1 : IntKind.i64.wrap ((m : Int) - (a : Int)) = 1 := by rw [IntKind.wrap_i64]; omega
  have HM := Lib.hid hm
  have hma : m ≤ b := by omega
  have ham : a < m := by omega
  clear hm
  have mixed := LF.mixed; have t0 := LF.t0; have a0 := LF.a0; have z0 := LF.z0; have v0 := LF.v0; have t3 := LF.t3; have a3 := LF.a3; have z3 := LF.z3; have v3 := LF.v3; have t4 := LF.t4; have a4 := LF.a4; have z4 := LF.z4; have v4 := LF.v4; have tS := LF.tS; have aS := LF.aS; have zS := LF.zS; have vS := LF.vS; have tF := LF.tF; have aF := LF.aF; have zF := LF.zF; have vF := LF.vF; have tU := LF.tU; have aU := LF.aU; have zU := LF.zU; have vU := LF.vU; have aE := LF.aE; have zE := LF.zE
  have eIns := LF.eIns; have eSwp := LF.eSwp; have eRot := LF.eRot; have eSym := LF.eSym; have eStb := LF.eStb
  go_enter LF.fSym, Try.ntmps91
  go_wp2_with fail
  clear w1
  go_loopg [10, 11] (b - m) (fun g1 vi vj wr => ∃ (i j : Nat), vi = .int .i64 i ∧ vj = .int .i64 j ∧ m ≤ i ∧ i ≤ j ∧ j ≤ b ∧ j - i ≤ g1 ∧ Aside (SWK enc zz w0 blk off d wr) ∧ Hid (i = a + 1 ∨ T d[i - 1]! d[a]! = true) ∧ Hid (j = b ∨ T d[j]! d[a]! = false))
  case atStart => exact ⟨m, b, rfl, rfl, Nat.le_refl _, hma, Nat.le_refl _, Nat.le_refl _, S0, .inl HM.out, .inl rfl⟩
  case round =>
    clear S0
    obtain ⟨i, j, rfl, rfl, hmi, hij, hjb, hg1, S1, HI, HJ⟩ := hrel
    by_cases hlt : i < j
    · have hlt2 : (i : Int) < (j : Int) := by omega
      obtain ⟨h, hh⟩ : ∃ h : Nat, h = (i + j) / 2 := ⟨_, rfl⟩
      have hhi : ((i : Int) + (j : Int)) / 2 = (h : Int) := by omega
      have hb1 : i ≤ h := by omega
      have hb2 : h < j := by omega
      clear hh
      have hb3 : (h : Int) < (d.size : Int) := by omega
      have hb4 : (0 : Int) ≤ (h : Int) := by omega
      have pa : (0 : Int) ≤ (a : Int) := by omega
      have pb : (a : Int) < (d.size : Int) := by omega
      obtain ⟨x, hx⟩ : ∃ x, x = d[h]! := ⟨_, rfl⟩
      obtain ⟨y, hy⟩ : ∃ x, x = d[a]! := ⟨_, rfl⟩
      have la := S1.out.ld R (by omega) P h (by omega)
      have lb := S1.out.ld R (by omega) P a (by omega)
      rw [← hx] at la
      rw [← hy] at lb
      have hc := S1.out.cmp HC.out (by omega) x y
      have hcv : decide (cf x y < 0) = T x y := bool_of (HCL.out y x (by rw [hx, hy]; have := HM.out; exact H2.out.lr a h (Nat.le_refl _) (by omega) (by omega) (by omega)))
      have HX := Lib.hid hx; have HY := Lib.hid hy
      have hw : IntKind.i64.wrap ((i : Int) + (j : Int)) = (i : Int) + (j : Int) := IntWalk.i64_in _ (by omega)
      clear hx hy
      cases ht : T x y with
      | true =>
        rw [ht] at hcv
        have HT := Lib.hid ht; clear ht
        go_wp2_with fail
        go_quiet_grown (first | (go_at_fn g; refine Calls.grown_of (hc _ _)))
        have S2 : Aside (SWK enc zz w0 blk off d (grow (wr.drewN nq) osq)) := S1.out.grown nq osq
        clear la lb hc S1
        generalize grow (wr.drewN nq) osq = w2 at S2 ⊢
        clear nq osq hw
        have q1 : m ≤ h + 1 := by omega
        have q2 : j - (h + 1) ≤ gk - 1 := by omega
        have q3 : j - (h + 1) < gk := by omega
        go_wp2_with fail
        go_roundg (j - (h + 1))
        case measure => exact q3
        case rel => exact ⟨h + 1, j, by go_num, rfl, q1, by omega, hjb, Nat.le_refl _, S2, .inr (by rw [Nat.add_sub_cancel, ← HX.out, ← HY.out]; exact HT.out), HJ⟩
      | false =>
        rw [ht] at hcv
        have HT := Lib.hid ht; clear ht
        go_wp2_with fail
        go_quiet_grown (first | (go_at_fn g; refine Calls.grown_of (hc _ _)))
        have S2 : Aside (SWK enc zz w0 blk off d (grow (wr.drewN nq) osq)) := S1.out.grown nq osq
        clear la lb hc S1
        generalize grow (wr.drewN nq) osq = w2 at S2 ⊢
        clear nq osq hw
        have q3 : h - i < gk := by omega
        go_wp2_with fail
        go_roundg (h - i)
        case measure => exact q3
        case rel => exact ⟨i, h, rfl, rfl, hmi, hb1, by omega, Nat.le_refl _, S2, HI, .inr (by rw [← HX.out, ← HY.out]; exact HT.out)⟩
    · obtain rfl : i = j := by omega
      have hlt2 : ¬ (i : Int) < (i : Int) := by omega
      go_wp2_with fail
      have w2 : IntKind.i64.wrap ((i : Int) - 1) = (i : Int) - 1 := by rw [IntKind.wrap_i64]; omega
      go_loopg [13] (i - 1 - a) (fun g2 vk wr2 => ∃ (k : Nat) (dk : Array α), vk = .int .i64 k ∧ a ≤ k ∧ k + 1 ≤ i ∧ i - 1 - k ≤ g2 ∧ dk.size = d.size ∧ Aside (SWK enc zz w0 blk off dk wr2) ∧ Hid (PermIn a b d dk) ∧ Hid (∀ x, dk[x]! = if a ≤ x ∧ x < k then d[x + 1]! else if x = k then d[a]! else d[x]!))
      case atStart => exact ⟨a, d, rfl, Nat.le_refl _, by clear w2; omega, Nat.le_refl _, rfl, S1, permIn_refl _ _ _, fun x => by
        rw [if_neg (by omega)]
        split
        · rename_i h; rw [h]
        · rfl⟩
      case round =>
        clear S1
        obtain ⟨k, dk, rfl, hak, hki, hg2, hsk, SK, HP, HE⟩ := hrel
        by_cases hlk : k + 1 < i
        · clear w2
          have hlk2 : (k : Int) < (i : Int) - 1 := by omega
          obtain ⟨kN, hkN⟩ : ∃ q, q = k + 1 := ⟨_, rfl⟩
          have ea : ((k : Int) + 1).toNat = kN := by omega
          have pa : (0 : Int) ≤ (k : Int) + 1 := by omega
          have pb : (k : Int) + 1 < (d.size : Int) := by omega
          have pc : (0 : Int) ≤ (k : Int) := by omega
          have pd : (k : Int) < (d.size : Int) := by omega
          have ra : IntKind.i64.wrap ((k : Int) + 1) = (k : Int) + 1 := by rw [IntKind.wrap_i64]; omega
          have w2 : IntKind.i64.wrap ((i : Int) - 1) = (i : Int) - 1 := by clear ra; rw [IntKind.wrap_i64]; omega
          obtain ⟨x, hx⟩ : ∃ x, x = dk[k]! := ⟨_, rfl⟩
          obtain ⟨y, hy⟩ : ∃ x, x = dk[k + 1]! := ⟨_, rfl⟩
          have q0 : k + 1 < dk.size := by clear ra w2; omega
          have q1 : k < dk.size := by clear ra w2; omega
          have q2 : dk.size = d0.size := by clear ra w2; omega
          have q3 : k + 1 < b := by clear ra w2; omega
          have q4 : i - 1 - (k + 1) < gk := by clear ra w2; omega
          have S3 : Aside (SWK enc zz w0 blk off (swp dk k (k + 1)) ((wr.drew.setCells blk (off + k * zz) (enc y)).setCells blk (off + kN * zz) (enc x))) := by rw [hkN, hx, hy]; exact SK.out.swapped R k (k + 1) q1 q0
          have ca := SK.out.ld1 R q2 P k q1
          have cb := SK.out.ld1 R q2 P (k + 1) q0
          have fa := SK.out.st1 R q2 P k q1 y
          have fb := SK.out.st2 R q2 P k (k + 1) q1 q0 y x
          have hlx : (enc x).length = zz := R.hk x
          have hly : (enc y).length = zz := R.hk y
          have HP2 : Hid (PermIn a b d (swp dk k (k + 1))) := permIn_trans _ _ _ _ _ HP.out (swp_permIn _ _ _ _ _ hak (by clear ra w2; omega) (by clear ra w2; omega) q3 (by clear ra w2; omega))
          have HE2 : Hid (∀ x, (swp dk k (k + 1))[x]! = if a ≤ x ∧ x < k + 1 then d[x + 1]! else if x = k + 1 then d[a]! else d[x]!) := shiftL_step q0 hak HE.out
          rw [← hx] at ca
          rw [← hy, ← hkN] at cb
          rw [← hkN] at fb
          obtain ⟨cX, hcX⟩ : ∃ c, c = enc x := ⟨_, rfl⟩
          obtain ⟨cY, hcY⟩ : ∃ c, c = enc y := ⟨_, rfl⟩
          rw [← hcX] at ca fb S3 hlx
          rw [← hcY] at cb fa fb S3 hly
          clear SK HP HE hx hy hkN hcX hcY
          go_wp2_with fail
          go_big_region_o
          all_goals clear ca cb fa fb hlx hly
          generalize ((wr.drew.setCells blk (off + k * zz) cY).setCells blk (off + kN * zz) cX) = w3 at S3 ⊢
          clear ea
          go_wp2_with fail
          go_roundg (i - 1 - (k + 1))
          case measure => exact q4
          case rel => exact ⟨k + 1, _, by go_num, by clear ra w2; omega, hlk, Nat.le_refl _, by rw [size_swp]; exact hsk, S3, HP2, HE2⟩
        · have hlk2 : ¬ (k : Int) < (i : Int) - 1 := by clear w2; omega
          go_wp2_with fail
          have hki2 : i = k + 1 := by clear w2; omega
          have hfin : Merged T enc zz w0 blk off a b d (.returned (.tuple #[])) wr := by
            clear w2
            subst hki2
            refine ⟨rfl, dk, hsk, SK.out, HP.out, left_sorted (i := k + 1) HSW.out (by omega) hjb (by have := H2.out.r; exact this) HI.out HJ.out fun x => ?_⟩
            rw [HE.out x]
            by_cases c1 : a ≤ x ∧ x < k
            · rw [if_pos c1, if_pos (by omega)]
            · rw [if_neg c1]
              by_cases c2 : x = k
              · rw [if_pos c2, if_neg (by omega), if_pos (by omega)]
              · rw [if_neg c2, if_neg (by omega), if_neg (by omega)]
          have HF := Lib.hid hfin
          clear hfin hki2
          go_end0
          exact HF.out
end Go.Proofs.Ytdgnengfcabgjaa
namespace Go.Proofs.Ytdgnengfcabgjaa
open Go.RowKit Go.Lib Go.Sort
variable {α : Type} [Inhabited α] {P : Program} {zz : Nat}

set_option maxHeartbeats 8000000 in
set_option maxRecDepth 100000 in
theorem symRight {T : α → α → Bool} (hS : SWO T) {L : α → α → Prop} {cf : α → α → Int} (hcl : ∀ x y, L x y → (cf y x < 0 ↔ T y x = true)) (LF : LfP P zz) (enc : α → List Value) (g : Nat) (cb : Array Value) (blk off cap a m : Nat) (d0 d : Array α) (w0 w : World)
    (eg : ∀ args w, (callFunc g args).run P w = .ok (.enter g args) w) (hcmp : CmpLays P g cb enc zz cf blk off d0.size w0) (R : RowK enc zz w0 blk off d0) (hs : d0.size = d.size) (S : SWK enc zz w0 blk off d w) (ham : a + 1 < m) (hb : m + 1 ≤ d.size) (hsz : d.size < 4611686018427387904) (h2 : Two T L a m (m + 1) d) :
    Calls P 91 #[.slice (some ⟨blk, off, none⟩) d.size cap, .int .i64 a, .int .i64 m, .int .i64 ((m + 1 : Nat) : Int), .func (.func g) #[] cb] w (Merged T enc zz w0 blk off a (m + 1) d) := by
  have S0 : Aside (SWK enc zz w0 blk off d w) := S
  have HC : Aside _ := hcmp
  have H2 := Lib.hid h2
  have HSW := Lib.hid hS
  have HCL := Lib.hid hcl
  clear S hcmp h2 hS hcl
  obtain ⟨b, hbm⟩ : ∃ b, b = m + 1 := ⟨_, rfl⟩
  rw [← hbm] at hb ⊢
  have ne1 : ((m : Int) - (a : Int) == 1) = false := by simp; omega
  have w1 : IntKind.i64.wrap ((m : Int) - (a : Int)) = (m : Int) - (a : Int) := by rw [IntKind.wrap_i64]; omega
  have w3 : IntKind.i64.wrap ((b : Int) - (m : Int)) = 1 := by clear w1; rw [IntKind.wrap_i64]; omega
  have HM := Lib.hid hbm
  have hms : m < d.size := by clear w1 w3; omega
  have ham' : a ≤ m := by clear w1 w3; omega
  have hmb : m < b := by clear w1 w3; omega
  clear hbm
  have mixed := LF.mixed; have t0 := LF.t0; have a0 := LF.a0; have z0 := LF.z0; have v0 := LF.v0; have t3 := LF.t3; have a3 := LF.a3; have z3 := LF.z3; have v3 := LF.v3; have t4 := LF.t4; have a4 := LF.a4; have z4 := LF.z4; have v4 := LF.v4; have tS := LF.tS; have aS := LF.aS; have zS := LF.zS; have vS := LF.vS; have tF := LF.tF; have aF := LF.aF; have zF := LF.zF; have vF := LF.vF; have tU := LF.tU; have aU := LF.aU; have zU := LF.zU; have vU := LF.vU; have aE := LF.aE; have zE := LF.zE
  have eIns := LF.eIns; have eSwp := LF.eSwp; have eRot := LF.eRot; have eSym := LF.eSym; have eStb := LF.eStb
  go_enter LF.fSym, Try.ntmps91
  go_wp2_with fail
  clear w1 w3 ne1
  go_loopg [14, 15] (m - a) (fun g1 vi vj wr => ∃ (i j : Nat), vi = .int .i64 i ∧ vj = .int .i64 j ∧ a ≤ i ∧ i ≤ j ∧ j ≤ m ∧ j - i ≤ g1 ∧ Aside (SWK enc zz w0 blk off d wr) ∧ Hid (i = a ∨ T d[m]! d[i - 1]! = false) ∧ Hid (j = m ∨ T d[m]! d[j]! = true))
  case atStart => exact ⟨a, m, rfl, rfl, Nat.le_refl _, ham', Nat.le_refl _, Nat.le_refl _, S0, .inl rfl, .inl rfl⟩
  case round =>
    clear S0
    obtain ⟨i, j, rfl, rfl, hmi, hij, hjb, hg1, S1, HI, HJ⟩ := hrel
    by_cases hlt : i < j
    · have hlt2 : (i : Int) < (j : Int) := by omega
      obtain ⟨h, hh⟩ : ∃ h : Nat, h = (i + j) / 2 := ⟨_, rfl⟩
      have hhi : ((i : Int) + (j : Int)) / 2 = (h : Int) := by omega
      have hb1 : i ≤ h := by omega
      have hb2 : h < j := by omega
      clear hh
      have hb3 : (h : Int) < (d.size : Int) := by omega
      have hb4 : (0 : Int) ≤ (h : Int) := by omega
      have pa : (0 : Int) ≤ (m : Int) := by omega
      have pb : (m : Int) < (d.size : Int) := by omega
      obtain ⟨x, hx⟩ : ∃ x, x = d[m]! := ⟨_, rfl⟩
      obtain ⟨y, hy⟩ : ∃ x, x = d[h]! := ⟨_, rfl⟩
      have la := S1.out.ld R (by omega) P m (by omega)
      have lb := S1.out.ld R (by omega) P h (by omega)
      rw [← hx] at la
      rw [← hy] at lb
      have hc := S1.out.cmp HC.out (by omega) x y
      have hcv : decide (cf x y < 0) = T x y := bool_of (HCL.out y x (by rw [hx, hy]; exact H2.out.lr h m (by omega) (by omega) (Nat.le_refl _) (by omega)))
      have HX := Lib.hid hx; have HY := Lib.hid hy
      have hw : IntKind.i64.wrap ((i : Int) + (j : Int)) = (i : Int) + (j : Int) := IntWalk.i64_in _ (by omega)
      clear hx hy
      cases ht : T x y with
      | false =>
        rw [ht] at hcv
        have HT := Lib.hid ht; clear ht
        go_wp2_with fail
        go_quiet_grown (first | (go_at_fn g; refine Calls.grown_of (hc _ _)))
        have S2 : Aside (SWK enc zz w0 blk off d (grow (wr.drewN nq) osq)) := S1.out.grown nq osq
        clear la lb hc S1
        generalize grow (wr.drewN nq) osq = w2 at S2 ⊢
        clear nq osq hw
        have q1 : a ≤ h + 1 := by omega
        have q3 : j - (h + 1) < gk := by omega
        go_wp2_with fail
        go_roundg (j - (h + 1))
        case measure => exact q3
        case rel => exact ⟨h + 1, j, by go_num, rfl, q1, by omega, hjb, Nat.le_refl _, S2, .inr (by rw [Nat.add_sub_cancel, ← HX.out, ← HY.out]; exact HT.out), HJ⟩
      | true =>
        rw [ht] at hcv
        have HT := Lib.hid ht; clear ht
        go_wp2_with fail
        go_quiet_grown (first | (go_at_fn g; refine Calls.grown_of (hc _ _)))
        have S2 : Aside (SWK enc zz w0 blk off d (grow (wr.drewN nq) osq)) := S1.out.grown nq osq
        clear la lb hc S1
        generalize grow (wr.drewN nq) osq = w2 at S2 ⊢
        clear nq osq hw
        have q3 : h - i < gk := by omega
        go_wp2_with fail
        go_roundg (h - i)
        case measure => exact q3
        case rel => exact ⟨i, h, rfl, rfl, hmi, hb1, by omega, Nat.le_refl _, S2, HI, .inr (by rw [← HX.out, ← HY.out]; exact HT.out)⟩
    · obtain rfl : i = j := by omega
      have hlt2 : ¬ (i : Int) < (i : Int) := by omega
      go_wp2_with fail
      go_loopg [17] (m - i) (fun g2 vk wr2 => ∃ (k : Nat) (dk : Array α), vk = .int .i64 k ∧ i ≤ k ∧ k ≤ m ∧ k - i ≤ g2 ∧ dk.size = d.size ∧ Aside (SWK enc zz w0 blk off dk wr2) ∧ Hid (PermIn a b d dk) ∧ Hid (∀ x, dk[x]! = if x = k then d[m]! else if k < x ∧ x ≤ m then d[x - 1]! else d[x]!))
      case atStart => exact ⟨m, d, rfl, hjb, Nat.le_refl _, Nat.le_refl _, rfl, S1, permIn_refl _ _ _, fun x => by
        split
        · rename_i h; rw [h]
        · rw [if_neg (by omega)]⟩
      case round =>
        clear S1
        obtain ⟨k, dk, rfl, hak, hki, hg2, hsk, SK, HP, HE⟩ := hrel
        by_cases hlk : i < k
        · have hlk2 : (i : Int) < (k : Int) := by omega
          obtain ⟨kN, hkN⟩ : ∃ q, q = k - 1 := ⟨_, rfl⟩
          have ea : ((k : Int) - 1).toNat = kN := by omega
          have pa : (0 : Int) ≤ (k : Int) - 1 := by omega
          have pb : (k : Int) - 1 < (d.size : Int) := by omega
          have pc : (0 : Int) ≤ (k : Int) := by omega
          have pd : (k : Int) < (d.size : Int) := by omega
          have ez : (k : Int) - 1 = ((k - 1 : Nat) : Int) := by omega
          have EZ := Lib.hid ez
          clear ez
          obtain ⟨x, hx⟩ : ∃ x, x = dk[k]! := ⟨_, rfl⟩
          obtain ⟨y, hy⟩ : ∃ x, x = dk[k - 1]! := ⟨_, rfl⟩
          have q0 : k - 1 < dk.size := by omega
          have q1 : k < dk.size := by omega
          have q2 : dk.size = d0.size := by omega
          have q4 : k - 1 - i < gk := by omega
          have q5 : i ≤ k - 1 := by omega
          have q6 : k - 1 ≤ m := by omega
          have S3 : Aside (SWK enc zz w0 blk off (swp dk k (k - 1)) ((wr.drew.setCells blk (off + k * zz) (enc y)).setCells blk (off + kN * zz) (enc x))) := by rw [hkN, hx, hy]; exact SK.out.swapped R k (k - 1) q1 q0
          have ca := SK.out.ld1 R q2 P k q1
          have cb := SK.out.ld1 R q2 P (k - 1) q0
          have fa := SK.out.st1 R q2 P k q1 y
          have fb := SK.out.st2 R q2 P k (k - 1) q1 q0 y x
          have hlx : (enc x).length = zz := R.hk x
          have hly : (enc y).length = zz := R.hk y
          have HP2 : Hid (PermIn a b d (swp dk k (k - 1))) := permIn_trans _ _ _ _ _ HP.out (swp_permIn _ _ _ _ _ (by omega) (by omega) (by omega) (by omega) (by omega))
          have HE2 : Hid (∀ x, (swp dk k (k - 1))[x]! = if x = k - 1 then d[m]! else if k - 1 < x ∧ x ≤ m then d[x - 1]! else d[x]!) := shiftR_step q1 (by omega) hki HE.out
          have ra : IntKind.i64.wrap ((k : Int) - 1) = (k : Int) - 1 := by rw [IntKind.wrap_i64]; omega
          rw [← hx] at ca
          rw [← hy, ← hkN] at cb
          rw [← hkN] at fb
          obtain ⟨cX, hcX⟩ : ∃ c, c = enc x := ⟨_, rfl⟩
          obtain ⟨cY, hcY⟩ : ∃ c, c = enc y := ⟨_, rfl⟩
          rw [← hcX] at ca fb S3 hlx
          rw [← hcY] at cb fa fb S3 hly
          clear SK HP HE hx hy hkN hcX hcY
          go_wp2_with fail
          go_big_region_o
          all_goals clear ca cb fa fb hlx hly
          generalize ((wr.drew.setCells blk (off + k * zz) cY).setCells blk (off + kN * zz) cX) = w3 at S3 ⊢
          clear ea
          go_wp2_with fail
          go_roundg (k - 1 - i)
          case measure => exact q4
          case rel => exact ⟨k - 1, _, by rw [EZ.out], q5, q6, Nat.le_refl _, by rw [size_swp]; exact hsk, S3, HP2, HE2⟩
        · have hlk2 : ¬ (i : Int) < (k : Int) := by omega
          go_wp2_with fail
          have hki2 : k = i := by omega
          have hfin : Merged T enc zz w0 blk off a b d (.returned (.tuple #[])) wr := by
            subst hki2
            refine ⟨rfl, dk, hsk, SK.out, HP.out, ?_⟩
            rw [HM.out]
            exact right_sorted (i := k) HSW.out hmi hjb H2.out.l HI.out HJ.out HE.out
          have HF := Lib.hid hfin
          clear hfin hki2
          go_end0
          exact HF.out
end Go.Proofs.Ytdgnengfcabgjaa
namespace Go.Proofs.Ytdgnengfcabgjaa
open Go.RowKit Go.Lib Go.Sort
variable {α : Type} [Inhabited α] {P : Program} {zz : Nat}

set_option maxHeartbeats 16000000 in
set_option maxRecDepth 100000 in
theorem symMany {T : α → α → Bool} (hS : SWO T) {L : α → α → Prop} {cf : α → α → Int} (hcl : ∀ x y, L x y → (cf y x < 0 ↔ T y x = true)) (LF : LfP P zz) (enc : α → List Value) (g : Nat) (cb : Array Value) (blk off cap a m b : Nat) (d0 d : Array α) (w0 w : World)
    (eg : ∀ args w, (callFunc g args).run P w = .ok (.enter g args) w) (hcmp : CmpLays P g cb enc zz cf blk off d0.size w0) (R : RowK enc zz w0 blk off d0) (hs : d0.size = d.size) (S : SWK enc zz w0 blk off d w) (ham : a + 1 < m) (hmb : m + 1 < b) (hb : b ≤ d.size) (hsz : d.size < 4611686018427387904) (h2 : Two T L a m b d)
    (ih : ∀ (a' m' b' : Nat) (d' : Array α) (w' : World), b' - a' < b - a → a' < m' → m' < b' → b' ≤ d.size → d'.size = d.size → SWK enc zz w0 blk off d' w' → Two T L a' m' b' d' →
      Calls P 91 #[.slice (some ⟨blk, off, none⟩) d.size cap, .int .i64 a', .int .i64 m', .int .i64 b', .func (.func g) #[] cb] w' (Merged T enc zz w0 blk off a' b' d')) :
    Calls P 91 #[.slice (some ⟨blk, off, none⟩) d.size cap, .int .i64 a, .int .i64 m, .int .i64 b, .func (.func g) #[] cb] w (Merged T enc zz w0 blk off a b d) := by
  have S0 : Aside (SWK enc zz w0 blk off d w) := S
  have HC : Aside _ := hcmp
  have H2 := Lib.hid h2
  have HSW := Lib.hid hS
  have HCL := Lib.hid hcl
  have IH := Lib.hid ih
  clear S hcmp h2 hS hcl ih
  obtain ⟨mid, hmid⟩ : ∃ mid, mid = (a + b) / 2 := ⟨_, rfl⟩
  have hmi : ((a : Int) + (b : Int)) / 2 = (mid : Int) := by omega
  have gm1 : a < mid := by omega
  have gm2 : mid < b := by omega
  obtain ⟨lo, hlo⟩ : ∃ lo, lo = if mid < m then mid + m - b else a := ⟨_, rfl⟩
  obtain ⟨hi, hhi⟩ : ∃ hi, hi = if mid < m then mid else m := ⟨_, rfl⟩
  have l1 : a ≤ lo := by rw [hlo]; split <;> omega
  have l2 : mid + m ≤ lo + b := by rw [hlo]; split <;> omega
  have l3 : hi ≤ m := by rw [hhi]; split <;> omega
  have l4 : hi ≤ mid := by rw [hhi]; split <;> omega
  have l5 : lo ≤ hi := by rw [hlo, hhi]; split <;> omega
  have l6 : lo = a ∨ lo + b = mid + m := by rw [hlo]; split <;> omega
  have l7 : hi = m ∨ hi = mid := by rw [hhi]; split <;> omega
  have HLO := Lib.hid hlo; have HHI := Lib.hid hhi
  clear hlo hhi hmid
  have ne1 : ((m : Int) - (a : Int) == 1) = false := by simp; omega
  have ne2 : ((b : Int) - (m : Int) == 1) = false := by simp; omega
  have w1 : IntKind.i64.wrap ((m : Int) - (a : Int)) = (m : Int) - (a : Int) := IntWalk.i64_in _ (by omega)
  have W1 := Lib.hid w1; clear w1
  have w2 : IntKind.i64.wrap ((b : Int) - (m : Int)) = (b : Int) - (m : Int) := IntWalk.i64_in _ (by omega)
  have W2 := Lib.hid w2; clear w2
  have w3 : IntKind.i64.wrap ((a : Int) + (b : Int)) = (a : Int) + (b : Int) := IntWalk.i64_in _ (by omega)
  have W3 := Lib.hid w3; clear w3
  have w4 : IntKind.i64.wrap ((mid : Int) + (m : Int)) = (mid : Int) + (m : Int) := IntWalk.i64_in _ (by omega)
  have W4 := Lib.hid w4; clear w4
  have w5 : IntKind.i64.wrap ((mid : Int) + (m : Int) - 1) = (mid : Int) + (m : Int) - 1 := IntWalk.i64_in _ (by omega)
  have W5 := Lib.hid w5; clear w5
  have w6 : IntKind.i64.wrap ((mid : Int) + (m : Int) - (b : Int)) = (mid : Int) + (m : Int) - (b : Int) := IntWalk.i64_in _ (by omega)
  have W6 := Lib.hid w6; clear w6
  have hmid0 : (0 : Int) ≤ (mid : Int) := by omega
  have w1 := W1.out; have w2 := W2.out; have w3 := W3.out; have w4 := W4.out
  have mixed := LF.mixed; have t0 := LF.t0; have a0 := LF.a0; have z0 := LF.z0; have v0 := LF.v0; have t3 := LF.t3; have a3 := LF.a3; have z3 := LF.z3; have v3 := LF.v3; have t4 := LF.t4; have a4 := LF.a4; have z4 := LF.z4; have v4 := LF.v4; have tS := LF.tS; have aS := LF.aS; have zS := LF.zS; have vS := LF.vS; have tF := LF.tF; have aF := LF.aF; have zF := LF.zF; have vF := LF.vF; have tU := LF.tU; have aU := LF.aU; have zU := LF.zU; have vU := LF.vU; have aE := LF.aE; have zE := LF.zE
  have eIns := LF.eIns; have eSwp := LF.eSwp; have eRot := LF.eRot; have eSym := LF.eSym; have eStb := LF.eStb
  go_enter LF.fSym, Try.ntmps91
  go_upto_if 140 with fail
  clear w1 w2 w3 ne1 ne2
  go_cut [20, 21] (fun s20 s21 wx => s20 = .int .i64 (lo : Nat) ∧ s21 = .int .i64 (hi : Nat) ∧ wx = w)
  case first =>
    by_cases hm : mid < m
    · have hmz : decide ((m : Int) > (mid : Int)) = true := by clear w4; simp; omega
      have hmz2 : (mid : Int) < (m : Int) := by clear w4; omega
      have e1 : (lo : Int) = (mid : Int) + (m : Int) - (b : Int) := by clear w4; have := HLO.out; rw [if_pos hm] at this; omega
      have e2 : hi = mid := by have := HHI.out; rwa [if_pos hm] at this
      have E1 := Lib.hid e1; have E2 := Lib.hid e2
      clear e1 e2
      have w6 := W6.out
      go_wp2_with fail
      go_meet
      case rel => exact ⟨by rw [E1.out], by rw [E2.out], rfl⟩
    · have hmz : decide ((m : Int) > (mid : Int)) = false := by clear w4; simp; omega
      have hmz2 : ¬ (mid : Int) < (m : Int) := by clear w4; omega
      have e1 : lo = a := by have := HLO.out; rwa [if_neg hm] at this
      have e2 : hi = m := by have := HHI.out; rwa [if_neg hm] at this
      have E1 := Lib.hid e1; have E2 := Lib.hid e2
      clear e1 e2
      go_wp2_with fail
      go_meet
      case rel => exact ⟨by rw [E1.out], by rw [E2.out], rfl⟩
  case rest =>
    obtain ⟨rfl, rfl, rfl⟩ := hcut
    have w5 := W5.out
    go_wp2_with fail
    clear w5 w4
    go_loopg [20, 21] (hi - lo) (fun g1 vi vj wr => ∃ (s r : Nat), vi = .int .i64 s ∧ vj = .int .i64 r ∧ lo ≤ s ∧ s ≤ r ∧ r ≤ hi ∧ r - s ≤ g1 ∧ Aside (SWK enc zz w0 blk off d wr) ∧ Hid (s = lo ∨ T d[mid + m - s]! d[s - 1]! = false) ∧ Hid (r = hi ∨ T d[mid + m - 1 - r]! d[r]! = true))
    case atStart => exact ⟨lo, hi, rfl, rfl, Nat.le_refl _, l5, Nat.le_refl _, Nat.le_refl _, S0, .inl rfl, .inl rfl⟩
    case round =>
      clear S0
      obtain ⟨s, r, rfl, rfl, h1, hsr, h3, hg1, S1, HI, HJ⟩ := hrel
      by_cases hlt : s < r
      · have hlt2 : (s : Int) < (r : Int) := by omega
        obtain ⟨c, hc⟩ : ∃ c : Nat, c = (s + r) / 2 := ⟨_, rfl⟩
        have hci : ((s : Int) + (r : Int)) / 2 = (c : Int) := by omega
        have hb1 : s ≤ c := by omega
        have hb2 : c < r := by omega
        clear hc
        obtain ⟨pN, hpN⟩ : ∃ pN, pN = mid + m - 1 - c := ⟨_, rfl⟩
        have g1 : m ≤ pN := by omega
        have g2 : pN < b := by omega
        have g3 : a ≤ c := by omega
        have g4 : c < m := by omega
        have pe : (mid : Int) + (m : Int) - 1 - (c : Int) = (pN : Int) := by omega
        have pa : (0 : Int) ≤ (pN : Int) := by omega
        have pb : (pN : Int) < (d.size : Int) := by omega
        have pc : (0 : Int) ≤ (c : Int) := by omega
        have pd : (c : Int) < (d.size : Int) := by omega
        obtain ⟨x, hx⟩ : ∃ x, x = d[pN]! := ⟨_, rfl⟩
        obtain ⟨y, hy⟩ : ∃ x, x = d[c]! := ⟨_, rfl⟩
        have la := S1.out.ld R (by omega) P pN (by omega)
        have lb := S1.out.ld R (by omega) P c (by omega)
        rw [← hx] at la
        rw [← hy] at lb
        have hcm := S1.out.cmp HC.out (by omega) x y
        have hcv : decide (cf x y < 0) = T x y := bool_of (HCL.out y x (by rw [hx, hy]; exact H2.out.lr c pN g3 g4 g1 g2))
        have HX := Lib.hid hx; have HY := Lib.hid hy
        have q1 : lo ≤ c + 1 := by omega
        have q2 : c + 1 ≤ r := by omega
        have q3 : r - (c + 1) < gk := by omega
        have q4 : c - s < gk := by omega
        have q5 : c ≤ hi := by omega
        have q6 : mid + m - (c + 1) = pN := by omega
        have Q6 := Lib.hid q6; have HPN := Lib.hid hpN
        have hw : IntKind.i64.wrap ((s : Int) + (r : Int)) = (s : Int) + (r : Int) := IntWalk.i64_in _ (by omega)
        have HW := Lib.hid hw; clear hw
        have hw2 : IntKind.i64.wrap ((mid : Int) + (m : Int) - 1 - (c : Int)) = (pN : Int) := by rw [pe]; exact IntWalk.i64_in _ (by omega)
        have hw := HW.out
        clear hx hy q6 hpN pe
        cases ht : T x y with
        | false =>
          rw [ht] at hcv
          have HT := Lib.hid ht; clear ht
          go_wp2_with fail
          go_quiet_grown (first | (go_at_fn g; refine Calls.grown_of (hcm _ _)))
          have S2 : Aside (SWK enc zz w0 blk off d (grow (wr.drewN nq) osq)) := S1.out.grown nq osq
          clear la lb hcm S1
          generalize grow (wr.drewN nq) osq = w2 at S2 ⊢
          clear nq osq hw hw2
          go_wp2_with fail
          go_roundg (r - (c + 1))
          case measure => exact q3
          case rel => exact ⟨c + 1, r, by go_num, rfl, q1, q2, h3, Nat.le_refl _, S2, .inr (by rw [Nat.add_sub_cancel, Q6.out, ← HX.out, ← HY.out]; exact HT.out), HJ⟩
        | true =>
          rw [ht] at hcv
          have HT := Lib.hid ht; clear ht
          go_wp2_with fail
          go_quiet_grown (first | (go_at_fn g; refine Calls.grown_of (hcm _ _)))
          have S2 : Aside (SWK enc zz w0 blk off d (grow (wr.drewN nq) osq)) := S1.out.grown nq osq
          clear la lb hcm S1
          generalize grow (wr.drewN nq) osq = w2 at S2 ⊢
          clear nq osq hw hw2
          go_wp2_with fail
          go_roundg (c - s)
          case measure => exact q4
          case rel => exact ⟨s, c, rfl, rfl, h1, hb1, q5, Nat.le_refl _, S2, HI, .inr (by rw [← HPN.out, ← HX.out, ← HY.out]; exact HT.out)⟩
      · obtain rfl : s = r := by omega
        have hlt2 : ¬ (s : Int) < (s : Int) := by omega
        obtain ⟨e, he⟩ : ∃ e, e = mid + m - s := ⟨_, rfl⟩
        have ez : (mid : Int) + (m : Int) - (s : Int) = (e : Int) := by omega
        have k1 : a ≤ s := by omega
        have k2 : s ≤ m := by omega
        have k3 : s ≤ mid := by omega
        have k4 : e ≤ b := by omega
        have k5 : m ≤ e := by omega
        have k6 : mid ≤ e := by omega
        have hcutc : Cut T a m b mid s d := ⟨k1, k2, k3, by omega, by
          rcases HI.out with h | h
          · rcases l6 with h' | h'
            · exact .inl (by omega)
            · exact .inr (.inl (by omega))
          · exact .inr (.inr h), by
          rcases HJ.out with h | h
          · rcases l7 with h' | h'
            · exact .inl (by omega)
            · exact .inr (.inl (by omega))
          · exact .inr (.inr h)⟩
        have HCUT := Lib.hid hcutc
        have HE := Lib.hid he
        have w7 : IntKind.i64.wrap (e : Int) = (e : Int) := IntWalk.i64_in _ (by omega)
        clear hcutc he HI HJ
        obtain ⟨tR, htR⟩ : ∃ t, t = (decide (s < m) && decide (m < e)) := ⟨_, rfl⟩
        obtain ⟨tA, htA⟩ : ∃ t, t = (decide (a < s) && decide (s < mid)) := ⟨_, rfl⟩
        have HTR := Lib.hid htR; have HTA := Lib.hid htA
        clear htR htA
        go_upto_region 39 with fail
        clear w7
        go_cut [24, 185] from 174 (fun s24 sx wx => s24 = .int .i64 (e : Nat) ∧ sx = .bool tR ∧ wx = wr)
        case first =>
          by_cases c1 : s < m
          · have c1z : (s : Int) < (m : Int) := by omega
            by_cases c2 : m < e
            · have c2z : (m : Int) < (e : Int) := by omega
              go_wp2_with fail
              go_meet
              case rel => exact ⟨rfl, by rw [HTR.out, decide_eq_true c1, decide_eq_true c2]; rfl, rfl⟩
            · have c2z : ¬ (m : Int) < (e : Int) := by omega
              go_wp2_with fail
              go_meet
              case rel => exact ⟨rfl, by rw [HTR.out, decide_eq_false c2, Bool.and_false], rfl⟩
          · have c1z : ¬ (s : Int) < (m : Int) := by omega
            go_wp2_with fail
            go_meet
            case rel => exact ⟨rfl, by rw [HTR.out, decide_eq_false c1, Bool.false_and], rfl⟩
        case rest =>
          obtain ⟨rfl, rfl, rfl⟩ := hcut
          go_upto_if 185 with fail
          go_cut [185] from 186 (fun _ wx => ∃ d1 : Array α, d1.size = d.size ∧ Aside (SWK enc zz w0 blk off d1 wx) ∧ Hid (Rotated s m e d d1) ∧ Hid (PermIn a b d d1))
          case first =>
            cases tR with
            | true =>
              have htr := HTR.out
              rw [eq_comm, Bool.and_eq_true, decide_eq_true_eq, decide_eq_true_eq] at htr
              have hcall := rotate_any LF enc (.func (.func g) #[] cb) blk off cap s m e d0 d w0 _ R hs S1.out htr.1 htr.2 (by omega) hsz
              have HCALL := Lib.hid hcall
              clear hcall htr
              go_wp2_with fail
              refine HCALL.out.mono ?_
              rintro e1 w3 ⟨rfl, d1, hs1, S3, hr1, hp1⟩
              have S3' : Aside _ := S3
              have HR1 := Lib.hid hr1; have HP1 := Lib.hid hp1
              clear S3 hr1 hp1 S1
              go_wp2_with fail
              go_meet
              case rel => exact ⟨d1, hs1, S3', HR1, permIn_mono _ _ _ _ _ _ k1 k4 hb HP1.out⟩
            | false =>
              have htr := HTR.out
              rw [eq_comm, Bool.and_eq_false_iff, decide_eq_false_iff_not, decide_eq_false_iff_not] at htr
              have hrot : Rotated s m e d d := by
                rcases htr with h | h
                · have : s = m := by omega
                  rw [this]; exact Rotated.none_left d
                · have : m = e := by omega
                  rw [← this]; exact Rotated.none_right d
              have HR1 := Lib.hid hrot
              clear hrot htr
              go_wp2_with fail
              go_meet
              case rel => exact ⟨d, rfl, S1, HR1, permIn_refl _ _ _⟩
          case rest =>
            obtain ⟨d1, hs1, S3, HR1, HP1⟩ := hcut
            clear S1
            have hrot := HR1.out
            rw [HE.out] at hrot
            have HF1 := Lib.hid (Two.first H2.out HCUT.out hrot)
            have hsec := Two.second H2.out HCUT.out hrot
            rw [← HE.out] at hsec
            have HF2 := Lib.hid hsec
            have HX1 := Lib.hid (Two.cross HSW.out H2.out HCUT.out hrot)
            clear hrot hsec
            go_upto_region 41 with fail
            go_cut [199] from 186 (fun sx wx => sx = .bool tA ∧ wx = wc)
            case first =>
              by_cases c1 : a < s
              · have c1z : (a : Int) < (s : Int) := by omega
                by_cases c2 : s < mid
                · have c2z : (s : Int) < (mid : Int) := by omega
                  go_wp2_with fail
                  go_meet
                  case rel => exact ⟨by rw [HTA.out, decide_eq_true c1, decide_eq_true c2]; rfl, rfl⟩
                · have c2z : ¬ (s : Int) < (mid : Int) := by omega
                  go_wp2_with fail
                  go_meet
                  case rel => exact ⟨by rw [HTA.out, decide_eq_false c2, Bool.and_false], rfl⟩
              · have c1z : ¬ (a : Int) < (s : Int) := by omega
                go_wp2_with fail
                go_meet
                case rel => exact ⟨by rw [HTA.out, decide_eq_false c1, Bool.false_and], rfl⟩
            case rest =>
              rename_i wc1
              obtain ⟨rfl, rfl⟩ := hcut
              go_upto_if 199 with fail
              go_cut [199] from 200 (fun _ wx => ∃ d2 : Array α, d2.size = d.size ∧ Aside (SWK enc zz w0 blk off d2 wx) ∧ Hid (PermIn a mid d1 d2) ∧ Hid (SortedIn T a mid d2))
              case first =>
                cases tA with
                | true =>
                  have htr := HTA.out
                  rw [eq_comm, Bool.and_eq_true, decide_eq_true_eq, decide_eq_true_eq] at htr
                  have hcall := IH.out a s mid d1 _ (by omega) htr.1 htr.2 (by omega) hs1 S3.out HF1.out
                  have HCALL := Lib.hid hcall
                  clear hcall htr
                  go_wp2_with fail
                  refine HCALL.out.mono ?_
                  rintro e1 w3 ⟨rfl, d2, hs2, S4, hp2, hso2⟩
                  have S4' : Aside _ := S4
                  have HS2 := Lib.hid hso2; have HP2 := Lib.hid hp2
                  have hs2' : d2.size = d.size := hs2.trans hs1
                  clear S4 hso2 hp2 S3 hs2
                  go_wp2_with fail
                  go_meet
                  case rel => exact ⟨d2, hs2', S4', HP2, HS2⟩
                | false =>
                  have htr := HTA.out
                  rw [eq_comm, Bool.and_eq_false_iff, decide_eq_false_iff_not, decide_eq_false_iff_not] at htr
                  have hso : SortedIn T a mid d1 := by
                    rcases htr with h | h
                    · have : s = a := by omega
                      have h2 := HF1.out.r
                      rw [this] at h2; exact h2
                    · have : s = mid := by omega
                      have h2 := HF1.out.l
                      rw [this] at h2; exact h2
                  have HS2 := Lib.hid hso
                  clear hso htr
                  go_wp2_with fail
                  go_meet
                  case rel => exact ⟨d1, hs1, S3, permIn_refl _ _ _, HS2⟩
              case rest =>
                obtain ⟨d2, hs2, S4, HP2, HS2⟩ := hcut
                clear S3
                have hkeep : ∀ k, mid ≤ k → d2[k]! = d1[k]! := fun k hk => HP2.out.2.1 k (.inr hk)
                have htwo : Two T L mid e b d2 := HF2.out.keep (fun k h1 _ => hkeep k h1) k6 k4
                have HF3 := Lib.hid htwo
                have HKEEP := Lib.hid hkeep
                have fin : Hid (∀ d3 : Array α, PermIn mid b d2 d3 → SortedIn T mid b d3 → PermIn a b d d3 ∧ SortedIn T a b d3) := fun d3 p3 s3 => by
                  have hd1 : b ≤ d1.size := by omega
                  have hd2 : b ≤ d2.size := by omega
                  exact ⟨permIn_trans _ _ _ _ _ HP1.out (permIn_trans _ _ _ _ _ (permIn_mono _ _ _ _ _ _ (Nat.le_refl _) (by omega) hd1 HP2.out) (permIn_mono _ _ _ _ _ _ (by omega) (Nat.le_refl _) hd2 p3)), halves hd1 (by omega) HX1.out HP2.out HS2.out p3 s3⟩
                clear htwo hkeep
                by_cases c1 : mid < e
                · have c1z : (mid : Int) < (e : Int) := by omega
                  by_cases c2 : e < b
                  · have c2z : (e : Int) < (b : Int) := by omega
                    have hcall := IH.out mid e b d2 wc (by omega) c1 c2 (by omega) hs2 S4.out HF3.out
                    have HCALL := Lib.hid hcall
                    clear hcall
                    go_wp2_with fail
                    refine HCALL.out.mono ?_
                    rintro e1 w3 ⟨rfl, d3, hs3, S5, hp3, hso3⟩
                    have hfin := fin.out d3 hp3 hso3
                    have HF := Lib.hid (show Merged T enc zz w0 blk off a b d (.returned (.tuple #[])) w3 from ⟨rfl, d3, hs3.trans hs2, S5, hfin.1, hfin.2⟩)
                    clear S5 hp3 hso3 hfin S4
                    go_wp2_with fail
                    go_end0
                    exact HF.out
                  · have c2z : ¬ (e : Int) < (b : Int) := by omega
                    have hso : SortedIn T mid b d2 := by
                      have : e = b := by omega
                      have h2 := HF3.out.l
                      rw [this] at h2; exact h2
                    have hfin := fin.out d2 (permIn_refl _ _ _) hso
                    have HF := Lib.hid (show Merged T enc zz w0 blk off a b d (.returned (.tuple #[])) wc from ⟨rfl, d2, hs2, S4.out, hfin.1, hfin.2⟩)
                    clear hso hfin
                    go_wp2_with fail
                    go_end0
                    exact HF.out
                · have c1z : ¬ (mid : Int) < (e : Int) := by omega
                  have hso : SortedIn T mid b d2 := by
                    have : e = mid := by omega
                    have h2 := HF3.out.r
                    rw [this] at h2; exact h2
                  have hfin := fin.out d2 (permIn_refl _ _ _) hso
                  have HF := Lib.hid (show Merged T enc zz w0 blk off a b d (.returned (.tuple #[])) wc from ⟨rfl, d2, hs2, S4.out, hfin.1, hfin.2⟩)
                  clear hso hfin
                  go_wp2_with fail
                  go_end0
                  exact HF.out
/-- The merge of two sorted blocks. -/
theorem symMerge_any {T : α → α → Bool} (hS : SWO T) {L : α → α → Prop} {cf : α → α → Int} (hcl : ∀ x y, L x y → (cf y x < 0 ↔ T y x = true)) (LF : LfP P zz) (enc : α → List Value) (g : Nat) (cb : Array Value) (blk off cap N : Nat) (d0 : Array α) (w0 : World)
    (eg : ∀ args w, (callFunc g args).run P w = .ok (.enter g args) w) (hcmp : CmpLays P g cb enc zz cf blk off d0.size w0) (R : RowK enc zz w0 blk off d0) (hN : d0.size = N) (hsz : N < 4611686018427387904) :
    ∀ (n a m b : Nat) (d : Array α) (w : World), b - a ≤ n → a < m → m < b → b ≤ N → d.size = N → SWK enc zz w0 blk off d w → Two T L a m b d →
    Calls P 91 #[.slice (some ⟨blk, off, none⟩) N cap, .int .i64 a, .int .i64 m, .int .i64 b, .func (.func g) #[] cb] w (Merged T enc zz w0 blk off a b d)
  | 0, a, m, b, d, w, h, h1, h2, _, _, _, _ => by omega
  | n + 1, a, m, b, d, w, h, h1, h2, hb, hd, hw, ht => by
    subst hd
    by_cases c1 : m = a + 1
    · subst c1
      exact symLeft hS hcl LF enc g cb blk off cap a b d0 d w0 w eg hcmp R hN hw h2 hb hsz ht
    · by_cases c2 : b = m + 1
      · subst c2
        exact symRight hS hcl LF enc g cb blk off cap a m d0 d w0 w eg hcmp R hN hw (by omega) hb hsz ht
      · exact symMany hS hcl LF enc g cb blk off cap a m b d0 d w0 w eg hcmp R hN hw (by omega) (by omega) hb hsz ht fun a' m' b' d' w' hl h1' h2' hb' hd' hw' ht' =>
          symMerge_any hS hcl LF enc g cb blk off cap d.size d0 w0 eg hcmp R hN hsz n a' m' b' d' w' (by omega) h1' h2' hb' hd' hw' ht'
end Go.Proofs.Ytdgnengfcabgjaa
