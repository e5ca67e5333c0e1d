/-
  The stable sort's two exchanges, at leaves: swapRangeCmpFunc, rotateCmpFunc.
  The stable sort's rotation of two blocks.
-/
import Derived.Test.YtdgnengfcabgjaaB06
import Derived.Test.YtdgnengfcabgjaaB19
import Derived.Lib.Hide
import Derived.Deep.LoopGhost
import Derived.IntWalk
namespace Go.Proofs.Ytdgnengfcabgjaa
open Go.RowKit Go.Lib Go.Sort
variable {α : Type} [Inhabited α] {P : Program} {zz : Nat}

theorem wrap_of {x : Int} {n : Nat} (h : x = n) (hn : n < 9223372036854775808) : IntKind.i64.wrap x = (n : Int) := by subst h; rw [IntKind.wrap_i64]; omega
set_option maxHeartbeats 8000000 in
set_option maxRecDepth 100000 in
theorem swapRange_any (LF : LfP P zz) (enc : α → List Value) (fv : Value) (blk off cap a b n : Nat) (d0 d : Array α) (w0 w : World) (R : RowK enc zz w0 blk off d0) (hs : d0.size = d.size) (S : SWK enc zz w0 blk off d w) (hab : a + n ≤ b) (hb : b + n ≤ d.size) (hsz : d.size < 4611686018427387904) :
    Calls P 100 #[.slice (some ⟨blk, off, none⟩) d.size cap, .int .i64 a, .int .i64 b, .int .i64 n, fv] w fun e w' => e = .returned (.tuple #[]) ∧ ∃ d' : Array α, d'.size = d.size ∧ SWK enc zz w0 blk off d' w' ∧ Crossed a b n d d' ∧ ∀ lo hi, lo ≤ a → b + n ≤ hi → hi ≤ d.size → PermIn lo hi d d' := by
  have S0 : Aside (SWK enc zz w0 blk off d w) := S
  clear S
  have mixed := LF.mixed; have t0 := LF.t0; have a0 := LF.a0; have z0 := LF.z0; have v0 := LF.v0; have t3 := LF.t3; have a3 := LF.a3; have z3 := LF.z3; have v3 := LF.v3; have t4 := LF.t4; have a4 := LF.a4; have z4 := LF.z4; have v4 := LF.v4; have tS := LF.tS; have aS := LF.aS; have zS := LF.zS; have vS := LF.vS; have tF := LF.tF; have aF := LF.aF; have zF := LF.zF; have vF := LF.vF; have tU := LF.tU; have aU := LF.aU; have zU := LF.zU; have vU := LF.vU; have aE := LF.aE; have zE := LF.zE
  have eIns := LF.eIns; have eSwp := LF.eSwp; have eRot := LF.eRot; have eSym := LF.eSym; have eStb := LF.eStb
  go_enter LF.fSwp, Try.ntmps100
  go_wp2_with fail
  go_loopg [10] n (fun g1 vi wr => ∃ (i : Nat) (dk : Array α), vi = .int .i64 i ∧ i ≤ n ∧ n - i ≤ g1 ∧ dk.size = d.size ∧ Aside (SWK enc zz w0 blk off dk wr) ∧ Hid (Crossed a b i d dk) ∧ Hid (∀ lo hi, lo ≤ a → b + n ≤ hi → hi ≤ d.size → PermIn lo hi d dk))
  case atStart => exact ⟨0, d, by go_num, by omega, by omega, rfl, S0, Crossed.zero a b d, fun _ _ _ _ _ => permIn_refl _ _ _⟩
  case round =>
    clear S0
    obtain ⟨i, dk, rfl, hin, hg1, hsk, S1, HC, HP⟩ := hrel
    by_cases hlt : i < n
    · have hltz : (i : Int) < (n : Int) := by omega
      obtain ⟨iN, hiN⟩ : ∃ q, q = a + i := ⟨_, rfl⟩
      obtain ⟨jN, hjN⟩ : ∃ q, q = b + i := ⟨_, rfl⟩
      have ea : ((a : Int) + (i : Int)).toNat = iN := by omega
      have eb : ((b : Int) + (i : Int)).toNat = jN := by omega
      have pa : (0 : Int) ≤ (a : Int) + (i : Int) := by omega
      have pb : (0 : Int) ≤ (b : Int) + (i : Int) := by omega
      have qa : (a : Int) + (i : Int) < (d.size : Int) := by omega
      have qb : (b : Int) + (i : Int) < (d.size : Int) := by omega
      have ra : IntKind.i64.wrap ((a : Int) + (i : Int)) = (a : Int) + (i : Int) := by rw [IntKind.wrap_i64]; omega
      have rb : IntKind.i64.wrap ((b : Int) + (i : Int)) = (b : Int) + (i : Int) := by rw [IntKind.wrap_i64]; omega
      obtain ⟨x, hx⟩ : ∃ x, x = dk[a + i]! := ⟨_, rfl⟩
      obtain ⟨y, hy⟩ : ∃ x, x = dk[b + i]! := ⟨_, rfl⟩
      have S3 : Aside (SWK enc zz w0 blk off (swp dk (a + i) (b + i)) ((wr.drew.setCells blk (off + iN * zz) (enc y)).setCells blk (off + jN * zz) (enc x))) := by rw [hiN, hjN, hx, hy]; exact S1.out.swapped R (a + i) (b + i) (by omega) (by omega)
      have ca := S1.out.ld1 R (by omega) P (a + i) (by omega)
      have cb := S1.out.ld1 R (by omega) P (b + i) (by omega)
      have fa := S1.out.st1 R (by omega) P (a + i) (by omega) y
      have fb := S1.out.st2 R (by omega) P (a + i) (b + i) (by omega) (by omega) y x
      have hlx : (enc x).length = zz := R.hk x
      have hly : (enc y).length = zz := R.hk y
      have HC2 : Hid (Crossed a b (i + 1) d (swp dk (a + i) (b + i))) := HC.out.step (n := n) hab hlt hsk hb
      have HP2 : Hid (∀ lo hi, lo ≤ a → b + n ≤ hi → hi ≤ d.size → PermIn lo hi d (swp dk (a + i) (b + i))) := fun lo hi h1 h2 h3 => permIn_trans _ _ _ _ _ (HP.out lo hi h1 h2 h3) (swp_permIn _ _ _ _ _ (by omega) (by omega) (by omega) (by omega) (by omega))
      rw [← hx, ← hiN] at ca
      rw [← hy, ← hjN] at cb
      rw [← hiN] at fa
      rw [← hjN, ← hiN] at fb
      obtain ⟨cX, hcX⟩ : ∃ c, c = enc x := ⟨_, rfl⟩
      obtain ⟨cY, hcY⟩ : ∃ c, c = enc y := ⟨_, rfl⟩
      rw [← hcX] at ca fb S3 hlx
      rw [← hcY] at cb fa fb S3 hly
      clear S1 HC HP hx hy hiN hjN hcX hcY
      go_wp2_with fail
      go_big_region_o
      all_goals clear ca cb fa fb hlx hly
      generalize ((wr.drew.setCells blk (off + iN * zz) cY).setCells blk (off + jN * zz) cX) = w3 at S3 ⊢
      clear ea eb
      go_wp2_with fail
      go_roundg (n - (i + 1))
      case measure => omega
      case rel => exact ⟨i + 1, _, by go_num, by omega, by omega, by rw [size_swp]; exact hsk, S3, HC2, HP2⟩
    · have hltz : ¬ (i : Int) < (n : Int) := by omega
      obtain rfl : i = n := by omega
      go_wp2_with fail
      go_end0
      exact ⟨rfl, dk, hsk, S1.out, HC.out, HP.out⟩
end Go.Proofs.Ytdgnengfcabgjaa
namespace Go.Proofs.Ytdgnengfcabgjaa
open Go.RowKit Go.Lib Go.Sort
variable {α : Type} [Inhabited α] {P : Program} {zz : Nat}

set_option maxHeartbeats 8000000 in
set_option maxRecDepth 100000 in
theorem rotate_any (LF : LfP P zz) (enc : α → List Value) (fv : Value) (blk off cap a m b : Nat) (d0 d : Array α) (w0 w : World) (R : RowK enc zz w0 blk off d0) (hs : d0.size = d.size) (S : SWK enc zz w0 blk off d w) (ham : a < m) (hmb : m < b) (hb : b ≤ d.size) (hsz : d.size < 4611686018427387904) :
    Calls P 97 #[.slice (some ⟨blk, off, none⟩) d.size cap, .int .i64 a, .int .i64 m, .int .i64 b, fv] w fun e w' => e = .returned (.tuple #[]) ∧ ∃ d' : Array α, d'.size = d.size ∧ SWK enc zz w0 blk off d' w' ∧ Rotated a m b d d' ∧ PermIn a b d d' := by
  have S0 : Aside (SWK enc zz w0 blk off d w) := S
  clear S
  have w1 : IntKind.i64.wrap ((m : Int) - (a : Int)) = ((m - a : Nat) : Int) := by rw [IntKind.wrap_i64]; omega
  have w2 : IntKind.i64.wrap ((b : Int) - (m : Int)) = ((b - m : Nat) : Int) := by rw [IntKind.wrap_i64]; omega
  have mixed := LF.mixed; have t0 := LF.t0; have a0 := LF.a0; have z0 := LF.z0; have v0 := LF.v0; have t3 := LF.t3; have a3 := LF.a3; have z3 := LF.z3; have v3 := LF.v3; have t4 := LF.t4; have a4 := LF.a4; have z4 := LF.z4; have v4 := LF.v4; have tS := LF.tS; have aS := LF.aS; have zS := LF.zS; have vS := LF.vS; have tF := LF.tF; have aF := LF.aF; have zF := LF.zF; have vF := LF.vF; have tU := LF.tU; have aU := LF.aU; have zU := LF.zU; have vU := LF.vU; have aE := LF.aE; have zE := LF.zE
  have eIns := LF.eIns; have eSwp := LF.eSwp; have eRot := LF.eRot; have eSym := LF.eSym; have eStb := LF.eStb
  go_enter LF.fRot, Try.ntmps97
  go_wp2_with fail
  go_loopg [10, 11] (m - a + (b - m)) (fun g1 vi vj wr => ∃ (i j : Nat) (dk : Array α), vi = .int .i64 i ∧ vj = .int .i64 j ∧ 0 < i ∧ 0 < j ∧ a + i ≤ m ∧ m + j ≤ b ∧ i + j ≤ g1 ∧ dk.size = d.size ∧ Aside (SWK enc zz w0 blk off dk wr) ∧ Hid (∀ d', Rotated (m - i) m (m + j) dk d' → Rotated a m b d d') ∧ Hid (PermIn a b d dk))
  case atStart => exact ⟨m - a, b - m, d, by first | rfl | go_num | (congr 1; omega), by first | rfl | go_num | (congr 1; omega), by omega, by omega, by omega, by omega, by omega, rfl, S0, fun d' h => by rwa [show m - (m - a) = a by omega, show m + (b - m) = b by omega] at h, permIn_refl _ _ _⟩
  case round =>
    clear S0
    obtain ⟨i, j, dk, rfl, rfl, hi0, hj0, hai, hjb, hg1, hsk, S1, HR, HP⟩ := hrel
    clear w1 w2
    have him : i ≤ m := by omega
    have q1 : a ≤ m - i := by omega
    have hds : d0.size = dk.size := by omega
    have z1 : (m : Int) - (i : Int) = ((m - i : Nat) : Int) := by omega
    have y1 : m - i < 9223372036854775808 := by omega
    rcases Nat.lt_trichotomy i j with hc | hc | hc
    · have c1 : ((i : Int) != (j : Int)) = true := by simp; omega
      have c2 : decide ((i : Int) > (j : Int)) = false := by simp; omega
      have z2 : IntKind.i64.wrap ((m : Int) + (j : Int)) = (m : Int) + (j : Int) := by rw [IntKind.wrap_i64]; omega
      have z3 : (m : Int) + (j : Int) - (i : Int) = ((m + j - i : Nat) : Int) := by clear z2; omega
      have Z2 := Lib.hid z2
      clear z2
      have y3 : m + j - i < 9223372036854775808 := by omega
      have z4 : (j : Int) - (i : Int) = ((j - i : Nat) : Int) := by omega
      have y4 : j - i < 9223372036854775808 := by omega
      have hcall := swapRange_any LF enc fv blk off cap (m - i) (m + j - i) i d0 dk w0 wr R hds S1.out (by omega) (by omega) (by omega)
      rw [hsk] at hcall
      have q2 : m + j - i + i ≤ b := by omega
      have hij0 : 0 < j - i := by omega
      have q4 : m + (j - i) ≤ b := by omega
      have q6 : i + (j - i) < gk := by omega
      have e1 := wrap_of z1 y1
      have e2 := Z2.out
      have e3 := wrap_of z3 y3
      have e4 := wrap_of z4 y4
      clear z1 z3 z4 y1 y3 y4
      have HCALL := Lib.hid hcall
      clear hcall
      go_wp2_with fail
      refine HCALL.out.mono ?_
      rintro e w3 ⟨rfl, d3, hs3, S3, HC3, HP3⟩
      have S3' : Aside _ := S3
      have HR3 : Hid (∀ d', Rotated (m - i) m (m + (j - i)) d3 d' → Rotated a m b d d') := fun d' h => HR.out d' (Rotated.right hc him HC3 h)
      have HP4 : Hid (PermIn a b d d3) := permIn_trans _ _ _ _ _ HP.out (HP3 a b q1 q2 hb)
      have hs4 : d3.size = d.size := hs3
      clear S3 HC3 HP3 HR HP S1 hs3
      go_wp2_with fail
      go_roundg (i + (j - i))
      case measure => exact q6
      case rel => exact ⟨i, j - i, d3, rfl, by first | rfl | go_num, hi0, hij0, hai, q4, Nat.le_refl _, hs4, S3', HR3, HP4⟩
    · subst hc
      have c1 : ((i : Int) != (i : Int)) = false := by simp
      have hcall := swapRange_any LF enc fv blk off cap (m - i) m i d0 dk w0 wr R hds S1.out (by omega) (by omega) (by omega)
      rw [hsk] at hcall
      have e1 := wrap_of z1 y1
      clear z1 y1
      have HCALL := Lib.hid hcall
      clear hcall
      go_wp2_with fail
      refine HCALL.out.mono ?_
      rintro e w3 ⟨rfl, d3, hs3, S3, HC3, HP3⟩
      have K := Lib.hid (And.intro S3 (And.intro HC3 HP3))
      clear S3 HC3 HP3
      go_wp2_with fail
      go_end0
      exact ⟨rfl, d3, hs3, K.out.1, HR.out d3 (Rotated.both him K.out.2.1), permIn_trans _ _ _ _ _ HP.out (K.out.2.2 a b q1 hjb hb)⟩
    · have c1 : ((i : Int) != (j : Int)) = true := by simp; omega
      have c2 : decide ((i : Int) > (j : Int)) = true := by simp; omega
      have z4 : (i : Int) - (j : Int) = ((i - j : Nat) : Int) := by omega
      have y4 : i - j < 9223372036854775808 := by omega
      have hcall := swapRange_any LF enc fv blk off cap (m - i) m j d0 dk w0 wr R hds S1.out (by omega) (by omega) (by omega)
      rw [hsk] at hcall
      have hij0 : 0 < i - j := by omega
      have q4 : a + (i - j) ≤ m := by omega
      have q6 : i - j + j < gk := by omega
      have e1 := wrap_of z1 y1
      have e4 := wrap_of z4 y4
      clear z1 z4 y1 y4
      have HCALL := Lib.hid hcall
      clear hcall
      go_wp2_with fail
      refine HCALL.out.mono ?_
      rintro e w3 ⟨rfl, d3, hs3, S3, HC3, HP3⟩
      have S3' : Aside _ := S3
      have HR3 : Hid (∀ d', Rotated (m - (i - j)) m (m + j) d3 d' → Rotated a m b d d') := fun d' h => HR.out d' (Rotated.left hc him HC3 h)
      have HP4 : Hid (PermIn a b d d3) := permIn_trans _ _ _ _ _ HP.out (HP3 a b q1 hjb hb)
      have hs4 : d3.size = d.size := hs3
      clear S3 HC3 HP3 HR HP S1 hs3
      go_wp2_with fail
      go_roundg (i - j + j)
      case measure => exact q6
      case rel => exact ⟨i - j, j, d3, by first | rfl | go_num, rfl, hij0, hj0, q4, hjb, Nat.le_refl _, hs4, S3', HR3, HP4⟩
end Go.Proofs.Ytdgnengfcabgjaa
