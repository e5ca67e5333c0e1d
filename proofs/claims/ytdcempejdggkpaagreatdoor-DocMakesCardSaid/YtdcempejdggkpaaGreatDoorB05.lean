/-
  The stable sort's merge of two blocks of more than one element each, and of any.
  slices.SortStableFunc at up to 39 numbers: the sorted permutation in which alike ones stay in their order.
-/
import Derived.Test.YtdcempejdggkpaaGreatDoorB04
import Derived.Deep.CutRange
import Derived.Deep.DeepCutAuto
import Derived.LoopN
namespace Go.Proofs.YtdcempejdggkpaaGreatDoor
open Go.RowKit Go.Lib Go.Sort
variable {α : Type} [Inhabited α]

set_option maxHeartbeats 16000000 in
set_option maxRecDepth 100000 in
theorem symMany {T : α → α → Bool} (hS : SWO T) {L : α → α → Prop} {cf : α → α → Int} (hcl : ∀ x y, L x y → (cf y x < 0 ↔ T y x = true)) (enc : α → Value) (g : Nat) (cb : Array Value) (blk off cap a m b : Nat) (d0 d : Array α) (w0 w : World)
    (eg : ∀ args w, (callFunc g args).run Tryz.prog w = .ok (.enter g args) w) (hcmp : CmpLays1 Tryz.prog g cb enc cf blk off d0.size w0) (R : Row1 enc w0 blk off d0) (hs : d0.size = d.size) (S : SW enc w0 blk off d w) (ham : a + 1 < m) (hmb : m + 1 < b) (hb : b ≤ d.size) (hsz : d.size < 4611686018427387904) (h2 : Two T L a m b d)
    (ih : ∀ (a' m' b' : Nat) (d' : Array α) (w' : World), b' - a' < b - a → a' < m' → m' < b' → b' ≤ d.size → d'.size = d.size → SW enc w0 blk off d' w' → Two T L a' m' b' d' →
      Calls Tryz.prog 69 #[.slice (some ⟨blk, off, none⟩) d.size cap, .int .i64 a', .int .i64 m', .int .i64 b', .func (.func g) #[] cb] w' (Merged T enc w0 blk off a' b' d')) :
    Calls Tryz.prog 69 #[.slice (some ⟨blk, off, none⟩) d.size cap, .int .i64 a, .int .i64 m, .int .i64 b, .func (.func g) #[] cb] w (Merged T enc w0 blk off a b d) := by
  have hcl0 := R.hO.cells
  simp only [Value.cells] at hcl0
  have hst := R.hO.store Tryz.prog
  have mixed : Tryz.prog.follows .mixedOrders = true := by kernel_rfl
  have S0 : Aside (SW enc w0 blk off d w) := S
  have HC : Aside _ := hcmp
  have H2 := Lib.hid h2
  have HSW := Lib.hid hS
  have HCL := Lib.hid hcl
  have IH := Lib.hid ih
  clear S hcmp h2 hS hcl ih
  obtain ⟨mid, hmid⟩ : ∃ mid, mid = (a + b) / 2 := ⟨_, rfl⟩
  have hmi : ((a : Int) + (b : Int)) / 2 = (mid : Int) := by omega
  have gm1 : a < mid := by omega
  have gm2 : mid < b := by omega
  obtain ⟨lo, hlo⟩ : ∃ lo, lo = if mid < m then mid + m - b else a := ⟨_, rfl⟩
  obtain ⟨hi, hhi⟩ : ∃ hi, hi = if mid < m then mid else m := ⟨_, rfl⟩
  have l1 : a ≤ lo := by rw [hlo]; split <;> omega
  have l2 : mid + m ≤ lo + b := by rw [hlo]; split <;> omega
  have l3 : hi ≤ m := by rw [hhi]; split <;> omega
  have l4 : hi ≤ mid := by rw [hhi]; split <;> omega
  have l5 : lo ≤ hi := by rw [hlo, hhi]; split <;> omega
  have l6 : lo = a ∨ lo + b = mid + m := by rw [hlo]; split <;> omega
  have l7 : hi = m ∨ hi = mid := by rw [hhi]; split <;> omega
  have HLO := Lib.hid hlo; have HHI := Lib.hid hhi
  clear hlo hhi hmid
  have ne1 : ((m : Int) - (a : Int) == 1) = false := by simp; omega
  have ne2 : ((b : Int) - (m : Int) == 1) = false := by simp; omega
  have w1 : IntKind.i64.wrap ((m : Int) - (a : Int)) = (m : Int) - (a : Int) := IntWalk.i64_in _ (by omega)
  have W1 := Lib.hid w1; clear w1
  have w2 : IntKind.i64.wrap ((b : Int) - (m : Int)) = (b : Int) - (m : Int) := IntWalk.i64_in _ (by omega)
  have W2 := Lib.hid w2; clear w2
  have w3 : IntKind.i64.wrap ((a : Int) + (b : Int)) = (a : Int) + (b : Int) := IntWalk.i64_in _ (by omega)
  have W3 := Lib.hid w3; clear w3
  have w4 : IntKind.i64.wrap ((mid : Int) + (m : Int)) = (mid : Int) + (m : Int) := IntWalk.i64_in _ (by omega)
  have W4 := Lib.hid w4; clear w4
  have w5 : IntKind.i64.wrap ((mid : Int) + (m : Int) - 1) = (mid : Int) + (m : Int) - 1 := IntWalk.i64_in _ (by omega)
  have W5 := Lib.hid w5; clear w5
  have w6 : IntKind.i64.wrap ((mid : Int) + (m : Int) - (b : Int)) = (mid : Int) + (m : Int) - (b : Int) := IntWalk.i64_in _ (by omega)
  have W6 := Lib.hid w6; clear w6
  have hmid0 : (0 : Int) ≤ (mid : Int) := by omega
  have w1 := W1.out; have w2 := W2.out; have w3 := W3.out; have w4 := W4.out
  go_enter Tryz.func69, Tryz.ntmps69
  go_upto_if 140 with fail
  clear w1 w2 w3 ne1 ne2
  go_cut [20, 21] (fun s20 s21 wx => s20 = .int .i64 (lo : Nat) ∧ s21 = .int .i64 (hi : Nat) ∧ wx = w)
  case first =>
    by_cases hm : mid < m
    · have hmz : decide ((m : Int) > (mid : Int)) = true := by clear w4; simp; omega
      have hmz2 : (mid : Int) < (m : Int) := by clear w4; omega
      have e1 : (lo : Int) = (mid : Int) + (m : Int) - (b : Int) := by clear w4; have := HLO.out; rw [if_pos hm] at this; omega
      have e2 : hi = mid := by have := HHI.out; rwa [if_pos hm] at this
      have E1 := Lib.hid e1; have E2 := Lib.hid e2
      clear e1 e2
      have w6 := W6.out
      go_wp2_with fail
      go_meet
      case rel => exact ⟨by rw [E1.out], by rw [E2.out], rfl⟩
    · have hmz : decide ((m : Int) > (mid : Int)) = false := by clear w4; simp; omega
      have hmz2 : ¬ (mid : Int) < (m : Int) := by clear w4; omega
      have e1 : lo = a := by have := HLO.out; rwa [if_neg hm] at this
      have e2 : hi = m := by have := HHI.out; rwa [if_neg hm] at this
      have E1 := Lib.hid e1; have E2 := Lib.hid e2
      clear e1 e2
      go_wp2_with fail
      go_meet
      case rel => exact ⟨by rw [E1.out], by rw [E2.out], rfl⟩
  case rest =>
    obtain ⟨rfl, rfl, rfl⟩ := hcut
    have w5 := W5.out
    go_wp2_with fail
    clear w5 w4
    go_loopg [20, 21] (hi - lo) (fun g1 vi vj wr => ∃ (s r : Nat), vi = .int .i64 s ∧ vj = .int .i64 r ∧ lo ≤ s ∧ s ≤ r ∧ r ≤ hi ∧ r - s ≤ g1 ∧ Aside (SW enc w0 blk off d wr) ∧ Hid (s = lo ∨ T d[mid + m - s]! d[s - 1]! = false) ∧ Hid (r = hi ∨ T d[mid + m - 1 - r]! d[r]! = true))
    case atStart => exact ⟨lo, hi, rfl, rfl, Nat.le_refl _, l5, Nat.le_refl _, Nat.le_refl _, S0, .inl rfl, .inl rfl⟩
    case round =>
      clear S0
      obtain ⟨s, r, rfl, rfl, h1, hsr, h3, hg1, S1, HI, HJ⟩ := hrel
      by_cases hlt : s < r
      · have hlt2 : (s : Int) < (r : Int) := by omega
        obtain ⟨c, hc⟩ : ∃ c : Nat, c = (s + r) / 2 := ⟨_, rfl⟩
        have hci : ((s : Int) + (r : Int)) / 2 = (c : Int) := by omega
        have hb1 : s ≤ c := by omega
        have hb2 : c < r := by omega
        clear hc
        obtain ⟨pN, hpN⟩ : ∃ pN, pN = mid + m - 1 - c := ⟨_, rfl⟩
        have g1 : m ≤ pN := by omega
        have g2 : pN < b := by omega
        have g3 : a ≤ c := by omega
        have g4 : c < m := by omega
        have pe : (mid : Int) + (m : Int) - 1 - (c : Int) = (pN : Int) := by omega
        have pa : (0 : Int) ≤ (pN : Int) := by omega
        have pb : (pN : Int) < (d.size : Int) := by omega
        have pc : (0 : Int) ≤ (c : Int) := by omega
        have pd : (c : Int) < (d.size : Int) := by omega
        obtain ⟨x, hx⟩ : ∃ x, x = d[pN]! := ⟨_, rfl⟩
        obtain ⟨y, hy⟩ : ∃ x, x = d[c]! := ⟨_, rfl⟩
        have la := S1.out.cl R (by omega) pN (by omega)
        have lb := S1.out.cl R (by omega) c (by omega)
        rw [← hx] at la
        rw [← hy] at lb
        have hcm := S1.out.cmp HC.out (by omega) x y
        have hcv : decide (cf x y < 0) = T x y := bool_of (HCL.out y x (by rw [hx, hy]; exact H2.out.lr c pN g3 g4 g1 g2))
        have HX := Lib.hid hx; have HY := Lib.hid hy
        have q1 : lo ≤ c + 1 := by omega
        have q2 : c + 1 ≤ r := by omega
        have q3 : r - (c + 1) < gk := by omega
        have q4 : c - s < gk := by omega
        have q5 : c ≤ hi := by omega
        have q6 : mid + m - (c + 1) = pN := by omega
        have Q6 := Lib.hid q6; have HPN := Lib.hid hpN
        have hw : IntKind.i64.wrap ((s : Int) + (r : Int)) = (s : Int) + (r : Int) := IntWalk.i64_in _ (by omega)
        have HW := Lib.hid hw; clear hw
        have hw2 : IntKind.i64.wrap ((mid : Int) + (m : Int) - 1 - (c : Int)) = (pN : Int) := by rw [pe]; exact IntWalk.i64_in _ (by omega)
        have hw := HW.out
        clear hx hy q6 hpN pe
        cases ht : T x y with
        | false =>
          rw [ht] at hcv
          have HT := Lib.hid ht; clear ht
          go_wp2_with fail
          go_quiet_grown (first | (go_at_fn g; refine Calls.grown_of (hcm _ _)))
          have S2 : Aside (SW enc w0 blk off d (grow (wr.drewN nq) osq)) := S1.out.grown nq osq
          clear la lb hcm S1
          generalize grow (wr.drewN nq) osq = w2 at S2 ⊢
          clear nq osq hw hw2
          go_wp2_with fail
          go_roundg (r - (c + 1))
          case measure => exact q3
          case rel => exact ⟨c + 1, r, by go_num, rfl, q1, q2, h3, Nat.le_refl _, S2, .inr (by rw [Nat.add_sub_cancel, Q6.out, ← HX.out, ← HY.out]; exact HT.out), HJ⟩
        | true =>
          rw [ht] at hcv
          have HT := Lib.hid ht; clear ht
          go_wp2_with fail
          go_quiet_grown (first | (go_at_fn g; refine Calls.grown_of (hcm _ _)))
          have S2 : Aside (SW enc w0 blk off d (grow (wr.drewN nq) osq)) := S1.out.grown nq osq
          clear la lb hcm S1
          generalize grow (wr.drewN nq) osq = w2 at S2 ⊢
          clear nq osq hw hw2
          go_wp2_with fail
          go_roundg (c - s)
          case measure => exact q4
          case rel => exact ⟨s, c, rfl, rfl, h1, hb1, q5, Nat.le_refl _, S2, HI, .inr (by rw [← HPN.out, ← HX.out, ← HY.out]; exact HT.out)⟩
      · obtain rfl : s = r := by omega
        have hlt2 : ¬ (s : Int) < (s : Int) := by omega
        obtain ⟨e, he⟩ : ∃ e, e = mid + m - s := ⟨_, rfl⟩
        have ez : (mid : Int) + (m : Int) - (s : Int) = (e : Int) := by omega
        have k1 : a ≤ s := by omega
        have k2 : s ≤ m := by omega
        have k3 : s ≤ mid := by omega
        have k4 : e ≤ b := by omega
        have k5 : m ≤ e := by omega
        have k6 : mid ≤ e := by omega
        have hcutc : Cut T a m b mid s d := ⟨k1, k2, k3, by omega, by
          rcases HI.out with h | h
          · rcases l6 with h' | h'
            · exact .inl (by omega)
            · exact .inr (.inl (by omega))
          · exact .inr (.inr h), by
          rcases HJ.out with h | h
          · rcases l7 with h' | h'
            · exact .inl (by omega)
            · exact .inr (.inl (by omega))
          · exact .inr (.inr h)⟩
        have HCUT := Lib.hid hcutc
        have HE := Lib.hid he
        have w7 : IntKind.i64.wrap (e : Int) = (e : Int) := IntWalk.i64_in _ (by omega)
        clear hcutc he HI HJ
        obtain ⟨tR, htR⟩ : ∃ t, t = (decide (s < m) && decide (m < e)) := ⟨_, rfl⟩
        obtain ⟨tA, htA⟩ : ∃ t, t = (decide (a < s) && decide (s < mid)) := ⟨_, rfl⟩
        have HTR := Lib.hid htR; have HTA := Lib.hid htA
        clear htR htA
        go_upto_region 39 with fail
        clear w7
        go_cut [24, 185] from 174 (fun s24 sx wx => s24 = .int .i64 (e : Nat) ∧ sx = .bool tR ∧ wx = wr)
        case first =>
          by_cases c1 : s < m
          · have c1z : (s : Int) < (m : Int) := by omega
            by_cases c2 : m < e
            · have c2z : (m : Int) < (e : Int) := by omega
              go_wp2_with fail
              go_meet
              case rel => exact ⟨rfl, by rw [HTR.out, decide_eq_true c1, decide_eq_true c2]; rfl, rfl⟩
            · have c2z : ¬ (m : Int) < (e : Int) := by omega
              go_wp2_with fail
              go_meet
              case rel => exact ⟨rfl, by rw [HTR.out, decide_eq_false c2, Bool.and_false], rfl⟩
          · have c1z : ¬ (s : Int) < (m : Int) := by omega
            go_wp2_with fail
            go_meet
            case rel => exact ⟨rfl, by rw [HTR.out, decide_eq_false c1, Bool.false_and], rfl⟩
        case rest =>
          obtain ⟨rfl, rfl, rfl⟩ := hcut
          go_upto_if 185 with fail
          go_cut [185] from 186 (fun _ wx => ∃ d1 : Array α, d1.size = d.size ∧ Aside (SW enc w0 blk off d1 wx) ∧ Hid (Rotated s m e d d1) ∧ Hid (PermIn a b d d1))
          case first =>
            cases tR with
            | true =>
              have htr := HTR.out
              rw [eq_comm, Bool.and_eq_true, decide_eq_true_eq, decide_eq_true_eq] at htr
              have hcall := rotate_any enc (.func (.func g) #[] cb) blk off cap s m e d0 d w0 _ R hs S1.out htr.1 htr.2 (by omega) hsz
              have HCALL := Lib.hid hcall
              clear hcall htr
              go_wp2_with fail
              refine HCALL.out.mono ?_
              rintro e1 w3 ⟨rfl, d1, hs1, S3, hr1, hp1⟩
              have S3' : Aside _ := S3
              have HR1 := Lib.hid hr1; have HP1 := Lib.hid hp1
              clear S3 hr1 hp1 S1
              go_wp2_with fail
              go_meet
              case rel => exact ⟨d1, hs1, S3', HR1, permIn_mono _ _ _ _ _ _ k1 k4 hb HP1.out⟩
            | false =>
              have htr := HTR.out
              rw [eq_comm, Bool.and_eq_false_iff, decide_eq_false_iff_not, decide_eq_false_iff_not] at htr
              have hrot : Rotated s m e d d := by
                rcases htr with h | h
                · have : s = m := by omega
                  rw [this]; exact Rotated.none_left d
                · have : m = e := by omega
                  rw [← this]; exact Rotated.none_right d
              have HR1 := Lib.hid hrot
              clear hrot htr
              go_wp2_with fail
              go_meet
              case rel => exact ⟨d, rfl, S1, HR1, permIn_refl _ _ _⟩
          case rest =>
            obtain ⟨d1, hs1, S3, HR1, HP1⟩ := hcut
            clear S1
            have hrot := HR1.out
            rw [HE.out] at hrot
            have HF1 := Lib.hid (Two.first H2.out HCUT.out hrot)
            have hsec := Two.second H2.out HCUT.out hrot
            rw [← HE.out] at hsec
            have HF2 := Lib.hid hsec
            have HX1 := Lib.hid (Two.cross HSW.out H2.out HCUT.out hrot)
            clear hrot hsec
            go_upto_region 41 with fail
            go_cut [199] from 186 (fun sx wx => sx = .bool tA ∧ wx = wc)
            case first =>
              by_cases c1 : a < s
              · have c1z : (a : Int) < (s : Int) := by omega
                by_cases c2 : s < mid
                · have c2z : (s : Int) < (mid : Int) := by omega
                  go_wp2_with fail
                  go_meet
                  case rel => exact ⟨by rw [HTA.out, decide_eq_true c1, decide_eq_true c2]; rfl, rfl⟩
                · have c2z : ¬ (s : Int) < (mid : Int) := by omega
                  go_wp2_with fail
                  go_meet
                  case rel => exact ⟨by rw [HTA.out, decide_eq_false c2, Bool.and_false], rfl⟩
              · have c1z : ¬ (a : Int) < (s : Int) := by omega
                go_wp2_with fail
                go_meet
                case rel => exact ⟨by rw [HTA.out, decide_eq_false c1, Bool.false_and], rfl⟩
            case rest =>
              rename_i wc1
              obtain ⟨rfl, rfl⟩ := hcut
              go_upto_if 199 with fail
              go_cut [199] from 200 (fun _ wx => ∃ d2 : Array α, d2.size = d.size ∧ Aside (SW enc w0 blk off d2 wx) ∧ Hid (PermIn a mid d1 d2) ∧ Hid (SortedIn T a mid d2))
              case first =>
                cases tA with
                | true =>
                  have htr := HTA.out
                  rw [eq_comm, Bool.and_eq_true, decide_eq_true_eq, decide_eq_true_eq] at htr
                  have hcall := IH.out a s mid d1 _ (by omega) htr.1 htr.2 (by omega) hs1 S3.out HF1.out
                  have HCALL := Lib.hid hcall
                  clear hcall htr
                  go_wp2_with fail
                  refine HCALL.out.mono ?_
                  rintro e1 w3 ⟨rfl, d2, hs2, S4, hp2, hso2⟩
                  have S4' : Aside _ := S4
                  have HS2 := Lib.hid hso2; have HP2 := Lib.hid hp2
                  have hs2' : d2.size = d.size := hs2.trans hs1
                  clear S4 hso2 hp2 S3 hs2
                  go_wp2_with fail
                  go_meet
                  case rel => exact ⟨d2, hs2', S4', HP2, HS2⟩
                | false =>
                  have htr := HTA.out
                  rw [eq_comm, Bool.and_eq_false_iff, decide_eq_false_iff_not, decide_eq_false_iff_not] at htr
                  have hso : SortedIn T a mid d1 := by
                    rcases htr with h | h
                    · have : s = a := by omega
                      have h2 := HF1.out.r
                      rw [this] at h2; exact h2
                    · have : s = mid := by omega
                      have h2 := HF1.out.l
                      rw [this] at h2; exact h2
                  have HS2 := Lib.hid hso
                  clear hso htr
                  go_wp2_with fail
                  go_meet
                  case rel => exact ⟨d1, hs1, S3, permIn_refl _ _ _, HS2⟩
              case rest =>
                obtain ⟨d2, hs2, S4, HP2, HS2⟩ := hcut
                clear S3
                have hkeep : ∀ k, mid ≤ k → d2[k]! = d1[k]! := fun k hk => HP2.out.2.1 k (.inr hk)
                have htwo : Two T L mid e b d2 := HF2.out.keep (fun k h1 _ => hkeep k h1) k6 k4
                have HF3 := Lib.hid htwo
                have HKEEP := Lib.hid hkeep
                have fin : Hid (∀ d3 : Array α, PermIn mid b d2 d3 → SortedIn T mid b d3 → PermIn a b d d3 ∧ SortedIn T a b d3) := fun d3 p3 s3 => by
                  have hd1 : b ≤ d1.size := by omega
                  have hd2 : b ≤ d2.size := by omega
                  exact ⟨permIn_trans _ _ _ _ _ HP1.out (permIn_trans _ _ _ _ _ (permIn_mono _ _ _ _ _ _ (Nat.le_refl _) (by omega) hd1 HP2.out) (permIn_mono _ _ _ _ _ _ (by omega) (Nat.le_refl _) hd2 p3)), halves hd1 (by omega) HX1.out HP2.out HS2.out p3 s3⟩
                clear htwo hkeep
                by_cases c1 : mid < e
                · have c1z : (mid : Int) < (e : Int) := by omega
                  by_cases c2 : e < b
                  · have c2z : (e : Int) < (b : Int) := by omega
                    have hcall := IH.out mid e b d2 wc (by omega) c1 c2 (by omega) hs2 S4.out HF3.out
                    have HCALL := Lib.hid hcall
                    clear hcall
                    go_wp2_with fail
                    refine HCALL.out.mono ?_
                    rintro e1 w3 ⟨rfl, d3, hs3, S5, hp3, hso3⟩
                    have hfin := fin.out d3 hp3 hso3
                    have HF := Lib.hid (show Merged T enc w0 blk off a b d (.returned (.tuple #[])) w3 from ⟨rfl, d3, hs3.trans hs2, S5, hfin.1, hfin.2⟩)
                    clear S5 hp3 hso3 hfin S4
                    go_wp2_with fail
                    go_end0
                    exact HF.out
                  · have c2z : ¬ (e : Int) < (b : Int) := by omega
                    have hso : SortedIn T mid b d2 := by
                      have : e = b := by omega
                      have h2 := HF3.out.l
                      rw [this] at h2; exact h2
                    have hfin := fin.out d2 (permIn_refl _ _ _) hso
                    have HF := Lib.hid (show Merged T enc w0 blk off a b d (.returned (.tuple #[])) wc from ⟨rfl, d2, hs2, S4.out, hfin.1, hfin.2⟩)
                    clear hso hfin
                    go_wp2_with fail
                    go_end0
                    exact HF.out
                · have c1z : ¬ (mid : Int) < (e : Int) := by omega
                  have hso : SortedIn T mid b d2 := by
                    have : e = mid := by omega
                    have h2 := HF3.out.r
                    rw [this] at h2; exact h2
                  have hfin := fin.out d2 (permIn_refl _ _ _) hso
                  have HF := Lib.hid (show Merged T enc w0 blk off a b d (.returned (.tuple #[])) wc from ⟨rfl, d2, hs2, S4.out, hfin.1, hfin.2⟩)
                  clear hso hfin
                  go_wp2_with fail
                  go_end0
                  exact HF.out
/-- The merge of two sorted blocks. -/
theorem symMerge_any {T : α → α → Bool} (hS : SWO T) {L : α → α → Prop} {cf : α → α → Int} (hcl : ∀ x y, L x y → (cf y x < 0 ↔ T y x = true)) (enc : α → Value) (g : Nat) (cb : Array Value) (blk off cap N : Nat) (d0 : Array α) (w0 : World)
    (eg : ∀ args w, (callFunc g args).run Tryz.prog w = .ok (.enter g args) w) (hcmp : CmpLays1 Tryz.prog g cb enc cf blk off d0.size w0) (R : Row1 enc w0 blk off d0) (hN : d0.size = N) (hsz : N < 4611686018427387904) :
    ∀ (n a m b : Nat) (d : Array α) (w : World), b - a ≤ n → a < m → m < b → b ≤ N → d.size = N → SW enc w0 blk off d w → Two T L a m b d →
    Calls Tryz.prog 69 #[.slice (some ⟨blk, off, none⟩) N cap, .int .i64 a, .int .i64 m, .int .i64 b, .func (.func g) #[] cb] w (Merged T enc w0 blk off a b d)
  | 0, a, m, b, d, w, h, h1, h2, _, _, _, _ => by omega
  | n + 1, a, m, b, d, w, h, h1, h2, hb, hd, hw, ht => by
    subst hd
    by_cases c1 : m = a + 1
    · subst c1
      exact symLeft hS hcl enc g cb blk off cap a b d0 d w0 w eg hcmp R hN hw h2 hb hsz ht
    · by_cases c2 : b = m + 1
      · subst c2
        exact symRight hS hcl enc g cb blk off cap a m d0 d w0 w eg hcmp R hN hw (by omega) hb hsz ht
      · exact symMany hS hcl enc g cb blk off cap a m b d0 d w0 w eg hcmp R hN hw (by omega) (by omega) hb hsz ht fun a' m' b' d' w' hl h1' h2' hb' hd' hw' ht' =>
          symMerge_any hS hcl enc g cb blk off cap d.size d0 w0 eg hcmp R hN hsz n a' m' b' d' w' (by omega) h1' h2' hb' hd' hw' ht'
end Go.Proofs.YtdcempejdggkpaaGreatDoor
namespace Go.Proofs.YtdcempejdggkpaaGreatDoor
open Go.RowKit Go.Lib Go.Sort
variable {α : Type} [Inhabited α]

theorem insInner_T {T : α → α → Bool} {L : α → α → Prop} {cf : α → α → Int} (hcl : ∀ x y, L x y → (cf y x < 0 ↔ T y x = true)) (a : Nat) : ∀ (j : Nat) (d : Array α), j < d.size → (∀ k, a ≤ k → k < j → L d[k]! d[j]!) → insInner (ltOf cf) a j d = insInner T a j d
  | 0, d, _, _ => rfl
  | j + 1, d, hj, h => by
    unfold insInner
    by_cases c : j + 1 > a
    · have e : ltOf cf d[j + 1]! d[j]! = T d[j + 1]! d[j]! := bool_of (hcl _ _ (h j (by omega) (by omega)))
      rw [e]
      split
      · refine insInner_T hcl a j _ (by rw [size_swp]; omega) fun k h1 h2 => ?_
        rw [swp_get d hj (by omega), swp_get d hj (by omega), if_neg (by omega), if_neg (by omega), if_pos rfl]
        exact h k h1 (by omega)
      · rfl
    · rw [decide_eq_false c]; rfl
theorem insInner_perm {lt : α → α → Bool} (a : Nat) : ∀ (j : Nat) (d : Array α), j < d.size → PermIn a (j + 1) d (insInner lt a j d)
  | 0, d, _ => permIn_refl _ _ _
  | j + 1, d, hj => by
    unfold insInner
    split
    · rename_i h
      simp only [Bool.and_eq_true, decide_eq_true_eq] at h
      exact permIn_trans _ _ _ _ _ (swp_permIn _ _ _ _ _ (by omega) (by omega) (by omega) (by omega) (by omega)) (permIn_mono _ _ _ _ _ _ (Nat.le_refl _) (by omega) (by rw [size_swp]; omega) (insInner_perm a j _ (by rw [size_swp]; omega)))
    · exact permIn_refl _ _ _
theorem insOuter_T {T : α → α → Bool} {L : α → α → Prop} {cf : α → α → Int} (hcl : ∀ x y, L x y → (cf y x < 0 ↔ T y x = true)) (a b : Nat) : ∀ (n i : Nat) (d : Array α), b - i ≤ n → b ≤ d.size → (∀ k q, a ≤ k → k < q → i ≤ q → q < b → L d[k]! d[q]!) → insOuter (ltOf cf) a b i d = insOuter T a b i d
  | 0, i, d, hn, hb, h => by rw [insOuter_stop _ _ _ _ _ (by omega), insOuter_stop _ _ _ _ _ (by omega)]
  | n + 1, i, d, hn, hb, h => by
    by_cases hi : i < b
    · rw [insOuter_go _ _ _ _ _ hi, insOuter_go _ _ _ _ _ hi, insInner_T hcl a i d (by omega) fun k h1 h2 => h k i h1 h2 (Nat.le_refl _) hi]
      have hp := insInner_perm (lt := T) a i d (by omega)
      refine insOuter_T hcl a b n (i + 1) _ (by omega) (by rw [hp.1]; exact hb) fun k q h1 h2 h3 h4 => ?_
      have eq : (insInner T a i d)[q]! = d[q]! := hp.2.1 q (.inr (by omega))
      rw [eq]
      by_cases hk : k < i + 1
      · exact permIn_all d _ a (i + 1) (fun x => L x d[q]!) (by omega) hp (fun k' h1' h2' => h k' q h1' (by omega) (by omega) h4) k h1 hk
      · have ek : (insInner T a i d)[k]! = d[k]! := hp.2.1 k (.inr (by omega))
        rw [ek]; exact h k q h1 h2 (by omega) h4
    · rw [insOuter_stop _ _ _ _ _ hi, insOuter_stop _ _ _ _ _ hi]
theorem insertion_T {T : α → α → Bool} (hS : SWO T) {L : α → α → Prop} {cf : α → α → Int} (hcl : ∀ x y, L x y → (cf y x < 0 ↔ T y x = true)) {a b : Nat} {d : Array α} (hab : a ≤ b) (hb : b ≤ d.size) (h : ∀ k q, a ≤ k → k < q → q < b → L d[k]! d[q]!) :
    PermIn a b d (insertionSort (ltOf cf) d a b) ∧ SortedIn T a b (insertionSort (ltOf cf) d a b) := by
  have e : insertionSort (ltOf cf) d a b = insertionSort T d a b := insOuter_T hcl a b (b - (a + 1)) (a + 1) d (Nat.le_refl _) hb fun k q h1 h2 _ h4 => h k q h1 h2 h4
  rw [e]
  exact insertionSort_holds hS d a b hab hb

set_option maxHeartbeats 8000000 in
set_option maxRecDepth 100000 in
theorem stable_any {T : α → α → Bool} (hS : SWO T) {L : α → α → Prop} {cf : α → α → Int} (hcl : ∀ x y, L x y → (cf y x < 0 ↔ T y x = true)) (enc : α → Value) (g : Nat) (cb : Array Value) (blk off cap : Nat) (d : Array α) (w : World)
    (eg : ∀ args w, (callFunc g args).run Tryz.prog w = .ok (.enter g args) w) (hcmp : CmpLays1 Tryz.prog g cb enc cf blk off d.size w) (R : Row1 enc w blk off d) (hsz : d.size ≤ 39) (hL : ∀ i j, i < j → j < d.size → L d[i]! d[j]!) :
    Calls Tryz.prog 54 #[.slice (some ⟨blk, off, none⟩) d.size cap, .int .i64 d.size, .func (.func g) #[] cb] w (Merged T enc w blk off 0 d.size d) := by
  have HC : Aside _ := hcmp
  have HS := Lib.hid hS; have HCL := Lib.hid hcl; have HL := Lib.hid hL
  clear hS hcl hL hcmp
  have hcall1 : ∀ (a b : Nat) (d1 : Array α) (w1 : World), a ≤ b → b ≤ d.size → d1.size = d.size → SW enc w blk off d1 w1 → (∀ k q, a ≤ k → k < q → q < b → L d1[k]! d1[q]!) →
      Calls Tryz.prog 68 #[.slice (some ⟨blk, off, none⟩) d.size cap, .int .i64 a, .int .i64 b, .func (.func g) #[] cb] w1 (Merged T enc w blk off a b d1) := fun a b d1 w1 h1 h2 h3 h4 h5 => by
    have h := Tryz.insertionSortCmpFunc_s enc cf g cb blk off cap a b d d1 w w1 eg HC.out R h3.symm h4 h1 (by omega) (by omega)
    rw [h3] at h
    refine h.mono ?_
    rintro e w2 ⟨rfl, h6⟩
    have hT := insertion_T HS.out HCL.out h1 (by omega) h5
    exact ⟨rfl, _, hT.1.1, h6, hT.1, hT.2⟩
  have HI := Lib.hid hcall1
  clear hcall1
  by_cases c20 : d.size < 20
  · have c1 : ¬ (20 : Int) ≤ (d.size : Int) := by omega
    have c2 : ¬ (20 : Int) < (d.size : Int) := by omega
    have hcall := HI.out 0 d.size d w (Nat.zero_le _) (Nat.le_refl _) rfl (SW.start R.hH) fun k q _ h2 h3 => HL.out k q h2 h3
    have HCALL := Lib.hid hcall
    clear hcall
    go_enter Tryz.func54, Tryz.ntmps54
    go_wp2_with fail
    refine wp_loop_rounds 1 ?_
    rw [rounds_succ]
    go_wp2_with fail
    refine HCALL.out.mono ?_
    rintro e w1 h1
    have he := h1.1
    subst he
    have HF := Lib.hid h1
    clear h1
    go_wp2_with fail
    refine wp_loop_rounds 1 ?_
    rw [rounds_succ]
    go_wp2_with fail
    go_end0
    exact HF.out
  · have c1 : (20 : Int) ≤ (d.size : Int) := by omega
    have c2 : ¬ (40 : Int) ≤ (d.size : Int) := by omega
    have hcall := HI.out 0 20 d w (Nat.zero_le _) (by omega) rfl (SW.start R.hH) fun k q _ h2 h3 => HL.out k q h2 (by omega)
    have HCALL := Lib.hid hcall
    clear hcall
    go_enter Tryz.func54, Tryz.ntmps54
    go_wp2_with fail
    refine wp_loop_rounds 2 ?_
    rw [rounds_succ]
    go_wp2_with fail
    refine HCALL.out.mono ?_
    rintro e w1 ⟨rfl, d1, hs1, S1, hp1, ho1⟩
    have HP1 := Lib.hid hp1; have HO1 := Lib.hid ho1
    have S1' : Aside _ := S1
    clear S1 hp1 ho1
    have hcall := HI.out 20 d.size d1 w1 (by omega) (Nat.le_refl _) hs1 S1'.out fun k q h1 h2 h3 => by
      rw [HP1.out.2.1 k (.inr h1), HP1.out.2.1 q (.inr (by omega))]; exact HL.out k q h2 h3
    have HCALL2 := Lib.hid hcall
    clear hcall
    go_wp2_with fail
    rw [rounds_succ]
    go_wp2_with fail
    refine HCALL2.out.mono ?_
    rintro e w2 ⟨rfl, d2, hs2, S2, hp2, ho2⟩
    have HP2 := Lib.hid hp2; have HO2 := Lib.hid ho2
    have S2' : Aside _ := S2
    clear S2 hp2 ho2
    have hs2' : d2.size = d.size := hs2.trans hs1
    have hall : PermIn 0 d.size d d2 := permIn_trans _ _ _ _ _ (permIn_mono _ _ _ _ _ _ (Nat.le_refl _) (by omega) (Nat.le_refl _) HP1.out) (permIn_mono _ _ _ _ _ _ (Nat.zero_le _) (Nat.le_refl _) (by omega) HP2.out)
    have htwo : Two T L 0 20 d.size d2 := by
      refine ⟨sorted_at HO1.out fun k _ h2 => HP2.out.2.1 k (.inl h2), HO2.out, fun i j _ h2 h3 h4 => ?_⟩
      rw [HP2.out.2.1 i (.inl h2)]
      refine permIn_all d1 d2 20 d.size (fun x => L d1[i]! x) (by omega) HP2.out (fun j' h1' h2' => ?_) j h3 h4
      rw [HP1.out.2.1 j' (.inr h1')]
      exact permIn_all d d1 0 20 (fun x => L x d[j']!) (by omega) HP1.out (fun i' _ h2'' => HL.out i' j' (by omega) h2') i (Nat.zero_le _) h2
    have HALL := Lib.hid hall; have H2 := Lib.hid htwo
    clear hall htwo hs2
    by_cases c3 : 20 < d.size
    · have c3z : (20 : Int) < (d.size : Int) := by omega
      have c4 : ¬ (40 : Int) < (d.size : Int) := by omega
      have hcall := symMerge_any HS.out HCL.out enc g cb blk off cap d.size d w eg HC.out R rfl (by omega) d.size 0 20 d.size d2 w2 (by omega) (by omega) c3 (Nat.le_refl _) hs2' S2'.out H2.out
      have HCALL3 := Lib.hid hcall
      clear hcall
      go_wp2_with fail
      refine wp_loop_rounds 2 ?_
      rw [rounds_succ]
      go_wp2_with fail
      refine wp_loop_rounds 1 ?_
      rw [rounds_succ]
      go_wp2_with fail
      refine HCALL3.out.mono ?_
      rintro e w3 ⟨rfl, d3, hs3, S3, hp3, ho3⟩
      have hf : Merged T enc w blk off 0 d.size d (.returned (.tuple #[])) w3 := ⟨rfl, d3, hs3.trans hs2', S3, permIn_trans _ _ _ _ _ HALL.out hp3, ho3⟩
      have HF := Lib.hid hf
      clear hf S3 hp3 ho3
      go_wp2_with fail
      rw [rounds_succ]
      go_wp2_with fail
      go_end0
      exact HF.out
    · have c3z : ¬ (20 : Int) < (d.size : Int) := by omega
      have hf : Merged T enc w blk off 0 d.size d (.returned (.tuple #[])) w2 := ⟨rfl, d2, hs2', S2'.out, HALL.out, by
        have : d.size = 20 := by omega
        have h := H2.out.l
        rw [← this] at h
        exact h⟩
      have HF := Lib.hid hf
      clear hf
      go_wp2_with fail
      refine wp_loop_rounds 1 ?_
      rw [rounds_succ]
      go_wp2_with fail
      go_end0
      exact HF.out
set_option maxRecDepth 100000 in
theorem sortStable_any {T : α → α → Bool} (hS : SWO T) {L : α → α → Prop} {cf : α → α → Int} (hcl : ∀ x y, L x y → (cf y x < 0 ↔ T y x = true)) (enc : α → Value) (g : Nat) (cb : Array Value) (blk off cap : Nat) (d : Array α) (w : World)
    (eg : ∀ args w, (callFunc g args).run Tryz.prog w = .ok (.enter g args) w) (hcmp : CmpLays1 Tryz.prog g cb enc cf blk off d.size w) (R : Row1 enc w blk off d) (hsz : d.size ≤ 39) (hL : ∀ i j, i < j → j < d.size → L d[i]! d[j]!) :
    Calls Tryz.prog 38 #[.slice (some ⟨blk, off, none⟩) d.size cap, .func (.func g) #[] cb] w (Merged T enc w blk off 0 d.size d) := by
  have HCALL := Lib.hid (stable_any hS hcl enc g cb blk off cap d w eg hcmp R hsz hL)
  clear hS hcl hcmp hL
  go_enter Tryz.func38, Tryz.ntmps38
  go_wp2_with fail
  refine HCALL.out.mono ?_
  rintro e w1 h1
  have he := h1.1
  subst he
  have HF := Lib.hid h1
  clear h1
  go_wp2_with fail
  go_end0
  exact HF.out
end Go.Proofs.YtdcempejdggkpaaGreatDoor
