/-
  slices.SortStableFunc at leaves: the sorted permutation in which alike ones stay in their order; rows of any length.
-/
import Derived.Test.YtdgnengfcabgjaaB22
import Derived.Test.YtdgnengfcabgjaaB19
import Derived.LoopN
namespace Go.Proofs.Ytdgnengfcabgjaa
open Go.RowKit Go.Lib Go.Sort
variable {α : Type} [Inhabited α] {P : Program} {zz : Nat}

theorem insInner_T {T : α → α → Bool} {L : α → α → Prop} {cf : α → α → Int} (hcl : ∀ x y, L x y → (cf y x < 0 ↔ T y x = true)) (a : Nat) : ∀ (j : Nat) (d : Array α), j < d.size → (∀ k, a ≤ k → k < j → L d[k]! d[j]!) → insInner (ltOf cf) a j d = insInner T a j d
  | 0, d, _, _ => rfl
  | j + 1, d, hj, h => by
    unfold insInner
    by_cases c : j + 1 > a
    · have e : ltOf cf d[j + 1]! d[j]! = T d[j + 1]! d[j]! := bool_of (hcl _ _ (h j (by omega) (by omega)))
      rw [e]
      split
      · refine insInner_T hcl a j _ (by rw [size_swp]; omega) fun k h1 h2 => ?_
        rw [swp_get d hj (by omega), swp_get d hj (by omega), if_neg (by omega), if_neg (by omega), if_pos rfl]
        exact h k h1 (by omega)
      · rfl
    · rw [decide_eq_false c]; rfl
theorem insInner_perm {lt : α → α → Bool} (a : Nat) : ∀ (j : Nat) (d : Array α), j < d.size → PermIn a (j + 1) d (insInner lt a j d)
  | 0, d, _ => permIn_refl _ _ _
  | j + 1, d, hj => by
    unfold insInner
    split
    · rename_i h
      simp only [Bool.and_eq_true, decide_eq_true_eq] at h
      exact permIn_trans _ _ _ _ _ (swp_permIn _ _ _ _ _ (by omega) (by omega) (by omega) (by omega) (by omega)) (permIn_mono _ _ _ _ _ _ (Nat.le_refl _) (by omega) (by rw [size_swp]; omega) (insInner_perm a j _ (by rw [size_swp]; omega)))
    · exact permIn_refl _ _ _
theorem insOuter_T {T : α → α → Bool} {L : α → α → Prop} {cf : α → α → Int} (hcl : ∀ x y, L x y → (cf y x < 0 ↔ T y x = true)) (a b : Nat) : ∀ (n i : Nat) (d : Array α), b - i ≤ n → b ≤ d.size → (∀ k q, a ≤ k → k < q → i ≤ q → q < b → L d[k]! d[q]!) → insOuter (ltOf cf) a b i d = insOuter T a b i d
  | 0, i, d, hn, hb, h => by rw [insOuter_stop _ _ _ _ _ (by omega), insOuter_stop _ _ _ _ _ (by omega)]
  | n + 1, i, d, hn, hb, h => by
    by_cases hi : i < b
    · rw [insOuter_go _ _ _ _ _ hi, insOuter_go _ _ _ _ _ hi, insInner_T hcl a i d (by omega) fun k h1 h2 => h k i h1 h2 (Nat.le_refl _) hi]
      have hp := insInner_perm (lt := T) a i d (by omega)
      refine insOuter_T hcl a b n (i + 1) _ (by omega) (by rw [hp.1]; exact hb) fun k q h1 h2 h3 h4 => ?_
      have eq : (insInner T a i d)[q]! = d[q]! := hp.2.1 q (.inr (by omega))
      rw [eq]
      by_cases hk : k < i + 1
      · exact permIn_all d _ a (i + 1) (fun x => L x d[q]!) (by omega) hp (fun k' h1' h2' => h k' q h1' (by omega) (by omega) h4) k h1 hk
      · have ek : (insInner T a i d)[k]! = d[k]! := hp.2.1 k (.inr (by omega))
        rw [ek]; exact h k q h1 h2 (by omega) h4
    · rw [insOuter_stop _ _ _ _ _ hi, insOuter_stop _ _ _ _ _ hi]
theorem insertion_T {T : α → α → Bool} (hS : SWO T) {L : α → α → Prop} {cf : α → α → Int} (hcl : ∀ x y, L x y → (cf y x < 0 ↔ T y x = true)) {a b : Nat} {d : Array α} (hab : a ≤ b) (hb : b ≤ d.size) (h : ∀ k q, a ≤ k → k < q → q < b → L d[k]! d[q]!) :
    PermIn a b d (insertionSort (ltOf cf) d a b) ∧ SortedIn T a b (insertionSort (ltOf cf) d a b) := by
  have e : insertionSort (ltOf cf) d a b = insertionSort T d a b := insOuter_T hcl a b (b - (a + 1)) (a + 1) d (Nat.le_refl _) hb fun k q h1 h2 _ h4 => h k q h1 h2 h4
  rw [e]
  exact insertionSort_holds hS d a b hab hb

theorem bd_ins {T : α → α → Bool} {L : α → α → Prop} {n a b : Nat} {d : Array α} (h : BdSt T L n (BdI 20 a) d) (hb : b ≤ n) : ∀ k q, a ≤ k → k < q → q < b → L d[k]! d[q]! := fun k q h1 h2 h3 =>
  h.across q (fun hq => by omega) k q h2 (Nat.le_refl _) (by omega)
theorem Merged.of {T : α → α → Bool} {enc : α → List Value} {w0 w' : World} {blk off a b : Nat} {d : Array α} {e : Ending} (h : Merged T enc zz w0 blk off a b d e w') : e = .returned (.tuple #[]) ∧ ∃ d' : Array α, d'.size = d.size ∧ Aside (SWK enc zz w0 blk off d' w') ∧ Hid (PermIn a b d d') ∧ Hid (SortedIn T a b d') := h
set_option maxHeartbeats 8000000 in
set_option maxRecDepth 100000 in
theorem stableK_any {T : α → α → Bool} (hS : SWO T) {L : α → α → Prop} {cf : α → α → Int} (hcl : ∀ x y, L x y → (cf y x < 0 ↔ T y x = true)) (LF : LfP P zz) (enc : α → List Value) (g : Nat) (cb : Array Value) (blk off cap : Nat) (d : Array α) (w : World)
    (eg : ∀ args w, (callFunc g args).run P w = .ok (.enter g args) w) (hcmp : CmpLays P g cb enc zz cf blk off d.size w) (R : RowK enc zz w blk off d) (hsz : d.size ≤ 1000000) (hL : ∀ i j, i < j → j < d.size → L d[i]! d[j]!) :
    Calls P 82 #[.slice (some ⟨blk, off, none⟩) d.size cap, .int .i64 d.size, .func (.func g) #[] cb] w (Merged T enc zz w blk off 0 d.size d) := by
  have HC : Aside _ := hcmp
  have HB0 : Hid (BdSt T L d.size (BdI 20 0) d) := Lib.hid (BdSt.start hL).insFirst
  obtain ⟨N, hN⟩ : ∃ N, N = d.size := ⟨_, rfl⟩
  have HN := Lib.hid hN
  have hNN : N ≤ 1000000 := by omega
  have HIN : Hid (∀ (a b : Nat) (d1 : Array α) (w1 : World), a ≤ b → b ≤ N → d1.size = N → SWK enc zz w blk off d1 w1 → (∀ k q, a ≤ k → k < q → q < b → L d1[k]! d1[q]!) →
      Calls P 90 #[.slice (some ⟨blk, off, none⟩) N cap, .int .i64 a, .int .i64 b, .func (.func g) #[] cb] w1 (Merged T enc zz w blk off a b d1)) := Lib.hid (fun a b d1 w1 h1 h2 h3 h4 h5 => by
    have h := leafIns LF enc cf g cb blk off cap a b d d1 w w1 eg HC.out R (by omega) h4 h1 (by omega) (by omega)
    rw [h3] at h
    refine h.mono ?_
    rintro e w2 ⟨rfl, h6⟩
    have hT := insertion_T hS hcl h1 (by omega) h5
    exact ⟨rfl, _, hT.1.1, h6, hT.1, hT.2⟩)
  have HSY := Lib.hid (symMerge_any hS hcl LF enc g cb blk off cap N d w eg HC.out R hN.symm (by omega))
  have S0 : Aside (SWK enc zz w blk off d w) := SWK.start R.hH
  rw [← hN]
  rw [← hN] at HB0
  clear hcmp hL hS hcl hsz hN eg
  have mixed := LF.mixed; have t0 := LF.t0; have a0 := LF.a0; have z0 := LF.z0; have v0 := LF.v0; have t3 := LF.t3; have a3 := LF.a3; have z3 := LF.z3; have v3 := LF.v3; have t4 := LF.t4; have a4 := LF.a4; have z4 := LF.z4; have v4 := LF.v4; have tS := LF.tS; have aS := LF.aS; have zS := LF.zS; have vS := LF.vS; have tF := LF.tF; have aF := LF.aF; have zF := LF.zF; have vF := LF.vF; have aE := LF.aE; have zE := LF.zE
  have eIns := LF.eIns; have eSym := LF.eSym
  go_enter LF.fStb, Try.ntmps82
  go_wp2_with fail
  go_loopw [7, 8] (fun sa sb wr => ∃ (a : Nat) (d1 : Array α), sa = .int .i64 a ∧ sb = .int .i64 ((a : Int) + 20) ∧ a ≤ N ∧ Hid (20 ∣ a) ∧ Hid (d1.size = N) ∧ Aside (SWK enc zz w blk off d1 wr) ∧ Hid (PermIn 0 N d d1) ∧ Hid (BdSt T L N (BdI 20 a) d1)) (fun sa _ _ => N - (intOf sa).toNat)
  case atStart => exact ⟨0, d, rfl, rfl, Nat.zero_le _, Lib.hid (Nat.dvd_zero 20), Lib.hid HN.out.symm, S0, permIn_refl _ _ _, HB0⟩
  case round =>
    clear S0 HB0
    obtain ⟨a, d1, rfl, rfl, haN, HDV, HSZ, S1, HP, HB⟩ := hrel
    by_cases hb : a + 20 ≤ N
    · have hb1 : (a : Int) + 20 ≤ (N : Int) := by omega
      have HCALL := Lib.hid (HIN.out a (a + 20) d1 wr (by omega) hb HSZ.out S1.out (bd_ins HB.out hb))
      have ecast : ((a + 20 : Nat) : Int) = (a : Int) + 20 := by omega
      rw [ecast] at HCALL
      go_wp2_with fail
      refine HCALL.out.mono ?_
      intro e w2 h2
      obtain ⟨rfl, d2, hs2, S2, hp2, ho2⟩ := h2.of
      have HSZ2 := Lib.hid (hs2.trans HSZ.out)
      have HP2 := Lib.hid (permIn_trans _ _ _ _ _ HP.out (permIn_mono _ _ _ _ _ _ (Nat.zero_le _) hb (by rw [HSZ.out]; exact Nat.le_refl _) hp2.out))
      have HB2 := Lib.hid (HB.out.ins (by rw [HSZ.out]; exact Nat.le_refl _) HDV.out hb hp2.out ho2.out)
      have HDV2 := Lib.hid (Nat.dvd_add HDV.out (Nat.dvd_refl 20))
      clear h2 hs2 hp2 ho2 S1 HCALL HP HB HSZ
      go_wp2_with fail
      go_roundw
      case rel => exact ⟨a + 20, d2, by go_num, by first | rfl | go_num | (congr 1; omega), hb, HDV2, HSZ2, S2, HP2, HB2⟩
      case measure => simp [intOf]; omega
    · have hb1 : ¬ (a : Int) + 20 ≤ (N : Int) := by omega
      have HCALL := Lib.hid (HIN.out a N d1 wr haN (Nat.le_refl _) HSZ.out S1.out (bd_ins HB.out (Nat.le_refl _)))
      go_wp2_with fail
      refine HCALL.out.mono ?_
      intro e w2 h2
      obtain ⟨rfl, d2, hs2, S2, hp2, ho2⟩ := h2.of
      have HSZ2 := Lib.hid (hs2.trans HSZ.out)
      have HP2 := Lib.hid (permIn_trans _ _ _ _ _ HP.out (permIn_mono _ _ _ _ _ _ (Nat.zero_le _) (Nat.le_refl _) (by rw [HSZ.out]; exact Nat.le_refl _) hp2.out))
      have HB2 := Lib.hid (HB.out.insLast (by rw [HSZ.out]; exact Nat.le_refl _) HDV.out (by omega) haN hp2.out ho2.out)
      clear h2 hs2 hp2 ho2 S1 HCALL HP HB HSZ HDV hb hb1 HIN
      go_wp2_with fail
      go_loopw [6] (fun sz wr => ∃ (s : Nat) (d1 : Array α), sz = .int .i64 s ∧ 20 ≤ s ∧ s ≤ 2 * N + 20 ∧ Hid (d1.size = N) ∧ Aside (SWK enc zz w blk off d1 wr) ∧ Hid (PermIn 0 N d d1) ∧ Hid (BdSt T L N (fun x => s ∣ x) d1)) (fun sz _ => N - (intOf sz).toNat)
      case atStart => exact ⟨20, d2, rfl, Nat.le_refl _, by omega, HSZ2, S2, HP2, HB2⟩
      case round =>
        clear S2 HP2 HB2 HSZ2 d2 haN
        obtain ⟨s, d2, rfl, hs20, hs2N, HSZ2, S2, HP2, HB2⟩ := hrel
        by_cases hsN : s < N
        · have hsN1 : (s : Int) < (N : Int) := by omega
          have HB3 := Lib.hid HB2.out.merFirst
          go_wp2_with fail
          go_loopw [7, 8] (fun sa sb wr => ∃ (a : Nat) (d1 : Array α), sa = .int .i64 a ∧ sb = .int .i64 ((a : Int) + 2 * (s : Int)) ∧ a ≤ N ∧ Hid (2 * s ∣ a) ∧ Hid (d1.size = N) ∧ Aside (SWK enc zz w blk off d1 wr) ∧ Hid (PermIn 0 N d d1) ∧ Hid (BdSt T L N (BdM s a) d1)) (fun sa _ _ => N - (intOf sa).toNat)
          case atStart => exact ⟨0, d2, rfl, by first | rfl | go_num | (congr 1; omega), Nat.zero_le _, Lib.hid (Nat.dvd_zero _), HSZ2, S2, HP2, HB3⟩
          case round =>
            clear S2 HP2 HB2 HSZ2 HB3 d2
            obtain ⟨a, d2, rfl, rfl, haN, HDV, HSZ2, S2, HP2, HB2⟩ := hrel
            by_cases hb : a + 2 * s ≤ N
            · have hb1 : (a : Int) + 2 * (s : Int) ≤ (N : Int) := by omega
              have HCALL := Lib.hid (HSY.out N a (a + s) (a + 2 * s) d2 wr (by omega) (by omega) (by omega) hb HSZ2.out S2.out (HB2.out.merTwo HDV.out (by omega) hb (by omega) (Nat.le_refl _)))
              have ecast : ((a + s : Nat) : Int) = (a : Int) + (s : Int) := by omega
              have ecast2 : ((a + 2 * s : Nat) : Int) = (a : Int) + 2 * (s : Int) := by omega
              rw [ecast, ecast2] at HCALL
              go_wp2_with fail
              refine HCALL.out.mono ?_
              intro e w3 h3
              obtain ⟨rfl, d3, hs3, S3, hp3, ho3⟩ := h3.of
              have HSZ3 := Lib.hid (hs3.trans HSZ2.out)
              have HP3 := Lib.hid (permIn_trans _ _ _ _ _ HP2.out (permIn_mono _ _ _ _ _ _ (Nat.zero_le _) hb (by rw [HSZ2.out]; exact Nat.le_refl _) hp3.out))
              have HB3 := Lib.hid (HB2.out.mer (by rw [HSZ2.out]; exact Nat.le_refl _) HDV.out hb hp3.out ho3.out)
              have HDV3 := Lib.hid (Nat.dvd_add HDV.out (Nat.dvd_refl (2 * s)))
              clear h3 hs3 hp3 ho3 S2 HCALL HP2 HB2 HSZ2
              go_wp2_with fail
              go_roundw
              case rel => exact ⟨a + 2 * s, d3, by first | rfl | go_num | (congr 1; omega), by first | rfl | go_num | (congr 1; omega), hb, HDV3, HSZ3, S3, HP3, HB3⟩
              case measure => simp [intOf]; omega
            · have hb1 : ¬ (a : Int) + 2 * (s : Int) ≤ (N : Int) := by omega
              by_cases hm : a + s < N
              · have hm1 : (a : Int) + (s : Int) < (N : Int) := by omega
                have HCALL := Lib.hid (HSY.out N a (a + s) N d2 wr (by omega) (by omega) hm (Nat.le_refl _) HSZ2.out S2.out (HB2.out.merTwo HDV.out (by omega) (Nat.le_refl _) (by omega) (by omega)))
                have ecast : ((a + s : Nat) : Int) = (a : Int) + (s : Int) := by omega
                rw [ecast] at HCALL
                go_wp2_with fail
                refine HCALL.out.mono ?_
                intro e w3 h3
                obtain ⟨rfl, d3, hs3, S3, hp3, ho3⟩ := h3.of
                have HSZ3 := Lib.hid (hs3.trans HSZ2.out)
                have HP3 := Lib.hid (permIn_trans _ _ _ _ _ HP2.out (permIn_mono _ _ _ _ _ _ (Nat.zero_le _) (Nat.le_refl _) (by rw [HSZ2.out]; exact Nat.le_refl _) hp3.out))
                have HB3 := Lib.hid (HB2.out.merLast (by rw [HSZ2.out]; exact Nat.le_refl _) HDV.out (by omega) haN hp3.out ho3.out)
                clear h3 hs3 hp3 ho3 S2 HCALL HP2 HB2 HSZ2
                go_wp2_with fail
                go_roundw
                case rel => exact ⟨2 * s, d3, by first | rfl | go_num | (congr 1; omega), by omega, by omega, HSZ3, S3, HP3, HB3⟩
                case measure => simp [intOf]; omega
              · have hm1 : ¬ (a : Int) + (s : Int) < (N : Int) := by omega
                have HB3 := Lib.hid (HB2.out.merNone (by rw [HSZ2.out]; exact Nat.le_refl _) HDV.out (by omega) (by omega) haN)
                clear HB2
                go_wp2_with fail
                go_roundw
                case rel => exact ⟨2 * s, d2, by first | rfl | go_num | (congr 1; omega), by omega, by omega, HSZ2, S2, HP2, HB3⟩
                case measure => simp [intOf]; omega
        · have hsN1 : ¬ (s : Int) < (N : Int) := by omega
          have HF := Lib.hid (show Merged T enc zz w blk off 0 N d (.returned (.tuple #[])) wr from ⟨rfl, d2, HSZ2.out.trans HN.out, S2.out, HP2.out, HB2.out.done (by omega)⟩)
          clear S2 HP2 HB2
          go_wp2_with fail
          go_end0
          exact HF.out
end Go.Proofs.Ytdgnengfcabgjaa
