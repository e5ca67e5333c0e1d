/-
  The law's own question whether a type is small; schema.Scalar.
  valid: kindOf, between, ranged, fits.
  valid: more.
-/
import Derived.Test.YtlemlgllkcgigaaGreatDoorD05
import Derived.Test.YtlemlgllkcgigaaGreatDoorD03
import Derived.Test.YtlemlgllkcgigaaGreatDoorD01
import Derived.Test.YtlemlgllkcgigaaGreatDoorD07
import Derived.Deep.RegionHeld3
namespace Go.Proofs.YtlemlgllkcgigaaGreatDoor
open Go.RowKit

def scalarB (t : T) : Bool := decide (4 ≤ t.kind) && decide (t.kind ≤ 7)
/-- No part is greater than can be gone over. -/
def partP (t : T) : Bool := decide (t.fields.length ≤ 60) && (decide (t.of.length ≤ 60) && (decide (t.names.length ≤ 60) && (decide (∀ (i : Nat) (h : i < t.names.length), (t.names[i]).size ≤ 300) && decide (∀ (i : Nat) (h : i < t.fields.length), (t.fields[i]).name.size ≤ 100))))
theorem partP_iff (t : T) : partP t = true ↔ t.fields.length ≤ 60 ∧ t.of.length ≤ 60 ∧ t.names.length ≤ 60 ∧ (∀ (i : Nat) (h : i < t.names.length), (t.names[i]).size ≤ 300) ∧ (∀ (i : Nat) (h : i < t.fields.length), (t.fields[i]).name.size ≤ 100) := by
  simp only [partP, Bool.and_eq_true, decide_eq_true_eq]
mutual
def allP : T → Bool
  | .mk k lo hi ns f l => partP (.mk k lo hi ns f l) && (allPF f && allPL l)
def allPF : List F → Bool
  | [] => true
  | f :: r => allPF1 f && allPF r
def allPF1 : F → Bool
  | .mk _ _ t => allP t
def allPL : List T → Bool
  | [] => true
  | t :: r => allP t && allPL r
end
theorem allPL_append : ∀ a b : List T, allPL (a ++ b) = (allPL a && allPL b)
  | [], b => by simp [allPL]
  | t :: r, b => by simp [allPL, allPL_append r b, Bool.and_assoc]
theorem allPF1_eq (f : F) : allPF1 f = allP f.type := by obtain ⟨_, _, _⟩ := f; rfl
theorem allPF_eq : ∀ l : List F, allPF l = allPL (l.map F.type)
  | [] => rfl
  | f :: r => by simp only [allPF, List.map_cons, allPL, allPF_eq r, allPF1_eq]
theorem allP_eq (t : T) : allP t = (partP t && allPL t.kids) := by
  obtain ⟨_, _, _, _, _, _⟩ := t
  simp only [allP, T.kids, T.fields, T.of, allPL_append, allPF_eq]
theorem allPL_at : ∀ {l : List T}, allPL l = true → ∀ {i : Nat} (h : i < l.length), allP l[i] = true
  | [], _, i, h => by simp at h
  | d :: r, hp, 0, _ => by simp only [allPL, Bool.and_eq_true] at hp; exact hp.1
  | d :: r, hp, i + 1, h => by simp only [allPL, Bool.and_eq_true] at hp; exact allPL_at hp.2 (by simpa using h)
theorem allPL_all : ∀ {l : List T}, (∀ (i : Nat) (h : i < l.length), allP l[i] = true) → allPL l = true
  | [], _ => by simp [allPL]
  | d :: r, hp => by
    simp only [allPL, Bool.and_eq_true]
    exact ⟨hp 0 (by simp), allPL_all fun i h => hp (i + 1) (by simpa using h)⟩
def okFew (t : T) (dp : Nat) : Prop := t.depth ≤ dp ∧ t.size ≤ 199 ∧ allP t = true
instance (t : T) (dp : Nat) : Decidable (okFew t dp) := by unfold okFew; infer_instance
def t_fewV (t : T) (dp : Nat) : Int := if okFew t dp then 200 - t.size else 0
def t_fewB (t : T) : Bool := decide (okFew t 20)
theorem t_fewV_ok {t : T} {dp : Nat} (h : okFew t dp) : t_fewV t dp = 200 - t.size := if_pos h
theorem t_fewV_bad {t : T} {dp : Nat} (h : ¬ okFew t dp) : t_fewV t dp = 0 := if_neg h
mutual
theorem fit_of_allP : ∀ t : T, allP t = true → t.Fit
  | .mk k lo hi ns f l, h => by
    simp only [allP, Bool.and_eq_true] at h
    obtain ⟨hp, hf, hl⟩ := h
    rw [partP_iff] at hp
    simp only [T.fields, T.of, T.names] at hp
    simp only [T.Fit]
    refine ⟨by omega, by omega, by omega, fun k hk => ?_, fit_of_allPF f hf hp.2.2.2.2, fit_of_allPL l hl⟩
    obtain ⟨i, hi, rfl⟩ := List.mem_iff_getElem.1 hk
    have := hp.2.2.2.1 i hi
    omega
theorem fit_of_allPF : ∀ l : List F, allPF l = true → (∀ (i : Nat) (h : i < l.length), (l[i]).name.size ≤ 100) → T.FitsF l
  | [], _, _ => by simp [T.FitsF]
  | f :: r, h, hn => by
    simp only [allPF, Bool.and_eq_true] at h
    simp only [T.FitsF]
    exact ⟨fit_of_allPF1 f h.1 (hn 0 (by simp)), fit_of_allPF r h.2 fun i hi => hn (i + 1) (by simpa using hi)⟩
theorem fit_of_allPF1 : ∀ f : F, allPF1 f = true → f.name.size ≤ 100 → T.FitF f
  | .mk n o t, h, hn => by
    simp only [allPF1] at h
    simp only [T.FitF]
    exact ⟨by simp only [F.name] at hn; omega, fit_of_allP t h⟩
theorem fit_of_allPL : ∀ l : List T, allPL l = true → T.Fits l
  | [], _ => by simp [T.Fits]
  | t :: r, h => by
    simp only [allPL, Bool.and_eq_true] at h
    simp only [T.Fits]
    exact ⟨fit_of_allP t h.1, fit_of_allPL r h.2⟩
end
theorem kids_len (t : T) : t.kids.length = t.fields.length + t.of.length := by simp [T.kids]
theorem kids_field {t : T} {j : Nat} (h : j < t.fields.length) : t.kids[j]'(by rw [kids_len]; omega) = (t.fields[j]).type := by
  unfold T.kids
  rw [List.getElem_append_left (by simpa using h), List.getElem_map]
theorem kids_of {t : T} {j : Nat} (h1 : t.fields.length ≤ j) (h2 : j - t.fields.length < t.of.length) : t.kids[j]'(by rw [kids_len]; omega) = t.of[j - t.fields.length] := by
  unfold T.kids
  rw [List.getElem_append_right (by simpa using h1)]
  simp
theorem okFew_kids {t : T} {dp : Nat} (hp : partP t = true) (h : ∀ (j : Nat) (h : j < t.kids.length), okFew t.kids[j] (dp - 1)) (hs : t.size ≤ 199) (hd : 0 < dp) : okFew t dp := by
  refine ⟨?_, hs, by rw [allP_eq, hp, allPL_all fun i hi => (h i hi).2.2]; rfl⟩
  rw [kids_depths]
  have := T.depths_le (l := t.kids) (m := dp - 1) fun i hi => (h i hi).1
  omega
theorem okFew_kid {t : T} {dp : Nat} (h : okFew t dp) {j : Nat} (hj : j < t.kids.length) : okFew t.kids[j] (dp - 1) := by
  obtain ⟨h1, h2, h3⟩ := h
  rw [allP_eq, Bool.and_eq_true] at h3
  have := kid_small (List.getElem_mem hj : t.kids[j] ∈ t.kids)
  exact ⟨by omega, by omega, allPL_at h3.2 hj⟩
set_option maxHeartbeats 8000000 in
set_option maxRecDepth 100000 in
theorem t_few_any (m : Nat) : ∀ (t : T) (v : Value) (dp : Nat) (w : World) (B : Nat), t.depth ≤ m → dp ≤ 100 → B ≤ w.heap.size → TypeV w B t v →
    Calls Tryz.prog 66 #[v, .int .i64 (dp : Int)] w fun e w' => e = .returned (.int .i64 (t_fewV t dp)) ∧ Below w.heap.size w w' := by
  induction m with
  | zero => intro t; intro _ _ _ _ h; have := t.depth_pos; omega
  | succ m ih =>
    intro t v dp w B hm hdp hB ht
    obtain ⟨v0, v1, v2, v3, v4, v5, rfl, hin⟩ := ht
    have IH := Lib.hid ih; have HIN := Lib.hid hin
    obtain ⟨A3, d3, A4, d4, A5, d5, rfl, rfl, rfl, rfl, rfl, rfl⟩ := hin.forms
    have HNV := Lib.hid hin.names_; have HFV := Lib.hid hin.fields_; have HOV := Lib.hid hin.of_
    clear ih hin
    have hkl := kids_len t
    have hsz := kids_sizes t
    have hls := T.len_le_sizes t.kids
    by_cases hd0 : dp = 0
    · have E := Lib.hid (t_fewV_bad (t := t) (dp := dp) (fun h => by have := h.1; have := t.depth_pos; omega))
      subst hd0
      show Calls _ _ #[_, .int .i64 0] _ _
      go_enter Tryz.func66, Tryz.ntmps66
      go_wp2_with fail
      go_ret
      exact ⟨ret_int E.out.symm, (Below.refl _ _).alloc (Nat.le_refl _) _⟩
    have g0 : decide ((dp : Int) ≤ 0) = false := decide_eq_false (by omega)
    by_cases hf : t.fields.length ≤ 60
    rotate_left
    · have E := Lib.hid (t_fewV_bad (t := t) (dp := dp) (fun h => by have := h.2.2; rw [allP_eq, Bool.and_eq_true, partP_iff] at this; exact hf this.1.1))
      have g1 : (60 : Int) < (t.fields.length : Int) := by omega
      clear hf
      go_enter Tryz.func66, Tryz.ntmps66
      go_wp2_with fail
      go_ret
      exact ⟨ret_int E.out.symm, (Below.refl _ _).alloc (Nat.le_refl _) _⟩
    by_cases ho : t.of.length ≤ 60
    rotate_left
    · have E := Lib.hid (t_fewV_bad (t := t) (dp := dp) (fun h => by have := h.2.2; rw [allP_eq, Bool.and_eq_true, partP_iff] at this; exact ho this.1.2.1))
      have g1 : (t.fields.length : Int) ≤ 60 := by omega
      have g2 : (60 : Int) < (t.of.length : Int) := by omega
      clear hf ho
      go_enter Tryz.func66, Tryz.ntmps66
      go_wp2_with fail
      go_ret
      exact ⟨ret_int E.out.symm, (Below.refl _ _).alloc (Nat.le_refl _) _⟩
    by_cases hn : t.names.length ≤ 60
    rotate_left
    · have E := Lib.hid (t_fewV_bad (t := t) (dp := dp) (fun h => by have := h.2.2; rw [allP_eq, Bool.and_eq_true, partP_iff] at this; exact hn this.1.2.2.1))
      have g1 : (t.fields.length : Int) ≤ 60 := by omega
      have g2 : (t.of.length : Int) ≤ 60 := by omega
      have g3 : (60 : Int) < (t.names.length : Int) := by omega
      clear hf ho hn
      go_enter Tryz.func66, Tryz.ntmps66
      go_wp2_with fail
      go_ret
      exact ⟨ret_int E.out.symm, (Below.refl _ _).alloc (Nat.le_refl _) _⟩
    have g1 : decide ((60 : Int) < (t.fields.length : Int)) = false := decide_eq_false (by omega)
    have g2 : decide ((60 : Int) < (t.of.length : Int)) = false := decide_eq_false (by omega)
    have g3 : decide ((60 : Int) < (t.names.length : Int)) = false := decide_eq_false (by omega)
    go_enter Tryz.func66, Tryz.ntmps66
    go_wp2_with fail
    obtain ⟨W2, hW2⟩ : ∃ W2, W2 = w.alloc (.cells #[.int .i64 t.kind, .int .i64 t.lo, .int .i64 t.hi, .slice A3 t.names.length d3, .slice A4 t.fields.length d4, .slice A5 t.of.length d5] 26) := ⟨_, rfl⟩
    have HBX : Hid (Box6 W2 w.heap.size (.int .i64 t.kind) (.int .i64 t.lo) (.int .i64 t.hi) (.slice A3 t.names.length d3) (.slice A4 t.fields.length d4) (.slice A5 t.of.length d5)) := by rw [hW2]; exact Box6.new w _ _ _ _ _ _
    have HBL : Hid (Below w.heap.size w W2) := by rw [hW2]; exact (Below.refl _ _).alloc (Nat.le_refl _) _
    rw [← hW2]
    clear hW2
    obtain ⟨q0, q1, q2, q3, q4, q5⟩ := HBX.out.cells
    go_loop [5] (fun i => ∃ k : Nat, k ≤ t.names.length ∧ i = .int .i64 k ∧ ∀ (j : Nat) (h : j < t.names.length), j < k → (t.names[j]).size ≤ 300) (fun i => t.names.length - (intOf i).toNat)
    case atStart => exact ⟨0, Nat.zero_le _, rfl, fun j _ hj => absurd hj (by omega)⟩
    case round =>
      obtain ⟨k, hk, rfl, hall⟩ := hrel
      have HALL := Lib.hid hall
      clear hall
      by_cases hlt : k < t.names.length
      · obtain ⟨A, cc, e, _, hc⟩ := HNV.out
        injection e with e1 _ e3
        subst e1
        obtain ⟨b, off, rfl, hb, hc⟩ := hc (by omega)
        have gk := (HBL.out.cell (p := ⟨b, off + k, none⟩) (by show b < _; omega)).trans (hc k hlt)
        have hk0 : (0 : Int) ≤ (k : Int) := by omega
        have hk1 : (k : Int) < (t.names.length : Int) := by omega
        clear hc e3
        by_cases hbig : (t.names[k]).size ≤ 300
        · have hbig2 : ((t.names[k]).size : Int) ≤ 300 := by omega
          go_wp2_with fail
          go_round
          case rel => exact ⟨k + 1, by omega, by go_num, fun j h hj => by
            rcases Nat.lt_or_ge j k with h1 | h1
            · exact HALL.out j h h1
            · obtain rfl : j = k := by omega
              exact hbig⟩
          case measure => simp [intOf]; omega
        · have E := Lib.hid (t_fewV_bad (t := t) (dp := dp) (fun h => by have := h.2.2; rw [allP_eq, Bool.and_eq_true, partP_iff] at this; exact hbig (this.1.2.2.2.1 k hlt)))
          have hbig2 : (300 : Int) < ((t.names[k]).size : Int) := by omega
          clear hbig
          go_wp2_with fail
          go_ret
          exact ⟨ret_int E.out.symm, HBL.out⟩
      · have HN := Lib.hid (fun (j : Nat) (h : j < t.names.length) => HALL.out j h (by omega))
        clear HALL
        go_wp2_with fail
        clear hlt
        go_loop [6] (fun i => ∃ k : Nat, k ≤ t.fields.length ∧ i = .int .i64 k ∧ ∀ (j : Nat) (h : j < t.fields.length), j < k → (t.fields[j]).name.size ≤ 100) (fun i => t.fields.length - (intOf i).toNat)
        case atStart => exact ⟨0, Nat.zero_le _, rfl, fun j _ hj => absurd hj (by omega)⟩
        case round =>
          obtain ⟨k, hk, rfl, hall⟩ := hrel
          have HALL := Lib.hid hall
          clear hall
          by_cases hlt : k < t.fields.length
          · obtain ⟨A, cc, e, _, hc⟩ := HFV.out
            injection e with e1 _ e3
            subst e1
            obtain ⟨b, off, rfl, hb, hc⟩ := hc (by omega)
            have hat := (FieldsIn.at_ hc k hlt).1
            rw [Nat.zero_add] at hat
            have gk := (HBL.out.cell (p := ⟨b, off + k * 8, none⟩) (by show b < _; omega)).trans hat
            have hk0 : (0 : Int) ≤ (k : Int) := by omega
            have hk1 : (k : Int) < (t.fields.length : Int) := by omega
            clear hc e3 hat
            by_cases hbig : (t.fields[k]).name.size ≤ 100
            · have hbig2 : ((t.fields[k]).name.size : Int) ≤ 100 := by omega
              go_wp2_with fail
              go_round
              case rel => exact ⟨k + 1, by omega, by go_num, fun j h hj => by
                rcases Nat.lt_or_ge j k with h1 | h1
                · exact HALL.out j h h1
                · obtain rfl : j = k := by omega
                  exact hbig⟩
              case measure => simp [intOf]; omega
            · have E := Lib.hid (t_fewV_bad (t := t) (dp := dp) (fun h => by have := h.2.2; rw [allP_eq, Bool.and_eq_true, partP_iff] at this; exact hbig (this.1.2.2.2.2 k hlt)))
              have hbig2 : (100 : Int) < ((t.fields[k]).name.size : Int) := by omega
              clear hbig
              go_wp2_with fail
              go_ret
              exact ⟨ret_int E.out.symm, HBL.out⟩
          · have HPP := Lib.hid ((partP_iff t).2 ⟨hf, ho, hn, HN.out, fun (j : Nat) (h : j < t.fields.length) => HALL.out j h (by omega)⟩)
            clear HALL
            go_wp2_with fail
            clear hlt
            have hlw : IntKind.i64.wrap ((t.fields.length : Int) + (t.of.length : Int)) = (t.fields.length : Int) + (t.of.length : Int) := IntWalk.i64_in _ (by omega)
            go_loopw [7, 8, 9] (fun n i _ wr => ∃ (k : Nat) (N : Int), k ≤ t.kids.length ∧ i = .int .i64 k ∧ n = .int .i64 N ∧ N = 200 - (T.sizes (t.kids.take k) : Nat) ∧ 2 ≤ N ∧ (∀ (j : Nat) (h : j < t.kids.length), j < k → okFew t.kids[j] (dp - 1)) ∧ Below w.heap.size w wr ∧ Box6 wr w.heap.size (.int .i64 t.kind) (.int .i64 t.lo) (.int .i64 t.hi) (.slice A3 t.names.length d3) (.slice A4 t.fields.length d4) (.slice A5 t.of.length d5)) (fun _ i _ _ => t.kids.length - (intOf i).toNat)
            case atStart => exact ⟨0, 200, Nat.zero_le _, rfl, rfl, by simp [T.sizes], by omega, fun j _ hj => absurd hj (by omega), HBL.out, HBX.out⟩
            case round =>
              clear q0 q1 q2 q3 q4 q5
              obtain ⟨k, N, hk, rfl, rfl, hN, hn2, hall, hb, hbx⟩ := hrel
              have HN2 := Lib.hid hN
              have hN3 : N ≤ 200 := by omega
              clear hN
              have HALL := Lib.hid hall; have HB := Lib.hid hb; have HX := Lib.hid hbx
              obtain ⟨q0, q1, q2, q3, q4, q5⟩ := hbx.cells
              have hzr := hb.size
              clear hall
              by_cases hlt : k < t.kids.length
              · have hcond : decide ((k : Int) < (t.fields.length : Int) + (t.of.length : Int)) = true := decide_eq_true (by omega)
                have hts := T.sizes_take_succ t.kids k hlt
                have HTS := Lib.hid hts
                clear hts hcond
                have hdk := (kid_small (List.getElem_mem hlt)).1
                have hkp := (t.kids[k]).size_pos
                have hdp1 : (dp : Int) - 1 = ((dp - 1 : Nat) : Int) := by omega
                have HDP := Lib.hid hdp1
                have hwd : IntKind.i64.wrap ((dp : Int) - 1) = (dp : Int) - 1 := IntWalk.i64_in _ (by omega)
                clear hdp1
                have hk0 : (0 : Int) ≤ (k : Int) := by omega
                by_cases hfl : k < t.fields.length
                · have hfl2 : (k : Int) < (t.fields.length : Int) := by omega
                  have hsum : (k : Int) < (t.fields.length : Int) + (t.of.length : Int) := by omega
                  obtain ⟨A, cc, e, _, hc⟩ := HFV.out
                  injection e with e1 _ e3
                  subst e1
                  obtain ⟨b, off, rfl, hbb, hc⟩ := hc (by omega)
                  have hat := (FieldsIn.at_ hc k hfl).2.2
                  rw [Nat.zero_add] at hat
                  have kp : ∀ p : Addr, p.block < B → wr.cell? p = w.cell? p := fun p hp => hb.cell (by omega)
                  obtain ⟨u0, u1, u2, u3, u4, u5, s0, s1, s2, s3, s4, s5, hi⟩ := hat.keep (Nat.le_refl _) kp hbb
                  have HI := Lib.hid hi
                  obtain ⟨X3, b3, X4, b4, X5, b5, rfl, rfl, rfl, rfl, rfl, rfl⟩ := hi.forms
                  have hkf := kids_field hfl
                  have HKF := Lib.hid hkf
                  have hdk2 : (t.fields[k]).type.depth < t.depth := by rw [← hkf]; exact hdk
                  clear hc e3 hat kp hi hkf hdk
                  go_wp2_with fail
                  rw [HDP.out]
                  refine (IH.out (t.fields[k]).type _ (dp - 1) wr B (by omega) (by omega) (by omega) ⟨_, _, _, _, _, _, rfl, HI.out⟩).mono ?_
                  rintro e w2 ⟨rfl, hb2⟩
                  have HB2 : Hid (Below w.heap.size w w2) := HB.out.trans (hb2.mono hzr)
                  have HX2 := Lib.hid (HX.out.same (hb2.block _ HX.out.lt))
                  clear hb2 hb hbx
                  by_cases hok : okFew (t.fields[k]'hfl).type (dp - 1)
                  · rw [t_fewV_ok hok]
                    have hok' : okFew t.kids[k] (dp - 1) := by rw [HKF.out]; exact hok
                    have hsk : (t.fields[k]'hfl).type.size ≤ 199 := hok.2.1
                    have hsp := (t.fields[k]'hfl).type.size_pos
                    have HKS : Hid (t.kids[k].size = (t.fields[k]'hfl).type.size) := by show t.kids[k].size = _; rw [HKF.out]
                    have HOK := Lib.hid hok'
                    obtain ⟨M, hM⟩ : ∃ M : Int, M = 200 - ((t.fields[k]'hfl).type.size : Nat) := ⟨_, rfl⟩
                    rw [← hM]
                    have HM := Lib.hid hM
                    have hM1 : 1 ≤ M := by omega
                    have hM2 : M ≤ 199 := by omega
                    have hM0 : (M == 0) = false := by rw [beq_eq_false_iff_ne]; omega
                    have hw1 : IntKind.i64.wrap (N - 200) = N - 200 := IntWalk.i64_in _ (by omega)
                    have hw2 : IntKind.i64.wrap (N - 200 + M) = N - 200 + M := IntWalk.i64_in _ (by omega)
                    clear hM hok hok' hsk hsp
                    by_cases hbig : N - 200 + M ≤ 1
                    · have E := Lib.hid (t_fewV_bad (t := t) (dp := dp) (fun h => by have := h.2.1; have := HTS.out; have := HKS.out; have := HM.out; have := HN2.out; have := T.sizes_take_le t.kids (k + 1); omega))
                      clear q0 q1 q2 q3 q4 q5
                      obtain ⟨q0, q1, q2, q3, q4, q5⟩ := HX2.out.cells
                      go_wp2_with fail
                      go_ret
                      exact ⟨ret_int E.out.symm, HB2.out⟩
                    · clear q0 q1 q2 q3 q4 q5
                      obtain ⟨q0, q1, q2, q3, q4, q5⟩ := HX2.out.cells
                      go_wp2_with fail
                      go_roundw
                      case rel => exact ⟨k + 1, N - 200 + M, by omega, by go_num, rfl, by have := HTS.out; have := HKS.out; have := HM.out; have := HN2.out; omega, by omega, fun j h hj => by
                        rcases Nat.lt_or_ge j k with h1 | h1
                        · exact HALL.out j h h1
                        · obtain rfl : j = k := by omega
                          exact HOK.out, HB2.out, HX2.out⟩
                      case measure => simp [intOf]; omega
                  · rw [t_fewV_bad hok]
                    have E := Lib.hid (t_fewV_bad (t := t) (dp := dp) (fun h => hok (by have := okFew_kid h hlt; rw [HKF.out] at this; exact this)))
                    clear hok q0 q1 q2 q3 q4 q5
                    obtain ⟨q0, q1, q2, q3, q4, q5⟩ := HX2.out.cells
                    go_wp2_with fail
                    go_ret
                    exact ⟨ret_int E.out.symm, HB2.out⟩
                · have hfl2 : ¬ (k : Int) < (t.fields.length : Int) := by omega
                  have hsum : (k : Int) < (t.fields.length : Int) + (t.of.length : Int) := by omega
                  have hix : k - t.fields.length < t.of.length := by clear hlw hwd; omega
                  have hsub : (k : Int) - (t.fields.length : Int) = ((k - t.fields.length : Nat) : Int) := by clear hlw hwd; omega
                  have HSUB := Lib.hid hsub
                  have hsn : ((k : Int) - (t.fields.length : Int)).toNat = k - t.fields.length := by clear hlw hwd; omega
                  have hs0 : (0 : Int) ≤ (k : Int) - (t.fields.length : Int) := by clear hlw hwd; omega
                  have hs9 : (k : Int) - (t.fields.length : Int) < (t.of.length : Int) := by clear hlw hwd; omega
                  obtain ⟨A, cc, e, _, hc⟩ := HOV.out
                  injection e with e1 _ e3
                  subst e1
                  obtain ⟨b, off, rfl, hbb, hc⟩ := hc (by omega)
                  have hat := TypesIn.at_ hc (k - t.fields.length) hix
                  rw [Nat.zero_add] at hat
                  have kp : ∀ p : Addr, p.block < B → wr.cell? p = w.cell? p := fun p hp => hb.cell (by omega)
                  obtain ⟨u0, u1, u2, u3, u4, u5, s0, s1, s2, s3, s4, s5, hi⟩ := hat.keep (Nat.le_refl _) kp hbb
                  have HI := Lib.hid hi
                  obtain ⟨X3, b3, X4, b4, X5, b5, rfl, rfl, rfl, rfl, rfl, rfl⟩ := hi.forms
                  have hkf := kids_of (t := t) (j := k) (Nat.le_of_not_lt hfl) hix
                  have HKF := Lib.hid hkf
                  have hdk2 : (t.of[k - t.fields.length]).depth < t.depth := by rw [← hkf]; exact hdk
                  have hsw : IntKind.i64.wrap ((k : Int) - (t.fields.length : Int)) = (k : Int) - (t.fields.length : Int) := IntWalk.i64_in _ (by omega)
                  clear hc e3 hat kp hi hkf hdk
                  clear hsub
                  go_wp2_with fail
                  rw [HDP.out]
                  refine (IH.out (t.of[k - t.fields.length]) _ (dp - 1) wr B (by omega) (by omega) (by omega) ⟨_, _, _, _, _, _, rfl, HI.out⟩).mono ?_
                  rintro e w2 ⟨rfl, hb2⟩
                  have HB2 : Hid (Below w.heap.size w w2) := HB.out.trans (hb2.mono hzr)
                  have HX2 := Lib.hid (HX.out.same (hb2.block _ HX.out.lt))
                  clear hb2 hb hbx
                  by_cases hok : okFew (t.of[k - t.fields.length]'hix) (dp - 1)
                  · rw [t_fewV_ok hok]
                    have hok' : okFew t.kids[k] (dp - 1) := by rw [HKF.out]; exact hok
                    have hsk : (t.of[k - t.fields.length]'hix).size ≤ 199 := hok.2.1
                    have hsp := (t.of[k - t.fields.length]'hix).size_pos
                    have HKS : Hid (t.kids[k].size = (t.of[k - t.fields.length]'hix).size) := by show t.kids[k].size = _; rw [HKF.out]
                    have HOK := Lib.hid hok'
                    obtain ⟨M, hM⟩ : ∃ M : Int, M = 200 - ((t.of[k - t.fields.length]'hix).size : Nat) := ⟨_, rfl⟩
                    rw [← hM]
                    have HM := Lib.hid hM
                    have hM1 : 1 ≤ M := by omega
                    have hM2 : M ≤ 199 := by omega
                    have hM0 : (M == 0) = false := by rw [beq_eq_false_iff_ne]; omega
                    have hw1 : IntKind.i64.wrap (N - 200) = N - 200 := IntWalk.i64_in _ (by omega)
                    have hw2 : IntKind.i64.wrap (N - 200 + M) = N - 200 + M := IntWalk.i64_in _ (by omega)
                    clear hM hok hok' hsk hsp
                    by_cases hbig : N - 200 + M ≤ 1
                    · have E := Lib.hid (t_fewV_bad (t := t) (dp := dp) (fun h => by have := h.2.1; have := HTS.out; have := HKS.out; have := HM.out; have := HN2.out; have := T.sizes_take_le t.kids (k + 1); omega))
                      clear q0 q1 q2 q3 q4 q5
                      obtain ⟨q0, q1, q2, q3, q4, q5⟩ := HX2.out.cells
                      go_wp2_with fail
                      go_ret
                      exact ⟨ret_int E.out.symm, HB2.out⟩
                    · clear q0 q1 q2 q3 q4 q5
                      obtain ⟨q0, q1, q2, q3, q4, q5⟩ := HX2.out.cells
                      go_wp2_with fail
                      go_roundw
                      case rel => exact ⟨k + 1, N - 200 + M, by omega, by go_num, rfl, by have := HTS.out; have := HKS.out; have := HM.out; have := HN2.out; omega, by omega, fun j h hj => by
                        rcases Nat.lt_or_ge j k with h1 | h1
                        · exact HALL.out j h h1
                        · obtain rfl : j = k := by omega
                          exact HOK.out, HB2.out, HX2.out⟩
                      case measure => simp [intOf]; omega
                  · rw [t_fewV_bad hok]
                    have E := Lib.hid (t_fewV_bad (t := t) (dp := dp) (fun h => hok (by have := okFew_kid h hlt; rw [HKF.out] at this; exact this)))
                    clear hok q0 q1 q2 q3 q4 q5
                    obtain ⟨q0, q1, q2, q3, q4, q5⟩ := HX2.out.cells
                    go_wp2_with fail
                    go_ret
                    exact ⟨ret_int E.out.symm, HB2.out⟩
              · have hsz9 : T.sizes (t.kids.take k) = T.sizes t.kids := by rw [List.take_of_length_le (by omega)]
                have E := Lib.hid (t_fewV_ok (okFew_kids (dp := dp) HPP.out (fun j h => HALL.out j h (by omega)) (by have := HN2.out; omega) (by omega)))
                have hcond : ¬ (k : Int) < (t.fields.length : Int) + (t.of.length : Int) := by omega
                have hw1 : IntKind.i64.wrap (N - 1) = N - 1 := IntWalk.i64_in _ (by omega)
                clear hb hbx
                go_wp2_with fail
                go_ret
                exact ⟨ret_int (by rw [E.out]; have := HN2.out; omega), HB.out⟩
set_option maxRecDepth 100000 in
theorem t_few_v {t : T} {v : Value} {w : World} {B : Nat} (hB : B ≤ w.heap.size) (ht : TypeV w B t v) : Calls Tryz.prog 38 #[v] w fun e w' => e = .returned (.bool (t_fewB t)) ∧ Below w.heap.size w w' := by
  have HT := Lib.hid ht
  obtain ⟨v0, v1, v2, v3, v4, v5, rfl, hin⟩ := ht
  obtain ⟨A3, d3, A4, d4, A5, d5, rfl, rfl, rfl, rfl, rfl, rfl⟩ := hin.forms
  clear hin
  go_enter Tryz.func38, Tryz.ntmps38
  go_wp2_with fail
  refine (t_few_any t.depth t _ 20 _ B (Nat.le_refl _) (by omega) (by simp; omega) (HT.out.keep (Nat.le_refl _) fun p hp => World.cell?_alloc_lt w _ p (by omega))).mono ?_
  rintro e w1 ⟨rfl, hb1⟩
  have HB1 : Hid (Below w.heap.size w w1) := ((Below.refl _ _).alloc (Nat.le_refl _) _).trans (hb1.mono (by simp))
  clear hb1
  by_cases hok : okFew t 20
  · have E := Lib.hid (show t_fewB t = true from decide_eq_true hok)
    rw [t_fewV_ok hok]
    have h0 : (0 : Int) < 200 - (t.size : Nat) := by have := hok.2.1; omega
    clear hok
    go_wp2_with fail
    go_ret
    exact ⟨ret_bool (by rw [E.out]; simp; omega), HB1.out⟩
  · have E := Lib.hid (show t_fewB t = false from decide_eq_false hok)
    rw [t_fewV_bad hok]
    clear hok
    go_wp2_with fail
    go_ret
    exact ⟨ret_bool E.out.symm, HB1.out⟩
end Go.Proofs.YtlemlgllkcgigaaGreatDoor
namespace Go.Proofs.YtlemlgllkcgigaaGreatDoor
open Go.RowKit

/-- The variables of a type and of a document. -/
structure TD (w0 w : World) (B : Nat) (t : T) (d : D) (v0 v1 v2 v3 v4 v5 u0 u1 u2 u3 u4 : Value) : Prop where
  bt : Box6 w w0.heap.size v0 v1 v2 v3 v4 v5
  bd : Box5 w (w0.heap.size + 1) u0 u1 u2 u3 u4
  tin : TypeIn w0 B t v0 v1 v2 v3 v4 v5
  din : DocIn w0 B d u0 u1 u2 u3 u4
  bl : Below w0.heap.size w0 w
  sz : w0.heap.size + 2 ≤ w.heap.size
  hB : B ≤ w0.heap.size
section
variable {w0 w w' : World} {B : Nat} {t : T} {d : D} {v0 v1 v2 v3 v4 v5 u0 u1 u2 u3 u4 : Value}
theorem TD.start (hB : B ≤ w0.heap.size) (ht : TypeIn w0 B t v0 v1 v2 v3 v4 v5) (hd : DocIn w0 B d u0 u1 u2 u3 u4) :
    TD w0 ((w0.alloc (.cells #[v0, v1, v2, v3, v4, v5] 26)).alloc (.cells #[u0, u1, u2, u3, u4] 29)) B t d v0 v1 v2 v3 v4 v5 u0 u1 u2 u3 u4 :=
  ⟨(Box6.new w0 _ _ _ _ _ _).alloc _, Box5.new' (by simp) _ _ _ _ _, ht, hd, ((Below.refl _ _).alloc (Nat.le_refl _) _).alloc (by simp) _, by simp, hB⟩
theorem TD.next (h : TD w0 w B t d v0 v1 v2 v3 v4 v5 u0 u1 u2 u3 u4) (hb : Below (w0.heap.size + 2) w w') : TD w0 w' B t d v0 v1 v2 v3 v4 v5 u0 u1 u2 u3 u4 :=
  ⟨h.bt.same (hb.block _ (by omega)), h.bd.same (hb.block _ (by omega)), h.tin, h.din, h.bl.trans (hb.mono (by omega)), by have := h.sz; have := hb.size; omega, h.hB⟩
theorem TD.tv (h : TD w0 w B t d v0 v1 v2 v3 v4 v5 u0 u1 u2 u3 u4) : TypeV w B t (.agg #[v0, v1, v2, v3, v4, v5]) := ⟨_, _, _, _, _, _, rfl, h.tin.keep (Nat.le_refl _) fun p hp => h.bl.cell (p := p) (by have := h.hB; omega)⟩
theorem TD.dv (h : TD w0 w B t d v0 v1 v2 v3 v4 v5 u0 u1 u2 u3 u4) : DocV w B d (.agg #[u0, u1, u2, u3, u4]) := ⟨_, _, _, _, _, rfl, h.din.keep (Nat.le_refl _) fun p hp => h.bl.cell (p := p) (by have := h.hB; omega)⟩
theorem TD.le (h : TD w0 w B t d v0 v1 v2 v3 v4 v5 u0 u1 u2 u3 u4) : B ≤ w.heap.size := by have := h.sz; have := h.hB; omega
end
def kindV (t : T) : Int := if t.kind = 1 then 1 else if t.kind = 2 then 2 else if t.kind = 3 then 3 else if t.kind = 4 then 4 else if t.kind = 5 then 5 else 6
set_option maxHeartbeats 2000000 in
set_option maxRecDepth 100000 in
theorem kindOf_any {t : T} {v : Value} {w : World} {B : Nat} (ht : TypeV w B t v) :
    Calls Tryz.prog 75 #[v] w fun e w' => e = .returned (.int .i64 (kindV t)) ∧ Below w.heap.size w w' := by
  obtain ⟨v0, v1, v2, v3, v4, v5, rfl, hd⟩ := ht
  obtain ⟨A3, c3, A4, c4, A5, c5, rfl, rfl, rfl, rfl, rfl, rfl⟩ := hd.forms
  clear hd
  have e : kindV t = if t.kind = 1 then 1 else if t.kind = 2 then 2 else if t.kind = 3 then 3 else if t.kind = 4 then 4 else if t.kind = 5 then 5 else 6 := rfl
  have E := Lib.hid e; clear e
  generalize t.kind = k at *
  by_cases k1 : k = 1
  · subst k1
    go_enter Tryz.func75, Tryz.ntmps75
    go_wp2_with fail
    go_ret
    exact ⟨ret_int (by rw [E.out]; rfl), (Below.refl _ _).alloc (Nat.le_refl _) _⟩
  by_cases k2 : k = 2
  · subst k2
    go_enter Tryz.func75, Tryz.ntmps75
    go_wp2_with fail
    go_ret
    exact ⟨ret_int (by rw [E.out]; rfl), (Below.refl _ _).alloc (Nat.le_refl _) _⟩
  by_cases k3 : k = 3
  · subst k3
    go_enter Tryz.func75, Tryz.ntmps75
    go_wp2_with fail
    go_ret
    exact ⟨ret_int (by rw [E.out]; rfl), (Below.refl _ _).alloc (Nat.le_refl _) _⟩
  by_cases k4 : k = 4
  · subst k4
    go_enter Tryz.func75, Tryz.ntmps75
    go_wp2_with fail
    go_ret
    exact ⟨ret_int (by rw [E.out]; rfl), (Below.refl _ _).alloc (Nat.le_refl _) _⟩
  by_cases k5 : k = 5
  · subst k5
    go_enter Tryz.func75, Tryz.ntmps75
    go_wp2_with fail
    go_ret
    exact ⟨ret_int (by rw [E.out]; rfl), (Below.refl _ _).alloc (Nat.le_refl _) _⟩
  have E6 : Hid (kindV t = 6) := Lib.hid (by rw [E.out, if_neg k1, if_neg k2, if_neg k3, if_neg k4, if_neg k5])
  have g1 : (k == 1) = false := by simp [k1]
  have g2 : (k == 2) = false := by simp [k2]
  have g3 : (k == 3) = false := by simp [k3]
  have g4 : (k == 4) = false := by simp [k4]
  have g5 : (k == 5) = false := by simp [k5]
  clear k1 k2 k3 k4 k5 E
  go_enter Tryz.func75, Tryz.ntmps75
  go_wp2_with fail
  go_ret
  exact ⟨ret_int E6.out.symm, (Below.refl _ _).alloc (Nat.le_refl _) _⟩
def betweenB (t : T) (n : Int) : Bool := decide (t.lo ≤ n) && decide (n ≤ t.hi)
set_option maxHeartbeats 2000000 in
set_option maxRecDepth 100000 in
theorem between_any {t : T} {v : Value} {n : Int} {w : World} {B : Nat} (ht : TypeV w B t v) :
    Calls Tryz.prog 113 #[v, .int .i64 n] w fun e w' => e = .returned (.bool (betweenB t n)) ∧ Below w.heap.size w w' := by
  obtain ⟨v0, v1, v2, v3, v4, v5, rfl, hd⟩ := ht
  obtain ⟨A3, c3, A4, c4, A5, c5, rfl, rfl, rfl, rfl, rfl, rfl⟩ := hd.forms
  clear hd
  have e : betweenB t n = (decide (t.lo ≤ n) && decide (n ≤ t.hi)) := rfl
  have E := Lib.hid e; clear e
  by_cases h1 : t.lo ≤ n
  · by_cases h2 : n ≤ t.hi
    · have E2 : Hid (betweenB t n = true) := Lib.hid (by rw [E.out]; simp [h1, h2])
      go_enter Tryz.func113, Tryz.ntmps113
      go_wp2_with fail
      go_ret
      exact ⟨ret_bool E2.out.symm, (Below.refl _ _).alloc (Nat.le_refl _) _⟩
    · have E2 : Hid (betweenB t n = false) := Lib.hid (by rw [E.out]; simp [h2])
      go_enter Tryz.func113, Tryz.ntmps113
      go_wp2_with fail
      go_ret
      exact ⟨ret_bool E2.out.symm, (Below.refl _ _).alloc (Nat.le_refl _) _⟩
  · have E2 : Hid (betweenB t n = false) := Lib.hid (by rw [E.out]; simp [h1])
    go_enter Tryz.func113, Tryz.ntmps113
    go_wp2_with fail
    go_ret
    exact ⟨ret_bool E2.out.symm, (Below.refl _ _).alloc (Nat.le_refl _) _⟩

theorem contains_any (xs : List ByteArray) (v : Value) (x : ByteArray) (B : Nat) (w : World) (hv : Strs w B v xs) (hl : xs.length ≤ 10000) :
    Calls Tryz.prog 114 #[v, .string x] w fun e w' => e = .returned (.bool (Lib.containsS xs x)) ∧ w' = w := by
  obtain ⟨A, c, rfl, hc1, hc2⟩ := hv
  rcases Nat.eq_zero_or_pos xs.length with h0 | h0
  · obtain rfl : xs = [] := List.eq_nil_of_length_eq_zero h0
    exact (Tryz.slices_Contains_string_empty A c x w).mono fun e w' h => ⟨h.1, h.2⟩
  · obtain ⟨b, off, rfl, _, hc⟩ := hc2 h0
    refine (Tryz.slices_Contains_string b off xs.length c xs x w (Nat.le_refl _) (by omega) fun j hj => ?_).mono fun e w' h => ⟨by rw [h.1, List.take_length], h.2⟩
    rw [hc j hj]; simp [hj]
def rangedV (t : T) (d : D) : Bool :=
  if t.kind = 2 ∨ t.kind = 3 then betweenB t d.kids.length else if t.kind = 4 then betweenB t d.num else if t.kind = 6 then betweenB t d.str.size else if t.kind = 7 then Lib.containsS t.names d.str else true
set_option maxHeartbeats 4000000 in
set_option maxRecDepth 100000 in
theorem ranged_any {t : T} {d : D} {v u : Value} {w : World} {B : Nat} (hf : t.Fit) (hfd : d.Fit) (hB : B ≤ w.heap.size) (ht : TypeV w B t v) (hd : DocV w B d u) :
    Calls Tryz.prog 76 #[v, u] w fun e w' => e = .returned (.bool (rangedV t d)) ∧ Below w.heap.size w w' := by
  obtain ⟨v0, v1, v2, v3, v4, v5, rfl, ht⟩ := ht
  obtain ⟨u0, u1, u2, u3, u4, rfl, hd⟩ := hd
  have hns := ht.names_
  have ST := Lib.hid (TD.start hB ht hd)
  obtain ⟨A3, c3, A4, c4, A5, c5, rfl, rfl, rfl, rfl, rfl, rfl⟩ := ht.forms
  obtain ⟨B3, d3, B4, d4, rfl, rfl, rfl, rfl, rfl⟩ := hd.forms
  have hnl := hf.parts.1
  have hkl := hfd.kids
  have hsl := hfd.str
  clear ht hd hf hfd
  have e : rangedV t d = if t.kind = 2 ∨ t.kind = 3 then betweenB t d.kids.length else if t.kind = 4 then betweenB t d.num else if t.kind = 6 then betweenB t d.str.size else if t.kind = 7 then Lib.containsS t.names d.str else true := rfl
  have E := Lib.hid e; clear e
  have HNS := Lib.hid hns; clear hns
  have TV := Lib.hid ST.out.tv
  by_cases k23 : t.kind = 2 ∨ t.kind = 3
  · have E2 : Hid (rangedV t d = betweenB t d.kids.length) := Lib.hid (by rw [E.out, if_pos k23])
    have g : (t.kind == 2) = true ∨ ((t.kind == 2) = false ∧ (t.kind == 3) = true) := by
      rcases k23 with h | h
      · exact .inl (by simp [h])
      · exact .inr ⟨by simp [h], by simp [h]⟩
    clear k23 E
    rcases g with g2 | ⟨g2, g3⟩
    · go_enter Tryz.func76, Tryz.ntmps76
      go_wp2_with fail
      refine (between_any TV.out).mono ?_
      rintro e w1 ⟨rfl, hb1⟩
      go_wp2_with fail
      go_ret
      exact ⟨ret_bool E2.out.symm, ST.out.bl.trans (hb1.mono ST.out.bl.size)⟩
    · go_enter Tryz.func76, Tryz.ntmps76
      go_wp2_with fail
      refine (between_any TV.out).mono ?_
      rintro e w1 ⟨rfl, hb1⟩
      go_wp2_with fail
      go_ret
      exact ⟨ret_bool E2.out.symm, ST.out.bl.trans (hb1.mono ST.out.bl.size)⟩
  have g2 : (t.kind == 2) = false := by simp; omega
  have g3 : (t.kind == 3) = false := by simp; omega
  by_cases k4 : t.kind = 4
  · have E2 : Hid (rangedV t d = betweenB t d.num) := Lib.hid (by rw [E.out, if_neg k23, if_pos k4])
    have g4 : (t.kind == 4) = true := by simp [k4]
    clear k23 k4 E
    go_enter Tryz.func76, Tryz.ntmps76
    go_wp2_with fail
    refine (between_any TV.out).mono ?_
    rintro e w1 ⟨rfl, hb1⟩
    go_wp2_with fail
    go_ret
    exact ⟨ret_bool E2.out.symm, ST.out.bl.trans (hb1.mono ST.out.bl.size)⟩
  have g4 : (t.kind == 4) = false := by simp [k4]
  by_cases k6 : t.kind = 6
  · have E2 : Hid (rangedV t d = betweenB t d.str.size) := Lib.hid (by rw [E.out, if_neg k23, if_neg k4, if_pos k6])
    have g6 : (t.kind == 6) = true := by simp [k6]
    clear k23 k4 k6 E
    go_enter Tryz.func76, Tryz.ntmps76
    go_wp2_with fail
    refine (between_any TV.out).mono ?_
    rintro e w1 ⟨rfl, hb1⟩
    go_wp2_with fail
    go_ret
    exact ⟨ret_bool E2.out.symm, ST.out.bl.trans (hb1.mono ST.out.bl.size)⟩
  have g6 : (t.kind == 6) = false := by simp [k6]
  by_cases k7 : t.kind = 7
  · have E2 : Hid (rangedV t d = Lib.containsS t.names d.str) := Lib.hid (by rw [E.out, if_neg k23, if_neg k4, if_neg k6, if_pos k7])
    have g7 : (t.kind == 7) = true := by simp [k7]
    clear k23 k4 k6 k7 E
    go_enter Tryz.func76, Tryz.ntmps76
    go_wp2_with fail
    refine (contains_any t.names _ d.str B _ (HNS.out.keep fun p hp => ST.out.bl.cell (p := p) (by omega)) hnl).mono ?_
    rintro e w1 ⟨rfl, rfl⟩
    go_wp2_with fail
    go_ret
    exact ⟨ret_bool E2.out.symm, ST.out.bl⟩
  have g7 : (t.kind == 7) = false := by simp [k7]
  have E2 : Hid (rangedV t d = true) := Lib.hid (by rw [E.out, if_neg k23, if_neg k4, if_neg k6, if_neg k7])
  clear k23 k4 k6 k7 E
  go_enter Tryz.func76, Tryz.ntmps76
  go_wp2_with fail
  go_ret
  exact ⟨ret_bool E2.out.symm, ST.out.bl⟩
def fitsV (t : T) (d : D) : Int := if d.kind = kindV t then (if rangedV t d = true then 0 else 8) else 7
set_option maxHeartbeats 4000000 in
set_option maxRecDepth 100000 in
theorem fits_any {t : T} {d : D} {v u : Value} {w : World} {B : Nat} (hf : t.Fit) (hfd : d.Fit) (hB : B ≤ w.heap.size) (ht : TypeV w B t v) (hd : DocV w B d u) :
    Calls Tryz.prog 45 #[v, u] w fun e w' => e = .returned (.int .i64 (fitsV t d)) ∧ Below w.heap.size w w' := by
  obtain ⟨v0, v1, v2, v3, v4, v5, rfl, ht⟩ := ht
  obtain ⟨u0, u1, u2, u3, u4, rfl, hd⟩ := hd
  have ST := Lib.hid (TD.start hB ht hd)
  obtain ⟨B3, d3, B4, d4, rfl, rfl, rfl, rfl, rfl⟩ := hd.forms
  have HF := Lib.hid hf; have HFD := Lib.hid hfd
  clear ht hd hf hfd
  have e : fitsV t d = if d.kind = kindV t then (if rangedV t d = true then 0 else 8) else 7 := rfl
  have E := Lib.hid e; clear e
  go_enter Tryz.func45, Tryz.ntmps45
  go_wp2_with fail
  generalize (w.alloc (.cells #[v0, v1, v2, v3, v4, v5] 26)).alloc (.cells #[.int .i64 d.kind, .int .i64 d.num, .string d.str, .slice B3 d.keys.length d3, .slice B4 d.kids.length d4] 29) = w1 at *
  obtain ⟨x0, x1, x2, x3, x4, x5⟩ := ST.out.bt.cells
  obtain ⟨y0, y1, y2, y3, y4⟩ := ST.out.bd.cells
  have sz1 := ST.out.sz
  go_region_held3 (fun w' => w'.cell? ⟨w.heap.size, 0, none⟩ = some v0 ∧ w'.cell? ⟨w.heap.size, 1, none⟩ = some v1 ∧ w'.cell? ⟨w.heap.size, 2, none⟩ = some v2 ∧ w'.cell? ⟨w.heap.size, 3, none⟩ = some v3 ∧ w'.cell? ⟨w.heap.size, 4, none⟩ = some v4 ∧ w'.cell? ⟨w.heap.size, 5, none⟩ = some v5 ∧ w'.cell? ⟨w.heap.size + 1, 0, none⟩ = some (.int .i64 d.kind))
    (first | exact ⟨x0, x1, x2, x3, x4, x5, y0⟩ | exact ⟨z0, z1, z2, z3, z4, z5, q0⟩)
    ((first
    | (go_at_call 75
       refine (kindOf_any (w := w1.drew) (B := B) (ST.out.next (Below.refl _ _).drew).tv).mono ?_
       rintro e w2 ⟨rfl, hb2⟩
       have ST2 := Lib.hid (ST.out.next (((Below.refl _ _).drew.trans hb2).mono sz1))
       clear hb2
       obtain ⟨z0, z1, z2, z3, z4, z5⟩ := ST2.out.bt.cells
       obtain ⟨q0, q1, q2, q3, q4⟩ := ST2.out.bd.cells)))
  all_goals (
    clear x0 x1 x2 x3 x4 x5 y0 y1 y2 y3 y4 sz1
    have sz2 := ST2.out.sz)
  all_goals (
    by_cases hk : d.kind = kindV t
    · have hk1 : (d.kind != kindV t) = false := by simp [hk]
      by_cases hr : rangedV t d = true
      · have E2 : Hid (fitsV t d = 0) := Lib.hid (by rw [E.out, if_pos hk, if_pos hr])
        clear hk
        go_wp2_with fail
        refine (ranged_any HF.out HFD.out ST2.out.le ST2.out.tv ST2.out.dv).mono ?_
        rintro e w3 ⟨rfl, hb3⟩
        rw [hr]
        clear hr
        go_wp2_with fail
        go_ret
        exact ⟨ret_int E2.out.symm, ST2.out.bl.trans (hb3.mono ST2.out.bl.size)⟩
      · have hr' : rangedV t d = false := by simpa using hr
        have E2 : Hid (fitsV t d = 8) := Lib.hid (by rw [E.out, if_pos hk, if_neg hr])
        clear hk hr
        go_wp2_with fail
        refine (ranged_any HF.out HFD.out ST2.out.le ST2.out.tv ST2.out.dv).mono ?_
        rintro e w3 ⟨rfl, hb3⟩
        rw [hr']
        clear hr'
        go_wp2_with fail
        go_ret
        exact ⟨ret_int E2.out.symm, ST2.out.bl.trans (hb3.mono ST2.out.bl.size)⟩
    · have hk1 : (d.kind != kindV t) = true := by simp [hk]
      have E2 : Hid (fitsV t d = 7) := Lib.hid (by rw [E.out, if_neg hk])
      clear hk
      go_wp2_with fail
      go_ret
      exact ⟨ret_int E2.out.symm, ST2.out.bl⟩)
def bothB (t : T) (d : D) : Bool := rightT t && rightB d
set_option maxHeartbeats 4000000 in
set_option maxRecDepth 100000 in
theorem both_any {t : T} {d : D} {v u : Value} {w : World} {B : Nat} (hs : t.size ≤ 10000) (hdp : t.depth ≤ 900) (hf : t.Fit) (hfd : d.Fit) (hB : B ≤ w.heap.size) (ht : TypeV w B t v) (hd : DocV w B d u) :
    Calls Tryz.prog 44 #[v, u] w fun e w' => e = .returned (.bool (bothB t d)) ∧ Below w.heap.size w w' := by
  obtain ⟨v0, v1, v2, v3, v4, v5, rfl, ht⟩ := ht
  obtain ⟨u0, u1, u2, u3, u4, rfl, hd⟩ := hd
  have ST := Lib.hid (TD.start hB ht hd)
  have HF := Lib.hid hf; have HFD := Lib.hid hfd
  clear ht hd hf hfd
  have e : bothB t d = (rightT t && rightB d) := rfl
  have E := Lib.hid e; clear e
  go_enter Tryz.func44, Tryz.ntmps44
  go_wp2_with fail
  generalize (w.alloc (.cells #[v0, v1, v2, v3, v4, v5] 26)).alloc (.cells #[u0, u1, u2, u3, u4] 29) = w1 at *
  refine (tright_any hs hdp HF.out ST.out.le ST.out.tv).mono ?_
  rintro e w2 ⟨rfl, hb2⟩
  have ST2 := Lib.hid (ST.out.next (hb2.mono ST.out.sz))
  clear hb2
  obtain ⟨y0, y1, y2, y3, y4⟩ := ST2.out.bd.cells
  have sz2 := ST2.out.sz
  by_cases hr : rightT t = true
  · have E2 : Hid (bothB t d = rightB d) := Lib.hid (by rw [E.out, hr]; rfl)
    rw [hr]
    clear hr
    go_wp2_with fail
    refine (right_v HFD.out ST2.out.le ST2.out.dv).mono ?_
    rintro e w3 ⟨rfl, hb3⟩
    go_wp2_with fail
    go_ret
    exact ⟨ret_bool E2.out.symm, ST2.out.bl.trans (hb3.mono ST2.out.bl.size)⟩
  · have hr' : rightT t = false := by simpa using hr
    have E2 : Hid (bothB t d = false) := Lib.hid (by rw [E.out, hr']; rfl)
    rw [hr']
    clear hr hr'
    go_wp2_with fail
    go_ret
    exact ⟨ret_bool E2.out.symm, ST2.out.bl⟩
def fitsAV (t : T) (d : D) : Int := if bothB t d = true then fitsV t d else 1
set_option maxHeartbeats 4000000 in
set_option maxRecDepth 100000 in
theorem fitsA_any {t : T} {d : D} {v u : Value} {w : World} {B : Nat} (hs : t.size ≤ 10000) (hdp : t.depth ≤ 900) (hf : t.Fit) (hfd : d.Fit) (hB : B ≤ w.heap.size) (ht : TypeV w B t v) (hd : DocV w B d u) :
    Calls Tryz.prog 18 #[v, u] w fun e w' => e = .returned (.int .i64 (fitsAV t d)) ∧ Below w.heap.size w w' := by
  obtain ⟨v0, v1, v2, v3, v4, v5, rfl, ht⟩ := ht
  obtain ⟨u0, u1, u2, u3, u4, rfl, hd⟩ := hd
  have ST := Lib.hid (TD.start hB ht hd)
  have HF := Lib.hid hf; have HFD := Lib.hid hfd
  clear ht hd hf hfd
  go_enter Tryz.func18, Tryz.ntmps18
  go_wp2_with fail
  generalize (w.alloc (.cells #[v0, v1, v2, v3, v4, v5] 26)).alloc (.cells #[u0, u1, u2, u3, u4] 29) = w1 at *
  refine (both_any hs hdp HF.out HFD.out ST.out.le ST.out.tv ST.out.dv).mono ?_
  rintro e w2 ⟨rfl, hb2⟩
  have ST2 := Lib.hid (ST.out.next (hb2.mono ST.out.sz))
  clear hb2
  obtain ⟨x0, x1, x2, x3, x4, x5⟩ := ST2.out.bt.cells
  obtain ⟨y0, y1, y2, y3, y4⟩ := ST2.out.bd.cells
  have sz2 := ST2.out.sz
  by_cases hr : bothB t d = true
  · have E2 : Hid (fitsAV t d = fitsV t d) := Lib.hid (by unfold fitsAV; rw [if_pos hr])
    rw [hr]
    clear hr
    go_wp2_with fail
    refine (fits_any HF.out HFD.out ST2.out.le ST2.out.tv ST2.out.dv).mono ?_
    rintro e w3 ⟨rfl, hb3⟩
    go_wp2_with fail
    go_ret
    exact ⟨ret_int E2.out.symm, ST2.out.bl.trans (hb3.mono ST2.out.bl.size)⟩
  · have hr' : bothB t d = false := by simpa using hr
    have E2 : Hid (fitsAV t d = 1) := Lib.hid (by unfold fitsAV; rw [if_neg hr])
    rw [hr']
    clear hr hr'
    go_wp2_with fail
    go_ret
    exact ⟨ret_int E2.out.symm, ST2.out.bl⟩
end Go.Proofs.YtlemlgllkcgigaaGreatDoor
namespace Go.Proofs.YtlemlgllkcgigaaGreatDoor
open Go.RowKit

def moreV (t : T) (ks : List ByteArray) : List ByteArray := ks.filter fun k => decide (fieldOf t k < 0)
theorem moreV_take (t : T) (ks : List ByteArray) (k : Nat) (h : k < ks.length) : moreV t (ks.take (k + 1)) = moreV t (ks.take k) ++ (if fieldOf t ks[k] < 0 then [ks[k]] else []) := by
  unfold moreV
  rw [List.take_succ_eq_append_getElem h, List.filter_append]
  congr 1
  by_cases h1 : fieldOf t ks[k] < 0 <;> simp [h1]
theorem moreV_len (t : T) (ks : List ByteArray) : (moreV t ks).length ≤ ks.length := List.length_filter_le _ _
/-- A row of strings of the call's own. -/
def MadeStrs (W0 : Nat) (w : World) (l : List ByteArray) (e : Ending) (w' : World) : Prop :=
  ∃ v : Value, e = .returned v ∧ w'.ownsRow W0 9 1 v l.length (l.map Value.string) ∧ Below W0 w w'
theorem TD.strs_at {w0 w : World} {B : Nat} {t : T} {d : D} {v0 v1 v2 v3 v4 v5 u0 u1 u2 u4 : Value} {A : Option Addr} {n c : Nat} (h : TD w0 w B t d v0 v1 v2 v3 v4 v5 u0 u1 u2 (.slice A n c) u4) {k : Nat} (hk : k < d.keys.length) :
    ∃ b off, A = some ⟨b, off, none⟩ ∧ b < w0.heap.size ∧ n = d.keys.length ∧ w.cell? ⟨b, off + k, none⟩ = some (.string d.keys[k]) := by
  obtain ⟨A', c', e, _, hc⟩ := h.din.keys_
  injection e with e1 e2 e3
  subst e1
  obtain ⟨b, off, rfl, hb, hc⟩ := hc (by omega)
  have := h.hB
  exact ⟨b, off, rfl, by omega, e2, (h.bl.cell (p := ⟨b, off + k, none⟩) (by show b < _; omega)).trans (hc k hk)⟩
set_option maxHeartbeats 4000000 in
set_option maxRecDepth 100000 in
theorem more_any {t : T} {d : D} {v u : Value} {w : World} {B : Nat} (hf : t.Fit) (hfd : d.Fit) (hB : B ≤ w.heap.size) (ht : TypeV w B t v) (hd : DocV w B d u) :
    Calls Tryz.prog 116 #[v, u] w (MadeStrs w.heap.size w (moreV t d.keys)) := by
  obtain ⟨v0, v1, v2, v3, v4, v5, rfl, ht⟩ := ht
  obtain ⟨u0, u1, u2, u3, u4, rfl, hd⟩ := hd
  have ST := Lib.hid (TD.start hB ht hd)
  obtain ⟨B3, d3, B4, d4, rfl, rfl, rfl, rfl, rfl⟩ := hd.forms
  have hkl := hfd.keys
  have HF := Lib.hid hf
  clear ht hd hf hfd
  obtain ⟨i0, hi, hz0, hz1, hz2⟩ := info_parts infoS
  have HI := Lib.hid hi; have HZ0 := Lib.hid hz0; have HZ1 := Lib.hid hz1; have HZ2 := Lib.hid hz2
  clear hi hz0 hz1 hz2
  go_enter Tryz.func116, Tryz.ntmps116
  go_wp2_with fail
  generalize (w.alloc (.cells #[v0, v1, v2, v3, v4, v5] 26)).alloc (.cells #[.int .i64 d.kind, .int .i64 d.num, .string d.str, .slice B3 d.keys.length d3, .slice B4 d.kids.length d4] 29) = w1 at *
  go_loopw [5, 11] (fun l i wr => ∃ k : Nat, k ≤ d.keys.length ∧ i = .int .i64 k ∧ wr.ownsRow (w.heap.size + 2) 9 1 l (moreV t (d.keys.take k)).length ((moreV t (d.keys.take k)).map Value.string) ∧ TD w wr B t d v0 v1 v2 v3 v4 v5 (.int .i64 d.kind) (.int .i64 d.num) (.string d.str) (.slice B3 d.keys.length d3) (.slice B4 d.kids.length d4)) (fun _ i _ => d.keys.length - (intOf i).toNat)
  case atStart => exact ⟨0, Nat.zero_le _, rfl, World.ownsRow_nil _ _ _ _, ST.out⟩
  case round =>
    obtain ⟨k, hk0, rfl, hown, hst⟩ := hrel
    have HO := Lib.hid hown; have HST := Lib.hid hst
    clear hown hst
    have sz := HST.out.sz
    by_cases hlt : k < d.keys.length
    · obtain ⟨b, off, rfl, hbl, _, hkey⟩ := HST.out.strs_at hlt
      obtain ⟨x0, x1, x2, x3, x4, x5⟩ := HST.out.bt.cells
      have hik0 : (0 : Int) ≤ (k : Int) := by omega
      have hik : (k : Int) < (d.keys.length : Int) := by omega
      have hbr : b < wr.heap.size := by omega
      obtain ⟨S, hS⟩ : ∃ S, S = d.keys[k] := ⟨_, rfl⟩
      have hmt := moreV_take t d.keys k hlt
      rw [← hS] at hkey hmt
      have HMT := Lib.hid hmt
      clear hS hmt
      go_wp2_with fail
      refine (tfield_any HF.out HST.out.le HST.out.tv).mono ?_
      rintro e w3 ⟨rfl, hb3⟩
      have HST3 := Lib.hid (HST.out.next (hb3.mono sz))
      have HO3 : Hid (w3.ownsRow (w.heap.size + 2) 9 1 u5 (moreV t (d.keys.take k)).length ((moreV t (d.keys.take k)).map Value.string)) := ownsRow_same HO.out fun j hj => hb3.block j (HO.out.lt j (blk_mem.1 hj)).2
      clear hb3 x0 x1 x2 x3 x4 x5 hkey
      have sz3 := HST3.out.sz
      have hml : (moreV t (d.keys.take k)).length ≤ 10000 := by have := moreV_len t (d.keys.take k); have := List.length_take_le k d.keys; omega
      by_cases hneg : fieldOf t S < 0
      · have HN := Lib.hid hneg
        go_wp2_with (at_builtin; refine wpList_append_lies _ rfl _ _ 22 rfl (w.heap.size + 2) 9 i0 (.string ByteArray.empty) 1 16 Tryz.underlying22 HI.out HZ0.out HZ1.out HZ2.out (by rfl) (by omega) _ (moreV t (d.keys.take k)).length _ rfl (HO3.out.alloc _) ⟨w3.heap.size, 0, none⟩ 1 _ [.string S] rfl rfl (World.news_of_block (heap_alloc_new w3 _)) (by simp [Value.oneCell']) (by omega) (by unfold maxLen; omega) (by omega) (by simp; omega) (w3.heap.size + 1) (by simp) ?_; intro g5 cap5 w5 hown5 hgrow5 hat5 hlt5)
        go_roundw
        case rel =>
          refine ⟨k + 1, by omega, by go_num, ?_, HST3.out.next ?_⟩
          · rw [HMT.out, if_pos HN.out]; simpa using hown5
          · exact ((Below.refl _ _).alloc sz3 _).trans ⟨hgrow5.os, hgrow5.tape, hgrow5.output, hgrow5.size, fun j hj => hgrow5.block j (by simp; omega) fun e => by have := (HO3.out.lt j e.symm).1; omega⟩
        case measure => simp [intOf]; omega
      · have HN := Lib.hid hneg
        go_wp2_with fail
        go_roundw
        case rel => exact ⟨k + 1, by omega, by go_num, by rw [HMT.out, if_neg (Int.not_lt.2 HN.out)]; simpa using HO3.out, HST3.out⟩
        case measure => simp [intOf]; omega
    · have hkk : d.keys.take k = d.keys := List.take_of_length_le (by omega)
      have HO' : Hid (wr.ownsRow (w.heap.size + 2) 9 1 u5 (moreV t d.keys).length ((moreV t d.keys).map Value.string)) := by have := HO.out; rw [hkk] at this; exact this
      clear hkk
      go_wp2_with fail
      go_ret
      exact ⟨_, rfl, ownsRow_base HO'.out (by omega), HST.out.bl⟩
end Go.Proofs.YtlemlgllkcgigaaGreatDoor
