/-
  The law's own question whether a type is small; schema.Scalar.
-/
import Derived.Test.YteecdmceleanjaaGreatDoorB05
namespace Go.Proofs.YteecdmceleanjaaGreatDoor
open Go.RowKit

def scalarB (t : T) : Bool := decide (4 ≤ t.kind) && decide (t.kind ≤ 7)
/-- No part is greater than can be gone over. -/
def partP (t : T) : Bool := decide (t.fields.length ≤ 60) && (decide (t.of.length ≤ 60) && (decide (t.names.length ≤ 60) && (decide (∀ (i : Nat) (h : i < t.names.length), (t.names[i]).size ≤ 300) && decide (∀ (i : Nat) (h : i < t.fields.length), (t.fields[i]).name.size ≤ 100))))
theorem partP_iff (t : T) : partP t = true ↔ t.fields.length ≤ 60 ∧ t.of.length ≤ 60 ∧ t.names.length ≤ 60 ∧ (∀ (i : Nat) (h : i < t.names.length), (t.names[i]).size ≤ 300) ∧ (∀ (i : Nat) (h : i < t.fields.length), (t.fields[i]).name.size ≤ 100) := by
  simp only [partP, Bool.and_eq_true, decide_eq_true_eq]
mutual
def allP : T → Bool
  | .mk k lo hi ns f l => partP (.mk k lo hi ns f l) && (allPF f && allPL l)
def allPF : List F → Bool
  | [] => true
  | f :: r => allPF1 f && allPF r
def allPF1 : F → Bool
  | .mk _ _ t => allP t
def allPL : List T → Bool
  | [] => true
  | t :: r => allP t && allPL r
end
theorem allPL_append : ∀ a b : List T, allPL (a ++ b) = (allPL a && allPL b)
  | [], b => by simp [allPL]
  | t :: r, b => by simp [allPL, allPL_append r b, Bool.and_assoc]
theorem allPF1_eq (f : F) : allPF1 f = allP f.type := by obtain ⟨_, _, _⟩ := f; rfl
theorem allPF_eq : ∀ l : List F, allPF l = allPL (l.map F.type)
  | [] => rfl
  | f :: r => by simp only [allPF, List.map_cons, allPL, allPF_eq r, allPF1_eq]
theorem allP_eq (t : T) : allP t = (partP t && allPL t.kids) := by
  obtain ⟨_, _, _, _, _, _⟩ := t
  simp only [allP, T.kids, T.fields, T.of, allPL_append, allPF_eq]
theorem allPL_at : ∀ {l : List T}, allPL l = true → ∀ {i : Nat} (h : i < l.length), allP l[i] = true
  | [], _, i, h => by simp at h
  | d :: r, hp, 0, _ => by simp only [allPL, Bool.and_eq_true] at hp; exact hp.1
  | d :: r, hp, i + 1, h => by simp only [allPL, Bool.and_eq_true] at hp; exact allPL_at hp.2 (by simpa using h)
theorem allPL_all : ∀ {l : List T}, (∀ (i : Nat) (h : i < l.length), allP l[i] = true) → allPL l = true
  | [], _ => by simp [allPL]
  | d :: r, hp => by
    simp only [allPL, Bool.and_eq_true]
    exact ⟨hp 0 (by simp), allPL_all fun i h => hp (i + 1) (by simpa using h)⟩
def okFew (t : T) (dp : Nat) : Prop := t.depth ≤ dp ∧ t.size ≤ 199 ∧ allP t = true
instance (t : T) (dp : Nat) : Decidable (okFew t dp) := by unfold okFew; infer_instance
def t_fewV (t : T) (dp : Nat) : Int := if okFew t dp then 200 - t.size else 0
def t_fewB (t : T) : Bool := decide (okFew t 20)
theorem t_fewV_ok {t : T} {dp : Nat} (h : okFew t dp) : t_fewV t dp = 200 - t.size := if_pos h
theorem t_fewV_bad {t : T} {dp : Nat} (h : ¬ okFew t dp) : t_fewV t dp = 0 := if_neg h
mutual
theorem fit_of_allP : ∀ t : T, allP t = true → t.Fit
  | .mk k lo hi ns f l, h => by
    simp only [allP, Bool.and_eq_true] at h
    obtain ⟨hp, hf, hl⟩ := h
    rw [partP_iff] at hp
    simp only [T.fields, T.of, T.names] at hp
    simp only [T.Fit]
    refine ⟨by omega, by omega, by omega, fun k hk => ?_, fit_of_allPF f hf hp.2.2.2.2, fit_of_allPL l hl⟩
    obtain ⟨i, hi, rfl⟩ := List.mem_iff_getElem.1 hk
    have := hp.2.2.2.1 i hi
    omega
theorem fit_of_allPF : ∀ l : List F, allPF l = true → (∀ (i : Nat) (h : i < l.length), (l[i]).name.size ≤ 100) → T.FitsF l
  | [], _, _ => by simp [T.FitsF]
  | f :: r, h, hn => by
    simp only [allPF, Bool.and_eq_true] at h
    simp only [T.FitsF]
    exact ⟨fit_of_allPF1 f h.1 (hn 0 (by simp)), fit_of_allPF r h.2 fun i hi => hn (i + 1) (by simpa using hi)⟩
theorem fit_of_allPF1 : ∀ f : F, allPF1 f = true → f.name.size ≤ 100 → T.FitF f
  | .mk n o t, h, hn => by
    simp only [allPF1] at h
    simp only [T.FitF]
    exact ⟨by simp only [F.name] at hn; omega, fit_of_allP t h⟩
theorem fit_of_allPL : ∀ l : List T, allPL l = true → T.Fits l
  | [], _ => by simp [T.Fits]
  | t :: r, h => by
    simp only [allPL, Bool.and_eq_true] at h
    simp only [T.Fits]
    exact ⟨fit_of_allP t h.1, fit_of_allPL r h.2⟩
end
theorem kids_len (t : T) : t.kids.length = t.fields.length + t.of.length := by simp [T.kids]
theorem kids_field {t : T} {j : Nat} (h : j < t.fields.length) : t.kids[j]'(by rw [kids_len]; omega) = (t.fields[j]).type := by
  unfold T.kids
  rw [List.getElem_append_left (by simpa using h), List.getElem_map]
theorem kids_of {t : T} {j : Nat} (h1 : t.fields.length ≤ j) (h2 : j - t.fields.length < t.of.length) : t.kids[j]'(by rw [kids_len]; omega) = t.of[j - t.fields.length] := by
  unfold T.kids
  rw [List.getElem_append_right (by simpa using h1)]
  simp
theorem okFew_kids {t : T} {dp : Nat} (hp : partP t = true) (h : ∀ (j : Nat) (h : j < t.kids.length), okFew t.kids[j] (dp - 1)) (hs : t.size ≤ 199) (hd : 0 < dp) : okFew t dp := by
  refine ⟨?_, hs, by rw [allP_eq, hp, allPL_all fun i hi => (h i hi).2.2]; rfl⟩
  rw [kids_depths]
  have := T.depths_le (l := t.kids) (m := dp - 1) fun i hi => (h i hi).1
  omega
theorem okFew_kid {t : T} {dp : Nat} (h : okFew t dp) {j : Nat} (hj : j < t.kids.length) : okFew t.kids[j] (dp - 1) := by
  obtain ⟨h1, h2, h3⟩ := h
  rw [allP_eq, Bool.and_eq_true] at h3
  have := kid_small (List.getElem_mem hj : t.kids[j] ∈ t.kids)
  exact ⟨by omega, by omega, allPL_at h3.2 hj⟩
set_option maxHeartbeats 8000000 in
set_option maxRecDepth 100000 in
theorem t_few_any (m : Nat) : ∀ (t : T) (v : Value) (dp : Nat) (w : World) (B : Nat), t.depth ≤ m → dp ≤ 100 → B ≤ w.heap.size → TypeV w B t v →
    Calls Tryz.prog 66 #[v, .int .i64 (dp : Int)] w fun e w' => e = .returned (.int .i64 (t_fewV t dp)) ∧ Below w.heap.size w w' := by
  induction m with
  | zero => intro t; intro _ _ _ _ h; have := t.depth_pos; omega
  | succ m ih =>
    intro t v dp w B hm hdp hB ht
    obtain ⟨v0, v1, v2, v3, v4, v5, rfl, hin⟩ := ht
    have IH := Lib.hid ih; have HIN := Lib.hid hin
    obtain ⟨A3, d3, A4, d4, A5, d5, rfl, rfl, rfl, rfl, rfl, rfl⟩ := hin.forms
    have HNV := Lib.hid hin.names_; have HFV := Lib.hid hin.fields_; have HOV := Lib.hid hin.of_
    clear ih hin
    have hkl := kids_len t
    have hsz := kids_sizes t
    have hls := T.len_le_sizes t.kids
    by_cases hd0 : dp = 0
    · have E := Lib.hid (t_fewV_bad (t := t) (dp := dp) (fun h => by have := h.1; have := t.depth_pos; omega))
      subst hd0
      show Calls _ _ #[_, .int .i64 0] _ _
      go_enter Tryz.func66, Tryz.ntmps66
      go_wp2_with fail
      go_ret
      exact ⟨ret_int E.out.symm, (Below.refl _ _).alloc (Nat.le_refl _) _⟩
    have g0 : decide ((dp : Int) ≤ 0) = false := decide_eq_false (by omega)
    by_cases hf : t.fields.length ≤ 60
    rotate_left
    · have E := Lib.hid (t_fewV_bad (t := t) (dp := dp) (fun h => by have := h.2.2; rw [allP_eq, Bool.and_eq_true, partP_iff] at this; exact hf this.1.1))
      have g1 : (60 : Int) < (t.fields.length : Int) := by omega
      clear hf
      go_enter Tryz.func66, Tryz.ntmps66
      go_wp2_with fail
      go_ret
      exact ⟨ret_int E.out.symm, (Below.refl _ _).alloc (Nat.le_refl _) _⟩
    by_cases ho : t.of.length ≤ 60
    rotate_left
    · have E := Lib.hid (t_fewV_bad (t := t) (dp := dp) (fun h => by have := h.2.2; rw [allP_eq, Bool.and_eq_true, partP_iff] at this; exact ho this.1.2.1))
      have g1 : (t.fields.length : Int) ≤ 60 := by omega
      have g2 : (60 : Int) < (t.of.length : Int) := by omega
      clear hf ho
      go_enter Tryz.func66, Tryz.ntmps66
      go_wp2_with fail
      go_ret
      exact ⟨ret_int E.out.symm, (Below.refl _ _).alloc (Nat.le_refl _) _⟩
    by_cases hn : t.names.length ≤ 60
    rotate_left
    · have E := Lib.hid (t_fewV_bad (t := t) (dp := dp) (fun h => by have := h.2.2; rw [allP_eq, Bool.and_eq_true, partP_iff] at this; exact hn this.1.2.2.1))
      have g1 : (t.fields.length : Int) ≤ 60 := by omega
      have g2 : (t.of.length : Int) ≤ 60 := by omega
      have g3 : (60 : Int) < (t.names.length : Int) := by omega
      clear hf ho hn
      go_enter Tryz.func66, Tryz.ntmps66
      go_wp2_with fail
      go_ret
      exact ⟨ret_int E.out.symm, (Below.refl _ _).alloc (Nat.le_refl _) _⟩
    have g1 : decide ((60 : Int) < (t.fields.length : Int)) = false := decide_eq_false (by omega)
    have g2 : decide ((60 : Int) < (t.of.length : Int)) = false := decide_eq_false (by omega)
    have g3 : decide ((60 : Int) < (t.names.length : Int)) = false := decide_eq_false (by omega)
    go_enter Tryz.func66, Tryz.ntmps66
    go_wp2_with fail
    obtain ⟨W2, hW2⟩ : ∃ W2, W2 = w.alloc (.cells #[.int .i64 t.kind, .int .i64 t.lo, .int .i64 t.hi, .slice A3 t.names.length d3, .slice A4 t.fields.length d4, .slice A5 t.of.length d5] 26) := ⟨_, rfl⟩
    have HBX : Hid (Box6 W2 w.heap.size (.int .i64 t.kind) (.int .i64 t.lo) (.int .i64 t.hi) (.slice A3 t.names.length d3) (.slice A4 t.fields.length d4) (.slice A5 t.of.length d5)) := by rw [hW2]; exact Box6.new w _ _ _ _ _ _
    have HBL : Hid (Below w.heap.size w W2) := by rw [hW2]; exact (Below.refl _ _).alloc (Nat.le_refl _) _
    rw [← hW2]
    clear hW2
    obtain ⟨q0, q1, q2, q3, q4, q5⟩ := HBX.out.cells
    go_loop [5] (fun i => ∃ k : Nat, k ≤ t.names.length ∧ i = .int .i64 k ∧ ∀ (j : Nat) (h : j < t.names.length), j < k → (t.names[j]).size ≤ 300) (fun i => t.names.length - (intOf i).toNat)
    case atStart => exact ⟨0, Nat.zero_le _, rfl, fun j _ hj => absurd hj (by omega)⟩
    case round =>
      obtain ⟨k, hk, rfl, hall⟩ := hrel
      have HALL := Lib.hid hall
      clear hall
      by_cases hlt : k < t.names.length
      · obtain ⟨A, cc, e, _, hc⟩ := HNV.out
        injection e with e1 _ e3
        subst e1
        obtain ⟨b, off, rfl, hb, hc⟩ := hc (by omega)
        have gk := (HBL.out.cell (p := ⟨b, off + k, none⟩) (by show b < _; omega)).trans (hc k hlt)
        have hk0 : (0 : Int) ≤ (k : Int) := by omega
        have hk1 : (k : Int) < (t.names.length : Int) := by omega
        clear hc e3
        by_cases hbig : (t.names[k]).size ≤ 300
        · have hbig2 : ((t.names[k]).size : Int) ≤ 300 := by omega
          go_wp2_with fail
          go_round
          case rel => exact ⟨k + 1, by omega, by go_num, fun j h hj => by
            rcases Nat.lt_or_ge j k with h1 | h1
            · exact HALL.out j h h1
            · obtain rfl : j = k := by omega
              exact hbig⟩
          case measure => simp [intOf]; omega
        · have E := Lib.hid (t_fewV_bad (t := t) (dp := dp) (fun h => by have := h.2.2; rw [allP_eq, Bool.and_eq_true, partP_iff] at this; exact hbig (this.1.2.2.2.1 k hlt)))
          have hbig2 : (300 : Int) < ((t.names[k]).size : Int) := by omega
          clear hbig
          go_wp2_with fail
          go_ret
          exact ⟨ret_int E.out.symm, HBL.out⟩
      · have HN := Lib.hid (fun (j : Nat) (h : j < t.names.length) => HALL.out j h (by omega))
        clear HALL
        go_wp2_with fail
        clear hlt
        go_loop [6] (fun i => ∃ k : Nat, k ≤ t.fields.length ∧ i = .int .i64 k ∧ ∀ (j : Nat) (h : j < t.fields.length), j < k → (t.fields[j]).name.size ≤ 100) (fun i => t.fields.length - (intOf i).toNat)
        case atStart => exact ⟨0, Nat.zero_le _, rfl, fun j _ hj => absurd hj (by omega)⟩
        case round =>
          obtain ⟨k, hk, rfl, hall⟩ := hrel
          have HALL := Lib.hid hall
          clear hall
          by_cases hlt : k < t.fields.length
          · obtain ⟨A, cc, e, _, hc⟩ := HFV.out
            injection e with e1 _ e3
            subst e1
            obtain ⟨b, off, rfl, hb, hc⟩ := hc (by omega)
            have hat := (FieldsIn.at_ hc k hlt).1
            rw [Nat.zero_add] at hat
            have gk := (HBL.out.cell (p := ⟨b, off + k * 8, none⟩) (by show b < _; omega)).trans hat
            have hk0 : (0 : Int) ≤ (k : Int) := by omega
            have hk1 : (k : Int) < (t.fields.length : Int) := by omega
            clear hc e3 hat
            by_cases hbig : (t.fields[k]).name.size ≤ 100
            · have hbig2 : ((t.fields[k]).name.size : Int) ≤ 100 := by omega
              go_wp2_with fail
              go_round
              case rel => exact ⟨k + 1, by omega, by go_num, fun j h hj => by
                rcases Nat.lt_or_ge j k with h1 | h1
                · exact HALL.out j h h1
                · obtain rfl : j = k := by omega
                  exact hbig⟩
              case measure => simp [intOf]; omega
            · have E := Lib.hid (t_fewV_bad (t := t) (dp := dp) (fun h => by have := h.2.2; rw [allP_eq, Bool.and_eq_true, partP_iff] at this; exact hbig (this.1.2.2.2.2 k hlt)))
              have hbig2 : (100 : Int) < ((t.fields[k]).name.size : Int) := by omega
              clear hbig
              go_wp2_with fail
              go_ret
              exact ⟨ret_int E.out.symm, HBL.out⟩
          · have HPP := Lib.hid ((partP_iff t).2 ⟨hf, ho, hn, HN.out, fun (j : Nat) (h : j < t.fields.length) => HALL.out j h (by omega)⟩)
            clear HALL
            go_wp2_with fail
            clear hlt
            have hlw : IntKind.i64.wrap ((t.fields.length : Int) + (t.of.length : Int)) = (t.fields.length : Int) + (t.of.length : Int) := IntWalk.i64_in _ (by omega)
            go_loopw [7, 8, 9] (fun n i _ wr => ∃ (k : Nat) (N : Int), k ≤ t.kids.length ∧ i = .int .i64 k ∧ n = .int .i64 N ∧ N = 200 - (T.sizes (t.kids.take k) : Nat) ∧ 2 ≤ N ∧ (∀ (j : Nat) (h : j < t.kids.length), j < k → okFew t.kids[j] (dp - 1)) ∧ Below w.heap.size w wr ∧ Box6 wr w.heap.size (.int .i64 t.kind) (.int .i64 t.lo) (.int .i64 t.hi) (.slice A3 t.names.length d3) (.slice A4 t.fields.length d4) (.slice A5 t.of.length d5)) (fun _ i _ _ => t.kids.length - (intOf i).toNat)
            case atStart => exact ⟨0, 200, Nat.zero_le _, rfl, rfl, by simp [T.sizes], by omega, fun j _ hj => absurd hj (by omega), HBL.out, HBX.out⟩
            case round =>
              clear q0 q1 q2 q3 q4 q5
              obtain ⟨k, N, hk, rfl, rfl, hN, hn2, hall, hb, hbx⟩ := hrel
              have HN2 := Lib.hid hN
              have hN3 : N ≤ 200 := by omega
              clear hN
              have HALL := Lib.hid hall; have HB := Lib.hid hb; have HX := Lib.hid hbx
              obtain ⟨q0, q1, q2, q3, q4, q5⟩ := hbx.cells
              have hzr := hb.size
              clear hall
              by_cases hlt : k < t.kids.length
              · have hcond : decide ((k : Int) < (t.fields.length : Int) + (t.of.length : Int)) = true := decide_eq_true (by omega)
                have hts := T.sizes_take_succ t.kids k hlt
                have HTS := Lib.hid hts
                clear hts hcond
                have hdk := (kid_small (List.getElem_mem hlt)).1
                have hkp := (t.kids[k]).size_pos
                have hdp1 : (dp : Int) - 1 = ((dp - 1 : Nat) : Int) := by omega
                have HDP := Lib.hid hdp1
                have hwd : IntKind.i64.wrap ((dp : Int) - 1) = (dp : Int) - 1 := IntWalk.i64_in _ (by omega)
                clear hdp1
                have hk0 : (0 : Int) ≤ (k : Int) := by omega
                by_cases hfl : k < t.fields.length
                · have hfl2 : (k : Int) < (t.fields.length : Int) := by omega
                  have hsum : (k : Int) < (t.fields.length : Int) + (t.of.length : Int) := by omega
                  obtain ⟨A, cc, e, _, hc⟩ := HFV.out
                  injection e with e1 _ e3
                  subst e1
                  obtain ⟨b, off, rfl, hbb, hc⟩ := hc (by omega)
                  have hat := (FieldsIn.at_ hc k hfl).2.2
                  rw [Nat.zero_add] at hat
                  have kp : ∀ p : Addr, p.block < B → wr.cell? p = w.cell? p := fun p hp => hb.cell (by omega)
                  obtain ⟨u0, u1, u2, u3, u4, u5, s0, s1, s2, s3, s4, s5, hi⟩ := hat.keep (Nat.le_refl _) kp hbb
                  have HI := Lib.hid hi
                  obtain ⟨X3, b3, X4, b4, X5, b5, rfl, rfl, rfl, rfl, rfl, rfl⟩ := hi.forms
                  have hkf := kids_field hfl
                  have HKF := Lib.hid hkf
                  have hdk2 : (t.fields[k]).type.depth < t.depth := by rw [← hkf]; exact hdk
                  clear hc e3 hat kp hi hkf hdk
                  go_wp2_with fail
                  rw [HDP.out]
                  refine (IH.out (t.fields[k]).type _ (dp - 1) wr B (by omega) (by omega) (by omega) ⟨_, _, _, _, _, _, rfl, HI.out⟩).mono ?_
                  rintro e w2 ⟨rfl, hb2⟩
                  have HB2 : Hid (Below w.heap.size w w2) := HB.out.trans (hb2.mono hzr)
                  have HX2 := Lib.hid (HX.out.same (hb2.block _ HX.out.lt))
                  clear hb2 hb hbx
                  by_cases hok : okFew (t.fields[k]'hfl).type (dp - 1)
                  · rw [t_fewV_ok hok]
                    have hok' : okFew t.kids[k] (dp - 1) := by rw [HKF.out]; exact hok
                    have hsk : (t.fields[k]'hfl).type.size ≤ 199 := hok.2.1
                    have hsp := (t.fields[k]'hfl).type.size_pos
                    have HKS : Hid (t.kids[k].size = (t.fields[k]'hfl).type.size) := by show t.kids[k].size = _; rw [HKF.out]
                    have HOK := Lib.hid hok'
                    obtain ⟨M, hM⟩ : ∃ M : Int, M = 200 - ((t.fields[k]'hfl).type.size : Nat) := ⟨_, rfl⟩
                    rw [← hM]
                    have HM := Lib.hid hM
                    have hM1 : 1 ≤ M := by omega
                    have hM2 : M ≤ 199 := by omega
                    have hM0 : (M == 0) = false := by rw [beq_eq_false_iff_ne]; omega
                    have hw1 : IntKind.i64.wrap (N - 200) = N - 200 := IntWalk.i64_in _ (by omega)
                    have hw2 : IntKind.i64.wrap (N - 200 + M) = N - 200 + M := IntWalk.i64_in _ (by omega)
                    clear hM hok hok' hsk hsp
                    by_cases hbig : N - 200 + M ≤ 1
                    · have E := Lib.hid (t_fewV_bad (t := t) (dp := dp) (fun h => by have := h.2.1; have := HTS.out; have := HKS.out; have := HM.out; have := HN2.out; have := T.sizes_take_le t.kids (k + 1); omega))
                      clear q0 q1 q2 q3 q4 q5
                      obtain ⟨q0, q1, q2, q3, q4, q5⟩ := HX2.out.cells
                      go_wp2_with fail
                      go_ret
                      exact ⟨ret_int E.out.symm, HB2.out⟩
                    · clear q0 q1 q2 q3 q4 q5
                      obtain ⟨q0, q1, q2, q3, q4, q5⟩ := HX2.out.cells
                      go_wp2_with fail
                      go_roundw
                      case rel => exact ⟨k + 1, N - 200 + M, by omega, by go_num, rfl, by have := HTS.out; have := HKS.out; have := HM.out; have := HN2.out; omega, by omega, fun j h hj => by
                        rcases Nat.lt_or_ge j k with h1 | h1
                        · exact HALL.out j h h1
                        · obtain rfl : j = k := by omega
                          exact HOK.out, HB2.out, HX2.out⟩
                      case measure => simp [intOf]; omega
                  · rw [t_fewV_bad hok]
                    have E := Lib.hid (t_fewV_bad (t := t) (dp := dp) (fun h => hok (by have := okFew_kid h hlt; rw [HKF.out] at this; exact this)))
                    clear hok q0 q1 q2 q3 q4 q5
                    obtain ⟨q0, q1, q2, q3, q4, q5⟩ := HX2.out.cells
                    go_wp2_with fail
                    go_ret
                    exact ⟨ret_int E.out.symm, HB2.out⟩
                · have hfl2 : ¬ (k : Int) < (t.fields.length : Int) := by omega
                  have hsum : (k : Int) < (t.fields.length : Int) + (t.of.length : Int) := by omega
                  have hix : k - t.fields.length < t.of.length := by clear hlw hwd; omega
                  have hsub : (k : Int) - (t.fields.length : Int) = ((k - t.fields.length : Nat) : Int) := by clear hlw hwd; omega
                  have HSUB := Lib.hid hsub
                  have hsn : ((k : Int) - (t.fields.length : Int)).toNat = k - t.fields.length := by clear hlw hwd; omega
                  have hs0 : (0 : Int) ≤ (k : Int) - (t.fields.length : Int) := by clear hlw hwd; omega
                  have hs9 : (k : Int) - (t.fields.length : Int) < (t.of.length : Int) := by clear hlw hwd; omega
                  obtain ⟨A, cc, e, _, hc⟩ := HOV.out
                  injection e with e1 _ e3
                  subst e1
                  obtain ⟨b, off, rfl, hbb, hc⟩ := hc (by omega)
                  have hat := TypesIn.at_ hc (k - t.fields.length) hix
                  rw [Nat.zero_add] at hat
                  have kp : ∀ p : Addr, p.block < B → wr.cell? p = w.cell? p := fun p hp => hb.cell (by omega)
                  obtain ⟨u0, u1, u2, u3, u4, u5, s0, s1, s2, s3, s4, s5, hi⟩ := hat.keep (Nat.le_refl _) kp hbb
                  have HI := Lib.hid hi
                  obtain ⟨X3, b3, X4, b4, X5, b5, rfl, rfl, rfl, rfl, rfl, rfl⟩ := hi.forms
                  have hkf := kids_of (t := t) (j := k) (Nat.le_of_not_lt hfl) hix
                  have HKF := Lib.hid hkf
                  have hdk2 : (t.of[k - t.fields.length]).depth < t.depth := by rw [← hkf]; exact hdk
                  have hsw : IntKind.i64.wrap ((k : Int) - (t.fields.length : Int)) = (k : Int) - (t.fields.length : Int) := IntWalk.i64_in _ (by omega)
                  clear hc e3 hat kp hi hkf hdk
                  clear hsub
                  go_wp2_with fail
                  rw [HDP.out]
                  refine (IH.out (t.of[k - t.fields.length]) _ (dp - 1) wr B (by omega) (by omega) (by omega) ⟨_, _, _, _, _, _, rfl, HI.out⟩).mono ?_
                  rintro e w2 ⟨rfl, hb2⟩
                  have HB2 : Hid (Below w.heap.size w w2) := HB.out.trans (hb2.mono hzr)
                  have HX2 := Lib.hid (HX.out.same (hb2.block _ HX.out.lt))
                  clear hb2 hb hbx
                  by_cases hok : okFew (t.of[k - t.fields.length]'hix) (dp - 1)
                  · rw [t_fewV_ok hok]
                    have hok' : okFew t.kids[k] (dp - 1) := by rw [HKF.out]; exact hok
                    have hsk : (t.of[k - t.fields.length]'hix).size ≤ 199 := hok.2.1
                    have hsp := (t.of[k - t.fields.length]'hix).size_pos
                    have HKS : Hid (t.kids[k].size = (t.of[k - t.fields.length]'hix).size) := by show t.kids[k].size = _; rw [HKF.out]
                    have HOK := Lib.hid hok'
                    obtain ⟨M, hM⟩ : ∃ M : Int, M = 200 - ((t.of[k - t.fields.length]'hix).size : Nat) := ⟨_, rfl⟩
                    rw [← hM]
                    have HM := Lib.hid hM
                    have hM1 : 1 ≤ M := by omega
                    have hM2 : M ≤ 199 := by omega
                    have hM0 : (M == 0) = false := by rw [beq_eq_false_iff_ne]; omega
                    have hw1 : IntKind.i64.wrap (N - 200) = N - 200 := IntWalk.i64_in _ (by omega)
                    have hw2 : IntKind.i64.wrap (N - 200 + M) = N - 200 + M := IntWalk.i64_in _ (by omega)
                    clear hM hok hok' hsk hsp
                    by_cases hbig : N - 200 + M ≤ 1
                    · have E := Lib.hid (t_fewV_bad (t := t) (dp := dp) (fun h => by have := h.2.1; have := HTS.out; have := HKS.out; have := HM.out; have := HN2.out; have := T.sizes_take_le t.kids (k + 1); omega))
                      clear q0 q1 q2 q3 q4 q5
                      obtain ⟨q0, q1, q2, q3, q4, q5⟩ := HX2.out.cells
                      go_wp2_with fail
                      go_ret
                      exact ⟨ret_int E.out.symm, HB2.out⟩
                    · clear q0 q1 q2 q3 q4 q5
                      obtain ⟨q0, q1, q2, q3, q4, q5⟩ := HX2.out.cells
                      go_wp2_with fail
                      go_roundw
                      case rel => exact ⟨k + 1, N - 200 + M, by omega, by go_num, rfl, by have := HTS.out; have := HKS.out; have := HM.out; have := HN2.out; omega, by omega, fun j h hj => by
                        rcases Nat.lt_or_ge j k with h1 | h1
                        · exact HALL.out j h h1
                        · obtain rfl : j = k := by omega
                          exact HOK.out, HB2.out, HX2.out⟩
                      case measure => simp [intOf]; omega
                  · rw [t_fewV_bad hok]
                    have E := Lib.hid (t_fewV_bad (t := t) (dp := dp) (fun h => hok (by have := okFew_kid h hlt; rw [HKF.out] at this; exact this)))
                    clear hok q0 q1 q2 q3 q4 q5
                    obtain ⟨q0, q1, q2, q3, q4, q5⟩ := HX2.out.cells
                    go_wp2_with fail
                    go_ret
                    exact ⟨ret_int E.out.symm, HB2.out⟩
              · have hsz9 : T.sizes (t.kids.take k) = T.sizes t.kids := by rw [List.take_of_length_le (by omega)]
                have E := Lib.hid (t_fewV_ok (okFew_kids (dp := dp) HPP.out (fun j h => HALL.out j h (by omega)) (by have := HN2.out; omega) (by omega)))
                have hcond : ¬ (k : Int) < (t.fields.length : Int) + (t.of.length : Int) := by omega
                have hw1 : IntKind.i64.wrap (N - 1) = N - 1 := IntWalk.i64_in _ (by omega)
                clear hb hbx
                go_wp2_with fail
                go_ret
                exact ⟨ret_int (by rw [E.out]; have := HN2.out; omega), HB.out⟩
set_option maxRecDepth 100000 in
theorem t_few_v {t : T} {v : Value} {w : World} {B : Nat} (hB : B ≤ w.heap.size) (ht : TypeV w B t v) : Calls Tryz.prog 38 #[v] w fun e w' => e = .returned (.bool (t_fewB t)) ∧ Below w.heap.size w w' := by
  have HT := Lib.hid ht
  obtain ⟨v0, v1, v2, v3, v4, v5, rfl, hin⟩ := ht
  obtain ⟨A3, d3, A4, d4, A5, d5, rfl, rfl, rfl, rfl, rfl, rfl⟩ := hin.forms
  clear hin
  go_enter Tryz.func38, Tryz.ntmps38
  go_wp2_with fail
  refine (t_few_any t.depth t _ 20 _ B (Nat.le_refl _) (by omega) (by simp; omega) (HT.out.keep (Nat.le_refl _) fun p hp => World.cell?_alloc_lt w _ p (by omega))).mono ?_
  rintro e w1 ⟨rfl, hb1⟩
  have HB1 : Hid (Below w.heap.size w w1) := ((Below.refl _ _).alloc (Nat.le_refl _) _).trans (hb1.mono (by simp))
  clear hb1
  by_cases hok : okFew t 20
  · have E := Lib.hid (show t_fewB t = true from decide_eq_true hok)
    rw [t_fewV_ok hok]
    have h0 : (0 : Int) < 200 - (t.size : Nat) := by have := hok.2.1; omega
    clear hok
    go_wp2_with fail
    go_ret
    exact ⟨ret_bool (by rw [E.out]; simp; omega), HB1.out⟩
  · have E := Lib.hid (show t_fewB t = false from decide_eq_false hok)
    rw [t_fewV_bad hok]
    clear hok
    go_wp2_with fail
    go_ret
    exact ⟨ret_bool E.out.symm, HB1.out⟩
end Go.Proofs.YteecdmceleanjaaGreatDoor
