/-
  
-/
import Derived.Test.YtdgnengfcabgjaaB28
namespace Go.Proofs.Ytdgnengfcabgjaa
open Go.RowKit

mutual
/-- No part is greater than the law goes over. -/
def D.Fit6 : D → Prop
  | .mk _ _ s ks l => s.size ≤ 600 ∧ ks.length ≤ 600 ∧ l.length ≤ 600 ∧ (∀ k ∈ ks, k.size ≤ 600) ∧ D.Fits6 l
def D.Fits6 : List D → Prop
  | [] => True
  | d :: r => d.Fit6 ∧ D.Fits6 r
end
theorem D.Fits6.at_ : ∀ {l : List D}, D.Fits6 l → ∀ {i : Nat} (hi : i < l.length), (l[i]).Fit6
  | [], _, i, hi => by simp at hi
  | d :: r, h, 0, _ => by simp only [D.Fits6] at h; exact h.1
  | d :: r, h, i + 1, hi => by simp only [D.Fits6] at h; exact D.Fits6.at_ h.2 (by simpa using hi)
theorem D.Fits6.all : ∀ {l : List D}, (∀ (i : Nat) (h : i < l.length), (l[i]).Fit6) → D.Fits6 l
  | [], _ => by simp [D.Fits6]
  | d :: r, hp => by
    simp only [D.Fits6]
    exact ⟨hp 0 (by simp), D.Fits6.all fun i h => hp (i + 1) (by simpa using h)⟩
theorem D.fit6_eq (d : D) : d.Fit6 ↔ d.str.size ≤ 600 ∧ d.keys.length ≤ 600 ∧ d.kids.length ≤ 600 ∧ (∀ k ∈ d.keys, k.size ≤ 600) ∧ D.Fits6 d.kids := by
  obtain ⟨_, _, _, _, _⟩ := d; simp only [D.Fit6, D.str, D.keys, D.kids]
mutual
theorem D.Fit6.fit : ∀ {d : D}, d.Fit6 → d.Fit
  | .mk _ _ s ks l, h => by
    simp only [D.Fit6] at h
    simp only [D.Fit]
    exact ⟨by omega, by omega, by omega, fun k hk => by have := h.2.2.2.1 k hk; omega, D.Fits6.fits h.2.2.2.2⟩
theorem D.Fits6.fits : ∀ {l : List D}, D.Fits6 l → D.Fits l
  | [], _ => by simp [D.Fits]
  | d :: r, h => by simp only [D.Fits6] at h; simp only [D.Fits]; exact ⟨D.Fit6.fit h.1, D.Fits6.fits h.2⟩
end
structure FewP (d : D) (deep : Nat) : Prop where
  depth : d.depth ≤ deep
  fit : d.Fit6
  size : d.size ≤ 699
open Classical in
noncomputable def fewV (d : D) (deep : Nat) : Int := if FewP d deep then 700 - d.size else 0
theorem fewV_ok {d : D} {deep : Nat} (h : FewP d deep) : fewV d deep = 700 - d.size := by unfold fewV; rw [if_pos h]
theorem fewV_bad {d : D} {deep : Nat} (h : ¬ FewP d deep) : fewV d deep = 0 := by unfold fewV; rw [if_neg h]

set_option maxHeartbeats 4000000 in
set_option maxRecDepth 100000 in
theorem few_any (m : Nat) : ∀ (d : D) (v0 v1 v2 v3 v4 : Value) (w : World) (B : Nat) (dp : Nat), dp ≤ m → dp ≤ 20 → B ≤ w.heap.size → DocIn w B d v0 v1 v2 v3 v4 →
    Calls Try.prog 32 #[.agg #[v0, v1, v2, v3, v4], .int .i64 (dp : Int)] w fun e w' => e = .returned (.int .i64 (fewV d dp)) ∧ Below w.heap.size w w' := by
  induction m with
  | zero =>
    intro d v0 v1 v2 v3 v4 w B dp hdp _ hB hd
    obtain rfl : dp = 0 := by omega
    have E := Lib.hid (fewV_bad (d := d) (deep := 0) (fun h => by have := h.depth; have := D.depth_eq d; omega))
    go_enter Try.func32, Try.ntmps32
    obtain ⟨A3, c3, A4, c4, rfl, rfl, rfl, rfl, rfl⟩ := hd.forms
    go_wp2_with fail
    go_ret
    exact ⟨ret_int E.out.symm, (Below.refl _ _).alloc (Nat.le_refl _) _⟩
  | succ m ih =>
    intro d v0 v1 v2 v3 v4 w B dp hdp hdp2 hB hd
    have HK3 := Lib.hid hd.keys_
    obtain ⟨A3, c3, A4, c4, rfl, rfl, rfl, rfl, rfl⟩ := hd.forms
    have H4 := Lib.hid hd.kids_; clear hd
    have IH := Lib.hid ih; clear ih
    by_cases h0 : dp = 0
    · subst h0
      have E := Lib.hid (fewV_bad (d := d) (deep := 0) (fun h => by have := h.depth; have := D.depth_eq d; omega))
      go_enter Try.func32, Try.ntmps32
      go_wp2_with fail
      go_ret
      exact ⟨ret_int E.out.symm, (Below.refl _ _).alloc (Nat.le_refl _) _⟩
    have g0 : decide ((dp : Int) ≤ 0) = false := by simp; omega
    by_cases h1 : 600 < d.kids.length
    · have E := Lib.hid (fewV_bad (d := d) (deep := dp) (fun h => by have := h.fit; rw [D.fit6_eq] at this; omega))
      go_enter Try.func32, Try.ntmps32
      go_wp2_with fail
      go_ret
      exact ⟨ret_int E.out.symm, (Below.refl _ _).alloc (Nat.le_refl _) _⟩
    have g1 : decide ((600 : Int) < (d.kids.length : Int)) = false := by simp; omega
    by_cases h2 : 600 < d.keys.length
    · have E := Lib.hid (fewV_bad (d := d) (deep := dp) (fun h => by have := h.fit; rw [D.fit6_eq] at this; omega))
      go_enter Try.func32, Try.ntmps32
      go_wp2_with fail
      go_ret
      exact ⟨ret_int E.out.symm, (Below.refl _ _).alloc (Nat.le_refl _) _⟩
    have g2 : decide ((600 : Int) < (d.keys.length : Int)) = false := by simp; omega
    by_cases h3 : 600 < d.str.size
    · have E := Lib.hid (fewV_bad (d := d) (deep := dp) (fun h => by have := h.fit; rw [D.fit6_eq] at this; omega))
      go_enter Try.func32, Try.ntmps32
      go_wp2_with fail
      go_ret
      exact ⟨ret_int E.out.symm, (Below.refl _ _).alloc (Nat.le_refl _) _⟩
    have g3 : decide ((600 : Int) < (d.str.size : Int)) = false := by simp; omega
    have HDE := Lib.hid (D.depth_eq d)
    have HSE := Lib.hid (D.size_eq d)
    have hdl := D.len_le_sizes d.kids
    have hsp := D.size_pos d
    have hsz0 : d.kids.length ≤ 600 := by omega
    have hsz1 : d.keys.length ≤ 600 := by omega
    have hsz2 : d.str.size ≤ 600 := by omega
    clear h1 h2 h3
    go_enter Try.func32, Try.ntmps32
    go_wp2_with fail
    go_loopw [5, 6] (fun t i wr => ∃ (k : Nat) (q : Int), k ≤ d.kids.length ∧ i = .int .i64 k ∧ t = .int .i64 q ∧ q = 700 - D.sizes (d.kids.take k) ∧ 2 ≤ q ∧
        (∀ (j : Nat) (h : j < d.kids.length), j < k → FewP d.kids[j] (dp - 1)) ∧ Below (w.heap.size + 1) (w.alloc (.cells #[.int .i64 d.kind, .int .i64 d.num, .string d.str, .slice A3 d.keys.length c3, .slice A4 d.kids.length c4] 25)) wr) (fun _ i _ => d.kids.length - (intOf i).toNat)
    case atStart => exact ⟨0, 700, Nat.zero_le _, rfl, rfl, by simp [D.sizes], by omega, fun j _ hj => absurd hj (by omega), Below.refl _ _⟩
    case round =>
      obtain ⟨k, q, hk, rfl, rfl, hq, hq0, hall, hb⟩ := hrel
      have HQ := Lib.hid hq
      have hq2 : q ≤ 700 := by omega
      have HA := Lib.hid hall
      clear hq hall
      have hz := hb.size
      simp only [World.size_alloc] at hz
      have gb3 : wr.cell? ⟨w.heap.size, 3, none⟩ = some (.slice A3 d.keys.length c3) := (hb.cell (p := ⟨w.heap.size, 3, none⟩) (by show w.heap.size < _; omega)).trans (World.cell?_alloc_at _ _ _ _ rfl)
      have gb4 : wr.cell? ⟨w.heap.size, 4, none⟩ = some (.slice A4 d.kids.length c4) := (hb.cell (p := ⟨w.heap.size, 4, none⟩) (by show w.heap.size < _; omega)).trans (World.cell?_alloc_at _ _ _ _ rfl)
      by_cases hlt : k < d.kids.length
      · obtain ⟨_, _, h4⟩ := H4.out
        obtain ⟨b, off, rfl, hab, hkids⟩ := h4 (by omega)
        have hcells := KidsIn.at_ hkids k hlt
        rw [Nat.zero_add] at hcells
        obtain ⟨u0, u1, u2, u3, u4, x0, x1, x2, x3, x4, hdk⟩ := hcells
        have bc : ∀ b n, b < B → wr.cell? ⟨b, n, none⟩ = w.cell? ⟨b, n, none⟩ := fun b n hb0 => (hb.cell (p := ⟨b, n, none⟩) (by show b < _; omega)).trans (World.cell?_alloc_lt w _ ⟨b, n, none⟩ (by show b < _; omega))
        rw [← bc _ _ hab] at x0 x1 x2 x3 x4
        have HC := Lib.hid bc
        clear bc hkids h4
        obtain ⟨A5, c5, A6, c6, rfl, rfl, rfl, rfl, rfl⟩ := hdk.forms
        have HK := Lib.hid hdk; clear hdk
        have HT := Lib.hid (D.sizes_take_succ d.kids k hlt)
        have hts := D.sizes_take_le d.kids (k + 1)
        have HDP := Lib.hid (show (dp : Int) - 1 = ((dp - 1 : Nat) : Int) by omega)
        go_wp2_with fail
        rw [HDP.out]
        refine (IH.out d.kids[k] _ _ _ _ _ _ B (dp - 1) (by omega) (by omega) (by omega) (HK.out.keep (Nat.le_refl _) fun p hp => (hb.cell (p := p) (by omega)).trans (World.cell?_alloc_lt w _ p (by omega)))).mono ?_
        rintro e w2 ⟨rfl, hb2⟩
        have hb3 : Below (w.heap.size + 1) (w.alloc (.cells #[.int .i64 d.kind, .int .i64 d.num, .string d.str, .slice A3 d.keys.length c3, .slice (some ⟨b, off, none⟩) d.kids.length c4] 25)) w2 := hb.trans (hb2.mono (by omega))
        by_cases hok : FewP d.kids[k] (dp - 1)
        · have hsk := D.size_pos d.kids[k]
          have hsk2 := hok.size
          have HS := Lib.hid (fewV_ok hok)
          have hkz : (fewV d.kids[k] (dp - 1) == 0) = false := by rw [HS.out]; simp; omega
          have hv1 : fewV d.kids[k] (dp - 1) ≤ 700 := by rw [HS.out]; omega
          have hv0 : 0 ≤ fewV d.kids[k] (dp - 1) := by rw [HS.out]; omega
          by_cases hroom : 2 ≤ q - 700 + fewV d.kids[k] (dp - 1)
          · have HP := Lib.hid hok; clear hok
            go_wp2_with fail
            go_roundw
            case rel => exact ⟨k + 1, q - 700 + fewV d.kids[k] (dp - 1), by omega, by go_num, rfl, by rw [HT.out, HS.out, HQ.out]; omega, hroom, fun j h hj => by
              rcases Nat.lt_or_ge j k with h1 | h1
              · exact HA.out j h h1
              · obtain rfl : j = k := by omega
                exact HP.out, hb3⟩
            case measure => simp [intOf]; omega
          · have E := Lib.hid (fewV_bad (d := d) (deep := dp) (fun h => hroom (by have := h.size; have := HSE.out; have := HT.out; have := HQ.out; have := HS.out; omega)))
            clear hok
            go_wp2_with fail
            go_ret
            exact ⟨ret_int E.out.symm, ((Below.refl _ _).alloc (Nat.le_refl _) _).trans (hb3.mono (by omega))⟩
        · have hkz : fewV d.kids[k] (dp - 1) = 0 := fewV_bad hok
          have E := Lib.hid (fewV_bad (d := d) (deep := dp) (fun h => hok ⟨by have := h.depth; have := D.depth_kid (d := d) hlt; omega, by have := h.fit; rw [D.fit6_eq] at this; exact this.2.2.2.2.at_ hlt, by
            have := h.size; have := HSE.out; have := HT.out; omega⟩))
          clear hok
          go_wp2_with fail
          go_ret
          exact ⟨ret_int E.out.symm, ((Below.refl _ _).alloc (Nat.le_refl _) _).trans (hb3.mono (by omega))⟩
      · have htk : d.kids.take k = d.kids := List.take_of_length_le (by omega)
        rw [htk] at HQ
        have HA2 : Hid (∀ (j : Nat) (h : j < d.kids.length), FewP d.kids[j] (dp - 1)) := fun j h => HA.out j h (by omega)
        clear htk HA
        go_wp2_with fail
        go_loopw [8] (fun i ww => ∃ (k : Nat), k ≤ d.keys.length ∧ i = .int .i64 k ∧ (∀ (j : Nat) (h : j < d.keys.length), j < k → (d.keys[j]).size ≤ 600) ∧ wr = ww) (fun i _ => d.keys.length - (intOf i).toNat)
        case atStart => exact ⟨0, Nat.zero_le _, rfl, fun j _ hj => absurd hj (by omega), rfl⟩
        case round =>
          obtain ⟨k2, hk2, rfl, hall, rfl⟩ := hrel
          have HA := Lib.hid hall; clear hall
          by_cases hlt2 : k2 < d.keys.length
          · obtain ⟨A', c', e', hc1, hc2⟩ := HK3.out
            injection e' with e1 _ e2; subst e1; subst e2
            obtain ⟨b, off, rfl, hab, hcells⟩ := hc2 (by omega)
            have gk := hcells k2 hlt2
            rw [← (hb.cell (p := ⟨b, off + k2, none⟩) (by show b < _; omega)).trans (World.cell?_alloc_lt w _ ⟨b, off + k2, none⟩ (by show b < _; omega))] at gk
            clear hcells hc2
            by_cases hl : (d.keys[k2]).size ≤ 600
            · go_wp2_with fail
              go_roundw
              case rel => exact ⟨k2 + 1, by omega, by go_num, fun j h hj => by
                rcases Nat.lt_or_ge j k2 with h1 | h1
                · exact HA.out j h h1
                · obtain rfl : j = k2 := by omega
                  exact hl, by first | rfl | trivial⟩
              case measure => simp [intOf]; omega
            · have E := Lib.hid (fewV_bad (d := d) (deep := dp) (fun h => hl (by have := h.fit; rw [D.fit6_eq] at this; exact this.2.2.2.1 _ (List.getElem_mem hlt2))))
              go_wp2_with fail
              go_ret
              exact ⟨ret_int E.out.symm, ((Below.refl _ _).alloc (Nat.le_refl _) _).trans (hb.mono (by omega))⟩
          · have E := Lib.hid (fewV_ok (d := d) (deep := dp) ⟨by have := HDE.out; have := D.depths_le (l := d.kids) (m := dp - 1) (fun i hi => (HA2.out i hi).depth); omega, by
              rw [D.fit6_eq]
              refine ⟨hsz2, hsz1, hsz0, fun k hk => ?_, D.Fits6.all fun i hi => (HA2.out i hi).fit⟩
              obtain ⟨i, hi, rfl⟩ := List.getElem_of_mem hk
              exact HA.out i hi (by omega), by have := HSE.out; have := HQ.out; omega⟩)
            go_wp2_with fail
            go_ret
            exact ⟨ret_int (by rw [E.out, HQ.out, HSE.out]; omega), ((Below.refl _ _).alloc (Nat.le_refl _) _).trans (hb.mono (by omega))⟩

open Classical in
noncomputable def fewB (d : D) : Bool := decide (FewP d 20)
set_option maxHeartbeats 400000 in
theorem few_v {d : D} {v : Value} {w : World} {B : Nat} (hB : B ≤ w.heap.size) (hd : DocV w B d v) :
    Calls Try.prog 8 #[v] w fun e w' => e = .returned (.bool (fewB d)) ∧ Below w.heap.size w w' := by
  obtain ⟨v0, v1, v2, v3, v4, rfl, hd⟩ := hd
  have HD := Lib.hid hd
  obtain ⟨A3, c3, A4, c4, rfl, rfl, rfl, rfl, rfl⟩ := hd.forms
  clear hd
  go_enter Try.func8, Try.ntmps8
  go_wp2_with fail
  refine (few_any 20 d _ _ _ _ _ _ B 20 (by omega) (by omega) (by simp; omega) (HD.out.keep (Nat.le_refl _) fun p hp => World.cell?_alloc_lt w _ p (by omega))).mono ?_
  rintro e w1 ⟨rfl, hb1⟩
  have hb2 : Below w.heap.size w w1 := ((Below.refl _ _).alloc (Nat.le_refl _) _).trans (hb1.mono (by simp))
  by_cases hok : FewP d 20
  · have E := Lib.hid (show fewB d = true by simp [fewB, hok])
    have hv : 0 < fewV d 20 := by rw [fewV_ok hok]; have := hok.size; omega
    clear hok
    go_wp2_with fail
    go_ret
    exact ⟨ret_bool (by rw [E.out]), hb2⟩
  · have E := Lib.hid (show fewB d = false by simp [fewB, hok])
    have hv : fewV d 20 = 0 := fewV_bad hok
    clear hok
    go_wp2_with fail
    go_ret
    exact ⟨ret_bool (by rw [E.out]), hb2⟩
end Go.Proofs.Ytdgnengfcabgjaa
