/-
  
  
  slices.Insert of one document into a row of the call's own.
-/
import Derived.Test.YtlemlgllkcgigaaGreatDoorF10
import Derived.Test.YtlemlgllkcgigaaGreatDoorF11
import Derived.Shelf.Spec.SlicesInsert
import Derived.Lib.AppendZerosOnto
namespace Go.Proofs.YtlemlgllkcgigaaGreatDoor
open Go.RowKit

mutual
def partB : D → Bool
  | .mk k n s ks l => soundB (.mk k n s ks l) && partsB l
def partsB : List D → Bool
  | [] => true
  | d :: r => partB d && partsB r
end
theorem partB_eq (d : D) : partB d = (soundB d && partsB d.kids) := by obtain ⟨_, _, _, _, _⟩ := d; simp only [partB, D.kids]
theorem partsB_at : ∀ {l : List D}, partsB l = true → ∀ {i : Nat} (h : i < l.length), partB l[i] = true
  | [], _, i, h => by simp at h
  | d :: r, hp, 0, _ => by simp only [partsB, Bool.and_eq_true] at hp; exact hp.1
  | d :: r, hp, i + 1, h => by simp only [partsB, Bool.and_eq_true] at hp; exact partsB_at hp.2 (by simpa using h)
theorem partsB_all : ∀ {l : List D}, (∀ (i : Nat) (h : i < l.length), partB l[i] = true) → partsB l = true
  | [], _ => by simp [partsB]
  | d :: r, hp => by
    simp only [partsB, Bool.and_eq_true]
    exact ⟨hp 0 (by simp), partsB_all fun i h => hp (i + 1) (by simpa using h)⟩
theorem D.depths_le {l : List D} {m : Nat} (h : ∀ (i : Nat) (h : i < l.length), (l[i]).depth ≤ m) : D.depths l ≤ m := by
  induction l with
  | nil => simp [D.depths]
  | cons d r ih =>
    simp only [D.depths]
    have h0 := h 0 (by simp)
    have := ih fun i hi => h (i + 1) (by simpa using hi)
    simp at h0
    omega
theorem D.size_eq (d : D) : d.size = D.sizes d.kids + 1 := by obtain ⟨_, _, _, _, _⟩ := d; simp [D.size, D.kids]
/-- No deeper, no more parts than these, and all parts right. -/
def okB (d : D) (dp : Nat) (p : Int) : Bool := decide (d.depth ≤ dp) && (decide ((d.size : Int) ≤ p) && partB d)
def restV (d : D) (dp : Nat) (p : Int) : Int := if okB d dp p = true then p - d.size else -1
theorem okB_iff {d : D} {dp : Nat} {p : Int} : okB d dp p = true ↔ d.depth ≤ dp ∧ (d.size : Int) ≤ p ∧ partB d = true := by simp [okB]
theorem restV_bad {d : D} {dp : Nat} {p : Int} (h : ¬ (d.depth ≤ dp ∧ (d.size : Int) ≤ p ∧ partB d = true)) : restV d dp p = -1 := by
  unfold restV; rw [if_neg (by rw [okB_iff]; exact h)]
theorem restV_ok {d : D} {dp : Nat} {p : Int} (h : d.depth ≤ dp ∧ (d.size : Int) ≤ p ∧ partB d = true) : restV d dp p = p - d.size := by
  unfold restV; rw [if_pos (by rw [okB_iff]; exact h)]

set_option maxHeartbeats 4000000 in
set_option maxRecDepth 100000 in
theorem rest_any (m : Nat) : ∀ (d : D) (v0 v1 v2 v3 v4 : Value) (w : World) (B : Nat) (dp : Nat) (p : Int), d.depth ≤ m → d.Fit → B ≤ w.heap.size → DocIn w B d v0 v1 v2 v3 v4 → dp ≤ 1000 → -1 ≤ p → p ≤ 10000 →
    Calls Tryz.prog 57 #[.agg #[v0, v1, v2, v3, v4], .int .i64 (dp : Int), .int .i64 p] w fun e w' => e = .returned (.int .i64 (restV d dp p)) ∧ Below w.heap.size w w' := by
  induction m with
  | zero => intro d; obtain ⟨_, _, _, _, _⟩ := d; intro _ _ _ _ _ _ _ _ _ h; simp [D.depth] at h
  | succ m ih =>
    intro d v0 v1 v2 v3 v4 w B dp p hm hf hB hd hdp hp1 hp2
    have HF := Lib.hid hf
    have hlen := hf.kids
    clear hf
    have HD := Lib.hid hd
    obtain ⟨A3, c3, A4, c4, rfl, rfl, rfl, rfl, rfl⟩ := hd.forms
    have H4 := Lib.hid hd.kids_; clear hd
    have IH := Lib.hid ih; clear ih
    have HDE := Lib.hid (D.depth_eq d)
    have HSE := Lib.hid (D.size_eq d)
    have hdl := D.len_le_sizes d.kids
    have hsp := D.size_pos d
    by_cases h0 : dp = 0
    · have E := Lib.hid (restV_bad (d := d) (dp := dp) (p := p) (fun h => by have := HDE.out; omega))
      have g0 : ((dp : Int) == 0) = true := by simp [h0]
      clear h0
      go_enter Tryz.func57, Tryz.ntmps57
      go_wp2_with fail
      go_ret
      exact ⟨ret_int E.out.symm, (Below.refl _ _).alloc (Nat.le_refl _) _⟩
    have g0 : ((dp : Int) == 0) = false := by simp; omega
    by_cases h1 : p ≤ (d.kids.length : Int)
    · have E := Lib.hid (restV_bad (d := d) (dp := dp) (p := p) (fun h => by have := HSE.out; omega))
      go_enter Tryz.func57, Tryz.ntmps57
      go_wp2_with fail
      go_ret
      exact ⟨ret_int E.out.symm, (Below.refl _ _).alloc (Nat.le_refl _) _⟩
    have h1' : decide (p ≤ (d.kids.length : Int)) = false := by simp; omega
    cases hsd : soundB d with
    | false =>
      have E := Lib.hid (restV_bad (d := d) (dp := dp) (p := p) (fun h => by have := h.2.2; rw [partB_eq, hsd] at this; cases this))
      go_enter Tryz.func57, Tryz.ntmps57
      go_wp2_with fail
      refine (sound_any (B := B) HF.out (by simp; omega) (HD.out.keep (Nat.le_refl _) fun p hp => World.cell?_alloc_lt w _ p (by omega))).mono ?_
      rintro e w1 ⟨rfl, hb1⟩
      go_wp2_with fail
      go_ret
      exact ⟨ret_int E.out.symm, ((Below.refl _ _).alloc (Nat.le_refl _) _).trans (hb1.mono (by simp))⟩
    | true =>
      go_enter Tryz.func57, Tryz.ntmps57
      go_wp2_with fail
      refine (sound_any (B := B) HF.out (by simp; omega) (HD.out.keep (Nat.le_refl _) fun p hp => World.cell?_alloc_lt w _ p (by omega))).mono ?_
      rintro e w1 ⟨rfl, hb1⟩
      obtain ⟨bc1, bf1⟩ := below_add hb1
      have hz1 := hb1.size
      simp only [World.size_alloc] at hz1
      go_wp2_with fail
      go_loopw [2, 28] (fun t i wr => ∃ (k : Nat) (q : Int), k ≤ d.kids.length ∧ i = .int .i64 k ∧ t = .int .i64 q ∧ q = p - 1 - D.sizes (d.kids.take k) ∧ 0 ≤ q ∧
          (∀ (j : Nat) (h : j < d.kids.length), j < k → (d.kids[j]).depth ≤ dp - 1 ∧ partB d.kids[j] = true) ∧ Below w.heap.size w wr) (fun _ i _ => d.kids.length - (intOf i).toNat)
      case atStart => exact ⟨0, p - 1, Nat.zero_le _, rfl, rfl, by simp [D.sizes], by omega, fun j _ hj => absurd hj (by omega), ((Below.refl _ _).alloc (Nat.le_refl _) _).trans (hb1.mono (by simp))⟩
      case round =>
        obtain ⟨k, q, hk, rfl, rfl, hq, hq0, hall, hb⟩ := hrel
        have HQ := Lib.hid hq
        have hq2 : q ≤ 10000 := by omega
        have HA := Lib.hid hall
        clear hq hall bc1 bf1
        by_cases hlt : k < d.kids.length
        · obtain ⟨_, _, h4⟩ := H4.out
          obtain ⟨b, off, rfl, hab, hkids⟩ := h4 (by omega)
          have hcells := KidsIn.at_ hkids k hlt
          rw [Nat.zero_add] at hcells
          obtain ⟨u0, u1, u2, u3, u4, x0, x1, x2, x3, x4, hdk⟩ := hcells
          have bc : ∀ n, wr.cell? ⟨b, n, none⟩ = w.cell? ⟨b, n, none⟩ := fun n => hb.cell (p := ⟨b, n, none⟩) (by show b < _; omega)
          rw [← bc] at x0 x1 x2 x3 x4
          clear bc hkids h4
          obtain ⟨A5, c5, A6, c6, rfl, rfl, rfl, rfl, rfl⟩ := hdk.forms
          have HK := Lib.hid hdk; clear hdk
          have HT := Lib.hid (D.sizes_take_succ d.kids k hlt)
          have hts := D.sizes_take_le d.kids (k + 1)
          have hkd : (d.kids[k]).depth ≤ m := by have := D.depth_kid (d := d) hlt; omega
          have hdp1 : (dp : Int) - 1 = ((dp - 1 : Nat) : Int) := by omega
          have HDP := Lib.hid hdp1; clear hdp1
          have hz := hb.size
          go_wp2_with fail
          rw [HDP.out]
          refine (IH.out d.kids[k] _ _ _ _ _ _ B (dp - 1) q hkd (HF.out.kid hlt) ?_ ?_ (by omega) (by omega) (by omega)).mono ?_
          · simp; omega
          · exact DocIn.keep (Nat.le_refl _) (fun p hp => ((World.cell?_alloc_lt wr _ p (by omega)).trans (hb.cell (by omega)))) HK.out
          rintro e w2 ⟨rfl, hb2⟩
          have hb3 : Below w.heap.size w w2 := (hb.alloc (by omega) _).trans (hb2.mono (by simp; omega))
          by_cases hok : (d.kids[k]).depth ≤ dp - 1 ∧ ((d.kids[k]).size : Int) ≤ q ∧ partB d.kids[k] = true
          · have hv := restV_ok hok
            have hv0 : 0 ≤ restV d.kids[k] (dp - 1) q := by rw [hv]; omega
            have HV := Lib.hid hv; clear hv
            go_wp2_with fail
            go_roundw
            case rel => exact ⟨k + 1, restV d.kids[k] (dp - 1) q, by omega, by go_num, rfl, by rw [HT.out, HV.out, HQ.out]; omega, hv0, fun j h hj => by
              rcases Nat.lt_or_ge j k with h1 | h1
              · exact HA.out j h h1
              · obtain rfl : j = k := by omega
                exact ⟨hok.1, hok.2.2⟩, hb3⟩
            case measure => simp [intOf]; omega
          · have hv := restV_bad hok
            have hv0 : restV d.kids[k] (dp - 1) q < 0 := by rw [hv]; omega
            clear hv
            have E := Lib.hid (restV_bad (d := d) (dp := dp) (p := p) (fun h => hok ⟨by have := D.depth_kid (d := d) hlt; omega, by have := HT.out; have := HSE.out; have := HQ.out; omega, by
              have := h.2.2; rw [partB_eq, Bool.and_eq_true] at this; exact partsB_at this.2 hlt⟩))
            clear hok
            go_wp2_with fail
            go_ret
            exact ⟨ret_int E.out.symm, hb3⟩
        · have htk : d.kids.take k = d.kids := List.take_of_length_le (by omega)
          have E := Lib.hid (restV_ok (d := d) (dp := dp) (p := p) ⟨by
            rw [HDE.out]; have := D.depths_le (l := d.kids) (m := dp - 1) (fun i hi => (HA.out i hi (by omega)).1); omega, by
            have := HSE.out; have := HQ.out; rw [htk] at this; omega, by
            rw [partB_eq, hsd, partsB_all fun i hi => (HA.out i hi (by omega)).2]; rfl⟩)
          have HT := Lib.hid htk; clear htk
          go_wp2_with fail
          go_ret
          exact ⟨ret_int (by rw [E.out, HQ.out, HT.out, HSE.out]; omega), hb⟩

def rightB (d : D) : Bool := okB d 12 512
set_option maxHeartbeats 400000 in
theorem right_v {d : D} {v : Value} {w : World} {B : Nat} (hf : d.Fit) (hB : B ≤ w.heap.size) (hd : DocV w B d v) :
    Calls Tryz.prog 27 #[v] w fun e w' => e = .returned (.bool (rightB d)) ∧ Below w.heap.size w w' := by
  have HV := Lib.hid hd
  obtain ⟨v0, v1, v2, v3, v4, rfl, hd⟩ := hd
  have HD := Lib.hid hd
  obtain ⟨A3, c3, A4, c4, rfl, rfl, rfl, rfl, rfl⟩ := hd.forms
  clear hd
  go_enter Tryz.func27, Tryz.ntmps27
  go_wp2_with fail
  refine (rest_any d.depth d _ _ _ _ _ _ B 12 512 (Nat.le_refl _) hf (by simp; omega) (HD.out.keep (Nat.le_refl _) fun p hp => World.cell?_alloc_lt w _ p (by omega)) (by omega) (by omega) (by omega)).mono ?_
  rintro e w1 ⟨rfl, hb1⟩
  have hb2 : Below w.heap.size w w1 := ((Below.refl _ _).alloc (Nat.le_refl _) _).trans (hb1.mono (by simp))
  cases hok : rightB d with
  | true =>
    have hv : 0 ≤ restV d 12 512 := by have := okB_iff.1 hok; rw [restV_ok this]; omega
    go_wp2_with fail
    go_ret
    exact ⟨ret_bool hok.symm, hb2⟩
  | false =>
    have hv : restV d 12 512 < 0 := by rw [restV_bad (fun h => by rw [← okB_iff] at h; unfold rightB at hok; rw [hok] at h; cases h)]; omega
    go_wp2_with fail
    go_ret
    exact ⟨ret_bool (by rw [hok]; simp; omega), hb2⟩
end Go.Proofs.YtlemlgllkcgigaaGreatDoor
namespace Go.Proofs.YtlemlgllkcgigaaGreatDoor
open Go.RowKit

mutual
/-- No part is greater than the law goes over. -/
def D.Fit6 : D → Prop
  | .mk _ _ s ks l => s.size ≤ 600 ∧ ks.length ≤ 600 ∧ l.length ≤ 600 ∧ (∀ k ∈ ks, k.size ≤ 600) ∧ D.Fits6 l
def D.Fits6 : List D → Prop
  | [] => True
  | d :: r => d.Fit6 ∧ D.Fits6 r
end
theorem D.Fits6.at_ : ∀ {l : List D}, D.Fits6 l → ∀ {i : Nat} (hi : i < l.length), (l[i]).Fit6
  | [], _, i, hi => by simp at hi
  | d :: r, h, 0, _ => by simp only [D.Fits6] at h; exact h.1
  | d :: r, h, i + 1, hi => by simp only [D.Fits6] at h; exact D.Fits6.at_ h.2 (by simpa using hi)
theorem D.Fits6.all : ∀ {l : List D}, (∀ (i : Nat) (h : i < l.length), (l[i]).Fit6) → D.Fits6 l
  | [], _ => by simp [D.Fits6]
  | d :: r, hp => by
    simp only [D.Fits6]
    exact ⟨hp 0 (by simp), D.Fits6.all fun i h => hp (i + 1) (by simpa using h)⟩
theorem D.fit6_eq (d : D) : d.Fit6 ↔ d.str.size ≤ 600 ∧ d.keys.length ≤ 600 ∧ d.kids.length ≤ 600 ∧ (∀ k ∈ d.keys, k.size ≤ 600) ∧ D.Fits6 d.kids := by
  obtain ⟨_, _, _, _, _⟩ := d; simp only [D.Fit6, D.str, D.keys, D.kids]
mutual
theorem D.Fit6.fit : ∀ {d : D}, d.Fit6 → d.Fit
  | .mk _ _ s ks l, h => by
    simp only [D.Fit6] at h
    simp only [D.Fit]
    exact ⟨by omega, by omega, by omega, fun k hk => by have := h.2.2.2.1 k hk; omega, D.Fits6.fits h.2.2.2.2⟩
theorem D.Fits6.fits : ∀ {l : List D}, D.Fits6 l → D.Fits l
  | [], _ => by simp [D.Fits]
  | d :: r, h => by simp only [D.Fits6] at h; simp only [D.Fits]; exact ⟨D.Fit6.fit h.1, D.Fits6.fits h.2⟩
end
structure FewP (d : D) (deep : Nat) : Prop where
  depth : d.depth ≤ deep
  fit : d.Fit6
  size : d.size ≤ 699
open Classical in
noncomputable def fewV (d : D) (deep : Nat) : Int := if FewP d deep then 700 - d.size else 0
theorem fewV_ok {d : D} {deep : Nat} (h : FewP d deep) : fewV d deep = 700 - d.size := by unfold fewV; rw [if_pos h]
theorem fewV_bad {d : D} {deep : Nat} (h : ¬ FewP d deep) : fewV d deep = 0 := by unfold fewV; rw [if_neg h]

set_option maxHeartbeats 4000000 in
set_option maxRecDepth 100000 in
theorem few_any (m : Nat) : ∀ (d : D) (v0 v1 v2 v3 v4 : Value) (w : World) (B : Nat) (dp : Nat), dp ≤ m → dp ≤ 20 → B ≤ w.heap.size → DocIn w B d v0 v1 v2 v3 v4 →
    Calls Tryz.prog 59 #[.agg #[v0, v1, v2, v3, v4], .int .i64 (dp : Int)] w fun e w' => e = .returned (.int .i64 (fewV d dp)) ∧ Below w.heap.size w w' := by
  induction m with
  | zero =>
    intro d v0 v1 v2 v3 v4 w B dp hdp _ hB hd
    obtain rfl : dp = 0 := by omega
    have E := Lib.hid (fewV_bad (d := d) (deep := 0) (fun h => by have := h.depth; have := D.depth_eq d; omega))
    go_enter Tryz.func59, Tryz.ntmps59
    obtain ⟨A3, c3, A4, c4, rfl, rfl, rfl, rfl, rfl⟩ := hd.forms
    go_wp2_with fail
    go_ret
    exact ⟨ret_int E.out.symm, (Below.refl _ _).alloc (Nat.le_refl _) _⟩
  | succ m ih =>
    intro d v0 v1 v2 v3 v4 w B dp hdp hdp2 hB hd
    have HK3 := Lib.hid hd.keys_
    obtain ⟨A3, c3, A4, c4, rfl, rfl, rfl, rfl, rfl⟩ := hd.forms
    have H4 := Lib.hid hd.kids_; clear hd
    have IH := Lib.hid ih; clear ih
    by_cases h0 : dp = 0
    · subst h0
      have E := Lib.hid (fewV_bad (d := d) (deep := 0) (fun h => by have := h.depth; have := D.depth_eq d; omega))
      go_enter Tryz.func59, Tryz.ntmps59
      go_wp2_with fail
      go_ret
      exact ⟨ret_int E.out.symm, (Below.refl _ _).alloc (Nat.le_refl _) _⟩
    have g0 : decide ((dp : Int) ≤ 0) = false := by simp; omega
    by_cases h1 : 600 < d.kids.length
    · have E := Lib.hid (fewV_bad (d := d) (deep := dp) (fun h => by have := h.fit; rw [D.fit6_eq] at this; omega))
      go_enter Tryz.func59, Tryz.ntmps59
      go_wp2_with fail
      go_ret
      exact ⟨ret_int E.out.symm, (Below.refl _ _).alloc (Nat.le_refl _) _⟩
    have g1 : decide ((600 : Int) < (d.kids.length : Int)) = false := by simp; omega
    by_cases h2 : 600 < d.keys.length
    · have E := Lib.hid (fewV_bad (d := d) (deep := dp) (fun h => by have := h.fit; rw [D.fit6_eq] at this; omega))
      go_enter Tryz.func59, Tryz.ntmps59
      go_wp2_with fail
      go_ret
      exact ⟨ret_int E.out.symm, (Below.refl _ _).alloc (Nat.le_refl _) _⟩
    have g2 : decide ((600 : Int) < (d.keys.length : Int)) = false := by simp; omega
    by_cases h3 : 600 < d.str.size
    · have E := Lib.hid (fewV_bad (d := d) (deep := dp) (fun h => by have := h.fit; rw [D.fit6_eq] at this; omega))
      go_enter Tryz.func59, Tryz.ntmps59
      go_wp2_with fail
      go_ret
      exact ⟨ret_int E.out.symm, (Below.refl _ _).alloc (Nat.le_refl _) _⟩
    have g3 : decide ((600 : Int) < (d.str.size : Int)) = false := by simp; omega
    have HDE := Lib.hid (D.depth_eq d)
    have HSE := Lib.hid (D.size_eq d)
    have hdl := D.len_le_sizes d.kids
    have hsp := D.size_pos d
    have hsz0 : d.kids.length ≤ 600 := by omega
    have hsz1 : d.keys.length ≤ 600 := by omega
    have hsz2 : d.str.size ≤ 600 := by omega
    clear h1 h2 h3
    go_enter Tryz.func59, Tryz.ntmps59
    go_wp2_with fail
    go_loopw [5, 6] (fun t i wr => ∃ (k : Nat) (q : Int), k ≤ d.kids.length ∧ i = .int .i64 k ∧ t = .int .i64 q ∧ q = 700 - D.sizes (d.kids.take k) ∧ 2 ≤ q ∧
        (∀ (j : Nat) (h : j < d.kids.length), j < k → FewP d.kids[j] (dp - 1)) ∧ Below (w.heap.size + 1) (w.alloc (.cells #[.int .i64 d.kind, .int .i64 d.num, .string d.str, .slice A3 d.keys.length c3, .slice A4 d.kids.length c4] 29)) wr) (fun _ i _ => d.kids.length - (intOf i).toNat)
    case atStart => exact ⟨0, 700, Nat.zero_le _, rfl, rfl, by simp [D.sizes], by omega, fun j _ hj => absurd hj (by omega), Below.refl _ _⟩
    case round =>
      obtain ⟨k, q, hk, rfl, rfl, hq, hq0, hall, hb⟩ := hrel
      have HQ := Lib.hid hq
      have hq2 : q ≤ 700 := by omega
      have HA := Lib.hid hall
      clear hq hall
      have hz := hb.size
      simp only [World.size_alloc] at hz
      have gb3 : wr.cell? ⟨w.heap.size, 3, none⟩ = some (.slice A3 d.keys.length c3) := (hb.cell (p := ⟨w.heap.size, 3, none⟩) (by show w.heap.size < _; omega)).trans (World.cell?_alloc_at _ _ _ _ rfl)
      have gb4 : wr.cell? ⟨w.heap.size, 4, none⟩ = some (.slice A4 d.kids.length c4) := (hb.cell (p := ⟨w.heap.size, 4, none⟩) (by show w.heap.size < _; omega)).trans (World.cell?_alloc_at _ _ _ _ rfl)
      by_cases hlt : k < d.kids.length
      · obtain ⟨_, _, h4⟩ := H4.out
        obtain ⟨b, off, rfl, hab, hkids⟩ := h4 (by omega)
        have hcells := KidsIn.at_ hkids k hlt
        rw [Nat.zero_add] at hcells
        obtain ⟨u0, u1, u2, u3, u4, x0, x1, x2, x3, x4, hdk⟩ := hcells
        have bc : ∀ b n, b < B → wr.cell? ⟨b, n, none⟩ = w.cell? ⟨b, n, none⟩ := fun b n hb0 => (hb.cell (p := ⟨b, n, none⟩) (by show b < _; omega)).trans (World.cell?_alloc_lt w _ ⟨b, n, none⟩ (by show b < _; omega))
        rw [← bc _ _ hab] at x0 x1 x2 x3 x4
        have HC := Lib.hid bc
        clear bc hkids h4
        obtain ⟨A5, c5, A6, c6, rfl, rfl, rfl, rfl, rfl⟩ := hdk.forms
        have HK := Lib.hid hdk; clear hdk
        have HT := Lib.hid (D.sizes_take_succ d.kids k hlt)
        have hts := D.sizes_take_le d.kids (k + 1)
        have HDP := Lib.hid (show (dp : Int) - 1 = ((dp - 1 : Nat) : Int) by omega)
        go_wp2_with fail
        rw [HDP.out]
        refine (IH.out d.kids[k] _ _ _ _ _ _ B (dp - 1) (by omega) (by omega) (by omega) (HK.out.keep (Nat.le_refl _) fun p hp => (hb.cell (p := p) (by omega)).trans (World.cell?_alloc_lt w _ p (by omega)))).mono ?_
        rintro e w2 ⟨rfl, hb2⟩
        have hb3 : Below (w.heap.size + 1) (w.alloc (.cells #[.int .i64 d.kind, .int .i64 d.num, .string d.str, .slice A3 d.keys.length c3, .slice (some ⟨b, off, none⟩) d.kids.length c4] 29)) w2 := hb.trans (hb2.mono (by omega))
        by_cases hok : FewP d.kids[k] (dp - 1)
        · have hsk := D.size_pos d.kids[k]
          have hsk2 := hok.size
          have HS := Lib.hid (fewV_ok hok)
          have hkz : (fewV d.kids[k] (dp - 1) == 0) = false := by rw [HS.out]; simp; omega
          have hv1 : fewV d.kids[k] (dp - 1) ≤ 700 := by rw [HS.out]; omega
          have hv0 : 0 ≤ fewV d.kids[k] (dp - 1) := by rw [HS.out]; omega
          by_cases hroom : 2 ≤ q - 700 + fewV d.kids[k] (dp - 1)
          · have HP := Lib.hid hok; clear hok
            go_wp2_with fail
            go_roundw
            case rel => exact ⟨k + 1, q - 700 + fewV d.kids[k] (dp - 1), by omega, by go_num, rfl, by rw [HT.out, HS.out, HQ.out]; omega, hroom, fun j h hj => by
              rcases Nat.lt_or_ge j k with h1 | h1
              · exact HA.out j h h1
              · obtain rfl : j = k := by omega
                exact HP.out, hb3⟩
            case measure => simp [intOf]; omega
          · have E := Lib.hid (fewV_bad (d := d) (deep := dp) (fun h => hroom (by have := h.size; have := HSE.out; have := HT.out; have := HQ.out; have := HS.out; omega)))
            clear hok
            go_wp2_with fail
            go_ret
            exact ⟨ret_int E.out.symm, ((Below.refl _ _).alloc (Nat.le_refl _) _).trans (hb3.mono (by omega))⟩
        · have hkz : fewV d.kids[k] (dp - 1) = 0 := fewV_bad hok
          have E := Lib.hid (fewV_bad (d := d) (deep := dp) (fun h => hok ⟨by have := h.depth; have := D.depth_kid (d := d) hlt; omega, by have := h.fit; rw [D.fit6_eq] at this; exact this.2.2.2.2.at_ hlt, by
            have := h.size; have := HSE.out; have := HT.out; omega⟩))
          clear hok
          go_wp2_with fail
          go_ret
          exact ⟨ret_int E.out.symm, ((Below.refl _ _).alloc (Nat.le_refl _) _).trans (hb3.mono (by omega))⟩
      · have htk : d.kids.take k = d.kids := List.take_of_length_le (by omega)
        rw [htk] at HQ
        have HA2 : Hid (∀ (j : Nat) (h : j < d.kids.length), FewP d.kids[j] (dp - 1)) := fun j h => HA.out j h (by omega)
        clear htk HA
        go_wp2_with fail
        go_loopw [8] (fun i ww => ∃ (k : Nat), k ≤ d.keys.length ∧ i = .int .i64 k ∧ (∀ (j : Nat) (h : j < d.keys.length), j < k → (d.keys[j]).size ≤ 600) ∧ wr = ww) (fun i _ => d.keys.length - (intOf i).toNat)
        case atStart => exact ⟨0, Nat.zero_le _, rfl, fun j _ hj => absurd hj (by omega), rfl⟩
        case round =>
          obtain ⟨k2, hk2, rfl, hall, rfl⟩ := hrel
          have HA := Lib.hid hall; clear hall
          by_cases hlt2 : k2 < d.keys.length
          · obtain ⟨A', c', e', hc1, hc2⟩ := HK3.out
            injection e' with e1 _ e2; subst e1; subst e2
            obtain ⟨b, off, rfl, hab, hcells⟩ := hc2 (by omega)
            have gk := hcells k2 hlt2
            rw [← (hb.cell (p := ⟨b, off + k2, none⟩) (by show b < _; omega)).trans (World.cell?_alloc_lt w _ ⟨b, off + k2, none⟩ (by show b < _; omega))] at gk
            clear hcells hc2
            by_cases hl : (d.keys[k2]).size ≤ 600
            · go_wp2_with fail
              go_roundw
              case rel => exact ⟨k2 + 1, by omega, by go_num, fun j h hj => by
                rcases Nat.lt_or_ge j k2 with h1 | h1
                · exact HA.out j h h1
                · obtain rfl : j = k2 := by omega
                  exact hl, by first | rfl | trivial⟩
              case measure => simp [intOf]; omega
            · have E := Lib.hid (fewV_bad (d := d) (deep := dp) (fun h => hl (by have := h.fit; rw [D.fit6_eq] at this; exact this.2.2.2.1 _ (List.getElem_mem hlt2))))
              go_wp2_with fail
              go_ret
              exact ⟨ret_int E.out.symm, ((Below.refl _ _).alloc (Nat.le_refl _) _).trans (hb.mono (by omega))⟩
          · have E := Lib.hid (fewV_ok (d := d) (deep := dp) ⟨by have := HDE.out; have := D.depths_le (l := d.kids) (m := dp - 1) (fun i hi => (HA2.out i hi).depth); omega, by
              rw [D.fit6_eq]
              refine ⟨hsz2, hsz1, hsz0, fun k hk => ?_, D.Fits6.all fun i hi => (HA2.out i hi).fit⟩
              obtain ⟨i, hi, rfl⟩ := List.getElem_of_mem hk
              exact HA.out i hi (by omega), by have := HSE.out; have := HQ.out; omega⟩)
            go_wp2_with fail
            go_ret
            exact ⟨ret_int (by rw [E.out, HQ.out, HSE.out]; omega), ((Below.refl _ _).alloc (Nat.le_refl _) _).trans (hb.mono (by omega))⟩

open Classical in
noncomputable def fewB (d : D) : Bool := decide (FewP d 20)
set_option maxHeartbeats 400000 in
theorem few_v {d : D} {v : Value} {w : World} {B : Nat} (hB : B ≤ w.heap.size) (hd : DocV w B d v) :
    Calls Tryz.prog 29 #[v] w fun e w' => e = .returned (.bool (fewB d)) ∧ Below w.heap.size w w' := by
  obtain ⟨v0, v1, v2, v3, v4, rfl, hd⟩ := hd
  have HD := Lib.hid hd
  obtain ⟨A3, c3, A4, c4, rfl, rfl, rfl, rfl, rfl⟩ := hd.forms
  clear hd
  go_enter Tryz.func29, Tryz.ntmps29
  go_wp2_with fail
  refine (few_any 20 d _ _ _ _ _ _ B 20 (by omega) (by omega) (by simp; omega) (HD.out.keep (Nat.le_refl _) fun p hp => World.cell?_alloc_lt w _ p (by omega))).mono ?_
  rintro e w1 ⟨rfl, hb1⟩
  have hb2 : Below w.heap.size w w1 := ((Below.refl _ _).alloc (Nat.le_refl _) _).trans (hb1.mono (by simp))
  by_cases hok : FewP d 20
  · have E := Lib.hid (show fewB d = true by simp [fewB, hok])
    have hv : 0 < fewV d 20 := by rw [fewV_ok hok]; have := hok.size; omega
    clear hok
    go_wp2_with fail
    go_ret
    exact ⟨ret_bool (by rw [E.out]), hb2⟩
  · have E := Lib.hid (show fewB d = false by simp [fewB, hok])
    have hv : fewV d 20 = 0 := fewV_bad hok
    clear hok
    go_wp2_with fail
    go_ret
    exact ⟨ret_bool (by rw [E.out]), hb2⟩
end Go.Proofs.YtlemlgllkcgigaaGreatDoor
namespace Go.Proofs.YtlemlgllkcgigaaGreatDoor
open Go.RowKit

/-- What Insert tells of a row of documents: the five cells ns stand at place i. -/
def InsTold (w : World) (base : Nat) (v : Value) (n i : Nat) (cs ns : List Value) (e : Ending) (w' : World) : Prop :=
  ∃ g cap, e = .returned (.slice (some ⟨g, 0, none⟩) (n + 1) cap) ∧ w'.ownsRow base 29 5 (.slice (some ⟨g, 0, none⟩) (n + 1) cap) (n + 1) (cs.take (i * 5) ++ (ns ++ cs.drop (i * 5))) ∧ w.grownBy w' v.ownBlock ∧ (v.ownBlock = some g ∨ w.heap.size ≤ g)

/-- copy of documents: what src held before goes to dst. -/
theorem run_copyD (w : World) (ty : TypeId) (g o dLen dCap : Nat) (a : Addr) (sLen sCap : Nat) (cs : List Value) (hn : cs.length = Nat.min sLen dLen * 5) (hsrc : ∀ j v, cs[j]? = some v → w.cell? (a.add j) = some v)
    (hc : ∀ j, j < cs.length → (w.cell? ⟨g, o + j, none⟩).isSome = true) (hf : ∀ j, j < cs.length → w.frozen? ⟨g, o + j, none⟩ = false) (h1 : ∀ v ∈ cs, v.oneCell' = true) :
    (Builtin.copy_ #[27, 27] ty #[.slice (some ⟨g, o, none⟩) dLen dCap, .slice (some a) sLen sCap]).run Tryz.prog w = .ok (goInt (Nat.min sLen dLen)) (w.setCells g o cs) := by
  obtain ⟨i0, hi, _, hz1, _⟩ := info_parts infoD
  have hst := run_storeCells_cells (P := Tryz.prog) g o cs 0 w (by simpa using hc) (by simpa using hf) h1
  have hfc := run_firstCells_some (P := Tryz.prog) (w := w) 5 (Nat.min sLen dLen) a sLen sCap cs hn hsrc
  simp only [Nat.add_zero] at hst
  simp [Builtin.copy_, run_underlying Tryz.underlying27, Builtin.lenOf, sizeOf, typeInfo, hi, hz1, hfc, hst]

set_option maxHeartbeats 2000000 in
set_option maxRecDepth 100000 in
/-- .. at the end. -/
theorem insD_end {w : World} {base n c vb : Nat} {A : Option Addr} {cs : List Value} {y0 y1 y2 y3 y4 : Value} (hown : w.ownsRow base 29 5 (.slice A n c) n cs) (hn : n ≤ 10000) (hvb : w.heap[vb]? = some (.cells #[y0, y1, y2, y3, y4] 29 (0, 0)))
    (h1 : ∀ u ∈ [y0, y1, y2, y3, y4], u.oneCell' = true) (hbase : base ≤ w.heap.size) :
    Calls Tryz.prog 98 #[.slice A n c, .int .i64 n, .slice (some ⟨vb, 0, none⟩) 1 1] w (InsTold w base (.slice A n c) n n cs [y0, y1, y2, y3, y4]) := by
  obtain ⟨i0, hi, hz0, hz1, hz2⟩ := info_parts infoD
  have HI := Lib.hid hi; have HZ0 := Lib.hid hz0; have HZ1 := Lib.hid hz1; have HZ2 := Lib.hid hz2
  have HO := Lib.hid hown; have HV := Lib.hid hvb; have H1 := Lib.hid h1
  have hl := hown.1
  have ht : cs.take (n * 5) = cs := List.take_of_length_le (by omega)
  have hd : cs.drop (n * 5) = [] := List.drop_eq_nil_of_le (by omega)
  have HT := Lib.hid (And.intro ht hd)
  have hform : (A = none ∧ n = 0 ∧ c = 0) ∨ ∃ g, A = some ⟨g, 0, none⟩ ∧ n ≤ c := by
    rcases hown.2 with ⟨e, h0⟩ | ⟨g, cap, cur, e, _, _, a1, _⟩
    · injection e with e1 e2 e3; exact .inl ⟨e1, e2, e3⟩
    · injection e with e1 e2 e3; exact .inr ⟨g, e1, by omega⟩
  clear hi hz0 hz1 hz2 hown hvb h1 ht hd hl
  rcases hform with ⟨rfl, rfl, rfl⟩ | ⟨g, rfl, hnc⟩
  · go_enter Tryz.func98, Tryz.ntmps98
    go_wp2_with (at_builtin; refine wpList_append_lies _ rfl _ _ 27 rfl base 29 i0 (.agg #[.int .i64 0, .int .i64 0, .string ByteArray.empty, .slice none 0 0, .slice none 0 0]) 5 80 Tryz.underlying27 HI.out HZ0.out HZ1.out HZ2.out (by rfl) (by omega) _ 0 cs rfl HO.out ⟨vb, 0, none⟩ 1 _ [y0, y1, y2, y3, y4] rfl rfl (World.news_of_block HV.out) H1.out (by omega) (by unfold maxLen; omega) (by omega) hbase w.heap.size rfl ?_; intro g cap w3 hown3 hgrow3 hat3 hlt3)
    go_ret
    refine ⟨g, cap, rfl, ?_, hgrow3, ?_⟩
    · rw [HT.out.1, HT.out.2]; simpa using hown3
    · rcases hat3 with h | h
      · exact .inl h
      · exact .inr (by omega)
  · go_enter Tryz.func98, Tryz.ntmps98
    go_wp2_with (at_builtin; refine wpList_append_lies _ rfl _ _ 27 rfl base 29 i0 (.agg #[.int .i64 0, .int .i64 0, .string ByteArray.empty, .slice none 0 0, .slice none 0 0]) 5 80 Tryz.underlying27 HI.out HZ0.out HZ1.out HZ2.out (by rfl) (by omega) _ n cs rfl HO.out ⟨vb, 0, none⟩ 1 _ [y0, y1, y2, y3, y4] rfl rfl (World.news_of_block HV.out) H1.out (by omega) (by unfold maxLen; omega) (by omega) hbase w.heap.size rfl ?_; intro g' cap w3 hown3 hgrow3 hat3 hlt3)
    all_goals
      go_ret
      refine ⟨_, _, rfl, ?_, hgrow3, ?_⟩
      · rw [HT.out.1, HT.out.2]; simpa using hown3
      · rcases hat3 with h | h
        · exact .inl h
        · exact .inr (by omega)

/-- What stands in the row behind both copies. -/
theorem ins_cells {n i : Nat} {cs ys : List Value} {cur cur1 cur2 : Array Value} (hi : i < n) (hcs : cs.length = n * 5) (hys : ys.length = 5) (hsz : (n + 1) * 5 ≤ cur.size) (h0 : ∀ j, j < i * 5 → cur[j]? = cs[j]?)
    (c12 : cur1.size = cur.size) (c13 : ∀ j, cur1[j]? = if (i + 1) * 5 ≤ j ∧ j < (i + 1) * 5 + (cs.drop (i * 5)).length ∧ j < cur.size then (cs.drop (i * 5))[j - (i + 1) * 5]? else cur[j]?)
    (d2 : cur2.size = cur1.size) (d3 : ∀ j, cur2[j]? = if i * 5 ≤ j ∧ j < i * 5 + ys.length ∧ j < cur1.size then ys[j - i * 5]? else cur1[j]?) :
    cur2.toList.take ((n + 1) * 5) = cs.take (i * 5) ++ (ys ++ cs.drop (i * 5)) := by
  have hdl : (cs.drop (i * 5)).length = n * 5 - i * 5 := by rw [List.length_drop, hcs]
  apply List.ext_getElem?
  intro j
  rw [List.getElem?_take]
  by_cases hj : j < (n + 1) * 5
  · rw [if_pos hj, Array.getElem?_toList, d3 j]
    by_cases h1 : j < i * 5
    · rw [if_neg (by omega), c13 j, if_neg (by omega), h0 j h1, List.getElem?_append_left (by simp; omega), List.getElem?_take, if_pos h1]
    · rw [List.getElem?_append_right (by simp; omega), List.length_take, Nat.min_eq_left (by omega)]
      by_cases h2 : j < i * 5 + 5
      · rw [if_pos ⟨by omega, by omega, by omega⟩, List.getElem?_append_left (by omega)]
      · rw [if_neg (by omega), c13 j, if_pos ⟨by omega, by omega, by omega⟩, List.getElem?_append_right (by omega)]
        congr 1; omega
  · rw [if_neg hj, List.getElem?_eq_none (by simp; omega)]
end Go.Proofs.YtlemlgllkcgigaaGreatDoor
